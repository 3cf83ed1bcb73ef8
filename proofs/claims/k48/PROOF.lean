import PyProof.Rows.All
import Wide.All
import OpenK.AllK
import Wide.FinOn
import Lean
import PyProof.EqAt
import PyProof.EqKinds
import PyProof.TupleCall
import PySem.Challenge.RW_nextbyrule_k48_whole_closed_forms_added
local macro_rules | `(tactic| omega)=>`(tactic| lia)
local macro_rules | `(⋯)=>`(by omega)
local macro_rules | `(∅)=>`(by decide)
set_option Elab.async false
set_option linter.all false
set_option maxRecDepth 100000
noncomputable section
open List renaming length_map->aB,mem_cons_of_mem->cZ,mem_cons_self->cV,replicate->bN,map_cons->bG,mem_cons->bJ,length_append->dW,mem_map->bY,mem_singleton->eE,size_toArray->eU,map_map->cR,mem_append->fP,mem_map_of_mem->iK,map_append->fZ,not_mem_nil->gK,mem_iff_getElem->jq,length_cons->iQ,length_take->iZ,sum_cons->gF,map_congr_left->lJ,mem_append_right->nq,eq_nil_of_length_eq_zero->sU,range->fj,mem_range->iT,length_range->mR,length_reverse->oY,take_of_length_le->rm,all_eq_true->mq,take_length->mF,length_replicate->qP,nodup_cons->mV,length_drop->oU,length_set->nW,take_add_one->pL,mem_filter->pA,filter_eq_self->sW,mem_reverse->qK,length_dropLast->vB,any_eq_true->sY,filter_cons->ug,replicate_succ->wU,pairwise_map->uU,pairwise_singleton->DQ,length_pos_iff->AF,getElem_mem->wA,pairwise_append->BR,append_nil->xu,filter_append->BQ,length->tH,zipWith->uR,take_append_drop->Ie,flatten_cons->Ef,map_take->wL,mem_append_left->Gw,map->m9,map_id'->yg,sum_append->CZ,count_append->J8,length_filter_le->Qx,any_cons->Bj,filterMap_cons->PY,forIn_cons->KJ,mem_filterMap->UQ,pairwise_iff_getElem->YM,append_assoc->OJ,nodup_append->M7,mem_flatMap->QK,map_reverse->QM,of_mem_zip->Vz,length_singleton->ae0,length_nil->M6,range_succ->Oj,pairwise_reverse->Xc,take_eq_take_iff->acU,perm_cons_erase->Wh,count_replicate->aaY,mem_of_mem_take->afk,drop_zero->TJ,length_zipWith->acW,mem_replicate->Yx,count_pos_iff->V7,count_eq_zero->afX,take_sublist->ags,reverse_cons->VP,getElem_drop->ad8,map_nil->Ow,zipIdx_cons->Xr,ext_getElem->Wg,zipIdx_nil->Xg,count_cons->agO,filter_map->ZQ,forIn_nil->XD,foldl->Q6,range'->aeD
open Nat renaming le_refl->aN,zero_le->cD,add_sub_cancel->fR,lt_of_lt_of_le->jm,mul_le_mul->ig,le_trans->fX,le_of_lt->gC,mul_le_mul_right->qd,not_lt_zero->mH,lt_of_le_of_lt->qp,ne_of_lt->jJ,lt_irrefl->lE,mul_le_mul_left->uZ,strongRecOn->rM,pow_le_pow_right->wJ,le_of_dvd->pH,one_mul->nJ,add_sub_cancel_left->CV,mul_comm->qF,sub_self->rT,succ_mul->sV,lt_trans->vJ,lt_or_ge->vZ,sub_zero->vm,mul_lt_mul_of_pos_right->Rv,lt_succ_self->CM,le_add_right->Ca,gcd->j6,pow_succ->xV,lt_or_gt_of_ne->Kq,mul_div_cancel_left->Vb,le_mul_of_pos_left->Uk,eq_of_beq_eq_true->R0,dvd_trans->B6,mul_add->yO,add_mul->yu,eq_zero_or_pos->Pz,add_mul_mod_self_left->ade,eq_of_mul_eq_mul_left->Y5,gcd_dvd_right->Sg,pow_lt_pow_iff_right->agA,mul_assoc->Il,mul_one->Cm,gcd_dvd_left->Nt,dvd_of_mod_eq_zero->Wa,mod_eq_zero_of_dvd->WC,zero_add->GV,pow_zero->EB,min_eq_left->Lw,gcd_comm->Iv,gcd_zero_right->Yu,lt_succ_of_lt->ZC,dvd_mul_right->abW,ne_of_gt->KW,le_of_eq->QN,add_zero->NW,zero_mul->Ub,mul_zero->VJ,min_le_right->agb,le_of_not_lt->aap,le_max_right->Yb,succ_ne_zero->Xy,le_max_left->acj,log2_lt->OD,add_assoc->acD,add_comm->aea,dvd_refl->aek,beq->EG
open Int renaming mul_zero->aP,mul_assoc->bU,mul_comm->cC,toNat_natCast->d9,mul_left_comm->eZ,add_zero->dj,zero_mul->gb,emod_emod_of_dvd->nR,mul_add->gq,zero_add->gY,neg_mul->gO,one_mul->iG,mul_sub->iH,mul_eq_zero->lH,natAbs_mul->jX,pow_succ->jf,emod_lt_of_pos->qR,mul_one->ju,mul_emod->mU,zero_sub->lY,emod_nonneg->qW,natAbs_natCast->uM,dvd_refl->nZ,add_comm->oJ,mul_le_mul_of_nonneg_left->JB,dvd_of_emod_eq_zero->Bv,mul_neg->qH,eq_of_mul_eq_mul_left->HS,pow_zero->sG,add_mul->tU,neg_one_mul->zF,dvd_add->tK,dvd_mul_right->Bs,emod_eq_of_lt->Cv,fdiv_eq_ediv_of_nonneg->Vw,natAbs_neg->yD,natCast_emod->Br,mul_fdiv_cancel_left->QG,neg_neg->xK,sub_mul->yh,natAbs_dvd_natAbs->Ul,mul_ediv_cancel'->Nk,dvd_trans->CW,ofNat_dvd->Ck,sub_zero->DX,sub_eq_add_neg->Oi,ofNat_dvd_left->Qv,mul_le_mul->Ke,add_assoc->JK,natCast_dvd_natCast->agU,dvd_self_sub_emod->aaf,natAbs->Dd,pow_add->Hg,zero_emod->UL,sub_add_cancel->acJ,dvd_mul_left->WK,mul_ne_zero->V9,natCast_mul->adY,natCast_pow->Zn,natCast_add->ag6,ediv_one->abC,sub_self->W3,le_trans->Wn,dvd_zero->acY
open Bool renaming false_ne_true->f9,and_eq_true->rY,or_eq_true->uD,and_eq_true_iff->KD,eq_iff_iff->Bu,false_eq_true->VB,and_true->Iw,false_or->Pq,true_and->U7,true_or->WH
open PySem.Heap renaming lt_size->cW,size_push->E8,SameBut->Fo,IsTuple->Ge,IsList->Hl
open PySem.W renaming Frag->aF,mg_none_of->qb,kitOne->oZ,nsIn->jk,findIn->uf,kas_sort->zc,fnOf->qz,mg_of->vp,keepIn->yV,cellsFrom_some->adD,codeIn->DF,methodObj->M5,hideAll->EA,mroIn->Ao,excIn->Ga
open PyProof.Rows renaming callWith_type1->uJ,slot_tuple_getitem->Aa,callWith_builtin1->amW
open Classical renaming byContradiction->uX,not_forall->CT,not_imp->R6,skolem->LK,choose->Wr
open Ne renaming symm->dG
open PySem renaming mem_of_lookup->vC,call->acg
open Option.some renaming inj->rJ
open PySem.Obj renaming mapSeq->kj,data_mapFields->afb
open PySem.F renaming slot_tuple_iterator_next->GF,args_tuple_add_2->OG,entry_tuple_add->Nz,plainAttrs_list->Vr,slot_tuple_add->Qk,slot_dict_get->Uz,excBase_ValueError->Oc,args_tuple_iterator_next_1->WV,entry_tuple_iterator_next->afG,slot_zip_next->JW,args_dict_get_3->Yw,entry_dict_get->aco,args_zip_next_1->afF,entry_zip_next->abn,slot_int_rmul->aee
open Or renaming inr->fM,inl->pC
open PySem.PyData renaming eqv->oF,depthAll->xY,canLayAll0->DC,canLay0->CJ,eqvAll->Dt,depth->Dh,int->Im
open Sum.inl renaming inj->vh
open PySem.Shared renaming heap->uE
open PySem.Calls renaming spliced_cons->JT,callWith_builtin->Tn,evalArgs_plain->Lx,Name_function_global->afP,call_function_entry->agt,spliced_nil->Ql
open Sum renaming inl->nA,inr->xH
open Array renaming length_toList->Lb,append_assoc->Zo,toList->aaH
open List.Pairwise renaming imp_of_mem->adQ,nil->axX
open PyProof renaming noPylong_small->V2
open Option renaming map_eq_some_iff->Xx,isSome_map->afd,getD_none->Yz,none->LY
open PySem.Heap.SameBut renaming update->abm
open List.Nodup renaming sublist->WW
open List.Sublist renaming map->afu,slnil->ait
open PySem.EqNone renaming eq_none_none->ars,eq_none_bool->avt,eq_bool_none->an8,ne_none_none->anS,ne_none_bool->as5,ne_bool_none->ahN,eq_none_int->awn,eq_none_str->auT,eq_int_none->aja,eq_str_none->avR,ne_none_int->avC,ne_none_str->amR,ne_int_none->aoh,ne_str_none->aiO
open PySem.EqMixed renaming eq_bool_str->avl,eq_str_bool->aqE,ne_bool_str->avy,ne_str_bool->ak5,eq_int_str->al1,eq_str_int->aq0,ne_int_str->aui,ne_str_int->ar3
open PySem.W.X renaming obsZ->Ze,valZ->aez
open Prod renaming ext->Ir
open PySem.Heap.IsSliceOf renaming new->apw
namespace L2
open PySem PySem.Spec PyProof.Rows
abbrev Key:=Sum Int Str
def Ae:Key->Value->Bool
 |.inl k,v=>Value.isInt k v
 |.inr x,v=>Value.isStrOf x v
def apl(w:World):Key->Int
 |.inl k=>hashInt k
 |.inr x=>hashStr w x
def rO:∀{k:Key} {v:Value},Ae k v=true->(∃i t,k=nA i/\v=Value.int i t)∨(∃x t,k=xH x/\v=Value.str x t)
 |.inl i,v,h=>by
  obtain⟨t,e⟩:=Value.isInt_shape (k:=i) (v:=v) h;exact .inl ⟨i,t,rfl,e⟩
 |.inr x,v,h=>by
  obtain⟨t,e⟩:=Value.isStrOf_shape (x:=x) (v:=v) h;exact .inr ⟨x,t,rfl,e⟩
def alW(i:Int)(t:Tok):Ae (.inl i) (.int i t)=true:=by simp[Ae,Value.isInt]
def ax8(x:Str)(t:Tok):Ae (.inr x) (.str x t)=true:=by simp[Ae,Value.isStrOf]
def anc(a b:Int):decide ((nA a:Key)=nA b)=(a==b):=by
 by_cases e:a=b
 .subst e;simp
 .have h:¬(nA a:Key)=nA b:=λq=>e (vh q);rw[decide_eq_false h];exact(beq_eq_false_iff_ne.mpr e).symm
def awf(a b:Str):decide ((xH a:Key)=xH b)=decide (a=b):=by
 by_cases e:a=b
 .subst e;simp
 .have h:¬(xH a:Key)=xH b:=λq=>e (Sum.inr.inj q);rw[decide_eq_false h,decide_eq_false e]
def ain(a:Int)(b:Str):decide ((nA a:Key)=xH b)=false:=decide_eq_false (λq=>nomatch q)
def azb(a:Str)(b:Int):decide ((xH a:Key)=nA b)=false:=decide_eq_false (λq=>nomatch q)
def gW(prog:Program)(w:World):PySem.KeyKind prog w Key where
 is:=Ae
 hash:=apl w
 inj:=λv a b ha hb=>by
  rcases rO ha with⟨i,t,rfl,rfl⟩|⟨x,t,rfl,rfl⟩
  .rcases rO hb with⟨j,u,rfl,e⟩|⟨y,u,rfl,e⟩
   .injection e with e1 _;rw[e1]
   .exact nomatch e
  .rcases rO hb with⟨j,u,rfl,e⟩|⟨y,u,rfl,e⟩
   .exact nomatch e
   .injection e with e1 _;rw[e1]
 byValue:=λk v h=>by
  rcases rO h with⟨i,t,rfl,rfl⟩|⟨x,t,rfl,rfl⟩<;>rfl
 pyHash:=λhv h=>by
  rcases rO hv with⟨i,t,rfl,rfl⟩|⟨x,t,rfl,rfl⟩
  .exact wpAny_pyHash_int h
  .exact wpAny_pyHash_str h
 eqBool:=λhu hv h=>by
  rcases rO hu with⟨i,t,rfl,rfl⟩|⟨x,t,rfl,rfl⟩
  .rcases rO hv with⟨j,u,rfl,rfl⟩|⟨y,u,rfl,rfl⟩
   .rw[anc]at h;exact wpAny_eqBool_int h
   .rw[ain]at h;exact SeqAt.EqAt.int_str i t y u _ _ _ _ h
  .rcases rO hv with⟨j,u,rfl,rfl⟩|⟨y,u,rfl,rfl⟩
   .rw[azb]at h;exact SeqAt.EqAt.str_int x t j u _ _ _ _ h
   .rw[awf]at h;exact wpAny_eqBool_str h
 «strs»:=λk x t v h=>by
  rcases rO h with⟨i,u,rfl,e⟩|⟨y,u,rfl,e⟩
  .exact nomatch e
  .injection e with e1 _;subst e1;cases v<;>rfl
def akc(prog:Program)(w:World)(i:Int)(t:Tok):(gW prog w).is (.inl i) (.int i t)=true:=alW i t
def avh(prog:Program)(w:World)(x:Str)(t:Tok):(gW prog w).is (.inr x) (.str x t)=true:=ax8 x t
inductive V where
 |non|bl (b:Bool)|int (i:Int)|str (x:Str)|lX (b:Array UInt8)|flt (b:UInt64)|ref (a:Addr)|ty (n:String)
 deriving DecidableEq
def RelV:V->Value->Prop
 |.non,u=>u=Value.none
 |.bl b,u=>u=Value.bool b
 |.int i,u=>∃t,u=Value.int i t
 |.str x,u=>∃t,u=Value.str x t
 |.lX b,u=>∃t,u=Value.bytes b t
 |.flt b,u=>∃t,u=Value.float b t
 |.ref a,u=>u=Value.ref a
 |.ty n,u=>u=Value.type n
abbrev Vals:List V->List Value->Prop:=Paired RelV
theorem Vals.length{xs:List V}{us:List Value}(r:Vals xs us):xs.length=us.length:=Paired.length r
theorem Vals.get:∀{xs:List V} {us:List Value} {i:Nat} {x:V},Vals xs us->xs[i]?=some x->∃u,us[i]?=some u/\RelV x u
 |_,_,_,_,.nil,e=>by simp at e
 |_,_,0,_,.cons r _,e=>by simp at e;subst e;exact⟨_,rfl,r⟩
 |_,_,i+1,x,.cons _ t,e=>by
  obtain⟨u,h1,h2⟩:=Vals.get (i:=i) (x:=x) t (by simpa using e);exact⟨u,by simpa using h1,h2⟩
theorem Vals.set{x:V}{u:Value}(r:RelV x u):∀{xs:List V} {us:List Value} (i:Nat),Vals xs us->Vals (xs.set i x) (us.set i u)
 |_,_,_,.nil=> .nil
 |_,_,0,.cons _ t=> .cons r t
 |_,_,i+1,.cons q t=> .cons q (Vals.set r i t)
theorem Vals.append:∀{xs ys:List V} {us ws:List Value},Vals xs us->Vals ys ws->Vals (xs++ys) (us++ws)
 |_,_,_,_,.nil,s=>s
 |_,_,_,_,.cons r t,s=> .cons r (Vals.append t s)
theorem Vals.take:∀{xs:List V} {us:List Value} (n:Nat),Vals xs us->Vals (xs.take n) (us.take n)
 |_,_,0,_=> .nil
 |_,_,_+1,.nil=> .nil
 |_,_,n+1,.cons r t=> .cons r (Vals.take n t)
theorem Vals.drop:∀{xs:List V} {us:List Value} (n:Nat),Vals xs us->Vals (xs.drop n) (us.drop n)
 |_,_,0,r=>r
 |_,_,_+1,.nil=> .nil
 |_,_,n+1,.cons _ t=>Vals.drop n t
def j7:Option V->Option Value->Prop
 |some v,some u=>RelV v u
 |none,none=>True
 |_,_=>False
def KV{κ:Type}:List (κ×V)->List (κ×Value)->Prop:=Paired λ(p:κ×V) (q:κ×Value)=>p.1=q.1/\RelV p.2 q.2
def kV:Key->V
 |.inl i=> .int i
 |.inr x=> .str x
inductive HO where
 /-- a list -/
 |lst (xs:List V)
 /-- a tuple (never changes) -/
 |tup (xs:List V)
 /-- a dict whose keys are ints and texts;one whose keys are tuples of ints and texts (the empty one is both) -/
 |dK (kvs:List (Key×V))|dT (kvs:List (List Key×V))
 /-- a set of ints: its members,its size -/
 |set (S:Int->Bool) (n:Nat)
 /-- an instance of the class at C,its dict at dx,its attributes -/
 |ins (C dx:Addr) (fs:List (Str×V))
 /-- the dict of the instance at x -/
 |own (x:Addr)
 /-- the dict of an exception -/
 |xd (fs:List (Str×V))
 /-- a bound method,f of x -/
 |met (f x:Addr)
 /-- a range object lo,lo+1,.. below hi -/
 |rng (lo hi:Int)
 /-- a thing that is known to the object (the script;a dict while a loop walks it): read,never written while it is so -/
 |dw (o:Obj) (u:HO)
 /-- a code object's table -/
 |rH (ps:Array Value)
 /-- any other thing,by what is true of its one object (a def of azM own: azi a S n:=HO.ext λh=> ..) -/
 |ext (φ:Heap->Prop)
abbrev Hp:=Addr->Option HO
def upd(H:Hp)(a:Addr)(o:HO):Hp:=λb=>if b=a then some o else H b
def aC{H:Hp}{a:Addr}{o:HO}:upd H a o a=some o:=by unfold upd;rw[if_pos rfl]
def bI{H:Hp}{a b:Addr}{o:HO}(h:b≠a):upd H a o b=H b:=by unfold upd;rw[if_neg h]
def aoG{H:Hp}{a:Addr}{o u:HO}:upd (upd H a o) a u=upd H a u:=by
 funext b;unfold upd;split<;>rfl
def axt{H:Hp}{a b:Addr}{o u:HO}(h:H a=some o)(h':H b=some u)(d:o≠u):a≠b:=by
 intro e;subst e;rw[h]at h';exact d (rJ h')
def jr{H:Hp}{a b:Addr}{o:HO}(h:H a=some o)(h':H b=none):a≠b:=by
 intro e;subst e;rw[h]at h';cases h'
section
variable (P:Program) (w:World)
def dB(H:Hp)(h:Heap)(a:Addr):HO->Prop
 |.lst xs=>xs.length<=sizeLine/\∃(its:List Value) (n:Nat),Vals xs its/\h.get? a=some { cls:= .type "list",data:= .seq its.toArray n }
 |.tup xs=>xs.length<=sizeLine/\∃its:List Value,Vals xs its/\IsTup h a its.toArray
 |.dK kvs=>kvs.length<=sizeLine/\(a==sysModules)=false/\∃vs,KV kvs vs/\h.DictOf (gW P w) a vs
 |.dT kvs=>kvs.length<=sizeLine/\(a==sysModules)=false/\∃xs:List (List Key×Addr×Value),
   Paired (λ(p:List Key×V) (q:List Key×Addr×Value)=>p.1=q.1/\H q.2.1=some (.tup (p.1.map kV))/\RelV p.2 q.2.2) kvs xs/\
   ∃o es ep,h.get? a=some o/\o.ExactDict/\o.data = .dict es ep/\es.toList=xs.map (entryOfKey (tupleKind (gW P w)))/\(xs.map (·.1)).Nodup
 |.set S n=>h.SetOf (intKind P w) a S n
 |.ins C dx fs=>H dx=some (.own a)/\fs.length<=1000/\dx≠a/\h.get? a=some (W.instObj C dx)/\
   ∃mA,h.Ns1 dx mA/\(∀f,j7 (fs.lookup f) (mA f))/\PySem.Within mA (fs.map (·.1))
 |.own _=>∃o,h.get? a=some o
 |.xd fs=>∃mA,h.Ns1 a mA/\∀f,j7 (fs.lookup f) (mA f)
 |.rng lo hi=>∃t u v,h.get? a=some { cls:= .type "range",data:= .fields #[.int lo t,.int hi u,.int 1 v] }
 |.dw o u=>h.get? a=some o/\dB H h a u
 |.rH ps=>h.get? a=some { cls:= .none,data:= .fields ps }
 |.met f x=>h.get? a=some (M5 (.ref f) (.ref x))
 |.ext φ=>φ h/\(∃o,h.get? a=some o)/\∀h1 h2:Heap,φ h1->(∀o,h1.get? a=some o->h2.get? a=some o)->φ h2
def fD(H:Hp)(h:Heap):Prop:=∀a o,H a=some o->dB P w H h a o
end
section
variable {P:Program} {w:World} {H H':Hp} {h h':Heap} {a:Addr} {o:HO}
theorem dB.lt(x:dB P w H h a o):a<h.objs.size:=by
 cases o with
 |lst xs=>obtain⟨_,_,_,_,e⟩:=x;exact cW e
 |tup xs=>obtain⟨_,_,_,p⟩:=x;exact p.lt
 |dK kvs=>obtain⟨_,_,_,_,o,_,_,e,_⟩:=x;exact cW e
 |dT kvs=>obtain⟨_,_,_,_,o,_,_,e,_⟩:=x;exact cW e
 |set S n=>obtain⟨o,_,_,_,e,_⟩:=x;exact cW e
 |ins C dx fs=>obtain⟨_,_,_,e,_⟩:=x;exact cW e
 |own y=>obtain⟨_,e⟩:=x;exact cW e
 |xd fs=>obtain⟨_,⟨_,_,_,e,_⟩,_⟩:=x;exact cW e
 |rng lo hi=>obtain⟨_,_,_,e⟩:=x;exact cW e
 |dw ob u=>obtain⟨e,_⟩:=x;exact cW e
 |rH ps=>exact cW (show h.get? a=some _ from x)
 |met f y=>exact cW (show h.get? a=some _ from x)
 |ext φ=>obtain⟨_,⟨_,e⟩,_⟩:=x;exact cW e
theorem Paired.MG{α β:Type}{F G:α->β->Prop}:∀{l₁:List α} {l₂:List β},Paired F l₁ l₂->(∀a b,F a b->G a b)->Paired G l₁ l₂
 |_,_,.nil,_=> .nil
 |_,_,.cons r t,f=> .cons (f _ _ r) (Paired.MG t f)
def dB.stay(x:dB P w H h a o)(k:∀b u,(b=a∨H b=some (.own a))->h.get? b=some u->h'.get? b=some u)
  (ho:∀b,H b=some (.own a)->H' b=some (.own a)) (ht:∀b xs,H b=some (.tup xs)->H' b=some (.tup xs)):dB P w H' h' a o:=by
 induction o with
 |lst xs=>obtain⟨z,its,n,r,e⟩:=x;exact⟨z,its,n,r,k _ _ (.inl rfl) e⟩
 |tup xs=>obtain⟨z,its,r,ob,e,c⟩:=x;exact⟨z,its,r,ob,k _ _ (.inl rfl) e,c⟩
 |dK kvs=>obtain⟨z,y,vs,r,ob,es,ep,e,c⟩:=x;exact⟨z,y,vs,r,ob,es,ep,k _ _ (.inl rfl) e,c⟩
 |dT kvs=>
  obtain⟨z,y,xs,r,ob,es,ep,e,c⟩:=x;exact⟨z,y,xs,Paired.MG r λp q z=>⟨z.1,ht _ _ z.2.1,z.2.2⟩,ob,es,ep,k _ _ (.inl rfl) e,c⟩
 |set S n=>obtain⟨ob,es,ep,t,e,c⟩:=x;exact⟨ob,es,ep,t,k _ _ (.inl rfl) e,c⟩
 |ins C dx fs=>
  obtain⟨d,z,ne,e,mA,⟨od,es,ep,e2,c⟩,r⟩:=x;exact⟨ho _ d,z,ne,k _ _ (.inl rfl) e,mA,⟨od,es,ep,k _ _ (.inr d) e2,c⟩,r⟩
 |own y=>obtain⟨ob,e⟩:=x;exact⟨ob,k _ _ (.inl rfl) e⟩
 |xd fs=>obtain⟨mA,⟨od,es,ep,e,c⟩,r⟩:=x;exact⟨mA,⟨od,es,ep,k _ _ (.inl rfl) e,c⟩,r⟩
 |rng lo hi=>obtain⟨t,u,v,e⟩:=x;exact⟨t,u,v,k _ _ (.inl rfl) e⟩
 |dw ob u ih=>obtain⟨e,q⟩:=x;exact⟨k _ _ (.inl rfl) e,ih q⟩
 |rH ps=>
  have e:h.get? a=some { cls:= .none,data:= .fields ps }:=x;show h'.get? a=some { cls:= .none,data:= .fields ps };exact k a _ (.inl rfl) e
 |met f y=>
  have e:h.get? a=some (M5 (.ref f) (.ref y)):=x;show h'.get? a=some (M5 (.ref f) (.ref y));exact k a _ (.inl rfl) e
 |ext φ=>obtain⟨p,⟨o,e⟩,st⟩:=x;exact⟨st _ _ p λo q=>k _ _ (.inl rfl) q,⟨o,k _ _ (.inl rfl) e⟩,st⟩
theorem fD.lt(x:fD P w H h)(e:H a=some o):a<h.objs.size:=(x a o e).lt
def fD.fresh(x:fD P w H h)(e:h.objs.size<=a):H a=none:=by
 cases q:H a with
 |none=>rfl
 |some u=>exact absurd (jm (x.lt q) e) (lE _)
def fD.kept(x:fD P w H h)(k:∀b u,h.get? b=some u->h'.get? b=some u):fD P w H h':=λa o e=>
 (x a o e).stay (λb u _ q=>k b u q) (λ_ q=>q) λ_ _ q=>q
def fD.laid(x:fD P w H h)(k:∀b u,h.get? b=some u->h'.get? b=some u)(hp:h.objs.size<=a)(new:dB P w (upd H a o) h' a o):fD P w (upd H a o) h':=λb u e=>by
 have hn:=x.fresh hp;by_cases hb:b=a
 .subst hb;rw[aC]at e;cases e;exact new
 .rw[bI hb]at e;exact(x b u e).stay (λc v _ q=>k c v q) (λc q=>by rw[bI (jr q hn)];exact q) λc xs q=>by rw[bI (jr q hn)];exact q
end
def Rd(H:Hp)(a:Addr)(u:HO):Prop:=H a=some u∨∃o,H a=some (.dw o u)
def Rd.ok{P:Program}{w:World}{H:Hp}{h:Heap}{a:Addr}{u:HO}(r:Rd H a u)(x:fD P w H h):dB P w H h a u:=by
 rcases r with r|⟨o,r⟩
 .exact x a u r
 .obtain⟨_,q⟩:=x a _ r;exact q
def Dg:Option HO->Prop
 |some (.lst _)=>True
 |some (.dK _)=>True
 |some (.dT _)=>True
 |some (.set _ _)=>True
 |some (.ins _ _ _)=>True
 |some (.ext _)=>True
 |_=>False
section
variable {P:Program} {w:World} {H:Hp} {h h':Heap} {x e:Addr} {o':HO}
def fD.write(ok:fD P w H h)(mu:Dg (H x))(he:e=x∨H e=some (.own x))(k:∀b u,b≠e->h.get? b=some u->h'.get? b=some u)(heo:∃u,h'.get? e=some u)
  (new:dB P w (upd H x o') h' x o'):fD P w (upd H x o') h':=λb u q=>by
 have ZK:∀c y,H c=some (.own y)->c≠x:=λc y r z=>by subst z;rw[r]at mu;exact mu
 have ao8:∀c xs,H c=some (.tup xs)->c≠x:=λc xs r z=>by subst z;rw[r]at mu;exact mu
 by_cases hb:b=x
 .subst hb;rw[aC]at q;cases q;exact new
 .rw[bI hb]at q;by_cases hbe:b=e
  .have q':H b=some (.own x):=by
    rcases he with z|z
    .exact absurd (hbe.trans z) hb
    .rw[hbe];exact z
   rw[q]at q';cases q';obtain⟨v,hv⟩:=heo;exact⟨v,by rw[hbe];exact hv⟩
  .refine(ok b u q).stay (λc v hc r=>k c v ?_ r) (λc r=>by rw[bI (ZK c b r)];exact r) λc xs r=>by rw[bI (ao8 c xs r)];exact r
   rcases hc with rfl|hc
   .exact hbe
   .rintro rfl;rcases he with z|z
    .exact ZK c b hc z
    .rw[hc]at z;cases z;exact hb rfl
end
structure Un(fs ex:List Addr)(H H':Hp)(h h':Heap):Prop where
 keep:∀b o,h.get? b=some o->H b=none->b∉fs->b∉ex->h'.get? b=some o
 slot:∀b o,h.get? b=some o->H b=none->b∈fs->b∉ex->∃sl,h'.get? b=some { o with slots:=sl }
 free:∀b o,h.get? b=some o->H b=none->b∉ex->H' b=none
 there:∀b o,h.get? b=some o->b∉ex->∃o',h'.get? b=some o'
 tups:∀b xs,H b=some (.tup xs)->H' b=some (.tup xs)
 j9:∀b o u,H b=some (.dw o u)->H' b=some (.dw o u)
 nU:∀b ps,H b=some (.rH ps)->∃more,H' b=some (.rH (ps++more))
section
variable {fs fs' ex ex':List Addr} {H H1 H2:Hp} {h h1 h2 h':Heap} {a x e:Addr} {o:HO}
def Un.any(u:Un fs ex H H1 h h1){b:Addr}{ob:Obj}(q:h.get? b=some ob)(n:H b=none)(hx:b∉ex):∃sl,h1.get? b=some { ob with slots:=sl }:=by
 by_cases hb:b∈fs
 .exact u.slot b ob q n hb hx
 .exact⟨ob.slots,u.keep b ob q n hb hx⟩
def Un.kept(k:∀b u,h.get? b=some u->h'.get? b=some u):Un fs ex H H h h':=
 ⟨λb ob q _ _ _=>k b ob q,λb ob q _ _ _=>⟨ob.slots,k b ob q⟩,λ_ _ _ n _=>n,λb ob q _=>⟨ob,k b ob q⟩,λ_ _ q=>q,λ_ _ _ q=>q,λ_ ps q=>⟨#[],by rw[q];simp⟩⟩
def Un.refl:Un fs ex H H h h:=Un.kept λ_ _ q=>q
def Un.laid(k:∀b u,h.get? b=some u->h'.get? b=some u)(hp:h.objs.size<=a)(hn:H a=none):Un fs ex H (upd H a o) h h' where
 keep:=λb u q _ _ _=>k b u q
 slot:=λb u q _ _ _=>⟨u.slots,k b u q⟩
 free:=λb u q n _=>by rw[bI (jJ (jm (cW q) hp))];exact n
 there:=λb u q _=>⟨u,k b u q⟩
 tups:=λb xs q=>by rw[bI (jr q hn)];exact q
 j9:=λb u xs q=>by rw[bI (jr q hn)];exact q
 nU:=λb ps q=>⟨#[],by rw[bI (jr q hn),q];simp⟩
def Un.write(mu:Dg (H x))(he:e=x∨H e=some (.own x))(k:∀b u,b≠e->h.get? b=some u->h'.get? b=some u)(heo:∃u,h'.get? e=some u):Un fs ex H (upd H x o) h h':=by
 have hx:∀b,H b=none->b≠x:=λb n z=>by subst z;rw[n]at mu;exact mu
 have hb:∀b,H b=none->b≠e:=λb n z=>by
  subst z;rcases he with r|r
  .exact hx b n r
  .rw[n]at r;cases r
 have hm:∀b u,H b=some u->¬Dg (some u)->b≠x:=λb u q nm z=>by subst z;rw[q]at mu;exact nm mu
 refine⟨λb u q n _ _=>k b u (hb b n) q,λb u q n _ _=>⟨u.slots,k b u (hb b n) q⟩,λb u q n _=>by rw[bI (hx b n)];exact n,λb u q _=>?_,
  λb xs q=>by rw[bI (hm b _ q λz=>z)];exact q,λb u xs q=>by rw[bI (hm b _ q λz=>z)];exact q,λb ps q=>⟨#[],by rw[bI (hm b _ q λz=>z),q];simp⟩⟩
 by_cases hbe:b=e
 .subst hbe;exact heo
 .exact⟨u,k b u hbe q⟩
end
def HX(h:Heap)(H:Hp):List Addr:=(fj h.objs.size).filter λa=>(H a).isSome
def sX(h:Heap)(H:Hp):Heap:=EA h (HX h H)
def aos(h:Heap)(H:Hp):(sX h H).objs.size=h.objs.size:=W.hideAll_size _ _
def anZ{h:Heap}{H:Hp}{b:Addr}{o:Obj}(e:h.get? b=some o)(n:H b=none):(sX h H).get? b=some o:=
 W.hideAll_get _ e λhm=>by
  have q:(H b).isSome=true:=(pA.mp hm).2;rw[n]at q;simp at q
def ah8{h:Heap}{H:Hp}{b:Addr}{o:Obj}(e:(sX h H).get? b=some o):h.get? b=some o/\H b=none:=by
 have e':h.get? b=some o:=W.of_hideAll (HX h H) e;refine⟨e',?_⟩;cases q:H b with
 |none=>rfl
 |some x=>
  have hm:b∈HX h H:=pA.mpr ⟨iT.mpr (cW e'),by simp[q]⟩;have z:(sX h H).get? b=none:=W.hideAll_none (HX h H) hm;rw[z]at e;cases e
structure Mod(K:aF)(mg:Str->Option Value)(base:Heap):Prop where
 Fi:K.In base
 glob:base.Ns mainGlobals mg
 blt:∃mb,base.Ns builtinsNs mb/\∀x:Str,x≠ "__name__" -> mb x=bootBuiltins x
 nolimit:base.NoLimit
 digits:base.NoDigits
 seer:base.NoSeer
structure Cx where
 prog:Program
 w:World
 K:aF
 mg:Str->Option Value
 base:Heap
 A:Around
 N:List Str
 s₀:Shared
 H₀:Hp
 env:Env
 outer:List Env
 stack:List Env
 ex:List Addr
 fn:Str->Bool
 calm:Bool
 pn:List (Addr×Obj)
 xe:Value->Shared->Prop
def frs(l:List Env):List Addr:=l.filterMap (·.frame)
abbrev Cx.fs(X:Cx):List Addr:=frs X.outer
def Gk(sc:Scope)(x:Str):Prop:=sc.names.lookup x=some .local∨sc.names.lookup x=some .cell∨sc.names.lookup x=some .free
def Loc(sc:Scope)(x:Str):Prop:=sc.names.lookup x=some .local∨sc.names.lookup x=some .cell
def Look(env:Env)(h:Heap)(m:Str->Option Value)(x:Str)(u:Value):Prop:=
 (env.kindOf x=some .local/\m x=some u)∨((env.kindOf x=some .cell∨env.kindOf x=some .free)/\∃c,env.cells.lookup x=some c/\h.IsCell c (some u))
structure Cx.Ok(X:Cx):Prop where
 mod:Mod X.K X.mg X.base
 kind:X.env.scope.kind = .function
 glob:X.env.globals=mainGlobals
 blt:X.env.builtins=builtinsNs
 above:X.s₀.heap.objs.size<=X.env.locals
 inj:∀x y c,X.env.cells.lookup x=some c->X.env.cells.lookup y=some c->x=y
 has:∀x,(X.env.kindOf x=some .cell∨X.env.kindOf x=some .free)->∃c,X.env.cells.lookup x=some c
 cab:∀x c,X.fn x=true->X.env.cells.lookup x=some c->X.s₀.heap.objs.size<=c
 hd:X.calm=true->X.A.handled=none
 frames:X.A.frames=some X.stack
 stk:X.stack=X.outer∨(X.stack=X.env::X.outer/\X.env.frame=some X.env.locals)
 exf:∀b∈X.ex,b≠X.env.locals/\∀x c,X.env.cells.lookup x=some c->c≠b
 bs:∀b o,X.base.get? b=some o->X.s₀.heap.get? b=some o/\X.H₀ b=none
 vf:X.base.objs.size<=X.s₀.heap.objs.size
 Cw:∀b o,X.base.get? b=some o->b∉X.ex
 Cg:∀b∈X.ex,b∉X.fs
 ql:X.s₀.heap.FunFrames X.base X.outer
 yZ:∀b∈X.fs,X.H₀ b=none
 tree:X.prog.given.tree=none
 top:∃e l,X.stack=e::l/\e.scope.isGenerator=false/\e.scope.isCoroutine=false/\e.builtins=builtinsNs/\e.globals=mainGlobals
structure Inv(X:Cx)(pins:List (Addr×Obj))(σ:List (Option V))(H:Hp)(s:Shared):Prop where
 ok:X.Ok
 os:s.os=X.s₀.os
 bare:AllBare s.gens
 base:Un X.fs X.ex X.H₀ H X.s₀.heap s.heap
 loc:∃m,s.heap.Ns X.env.locals m/\∀(i:Nat) (x:Str) (v:V),X.N[i]?=some x->σ[i]?=some (some v)->Gk X.env.scope x->∃u,RelV v u/\Look X.env s.heap m x u
 cell:∀x c,X.env.cells.lookup x=some c->∃v,s.heap.IsCell c v
 free:H X.env.locals=none
 qN:∀x c,X.env.cells.lookup x=some c->H c=none
 pin:∀p∈X.pn++pins,s.heap.get? p.1=some p.2/\H p.1=none/\p.1≠X.env.locals/\p.1∉X.fs/\∀v,p.2.data≠ .cell v
 hok:fD X.prog X.w H s.heap
 len:σ.length=X.N.length
section
variable {X:Cx} {pins:List (Addr×Obj)} {σ:List (Option V)} {H H':Hp} {s:Shared} {h':Heap}
def Cx.Ok.apd(ok:X.Ok){b:Addr}{o:Obj}(e:X.base.get? b=some o):b∉X.fs:=λhb=>by
 have:=(ok.ql.mem hb).1;rw[e]at this;cases this
theorem Inv.bs(I:Inv X pins σ H s):∀b o,X.base.get? b=some o->s.heap.get? b=some o/\H b=none:=λb o e=>
 ⟨I.base.keep b o (I.ok.bs b o e).1 (I.ok.bs b o e).2 (I.ok.apd e) (I.ok.Cw b o e),I.base.free b o (I.ok.bs b o e).1 (I.ok.bs b o e).2 (I.ok.Cw b o e)⟩
def Inv.bk(I:Inv X pins σ H s):∀b o,X.base.get? b=some o->s.heap.get? b=some o:=λb o e=>(I.bs b o e).1
theorem Inv.mod(I:Inv X pins σ H s):Mod X.K X.mg X.base:=I.ok.mod
def Inv.xW(I:Inv X pins σ H s):X.K.In s.heap:=I.ok.mod.Fi.keeps I.bk
theorem Inv.lt(I:Inv X pins σ H s):X.env.locals<s.heap.objs.size:=let⟨_,hn,_⟩:=I.loc;hn.lt
def Inv.sz(I:Inv X pins σ H s):X.s₀.heap.objs.size<=s.heap.objs.size:=fX I.ok.above (gC I.lt)
def Inv.axY(I:Inv X pins σ H s){a:Addr}(h:s.heap.objs.size<=a):a∉X.fs:=λhb=>by
 obtain⟨_,o,ho,_⟩:=I.ok.ql.mem hb;exact absurd (jm (cW ho) (fX I.sz h)) (lE _)
def Inv.wI(I:Inv X pins σ H s):∀x c,X.env.cells.lookup x=some c->c≠X.env.locals:=λx c e z=>by
 obtain⟨v,o,ho,hd⟩:=I.cell x c e;obtain⟨m,⟨o',es,ep,ho',hd',_⟩,_⟩:=I.loc;rw[z,ho']at ho;cases ho;rw[hd']at hd;cases hd
theorem Inv.ql(I:Inv X pins σ H s):s.heap.FunFrames X.base X.outer:=by
 have all:∀(l:List Env),(∀b∈frs l,b∈X.fs)->X.s₀.heap.FunFrames X.base l->s.heap.FunFrames X.base l:=by
  intro l;induction l with
  |nil=>intro _ _;trivial
  |cons env r ih=>
   intro hs hl;obtain⟨hk,⟨L,o,hf,hn,ho,hd⟩,hr⟩:=hl;have hL:L∈X.fs:=hs L (by unfold frs;rw[PY,hf];exact cV);obtain⟨sl,e⟩:=I.base.slot L o ho (I.ok.yZ L hL) hL λz=>I.ok.Cg L z hL;exact⟨hk,⟨L,_,hf,hn,e,hd⟩,ih (λb hb=>hs b (by unfold frs;rw[PY,hf];exact cZ _ hb)) hr⟩
 exact all X.outer (λ_ hb=>hb) I.ok.ql
theorem Inv.stack(I:Inv X pins σ H s):s.heap.FunFrames X.base X.stack:=by
 rcases I.ok.stk with e|⟨e,hf⟩
 .rw[e];exact I.ql
 .rw[e];obtain⟨m,hn,_⟩:=I.loc;refine .cons (by rw[I.ok.kind];decide) hf hn ?_ I.ql;exact Heap.get?_none_of_le (fX I.ok.vf I.ok.above)
def Inv.Fy(I:Inv X pins σ H s):∀b∈frs X.stack,b∈X.env.locals::X.fs:=λb hb=>by
 rcases I.ok.stk with e|⟨e,hf⟩
 .rw[e]at hb;exact cZ _ hb
 .rw[e]at hb;unfold frs at hb;rw[PY,hf]at hb;exact hb
def Inv.Mx(I:Inv X pins σ H s):∀b∈frs X.stack,H b=none:=λb hb=>by
 rcases bJ.mp (I.Fy b hb)with e|hb
 .rw[e];exact I.free
 .obtain⟨_,o,ho,_⟩:=I.ok.ql.mem hb;exact I.base.free b o ho (I.ok.yZ b hb) λz=>I.ok.Cg b z hb
def Inv.step{g':Array GenState}{t':Nat}{d':Drawn}{ch:List Addr}(I:Inv X pins σ H s)
  (hch:∀b∈ch,(b∈X.ex∨X.s₀.heap.objs.size<=b)/\b≠X.env.locals/\(∀x c,X.env.cells.lookup x=some c->c≠b)/\∀p∈X.pn++pins,p.1≠b)
  (keep:∀b o,b≠X.env.locals->b∉X.fs->b∉ch->s.heap.get? b=some o->H b=none->h'.get? b=some o)
  (slot:∀b o,b≠X.env.locals->b∈X.fs->b∉ch->s.heap.get? b=some o->H b=none->∃sl,h'.get? b=some { o with slots:=sl }) (free:∀b o,b∉ch->s.heap.get? b=some o->H b=none->H' b=none)
  (there:∀b o,b∉ch->s.heap.get? b=some o->∃o',h'.get? b=some o')
  (tups:∀b xs,H b=some (.tup xs)->H' b=some (.tup xs)) (j9:∀b o u,H b=some (.dw o u)->H' b=some (.dw o u)) (nU:∀b ps,H b=some (.rH ps)->∃more,H' b=some (.rH (ps++more)))
  (ns:∀m,s.heap.Ns X.env.locals m->h'.Ns X.env.locals m) (hok:fD X.prog X.w H' h') (hg:AllBare g'):
  Inv X pins σ H' { s with heap:=h',gens:=g',drawn:=d',toks:=t' }:=by
 have neL:∀b o,X.s₀.heap.get? b=some o->b≠X.env.locals:=λb o e=>jJ (jm (cW e) I.ok.above);have Io:∀b o,X.s₀.heap.get? b=some o->b∉X.ex->b∉ch:=λb o e hx hb=>by
  rcases(hch b hb).1 with z|z
  .exact hx z
  .exact absurd (jm (cW e) z) (lE _)
 have cellK:∀x c,X.env.cells.lookup x=some c->∀v,s.heap.IsCell c v->h'.IsCell c v:=λx c e v ⟨o,ho,hd⟩=>by
  have Cj:c∉ch:=λz=>(hch c z).2.2.1 x c e rfl;by_cases hc:c∈X.fs
  .obtain⟨sl,q⟩:=slot c o (I.wI x c e) hc Cj ho (I.qN x c e);exact⟨_,q,hd⟩
  .exact⟨o,keep c o (I.wI x c e) hc Cj ho (I.qN x c e),hd⟩
 refine⟨I.ok,I.os,hg,⟨λb o e n hb hx=>?_,λb o e n hb hx=>?_,λb o e n hx=>?_,λb o e hx=>?_,λb xs e=>tups b xs (I.base.tups b xs e),λb o xs e=>j9 b o xs (I.base.j9 b o xs e),λb ps e=>?_⟩,?_,λx c e=>?_,?_,λx c e=>?_,λp hp=>?_,hok,I.len⟩
 .exact keep b o (neL b o e) hb (Io b o e hx) (I.base.keep b o e n hb hx) (I.base.free b o e n hx)
 .obtain⟨sl,e1⟩:=I.base.slot b o e n hb hx;obtain⟨sl',e2⟩:=slot b _ (neL b o e) hb (Io b o e hx) e1 (I.base.free b o e n hx);exact⟨sl',e2⟩
 .obtain⟨o',e1⟩:=I.base.there b o e hx;exact free b o' (Io b o e hx) e1 (I.base.free b o e n hx)
 .obtain⟨o',e1⟩:=I.base.there b o e hx;exact there b o' (Io b o e hx) e1
 .obtain⟨m1,e1⟩:=I.base.nU b ps e;obtain⟨m2,e2⟩:=nU b _ e1;exact⟨m1++m2,by rw[e2,Zo]⟩
 .obtain⟨m,hn,hl⟩:=I.loc;refine⟨m,ns m hn,λi x v e1 e2 e3=>?_⟩;obtain⟨u,r,l⟩:=hl i x v e1 e2 e3;refine⟨u,r,?_⟩;rcases l with l|⟨k,c,e,z⟩
  .exact .inl l
  .exact .inr ⟨k,c,e,cellK x c e _ z⟩
 .obtain⟨v,z⟩:=I.cell x c e;exact⟨v,cellK x c e v z⟩
 .obtain⟨m,⟨o,_,_,ho,_⟩,_⟩:=I.loc;exact free _ o (λz=>(hch _ z).2.1 rfl) ho I.free
 .obtain⟨v,o,ho,hd⟩:=I.cell x c e;exact free c o (λz=>(hch c z).2.2.1 x c e rfl) ho (I.qN x c e)
 .obtain⟨e,n,ne,nf,d⟩:=I.pin p hp;have Cj:p.1∉ch:=λz=>(hch p.1 z).2.2.2 p hp rfl;exact⟨keep p.1 p.2 ne nf Cj e n,free p.1 p.2 Cj e n,ne,nf,d⟩
def Inv.un{t':Nat}(I:Inv X pins σ H s)(u:Un X.fs [] H H' s.heap h')(hok:fD X.prog X.w H' h'):Inv X pins σ H' { s with heap:=h',toks:=t' }:=by
 obtain⟨m,⟨o,es,ep,ho,r⟩,_⟩:=id I.loc;obtain⟨sl,hL⟩:=u.any ho I.free (by simp);exact I.step (g':=s.gens) (d':=s.drawn) (ch:=[]) (λ_ z=>nomatch z) (λb o _ hb _ e n=>u.keep b o e n hb (by simp)) (λb o _ hb _ e n=>u.slot b o e n hb (by simp)) (λb o _ e n=>u.free b o e n (by simp)) (λb o _ e=>u.there b o e (by simp)) u.tups u.j9 u.nU (λm' hm=>by
  obtain⟨o',es',ep',ho',r'⟩:=hm;rw[ho]at ho';cases ho';exact⟨_,es',ep',hL,r'⟩) hok I.bare
def Inv.call{g':Array GenState}{t':Nat}{d':Drawn}{ch:List Addr}(I:Inv X pins σ H s)(u:Un (frs X.stack) ch H H' s.heap h')(hok:fD X.prog X.w H' h')(hg:AllBare g')
  (hch:∀b∈ch,(b∈X.ex∨X.s₀.heap.objs.size<=b)/\b≠X.env.locals/\(∀x c,X.env.cells.lookup x=some c->c≠b)/\∀p∈X.pn++pins,p.1≠b):
  Inv X pins σ H' { s with heap:=h',gens:=g',drawn:=d',toks:=t' }:=by
 obtain⟨m,⟨o,es,ep,ho,r⟩,_⟩:=id I.loc;obtain⟨sl,hL⟩:=u.any ho I.free λz=>(hch _ z).2.1 rfl;exact I.step (ch:=ch) hch (λb o hL hb hc e n=>u.keep b o e n (λz=>(bJ.mp (I.Fy b z)).elim hL hb) hc) (λb o _ _ hc e n=>u.any e n hc) (λb o hc e n=>u.free b o e n hc) (λb o hc e=>u.there b o e hc) u.tups u.j9 u.nU (λm' hm=>by
  obtain⟨o',es',ep',ho',r'⟩:=hm;rw[ho]at ho';cases ho';exact⟨_,es',ep',hL,r'⟩) hok hg
def Inv.turned{t':Nat}{it:Addr}(I:Inv X pins σ H s)(k:∀b o,b≠it->s.heap.get? b=some o->h'.get? b=some o)(hn:H it=none)(hL:it≠X.env.locals)
  (h1:it∈X.ex∨X.s₀.heap.objs.size<=it) (h2:∀x c,X.env.cells.lookup x=some c->c≠it) (h3:∀p∈X.pn++pins,p.1≠it):Inv X pins σ H { s with heap:=h',toks:=t' }:=by
 have nit:∀b u,H b=some u->b≠it:=λb u e z=>by rw[z,hn]at e;cases e
 refine I.step (g':=s.gens) (d':=s.drawn) (ch:=[it]) (λb hb=>?_) (λb o _ _ hc e _=>k b o (λz=>hc (by simp[z])) e) (λb o _ _ hc e _=>⟨o.slots,k b o (λz=>hc (by simp[z])) e⟩) (λ_ _ _ _ n=>n)
  (λb o hc e=>⟨o,k b o (λz=>hc (by simp[z])) e⟩) (λ_ _ e=>e) (λ_ _ _ e=>e) (λb ps e=>⟨#[],by rw[e];simp⟩) (λm hm=>?_) (λb u e=>?_) I.bare
 .have e:b=it:=by simpa using hb
  subst e;exact⟨h1,hL,h2,h3⟩
 .obtain⟨o,es,ep,ho,r⟩:=hm;exact⟨o,es,ep,k _ o (dG hL) ho,r⟩
 .refine(I.hok b u e).stay (λc v hc q=>k c v ?_ q) (λ_ q=>q) λ_ _ q=>q;rcases hc with z|z
  .rw[z];exact nit b u e
  .exact nit c _ z
def Inv.tok(I:Inv X pins σ H s)(t:Nat):Inv X pins σ H { s with toks:=t }:=I.un (h':=s.heap) (t':=t) Un.refl I.hok
theorem Inv.kept{t':Nat}(I:Inv X pins σ H s)(k:∀b u,s.heap.get? b=some u->h'.get? b=some u):Inv X pins σ H { s with heap:=h',toks:=t' }:=I.un (Un.kept k) (I.hok.kept k)
theorem Inv.laid{a:Addr}{o:HO}{t':Nat}(I:Inv X pins σ H s)(k:∀b u,s.heap.get? b=some u->h'.get? b=some u)(hp:s.heap.objs.size<=a)(new:dB X.prog X.w (upd H a o) h' a o):
  Inv X pins σ (upd H a o) { s with heap:=h',toks:=t' }:=I.un (Un.laid k hp (I.hok.fresh hp)) (I.hok.laid k hp new)
theorem Inv.write{x e:Addr}{o:HO}{t':Nat}(I:Inv X pins σ H s)(mu:Dg (H x))(he:e=x∨H e=some (.own x))(k:∀b u,b≠e->s.heap.get? b=some u->h'.get? b=some u)(heo:∃u,h'.get? e=some u)
  (new:dB X.prog X.w (upd H x o) h' x o):Inv X pins σ (upd H x o) { s with heap:=h',toks:=t' }:=I.un (Un.write mu he k heo) (I.hok.write mu he k heo new)
def Inv.adX{ady:List (Addr×Obj)}(I:Inv X pins σ H s)(h:∀p∈ady,s.heap.get? p.1=some p.2/\H p.1=none/\p.1≠X.env.locals/\p.1∉X.fs/\∀v,p.2.data≠ .cell v):Inv X ady σ H s:=
 ⟨I.ok,I.os,I.bare,I.base,I.loc,I.cell,I.free,I.qN,λp hp=>(fP.mp hp).elim (λz=>I.pin p (Gw _ z)) (h p),I.hok,I.len⟩
def V0{N:List Str}(hN:N.Nodup){i j:Nat}{x:Str}(a:N[i]?=some x)(b:N[j]?=some x):i=j:=by
 obtain⟨h1,e1⟩:=List.getElem?_eq_some_iff.mp a;obtain⟨h2,e2⟩:=List.getElem?_eq_some_iff.mp b;exact(List.getElem_inj hN).mp (e1.trans e2.symm)
def auE{M:Model}{A:Around}{E:Value->Shared->Prop}{i:Nat}{x:Str}{v:V}{u:Value}{Q:Unit->Shared->Prop}(I:Inv X pins σ H s)(hN:X.N.Nodup)(hi:X.N[i]?=some x)(hx:Loc X.env.scope x)(r:RelV v u)
  (h:∀s',Inv X pins (σ.set i (some v)) H s'->(∃a,Fo a s.heap s'.heap/\(a=X.env.locals∨X.env.cells.lookup x=some a))->Q () s') (hf:X.fn x=true∨X.env.scope.names.lookup x=some .local:=by first|exact .inl rfl|exact .inr rfl|assumption):wpAny M A (storeName X.env x u) Q E s:=by
 obtain⟨m,hn,hl⟩:=id I.loc;have hcls:(X.env.scope.kind== .class||(X.env.scope.kind== .module&&X.env.locals != X.env.globals))=false:=by rw[I.ok.kind];rfl
 have hiσ:i < σ.length:=by rw[I.len];exact(List.getElem?_eq_some_iff.mp hi).1
 have wI:=I.wI;have tracked:∀{a:Addr} {h':Heap},(∃o,s.heap.get? a=some o/\H a=none)->Fo a s.heap h'->fD X.prog X.w H h':=λ{a h'} ha hs b ob e=>by
  obtain⟨_,_,hfree⟩:=ha;refine(I.hok b ob e).stay (λc w' hc q=>(hs.2 c ?_).trans q) (λ_ q=>q) λ_ _ q=>q;rintro rfl;rcases hc with rfl|hc
  .rw[hfree]at e;cases e
  .rw[hfree]at hc;cases hc
 rcases hx with hk|hk
 .refine wpAny_storeName_local hk hn (λh' hn' hs=>?_) hcls;obtain⟨oL,_,_,hoL,_⟩:=id hn;refine h _ ⟨I.ok,I.os,I.bare,⟨λb o e n hb hx=>?_,λb o e n hb hx=>?_,I.base.free,λb o e hx=>?_,I.base.tups,I.base.j9,I.base.nU⟩,⟨_,hn',λj y v' e1 e2 e3=>?_⟩,λy c e=>?_,I.free,I.qN,λp hp=>?_,tracked ⟨oL,hoL,I.free⟩ hs,by simpa using I.len⟩ ⟨_,hs,.inl rfl⟩
  .exact(hs.2 b (jJ (jm (cW e) I.ok.above))).trans (I.base.keep b o e n hb hx)
  .obtain⟨sl,e1⟩:=I.base.slot b o e n hb hx;exact⟨sl,(hs.2 b (jJ (jm (cW e) I.ok.above))).trans e1⟩
  .obtain⟨o',e1⟩:=I.base.there b o e hx;exact⟨o',(hs.2 b (jJ (jm (cW e) I.ok.above))).trans e1⟩
  .by_cases hj:j=i
   .subst hj;rw[hi]at e1;cases e1;rw[List.getElem?_set_self hiσ]at e2;cases e2;exact⟨u,r,.inl ⟨hk,by simp⟩⟩
   .rw[List.getElem?_set_ne (dG hj)]at e2;obtain⟨u',r',q⟩:=hl j y v' e1 e2 e3;refine⟨u',r',?_⟩;rcases q with⟨k,e⟩|⟨k,c,e,z⟩
    .refine .inl ⟨k,?_⟩;have:y≠x:=λe=>hj (V0 hN e1 (e▸hi));simp[this,e]
    .exact .inr ⟨k,c,e,z.sameBut hs (wI y c e)⟩
  .obtain⟨w',z⟩:=I.cell y c e;exact⟨w',z.sameBut hs (wI y c e)⟩
  .obtain⟨e,n,ne,nf,d⟩:=I.pin p hp;exact⟨(hs.2 p.1 ne).trans e,n,ne,nf,d⟩
 .have hfn:X.fn x=true:=by
   rcases hf with z|z
   .exact z
   .rw[z]at hk;cases hk
  obtain⟨c,hc⟩:=I.ok.has x (.inl hk);obtain⟨w',z⟩:=I.cell x c hc;refine wpAny_storeName_cell I.ok.kind hk hc z (λh' hc' hs=>?_);obtain⟨oc,hoc,apY⟩:=id z;refine h { s with heap:=h' } ⟨I.ok,I.os,I.bare,⟨λb o e n hb hx=>?_,λb o e n hb hx=>?_,I.base.free,λb o e hx=>?_,I.base.tups,I.base.j9,I.base.nU⟩,⟨m,hn.sameBut hs (dG (wI x c hc)),λj y v' e1 e2 e3=>?_⟩,λy c' e=>?_,I.free,I.qN,λp hp=>?_,tracked ⟨oc,hoc,I.qN x c hc⟩ hs,by simpa using I.len⟩ ⟨c,hs,.inr hc⟩
  .exact(hs.2 b (jJ (jm (cW e) (I.ok.cab x c hfn hc)))).trans (I.base.keep b o e n hb hx)
  .obtain⟨sl,e1⟩:=I.base.slot b o e n hb hx;exact⟨sl,(hs.2 b (jJ (jm (cW e) (I.ok.cab x c hfn hc)))).trans e1⟩
  .obtain⟨o',e1⟩:=I.base.there b o e hx;exact⟨o',(hs.2 b (jJ (jm (cW e) (I.ok.cab x c hfn hc)))).trans e1⟩
  .by_cases hj:j=i
   .subst hj;rw[hi]at e1;cases e1;rw[List.getElem?_set_self hiσ]at e2;cases e2;exact⟨u,r,.inr ⟨.inl hk,c,hc,hc'⟩⟩
   .rw[List.getElem?_set_ne (dG hj)]at e2;obtain⟨u',r',q⟩:=hl j y v' e1 e2 e3;refine⟨u',r',?_⟩;rcases q with q|⟨k,c',e,z'⟩
    .exact .inl q
    .refine .inr ⟨k,c',e,z'.sameBut hs ?_⟩;rintro rfl;exact hj (V0 hN e1 (I.ok.inj _ _ _ e hc▸hi))
  .by_cases hcc:c'=c
   .subst hcc;exact⟨_,hc'⟩
   .obtain⟨w2,z2⟩:=I.cell y c' e;exact⟨w2,z2.sameBut hs hcc⟩
  .obtain⟨e,n,ne,nf,d⟩:=I.pin p hp;refine⟨(hs.2 p.1 ?_).trans e,n,ne,nf,d⟩;intro q;rw[q,hoc]at e;have q':oc=p.2:=rJ e;exact d w' (by rw[<-q'];exact apY)
def Bh{M:Model}{A:Around}{E:Value->Shared->Prop}{i:Nat}{x:Str}{v:V}{u:Value}{Q:Unit->Shared->Prop}(I:Inv X pins σ H s)(hN:X.N.Nodup)(hi:X.N[i]?=some x)(hx:Loc X.env.scope x)(r:RelV v u)
  (h:∀s',Inv X pins (σ.set i (some v)) H s'->Q () s') (hf:X.fn x=true∨X.env.scope.names.lookup x=some .local:=by first|exact .inl rfl|exact .inr rfl|assumption):wpAny M A (storeName X.env x u) Q E s:=
 auE I hN hi hx r (λs' I' _=>h s' I') hf
def Inv.aoQ{s':Shared}{ch:List Addr}(I:Inv X pins σ H s)(ho:s'.os=s.os)(u:Un (frs X.stack) ch H H' s.heap s'.heap)(hok:fD X.prog X.w H' s'.heap)(hg:AllBare s'.gens)
  (hch:∀b∈ch,(b∈X.ex∨X.s₀.heap.objs.size<=b)/\b≠X.env.locals/\(∀x c,X.env.cells.lookup x=some c->c≠b)/\∀p∈X.pn++pins,p.1≠b):Inv X pins σ H' s':=by
 obtain⟨h',g',d',t',o'⟩:=s';have e:o'=s.os:=ho;subst e;exact I.call (g':=g') (t':=t') (d':=d') u hok hg hch
end
abbrev XK:=Value->Option Addr->Hp->Prop
abbrev St:=List (Option V)
abbrev VK:=V->Hp->Prop
abbrev TE:=St->Hp->VK->Prop
abbrev TT:=St->Hp->(Bool->Hp->Prop)->Prop
abbrev TA:=St->Hp->(List V->Hp->Prop)->Prop
structure Ends where
 nx:St->Hp->Prop
 rt:VK
 bk:St->Hp->Prop:=λ_ _=>False
 ct:St->Hp->Prop:=λ_ _=>False
abbrev TS:=Ends->St->Hp->Prop
def EP(X:Cx)(pins:List (Addr×Obj))(σ:St)(Q:VK)(u:Value)(s':Shared):Prop:=∃v H',Inv X pins σ H' s'/\RelV v u/\Q v H'
def TP(X:Cx)(pins:List (Addr×Obj))(σ:St)(Q:Bool->Hp->Prop)(b:Bool)(s':Shared):Prop:=∃H',Inv X pins σ H' s'/\Q b H'
def AP(X:Cx)(pins:List (Addr×Obj))(σ:St)(Q:List V->Hp->Prop)(us:List Value)(s':Shared):Prop:=∃vs H',Inv X pins σ H' s'/\Vals vs us/\Q vs H'
def SP(X:Cx)(pins:List (Addr×Obj))(D:Ends)(f:Flow)(s':Shared):Prop:=
 match f with
 |.next=>∃σ' H',Inv X pins σ' H' s'/\D.nx σ' H'
 |.brk=>∃σ' H',Inv X pins σ' H' s'/\D.bk σ' H'
 |.cont=>∃σ' H',Inv X pins σ' H' s'/\D.ct σ' H'
 |.ret u=>∃v σ' H',Inv X pins σ' H' s'/\RelV v u/\D.rt v H'
def PE(X:Cx)(e:Expr)(t:TE):Prop:=
 ∀(pins:List (Addr×Obj)) (s:Shared) (σ:St) (H:Hp) (Q:VK),Inv X pins σ H s->t σ H Q->wpAny (model X.prog X.w) X.A (eval e X.env) (EP X pins σ Q) X.xe s
def PT(X:Cx)(e:Expr)(t:TT):Prop:=
 ∀(pins:List (Addr×Obj)) (s:Shared) (σ:St) (H:Hp) (Q:Bool->Hp->Prop),Inv X pins σ H s->t σ H Q->wpAny (model X.prog X.w) X.A (isTrue e X.env (eval e X.env)) (TP X pins σ Q) X.xe s
def PW(X:Cx)(e:Expr)(t:TT):Prop:=
 ∀(whole:Sem Value) (pins:List (Addr×Obj)) (s:Shared) (σ:St) (H:Hp) (Q:Bool->Hp->Prop),Inv X pins σ H s->t σ H Q->wpAny (model X.prog X.w) X.A (isTrue e X.env whole) (TP X pins σ Q) X.xe s
def PW.pt{X:Cx}{e:Expr}{t:TT}(h:PW X e t):PT X e t:=h _
def PA(X:Cx)(es:List Expr)(t:TA):Prop:=
 ∀(pos:Pos) (pins:List (Addr×Obj)) (s:Shared) (σ:St) (H:Hp) (Q:List V->Hp->Prop),Inv X pins σ H s->t σ H Q->wpAny (model X.prog X.w) X.A (spliced (backTo pos (starEach es X.env))) (AP X pins σ Q) X.xe s
def PS(X:Cx)(st:Stmt)(t:TS):Prop:=
 ∀(pins:List (Addr×Obj)) (s:Shared) (σ:St) (H:Hp) (D:Ends),Inv X pins σ H s->t D σ H->wpAny (model X.prog X.w) X.A (exec st X.env) (SP X pins D) X.xe s
def jK(X:Cx)(st:List Stmt)(t:TS):Prop:=
 ∀(pins:List (Addr×Obj)) (s:Shared) (σ:St) (H:Hp) (D:Ends),Inv X pins σ H s->t D σ H->wpAny (model X.prog X.w) X.A (execs st X.env) (SP X pins D) X.xe s
def aW{α:Type}{t:Sem α}{Q Q':α->Shared->Prop}{M:Model}{A:Around}{E:Value->Shared->Prop}{s:Shared}(h:wpAny M A t Q E s)(hQ:∀a s,Q a s->Q' a s):wpAny M A t Q' E s:=wpAny_mono h hQ λ_ _ x=>x
section
variable {X:Cx}
inductive ah6(i:Nat)(σ:St)(H:Hp)(Q:VK):Prop|mk (v:V) (h:σ[i]?=some (some v)) (q:Q v H)
def acC(i:Nat):TE:=λσ H Q=>ah6 i σ H Q
def tC(v:V):TE:=λ_ H Q=>Q v H
def ant{i:Nat}{x:Str}{pos:Pos}(hN:X.N[i]?=some x)(hv:Gk X.env.scope x)(hd:(x==("__debug__" : Str))=false:=by decide)(hcd:(x==("__classdict__" : Str))=false:=by decide):PE X (.Name x pos) (acC i):=by
 intro pins s σ H Q I h;obtain⟨v,e,h⟩:=h;obtain⟨m,hn,hl⟩:=I.loc;obtain⟨u,r,l⟩:=hl i x v hN e hv;have fin:EP X pins σ Q u s:=⟨v,H,I,r,h⟩;rcases l with⟨hk,hm⟩|⟨hk,c,hc,hcell⟩
 .exact wpAny_Name (wpAny_loadName_local I.ok.kind hk hn hm fin) hd
 .rcases hk with hk|hk
  .exact wpAny_Name (wpAny_loadName_cell I.ok.kind hk hc hcell fin) hd
  .exact wpAny_Name (wpAny_loadName_free I.ok.kind hk hc hcell fin hcd) hd
def aq{i j pos}:PE X (.Constant (.int i) j pos) (tC (.int i)):=λ_ _ _ H _ I h=>wpAny_Constant_int ⟨.int i,H,I.tok _,⟨_,rfl⟩,h⟩
def Ad{b j pos}:PE X (.Constant (.bool b) j pos) (tC (.bl b)):=λ_ _ _ H _ I h=>Constant_bool ⟨.bl b,H,I,rfl,h⟩
def Ua{j pos}:PE X (.Constant .none j pos) (tC .non):=λ_ _ _ H _ I h=>Constant_none ⟨.non,H,I,rfl,h⟩
def DP{x j pos}:PE X (.Constant (.str x) j pos) (tC (.str x)):=λ_ _ _ H _ I h=>Calls.Constant_str ⟨.str x,H,I.tok _,⟨_,rfl⟩,h⟩
def Gl(X:Cx)(x:Str):Prop:=X.env.kindOf x=some .globalImplicit
def Rt{E:Value->Shared->Prop}{pins:List (Addr×Obj)}{s:Shared}{σ:St}{H:Hp}{x:Str}{u:Value}{pos:Pos}{Q:Value->Shared->Prop}(I:Inv X pins σ H s)(hg:Gl X x)(hm:X.mg x=some u)(h:Q u s)
  (hd:(x==("__debug__" : Str))=false:=by decide):wpAny (model X.prog X.w) X.A (eval (.Name x pos) X.env) Q E s:=
 afP I.ok.kind hg (Calls.loadGlobal_global (by rw[I.ok.glob];exact I.mod.glob.keeps I.bk) hm h) hd
def ux{E:Value->Shared->Prop}{pins:List (Addr×Obj)}{s:Shared}{σ:St}{H:Hp}{x:Str}{u:Value}{pos:Pos}{Q:Value->Shared->Prop}(I:Inv X pins σ H s)(hg:Gl X x)(hm:X.mg x=none)(hv:bootBuiltins x=some u)(h:Q u s)
  (hn:x≠ "__name__" := by decide) (hd:(x==("__debug__" : Str))=false:=by decide):wpAny (model X.prog X.w) X.A (eval (.Name x pos) X.env) Q E s:=by
 obtain⟨mb,h1,h2⟩:=I.mod.blt;exact afP I.ok.kind hg (Calls.loadGlobal_builtin (by rw[I.ok.glob];exact I.mod.glob.keeps I.bk) hm (by rw[I.ok.blt];exact h1.keeps I.bk) ((h2 x hn).trans hv) h) hd
def VR{x:Str}{v:V}{u:Value}{pos:Pos}(hg:Gl X x)(hm:X.mg x=some u)(r:RelV v u)(hd:(x==("__debug__" : Str))=false:=by decide):PE X (.Name x pos) (tC v):=
 λ_ _ _ H _ I h=>Rt I hg hm ⟨v,H,I,r,h⟩ hd
variable {a b:Expr} {ta tb:TE} {pos:Pos}
def PC(X:Cx)(op:CmpOp)(a b:Expr)(t:TE):Prop:=
 ∀(pins:List (Addr×Obj)) (s:Shared) (σ:St) (H:Hp) (Q:VK),Inv X pins σ H s->t σ H Q->
  wpAny (model X.prog X.w) X.A (eval a X.env) (λv s₁=>wpAny (model X.prog X.w) X.A (eval b X.env) (λu s₂=>wpAny (model X.prog X.w) X.A (compareOp op v u) (EP X pins σ Q) X.xe s₂) X.xe s₁) X.xe s
def aqR(b:Expr){op:CmpOp}(h:op≠ .In)(h2:op≠ .NotIn):behindInMarks op b=false:=by
 have e1:(op==CmpOp.In)=false:=by cases op<;>first|rfl|exact absurd rfl h
 have e2:(op==CmpOp.NotIn)=false:=by cases op<;>first|rfl|exact absurd rfl h2
 cases b<;>simp[behindInMarks,e1,e2]
def aiG(ta:TE):TE:=λσ H Q=>ta σ H λx H1=>Q (.bl (decide (x = .non))) H1
def alv(ta:TE):TE:=λσ H Q=>ta σ H λx H1=>Q (.bl (!decide (x = .non))) H1
def RelV.adC{x:V}{v:Value}(r:RelV x v):(v==Value.none)=decide (x = .non):=by
 cases x with
 |non=>cases r;rfl
 |bl _=>cases r;rfl
 |int _=>obtain⟨t,rfl⟩:=r;rfl
 |str _=>obtain⟨t,rfl⟩:=r;rfl
 |lX _=>obtain⟨t,rfl⟩:=r;rfl
 |flt _=>obtain⟨t,rfl⟩:=r;rfl
 |ref _=>cases r;rfl
 |ty _=>cases r;rfl
def asD{j pos'}(ha:PE X a ta):PC X .Is a (.Constant .none j pos') (aiG ta):=by
 intro pins s σ H Q I h;refine aW (ha pins s σ H _ I h) λv s1 ⟨x,H1,I1,r1,q1⟩=>?_;exact Constant_none (is_none_gen ⟨.bl _,H1,I1,by rw[r1.adC];rfl,q1⟩)
def anE{j pos'}(ha:PE X a ta):PC X .IsNot a (.Constant .none j pos') (alv ta):=by
 intro pins s σ H Q I h;refine aW (ha pins s σ H _ I h) λv s1 ⟨x,H1,I1,r1,q1⟩=>?_;exact Constant_none (isnot_none_gen ⟨.bl _,H1,I1,by rw[r1.adC];rfl,q1⟩)
def tB(t:TE):TT:=λσ H Q=>t σ H λx H1=>∃c,x = .bl c/\Q c H1
def Qu{op:CmpOp}{t:TE}(h:PC X op a b t)(h1:behindInMarks op b=false:=by first|exact aqR _ ∅ ∅ | rfl):PT X (.Compare a [op] [b] pos) (tB t):=by
 intro pins s σ H Q I hw;refine wpAny_isTrue_Compare1 (aW (h pins s σ H _ I hw) λv s1 h1=>aW h1 λu s2 h2=>aW h2 λc s3 ⟨x,H1,I1,r1,q1⟩=>?_) h1;obtain⟨d,rfl,q⟩:=q1;cases r1;exact wpAny_truthy_bool ⟨H1,I1,q⟩
def wW{e:Expr}{t:TE}(h:PE X e t)(he:∀whole,isTrue e X.env whole=(do let v<-whole;standAt e.pos;holding [v] (truthy v)):=by intro _;rfl):PT X e (tB t):=by
 intro pins s σ H Q I hw;refine isTrue_plain (aW (h pins s σ H _ I hw) λv s1 ⟨x,H1,I1,r1,q1⟩=>?_) (he _);obtain⟨d,rfl,q⟩:=q1;cases r1;exact wpAny_truthy_bool ⟨H1,I1,q⟩
variable {tA HY:TT} {rest:List Expr}
def apL(t u:TT):TT:=λσ H Q=>t σ H λc H1=>if c=true then u σ H1 Q else Q false H1
def tOr(t u:TT):TT:=λσ H Q=>t σ H λc H1=>if c=true then Q true H1 else u σ H1 Q
def ald(t:TT):TT:=λσ H Q=>t σ H λc H1=>Q (!c) H1
def K8(ha:PT X a tA):PW X (.BoolOp .And [a] pos) tA:=by
 intro wh pins s σ H Q I h;refine isTrue_and (aW (ha pins s σ H Q I h) λc s1 e=>?_);cases c with
 |true=>exact isTrue_and_nil e
 |false=>exact e
def abf(ha:PT X a tA):PW X (.BoolOp .Or [a] pos) tA:=by
 intro wh pins s σ H Q I h;refine isTrue_or (aW (ha pins s σ H Q I h) λc s1 e=>?_);cases c with
 |false=>exact isTrue_or_nil e
 |true=>exact e
def Lh(ha:PT X a tA)(hb:PW X (.BoolOp .And (b::rest) pos) HY):PW X (.BoolOp .And (a::b::rest) pos) (apL tA HY):=by
 intro wh pins s σ H Q I h;refine isTrue_and (aW (ha pins s σ H _ I h) λc s1 ⟨H1,I1,q1⟩=>?_);cases c with
 |true=>exact hb wh pins s1 σ H1 Q I1 q1
 |false=>exact⟨H1,I1,q1⟩
def Vx(ha:PT X a tA)(hb:PW X (.BoolOp .Or (b::rest) pos) HY):PW X (.BoolOp .Or (a::b::rest) pos) (tOr tA HY):=by
 intro wh pins s σ H Q I h;refine isTrue_or (aW (ha pins s σ H _ I h) λc s1 ⟨H1,I1,q1⟩=>?_);cases c with
 |true=>exact⟨H1,I1,q1⟩
 |false=>exact hb wh pins s1 σ H1 Q I1 q1
def Ep(ha:PT X a tA):PT X (.UnaryOp .Not a pos) (ald tA):=by
 intro pins s σ H Q I h;exact isTrue_not (ha pins s σ H (λc H1=>Q (!c) H1) I h)
def tIf(t:TT)(ta tb:TE):TE:=λσ H Q=>t σ H λc H1=>if c=true then ta σ H1 Q else tb σ H1 Q
def Yd{c:Expr}(hc:PT X c tA)(ha:PE X a ta)(hb:PE X b tb):PE X (.IfExp c a b pos) (tIf tA ta tb):=by
 intro pins s σ H Q I h;refine wpAny_IfExp (aW (hc pins s σ H _ I h) λd s1 ⟨H1,I1,q1⟩=>?_);cases d with
 |true=>exact ha pins s1 σ H1 Q I1 q1
 |false=>exact hb pins s1 σ H1 Q I1 q1
end
def au(K:aF)(H:Hp)(a:Addr)(xs:List V):Prop:=
 Rd H a (.lst xs)∨
  ∃(o:Obj) (its:Array Value) (n:Nat),K.lookup a=some o/\o.cls = .type "list" /\ o.dict=none/\o.data = .seq its n/\its.size<=sizeLine/\Vals xs its.toList
def aA(K:aF)(H:Hp)(a:Addr)(xs:List V):Prop:=
 Rd H a (.tup xs)∨
  ∃(o:Obj) (its:Array Value) (n:Nat),K.lookup a=some o/\o.cls = .type "tuple" /\ o.data = .seq its n/\its.size<=sizeLine/\Vals xs its.toList
def akN:Value->Option V
 |.none=>some .non
 |.bool b=>some (.bl b)
 |.int i _=>some (.int i)
 |.str x _=>some (.str x)
 |.bytes b _=>some (.lX b)
 |.float b _=>some (.flt b)
 |.ref a=>some (.ref a)
 |.type n=>some (.ty n)
 |_=>none
def RelV.abs{x:V}{u:Value}(r:RelV x u):akN u=some x:=by
 cases x with
 |non=>cases r;rfl
 |bl _=>cases r;rfl
 |int _=>obtain⟨t,rfl⟩:=r;rfl
 |str _=>obtain⟨t,rfl⟩:=r;rfl
 |lX _=>obtain⟨t,rfl⟩:=r;rfl
 |flt _=>obtain⟨t,rfl⟩:=r;rfl
 |ref _=>cases r;rfl
 |ty _=>cases r;rfl
theorem RelV.inj{x y:V}{u:Value}(r:RelV x u)(q:RelV y u):x=y:=rJ (r.abs.symm.trans q.abs)
theorem Vals.inj{xs ys:List V}{us:List Value}(h:Vals xs us)(h':Vals ys us):xs=ys:=by
 induction h generalizing ys with
 |nil=>cases h';rfl
 |cons r t ih=>
  cases h' with
  |cons r' t'=>rw[r.inj r',ih t']
section
variable {X:Cx} {pins:List (Addr×Obj)} {σ:St} {H:Hp} {s:Shared} {a:Addr} {xs ys:List V}
def au.of{K:aF}(h:H a=some (.lst xs)):au K H a xs:= .inl (.inl h)
def aA.of{K:aF}(h:H a=some (.tup xs)):aA K H a xs:= .inl (.inl h)
def Inv.list(I:Inv X pins σ H s)(h:au X.K H a xs):∃its:List Value,Vals xs its/\PlainL s.heap a its.toArray/\xs.length<=sizeLine:=by
 rcases h with h|⟨o,its,n,hk,hc,hd,hs,hz,r⟩
 .obtain⟨z,its,n,r,e⟩:=h.ok I.hok;exact⟨its,r,⟨_,n,e,rfl,rfl,rfl⟩,z⟩
 .refine⟨its.toList,r,⟨o,n,I.xW a o hk,hc,hd,by simpa using hs⟩,?_⟩;have e:=r.length;simp only[Lb]at e;omega
def Inv.tuple(I:Inv X pins σ H s)(h:aA X.K H a xs):∃its:List Value,Vals xs its/\IsTup s.heap a its.toArray/\xs.length<=sizeLine:=by
 rcases h with h|⟨o,its,n,hk,hc,hs,hz,r⟩
 .obtain⟨z,its,r,p⟩:=h.ok I.hok;exact⟨its,r,p,z⟩
 .refine⟨its.toList,r,⟨o,I.xW a o hk,hc,n,by simpa using hs⟩,?_⟩;have e:=r.length;simp only[Lb]at e;omega
def Inv.RL(I:Inv X pins σ H s)(h:au X.K H a xs)(h':au X.K H a ys):xs=ys:=by
 obtain⟨its,r,⟨o,n,e,_,_,d⟩,_⟩:=I.list h;obtain⟨its',r',⟨o',n',e',_,_,d'⟩,_⟩:=I.list h';rw[e]at e';cases e';rw[d]at d';injection d' with d1 _;have:its=its':=by simpa using congrArg aaH d1
 subst this;exact r.inj r'
def Inv.Ww(I:Inv X pins σ H s)(h:aA X.K H a xs)(h':aA X.K H a ys):xs=ys:=by
 obtain⟨its,r,⟨o,e,_,n,d⟩,_⟩:=I.tuple h;obtain⟨its',r',⟨o',e',_,n',d'⟩,_⟩:=I.tuple h';rw[e]at e';cases e';rw[d]at d';injection d' with d1 _;have:its=its':=by simpa using congrArg aaH d1
 subst this;exact r.inj r'
end
abbrev Cx.wish(X:Cx)(E:Value->Shared->Prop):Cx:={ X with xe:=E }
abbrev Cx.CD(X:Cx):Cx:=X.wish λ_ _=>False
theorem Cx.Ok.wish{X:Cx}(ok:X.Ok)(E:Value->Shared->Prop):(X.wish E).Ok:=
 ⟨ok.mod,ok.kind,ok.glob,ok.blt,ok.above,ok.inj,ok.has,ok.cab,ok.hd,ok.frames,ok.stk,ok.exf,ok.bs,ok.vf,ok.Cw,ok.Cg,ok.ql,ok.yZ,ok.tree,ok.top⟩
def Cx.Ok.vG{X:Cx}{E:Value->Shared->Prop}(ok:(X.wish E).Ok):X.Ok:=
 ⟨ok.mod,ok.kind,ok.glob,ok.blt,ok.above,ok.inj,ok.has,ok.cab,ok.hd,ok.frames,ok.stk,ok.exf,ok.bs,ok.vf,ok.Cw,ok.Cg,ok.ql,ok.yZ,ok.tree,ok.top⟩
section
variable {X:Cx} {pins:List (Addr×Obj)} {σ:St} {H:Hp} {s:Shared} {E:Value->Shared->Prop}
theorem Inv.wish(I:Inv X pins σ H s)(E:Value->Shared->Prop):Inv (X.wish E) pins σ H s:=⟨I.ok.wish E,I.os,I.bare,I.base,I.loc,I.cell,I.free,I.qN,I.pin,I.hok,I.len⟩
theorem Inv.vG(I:Inv (X.wish E) pins σ H s):Inv X pins σ H s:=⟨I.ok.vG,I.os,I.bare,I.base,I.loc,I.cell,I.free,I.qN,I.pin,I.hok,I.len⟩
theorem SP.vG{D:Ends}{f:Flow}{s':Shared}(h:SP (X.wish E) pins D f s'):SP X pins D f s':=by
 cases f with
 |next=>obtain⟨σ',H',I,q⟩:=h;exact⟨σ',H',I.vG,q⟩
 |brk=>obtain⟨σ',H',I,q⟩:=h;exact⟨σ',H',I.vG,q⟩
 |cont=>obtain⟨σ',H',I,q⟩:=h;exact⟨σ',H',I.vG,q⟩
 |ret u=>obtain⟨v,σ',H',I,r,q⟩:=h;exact⟨v,σ',H',I.vG,r,q⟩
theorem jK.CD{st:List Stmt}{t:TS}(h:jK X.CD st t):jK X st t:=λpins s σ H D I hw=>
 wpAny_mono (h pins s σ H D (I.wish _) hw) (λ_ _ q=>q.vG) λ_ _ z=>False.elim z
end
section
variable {X:Cx} {st:Stmt} {rest:List Stmt} {t u:TS} {e:Expr} {te:TE} {pos:Pos}
def aqZ:TS:=λD σ H=>D.nx σ H
def ax7(t u:TS):TS:=λD σ H=>t { D with nx:=u D } σ H
def fB:jK X [] aqZ:=λ_ _ σ H _ I h=>wpAny_execs_nil ⟨σ,H,I,h⟩
def ao(h1:PS X st t)(h2:jK X rest u):jK X (st::rest) (ax7 t u):=by
 intro pins s σ H D I h;refine wpAny_execs_cons (aW (h1 pins s σ H { D with nx:=u D } I h) λf s1 q=>?_);cases f with
 |next=>
  obtain⟨σ',H',I',q⟩:=q;exact h2 pins s1 σ' H' D I' q
 |ret v=>exact q
 |brk=>exact q
 |cont=>exact q
def aD(h1:PS X st t):jK X [st] t:=by
 intro pins s σ H D I h;refine wpAny_execs_cons (aW (h1 pins s σ H D I h) λf s1 q=>?_);cases f with
 |next=>exact wpAny_execs_nil q
 |ret v=>exact q
 |brk=>exact q
 |cont=>exact q
def Inv.quiet{pins:List (Addr×Obj)}{σ:St}{H:Hp}{s:Shared}(I:Inv X pins σ H s):interactive X.env=false:=by simp[interactive,I.ok.kind]
def at9(te:TE):TS:=λD σ H=>te σ H λ_ H1=>D.nx σ H1
def kZ(he:PE X e te)(hs:swapsWith e none pos.line X.env=pure false:=by rfl):PS X (.Expr e pos) (at9 te):=by
 intro pins s σ H D I h;exact wpAny_Expr_any (aW (he pins s σ H _ I h) λv s1 ⟨x,H1,I1,r1,q1⟩=>⟨σ,H1,I1,q1⟩) I.quiet hs
def ah3(te:TE):TS:=λD σ H=>te σ H D.rt
def bf(he:PE X e te):PS X (.Return (some e) pos) (ah3 te):=by
 intro pins s σ H D I h;exact wpAny_Return_some (aW (he pins s σ H _ I h) λv s1 ⟨x,H1,I1,r1,q1⟩=>⟨x,σ,H1,I1,r1,q1⟩)
def apy(c:TT)(t u:TS):TS:=λD σ H=>c σ H λb H1=>if b=true then t D σ H1 else u D σ H1
def eY{c:Expr}{a b:List Stmt}{tc:TT}(hc:PT X c tc)(ha:jK X a t)(hb:jK X b u):PS X (.If c a b pos) (apy tc t u):=by
 intro pins s σ H D I h;refine wpAny_If (aW (hc pins s σ H _ I h) λd s1 ⟨H1,I1,q1⟩=>?_);cases d with
 |true=>exact ha pins s1 σ H1 D I1 q1
 |false=>exact hb pins s1 σ H1 D I1 q1
def amO:TS:=λ_ _ _=>False
def IV:PS X st amO:=λ_ _ _ _ _ _ h=>h.elim
end
abbrev TG:=V->St->Hp->(St->Hp->Prop)->Prop
abbrev sE:=List V->St->Hp->(St->Hp->Prop)->Prop
def PG(X:Cx)(target:Expr)(t:TG):Prop:=
 ∀(pins:List (Addr×Obj)) (s:Shared) (σ:St) (H:Hp) (v:V) (u:Value) (Q:St->Hp->Prop),Inv X pins σ H s->RelV v u->t v σ H Q->
  wpAny (model X.prog X.w) X.A (assign target X.env u) (λ_ s'=>∃σ' H',Inv X pins σ' H' s'/\Q σ' H') X.xe s
def zu(X:Cx)(ts:List Expr)(t:sE):Prop:=
 ∀(pins:List (Addr×Obj)) (s:Shared) (σ:St) (H:Hp) (vs:List V) (us:List Value) (Q:St->Hp->Prop),Inv X pins σ H s->Vals vs us->t vs σ H Q->
  wpAny (model X.prog X.w) X.A (assignInOrder ((assignEach ts X.env).map (·.2)) us) (λ_ s'=>∃σ' H',Inv X pins σ' H' s'/\Q σ' H') X.xe s
abbrev M8:=V->V->V->Hp->(Hp->Prop)->Prop
def aa9(X:Cx)(t:M8):Prop:=
 ∀(pins:List (Addr×Obj)) (s:Shared) (σ:St) (H:Hp) (o i v:V) (ov iv u:Value) (Q:Hp->Prop),Inv X pins σ H s->RelV o ov->RelV i iv->RelV v u->t o i v H Q->
  wpAny (model X.prog X.w) X.A (setItem ov iv u) (λ_ s'=>∃H',Inv X pins σ H' s'/\Q H') X.xe s
section
variable {X:Cx} {pos:Pos}
def iD(i:Nat):TG:=λv σ H Q=>Q (σ.set i (some v)) H
def Iz{i:Nat}{x:Str}(hN:X.N.Nodup)(hi:X.N[i]?=some x)(hx:Loc X.env.scope x)(hf:X.fn x=true∨X.env.scope.names.lookup x=some .local:=by first|exact .inl rfl|exact .inr rfl|assumption):PG X (.Name x pos) (iD i):=by
 intro pins s σ H v u Q I r h;exact wpAny_assign_Name (Bh I hN hi hx r (λs' I'=>⟨_,H,I',h⟩) hf)
def ac1:sE:=λvs σ H Q=>vs=[]/\Q σ H
inductive as6(t:TG)(u:sE)(vs:List V)(σ:St)(H:Hp)(Q:St->Hp->Prop):Prop|mk (v:V) (r:List V) (h:vs=v::r) (q:t v σ H λσ' H'=>u r σ' H' Q)
def Pb(t:TG)(u:sE):sE:=λvs σ H Q=>as6 t u vs σ H Q
def Dz:zu X [] ac1:=by
 intro pins s σ H vs us Q I r h;obtain⟨e,h⟩:=h;subst e;cases r;exact assignInOrder_nil ⟨σ,H,I,h⟩
def rR{e:Expr}{es:List Expr}{t:TG}{u:sE}(h1:PG X e t)(h2:zu X es u)
  (hs:(assignEach (e::es) X.env).map (·.2)=assign e X.env::(assignEach es X.env).map (·.2):=by rfl):zu X (e::es) (Pb t u):=by
 intro pins s σ H vs us Q I r h;obtain⟨v,vr,e1,h⟩:=h;subst e1;cases r with
 |cons r rr=>
  rw[hs];refine assignInOrder_cons (aW (h1 pins s σ H _ _ _ I r h) λ_ s1 ⟨σ1,H1,I1,q1⟩=>?_);exact h2 pins s1 σ1 H1 _ _ Q I1 rr q1
def QS(K:aF)(n:Nat)(t:sE):TG:=λv σ H Q=>∃a xs,v = .ref a/\aA K H a xs/\xs.length=n/\t xs σ H Q
def ayB{es:List Expr}{k:Nat}{t:sE}{n:Nat}(hc:X.calm=true)(h:zu X es t)
  (hn:(assignEach es X.env).length=n:=by rfl) (hst:(assignEach es X.env).findIdx? (·.1)=none:=by rfl):PG X (.Tuple es k pos) (QS X.K n t):=by
 intro pins s σ H v u Q I r hw;obtain⟨a,xs,e1,hq,hl,hw⟩:=hw;subst e1;cases r;obtain⟨its,rv,ht,hz⟩:=I.tuple hq;refine assign_Tuple_tuple (I.ok.hd hc) ht (by simp[hn,<-hl,rv.length]) hst λh' hx=>?_;have I1:Inv X pins σ H { s with heap:=h' }:=I.kept (t':=s.toks) λb o e=>hx b o (jJ (cW e)) e;exact h pins _ σ H xs _ Q I1 (by simpa using rv) hw
def avp(to ti:TE)(t:M8):TG:=λv σ H Q=>to σ H λo H1=>ti σ H1 λi H2=>t o i v H2 λH3=>Q σ H3
def uP{o i:Expr}{to ti:TE}{t:M8}(ho:PE X o to)(hi:PE X i ti)(hs:aa9 X t)
  (ha:∀v,assign (.Subscript o i pos) X.env v=(do
   let ov<-holding [v] (eval o X.env)
   let iv<-holding [v,ov] (eval i X.env)
   standAt pos
   holding [v,ov,iv] (setItem ov iv v)
   release [v,ov,iv] []):=by intro _;rfl):PG X (.Subscript o i pos) (avp to ti t):=by
 intro pins s σ H v u Q I r h;rw[ha];refine wpAny_bind (wpAny_holding (aW (ho pins s σ H _ I h) λov s1 ⟨x,H1,I1,r1,q1⟩=>?_));refine wpAny_bind (wpAny_holding (aW (hi pins s1 σ H1 _ I1 q1) λiv s2 ⟨y,H2,I2,r2,q2⟩=>?_));refine wpAny_bind (wpAny_standAt (wpAny_bind (wpAny_holding (aW (hs pins s2 σ H2 x y v ov iv u _ I2 r1 r2 r q2) λ_ s3 ⟨H3,I3,q3⟩=>?_))));exact wpAny_release ⟨σ,H3,I3,q3⟩
def Gi(te:TE)(g:TG):TS:=λD σ H=>te σ H λx H1=>g x σ H1 D.nx
def v8{tg e:Expr}{te:TE}{g:TG}(he:PE X e te)(hg:PG X tg g)(hs:swapsWithSole [tg] e pos.line X.env=pure false:=by rfl)(hw:swappedStores [tg] e X.env=pure none:=by rfl)
  (h1:(assignEach [tg] X.env).map (·.2)=[assign tg X.env]:=by rfl):PS X (.Assign [tg] e pos) (Gi te g):=by
 intro pins s σ H D I h;refine wpAny_Assign_stores (aW (he pins s σ H _ I h) λv s1 ⟨x,H1,I1,r1,q1⟩=>?_) hs hw;rw[h1];exact aW (hg pins s1 σ H1 x v _ I1 r1 q1) λ_ s2 q=>q
def gM{i:Nat}{x:Str}{e:Expr}{te:TE}{pos':Pos}(hN:X.N.Nodup)(hi:X.N[i]?=some x)(hx:Loc X.env.scope x)(he:PE X e te)(hs:swapsWith e (some (.Name x pos')) pos.line X.env=pure false:=by rfl)(hf:X.fn x=true∨X.env.scope.names.lookup x=some .local:=by first|exact .inl rfl|exact .inr rfl|assumption):
  PS X (.Assign [.Name x pos'] e pos) (Gi te (iD i)):=by
 intro pins s σ H D I h;refine wpAny_Assign_Name (aW (he pins s σ H _ I h) λv s1 ⟨y,H1,I1,r1,q1⟩=>?_) hs;exact Bh I1 hN hi hx r1 (λs2 I2=>⟨_,H1,I2,q1⟩) hf
def anM(i j:Nat)(ta:TA):TS:=λD σ H=>ta σ H λvs H1=>∃v w,vs=[v,w]/\D.nx ((σ.set i (some v)).set j (some w)) H1
def alJ{i j:Nat}{x y:Str}{a b:Expr}{ta:TA}{px py pt:Pos}{kt k2 U4}(hc:X.calm=true)(hN:X.N.Nodup)(hi:X.N[i]?=some x)(hj:X.N[j]?=some y)(hij:i≠j)
  (hx:X.env.scope.names.lookup x=some .local) (hy:X.env.scope.names.lookup y=some .local) (ha:PA X [a,b] ta)
  (hw:swappedStores [.Tuple [.Name x px,.Name y py] kt pt] (.Tuple [a,b] k2 U4) X.env=pure (some [x,y]))
  (hs:swapsWithSole [.Tuple [.Name x px,.Name y py] kt pt] (.Tuple [a,b] k2 U4) pos.line X.env=pure false:=by rfl):
  PS X (.Assign [.Tuple [.Name x px,.Name y py] kt pt] (.Tuple [a,b] k2 U4) pos) (anM i j ta):=by
 intro pins s σ H D I h;rw[exec_Assign_arm];refine wpAny_bind (wpAny_standAt ?_);rw[hs];refine wpAny_bind (wpAny_pure ?_);rw[if_neg ∅];refine wpAny_bind (Tuple_ (aW (ha _ pins s σ H _ I h) λus s1 ⟨vs,H1,I1,r1,q1⟩=>?_));obtain⟨v,w,e1,q1⟩:=q1;subst e1;obtain⟨u1,u2,rfl,rv,nH⟩:∃u1 u2,us=[u1,u2]/\RelV v u1/\RelV w u2:=by
  cases r1 with
  |cons p q=>
   cases q with
   |cons p' q'=>
    cases q';exact⟨_,_,rfl,p,p'⟩
 refine wpAny_newObj_type ?_ (by show 2<=sizeLine;decide);have I2:Inv X pins σ H1 { s1 with heap:=s1.heap.push { cls:= .type "tuple",data:= .seq [u1,u2].toArray } }:=I1.kept (t':=s1.toks) λb o e=>Heap.get?_push_of_some _ e;rw[hw];refine wpAny_bind (wpAny_pure ?_);show wpAny (model X.prog X.w) X.A (do rule "assign.swapped-stores";let items<-unpackItems (.ref s1.heap.objs.size) 2 none;assignInOrder [λv=>bindName X.env y v,λv=>bindName X.env x v] items.reverse;pure Flow.next) _ _ _
 refine wpAny_bind (wpAny_rule (wpAny_bind (unpackItems_tuple (items:=#[u1,u2]) (I.ok.hd hc) (IsTup.new s1.heap _) λh' hx'=>?_)));have I3:=I2.kept (h':=h') (t':=s1.toks) λb o e=>hx' b o (jJ (cW e)) e;show wpAny _ _ (assignInOrder [λv=>bindName X.env y v,λv=>bindName X.env x v] [u2,u1]>>=λ_=>pure Flow.next) _ _ _;refine wpAny_bind (assignInOrder_cons (wpAny_bindName (Bh I3 hN hj (.inl hy) nH (λs2 I4=>?_) (.inr hy))));refine assignInOrder_cons (wpAny_bindName (Bh I4 hN hi (.inl hx) rv (λs3 I5=>assignInOrder_nil (wpAny_pure ?_)) (.inr hx)));rw[List.set_comm _ _ (dG hij)]at I5;exact⟨_,H1,I5,q1⟩
end
section
variable {X:Cx} {pos:Pos}
def asF(c:TT)(tb:TS):TS:=λD σ H=>∃W:Nat->St->Hp->Prop,(∃m,W m σ H)/\∀m σ H,W m σ H->
 c σ H λb H1=>if b=true then ∃N:St->Hp->Prop,(∀σ' H',N σ' H'->∃m',m'<m/\W m' σ' H')/\tb { D with nx:=N,ct:=N,bk:=D.nx } σ H1 else D.nx σ H1
def oX{c:Expr}{body:List Stmt}{tc:TT}{tb:TS}(hp:PassesOwn (model X.prog X.w) X.A X.env X.xe)(hc:PT X c tc)(hb:jK X body tb):PS X (.While c body [] pos) (asF tc tb):=by
 intro pins s σ H D I h;obtain⟨W,⟨m0,w0⟩,turn⟩:=h;refine wpAny_While (codeAny_whileLoop (λn s'=>∃σ' H',Inv X pins σ' H' s'/\W n σ' H') ?_ m0 ⟨σ,H,I,w0⟩);rintro n s1 ⟨σ1,H1,I1,w1⟩;refine wpAny_passesOwn hp (aW (hc pins s1 σ1 H1 _ I1 (turn n σ1 H1 w1)) λb s2 ⟨H2,I2,q2⟩=>?_);cases b with
 |true=>
  obtain⟨N,hN,q2⟩:=q2;rw[if_pos rfl];refine wpAny_passesOwn hp (aW (hb pins s2 σ1 H2 _ I2 q2) λf s3 q3=>?_);cases f with
  |next=>
   obtain⟨σ3,H3,I3,n3⟩:=q3;obtain⟨m',hm,w3⟩:=hN σ3 H3 n3;exact⟨m',hm,σ3,H3,I3,w3⟩
  |cont=>
   obtain⟨σ3,H3,I3,n3⟩:=q3;obtain⟨m',hm,w3⟩:=hN σ3 H3 n3;exact⟨m',hm,σ3,H3,I3,w3⟩
  |brk=>exact q3
  |ret v=>exact q3
 |false=>
  rw[if_neg f9];exact wpAny_execs_nil ⟨σ1,H2,I2,q2⟩
end
structure It where
 go:Nat->Hp->Prop
 jM:Nat->Hp->V->Hp->Prop
 stop:Nat->Hp->Prop
def oK(X:Cx)(pins:List (Addr×Obj))(H:Hp)(b:Addr):Prop:=
 H b=none/\b≠X.env.locals/\b∉X.fs/\(b∈X.ex∨X.s₀.heap.objs.size<=b)/\(∀x c,X.env.cells.lookup x=some c->c≠b)/\∀p∈X.pn++pins,p.1≠b
def Inv.pN{X:Cx}{pins:List (Addr×Obj)}{σ:St}{H H':Hp}{s:Shared}{b:Addr}(I:Inv X pins σ H s)(hb:s.heap.objs.size<=b)(hn:H' b=none):oK X pins H' b:=by
 refine⟨hn,KW (jm I.lt hb),I.axY hb,.inr (fX I.sz hb),λx c e z=>?_,λp hp z=>?_⟩
 .obtain⟨v,q⟩:=I.cell x c e;exact absurd (jm q.lt (by rw[z];exact hb)) (lE _)
 .exact absurd (jm (cW (I.pin p hp).1) (by rw[z];exact hb)) (lE _)
structure Turn(P:Program)(w:World)(K:aF)(tg:Expr)(J:It)(fp:List Addr)(it:Addr)(tn:Nat->Heap->Prop):Prop where
 mem:it∈fp
 obj:∀i h,tn i h->∀b∈fp,∃o,h.get? b=some o/\∀v,o.data≠ .cell v
 keep:∀i h h',tn i h->(∀b∈fp,∀o,h.get? b=some o->h'.get? b=some o)->tn i h'
 item:∀(X:Cx),X.prog=P->X.w=w->X.K=K->X.calm=true->∀(i:Nat) (pins:List (Addr×Obj)) (s:Shared) (σ:St) (H:Hp) (E:Value->Shared->Prop),Inv X pins σ H s->(∀b∈fp,oK X pins H b)->tn i s.heap->J.go i H->
  wpAny (model P w) X.A (pyNext (.ref it)) (λr s1=>∃u,r=some u/\
   wpAny (model P w) X.A (letOwnedTupleGo tg (.ref it) u) (λ_ s2=>∃x H',Inv X pins σ H' s2/\RelV x u/\J.jM i H x H'/\tn (i+1) s2.heap/\∀b∈fp,H' b=none) E s1) E s
 done:∀(X:Cx),X.prog=P->X.w=w->X.K=K->X.calm=true->∀(i:Nat) (pins:List (Addr×Obj)) (s:Shared) (σ:St) (H:Hp) (E:Value->Shared->Prop),Inv X pins σ H s->(∀b∈fp,oK X pins H b)->tn i s.heap->J.stop i H->
  wpAny (model P w) X.A (pyNext (.ref it)) (λr s1=>r=none/\Inv X pins σ H s1) E s
 self:∀(A:Around) (i:Nat) (s:Shared) (Q:Value->Shared->Prop) (E:Value->Shared->Prop),tn i s.heap->Q (.ref it) s->wpAny (model P w) A (pyIter (.ref it)) Q E s
abbrev TI:=St->Hp->(It->Hp->Prop)->Prop
def RG(X:Cx)(pins:List (Addr×Obj))(σ:St)(tg:Expr)(R:It->Hp->Prop)(itv:Value)(s2:Shared):Prop:=
 ∃(it:Addr) (fp:List Addr) (tn:Nat->Heap->Prop) (J:It) (H':Hp),itv = .ref it/\Inv X pins σ H' s2/\Turn X.prog X.w X.K tg J fp it tn/\tn 0 s2.heap/\(∀b∈fp,oK X pins H' b)/\R J H'
def PI(X:Cx)(tg iter:Expr)(wi:TI):Prop:=
 ∀(pins:List (Addr×Obj)) (s:Shared) (σ:St) (H:Hp) (R:It->Hp->Prop),Inv X pins σ H s->wi σ H R->
  wpAny (model X.prog X.w) X.A (eval iter X.env) (λv s1=>wpAny (model X.prog X.w) X.A (pyIter v) (RG X pins σ tg R) X.xe s1) X.xe s
def zW{M:Model}{A:Around}{E:Value->Shared->Prop}{s:Shared}{tg:Expr}{it:Addr}{u:Value}{o:Obj}{n:String}{vs:Array Value}{Q:Unit->Shared->Prop}(ho:s.heap.get? it=some o)(hc:o.cls = .type n)(hd:o.data = .fields vs)
  (hn:["enumerate","zip","dict_itemiterator","dict_reverseitemiterator","odict_iterator","itertools.zip_longest","itertools.pairwise"].contains n=false) (hQ:Q () s):wpAny M A (letOwnedTupleGo tg (.ref it) u) Q E s:=by
 unfold letOwnedTupleGo;cases tg<;>first
  |exact wpAny_pure hQ
  |(cases u<;>first
    |exact wpAny_pure hQ
    |(refine wpAny_bind (wpAny_load ho ?_);rw[hc,hd];show wpAny M A (if(["enumerate","zip","dict_itemiterator","dict_reverseitemiterator","odict_iterator","itertools.zip_longest","itertools.pairwise"].contains n&&vs[0]?==some (rawInt _))=true then _ else _) Q E s;rw[if_neg (by intro h;rw[hn,Bool.false_and]at h;cases h)];exact wpAny_pure hQ))
def nY(K:aF)(a:Addr):It:=
 ⟨λi H=>∃xs x,au K H a xs/\xs[i]?=some x,λi H x H'=>H'=H/\∀xs,au K H a xs->xs[i]?=some x,λi H=>∃xs,au K H a xs/\xs.length<=i⟩
def IK(K:aF)(a:Addr):It:=
 ⟨λi H=>∃xs x,aA K H a xs/\xs[i]?=some x,λi H x H'=>H'=H/\∀xs,aA K H a xs->xs[i]?=some x,λi H=>∃xs,aA K H a xs/\xs.length<=i⟩
def mZ(lo:Int)(n:Nat):It:=⟨λi _=>i<n,λi H x H'=>H'=H/\x = .int (lo+i),λi _=>n<=i⟩
def awa{P:Program}{w:World}{K:aF}{tg:Expr}(a it:Addr):Turn P w K tg (nY K a) [it] it (λi h=>h.IsListIter it a i) where
 mem:=by simp
 obj:=λi h st b hb=>by
  have e:b=it:=by simpa using hb
  subst e;obtain⟨o,e,c,d⟩:=st;exact⟨o,e,λv z=>by rw[d]at z;cases z⟩
 keep:=λi h h' st k=>st.at λo e=>k it (by simp) o e
 item:=by
  intro X hP hw hK hc i pins s σ H E I hf st hg;subst hP hw hK;obtain⟨xs,x,hq,hx⟩:=hg;obtain⟨its,rv,p,hz⟩:=I.list hq;obtain⟨u,hu,ru⟩:=rv.get hx;obtain⟨f0,f1,f2,f3,f4,f5⟩:=hf it (by simp);refine wpAny_pyNext_list_item st p.isList (x:=u) (by simpa using hu) λh' st' sb=>?_;have I1:Inv X pins σ H { s with heap:=h' }:=I.turned (t':=s.toks) (λb o hb e=>(sb.2 b hb).trans e) f0 f1 f3 f4 f5;obtain⟨o,e,c,d⟩:=id st';exact⟨u,rfl,zW (s:={ s with heap:=h' }) e c d ∅ ⟨x,H,I1,ru,⟨rfl,λys hy=>by rw[I.RL hy hq];exact hx⟩,st',λb hb=>(hf b hb).1⟩⟩
 done:=by
  intro X hP hw hK hc i pins s σ H E I hf st hg;subst hP hw hK;obtain⟨xs,hq,hx⟩:=hg;obtain⟨its,rv,p,hz⟩:=I.list hq;obtain⟨f0,f1,f2,f3,f4,f5⟩:=hf it (by simp);have hl:=rv.length;exact wpAny_pyNext_list_end (I.ok.hd hc) st p.isList (by simp;omega) λh' eb=>⟨rfl,I.turned (t':=s.toks) (λb o hb e=>eb b o hb e) f0 f1 f3 f4 f5⟩
 self:=λ_ _ _ _ _ st h=>wpAny_pyIter_listiter st h
def ayC{P:Program}{w:World}{K:aF}{tg:Expr}(a it:Addr):Turn P w K tg (IK K a) [it] it (λi h=>h.IsTupleIter it a i) where
 mem:=by simp
 obj:=λi h st b hb=>by
  have e:b=it:=by simpa using hb
  subst e;obtain⟨o,e,c,d⟩:=st;exact⟨o,e,λv z=>by rw[d]at z;cases z⟩
 keep:=λi h h' st k=>st.at λo e=>k it (by simp) o e
 item:=by
  intro X hP hw hK hc i pins s σ H E I hf st hg;subst hP hw hK;obtain⟨xs,x,hq,hx⟩:=hg;obtain⟨its,rv,p,hz⟩:=I.tuple hq;obtain⟨u,hu,ru⟩:=rv.get hx;obtain⟨f0,f1,f2,f3,f4,f5⟩:=hf it (by simp);refine wpAny_pyNext_tuple_item st (show s.heap.IsTuple a its.toArray from p) (x:=u) (by simpa using hu) λh' st' sb=>?_;have I1:Inv X pins σ H { s with heap:=h' }:=I.turned (t':=s.toks) (λb o hb e=>(sb.2 b hb).trans e) f0 f1 f3 f4 f5;obtain⟨o,e,c,d⟩:=id st';exact⟨u,rfl,zW (s:={ s with heap:=h' }) e c d ∅ ⟨x,H,I1,ru,⟨rfl,λys hy=>by rw[I.Ww hy hq];exact hx⟩,st',λb hb=>(hf b hb).1⟩⟩
 done:=by
  intro X hP hw hK hc i pins s σ H E I hf st hg;subst hP hw hK;obtain⟨xs,hq,hx⟩:=hg;obtain⟨its,rv,p,hz⟩:=I.tuple hq;obtain⟨f0,f1,f2,f3,f4,f5⟩:=hf it (by simp);have hl:=rv.length;exact wpAny_pyNext_tuple_end (I.ok.hd hc) st (show s.heap.IsTuple a its.toArray from p) (by simp;omega) λh' eb=>⟨rfl,I.turned (t':=s.toks) (λb o hb e=>eb b o hb e) f0 f1 f3 f4 f5⟩
 self:=λ_ _ _ _ _ st h=>wpAny_pyIter_tupleiter st h
def avc{P:Program}{w:World}{K:aF}{tg:Expr}(it:Addr)(lo:Int)(n:Nat):Turn P w K tg (mZ lo n) [it] it (λi h=>IsRangeIter h it (lo+(i:Nat)*1) ((n:Int)-(i:Nat)) 1) where
 mem:=by simp
 obj:=λi h st b hb=>by
  have e:b=it:=by simpa using hb
  subst e;exact⟨_,st,λv z=>by
   have z':Data.fields _=Data.cell v:=z;cases z'⟩
 keep:=λi h h' st k=>k it (by simp) _ st
 item:=by
  intro X hP hw hK hc i pins s σ H E I hf st hg;subst hP hw hK;obtain⟨f0,f1,f2,f3,f4,f5⟩:=hf it (by simp);have W:=Walks.range (prog:=X.prog) (w:=X.w) (I.ok.hd hc) it lo 1 n;refine W.item i s _ _ hg st λv h' tk hv st' kk=>?_;obtain⟨t,rfl⟩:=hv;have I1:Inv X pins σ H { s with heap:=h',toks:=tk }:=I.turned (λb o hb e=>kk b o (by simpa using hb) e) f0 f1 f3 f4 f5;refine⟨_,rfl,zW (s:={ s with heap:=h',toks:=tk }) (n:= "range_iterator") st' rfl rfl ∅ ⟨.int (lo+i),H,I1,⟨t,?_⟩,⟨rfl,rfl⟩,st',λb hb=>(hf b hb).1⟩⟩;rw[ju]
 done:=by
  intro X hP hw hK hc i pins s σ H E I hf st hg;subst hP hw hK;obtain⟨f0,f1,f2,f3,f4,f5⟩:=hf it (by simp);exact wpAny_pyNext_range_end (I.ok.hd hc) st (by have:n<=i:=hg;omega) λh' eb=>⟨rfl,I.turned (t':=s.toks) (λb o hb e=>eb b o hb e) f0 f1 f3 f4 f5⟩
 self:=λ_ _ _ _ _ st h=>wpAny_pyIter_rangeiter st h
section
variable {X:Cx} {tg:Expr}
def ai3(K:aF)(tl:TE):TI:=λσ H R=>tl σ H λx H1=>∃a,x = .ref a/\(∃xs,au K H1 a xs)/\R (nY K a) H1
def Xp{pins:List (Addr×Obj)}{σ:St}{H:Hp}{s:Shared}{R:It->Hp->Prop}{E:Value->Shared->Prop}{lo hi:Int}{t u v:Tok}{tk:Nat}(I:Inv X pins σ H s)(h1:-(2^62)<=lo)(h2:lo<2^62)(h3:-(2^62)<=hi)(h4:hi<2^62)
  (q:R (mZ lo (hi-lo).toNat) H):wpAny (model X.prog X.w) X.A (pyIter (.ref s.heap.objs.size)) (RG X pins σ tg R) E { s with heap:=s.heap.push { cls:= .type "range",data:= .fields #[.int lo t,.int hi u,.int 1 v] },toks:=tk }:=by
 refine wpAny_pyIter_range (IsRange.new ..) (small_one h1 h2 h3 h4) ?_;have I1:Inv X pins σ H { s with heap:=s.heap.push { cls:= .type "range",data:= .fields #[.int lo t,.int hi u,.int 1 v] },toks:=tk }:=I.kept λb o e=>Heap.get?_push_of_some _ e;refine⟨(s.heap.push { cls:= .type "range",data:= .fields #[.int lo t,.int hi u,.int 1 v] }).objs.size,[(s.heap.push { cls:= .type "range",data:= .fields #[.int lo t,.int hi u,.int 1 v] }).objs.size],_,_,H,rfl,
  I1.kept (t':=tk) λb o e=>Heap.get?_push_of_some _ e,avc _ lo (hi-lo).toNat,?_,λb hb=>?_,q⟩
 .have e1:lo+((0:Nat):Int)*1=lo:=by simp
  have e2:(((hi-lo).toNat:Nat):Int)-((0:Nat):Int)=Builtin.Range.rangeSize lo hi 1:=by rw[rangeSize_one];split<;>omega
  show IsRangeIter _ _ (lo+((0:Nat):Int)*1) ((((hi-lo).toNat:Nat):Int)-((0:Nat):Int)) 1;rw[e1,e2];exact Heap.get?_push_size _ rfl
 .have e:b=(s.heap.push { cls:= .type "range",data:= .fields #[.int lo t,.int hi u,.int 1 v] }).objs.size:=by simpa using hb
  subst e;exact I1.pN (aN _) (I1.hok.fresh (aN _))
inductive anC(vs:List V)(H:Hp)(R:It->Hp->Prop):Prop|mk (j:Int) (h:vs=[.int j]) (h1:-(2^62)<=j) (h2:j<2^62) (q:R (mZ 0 j.toNat) H)
def ard(ta:TA):TI:=λσ H R=>ta σ H λvs H1=>anC vs H1 R
def au7(ta:TA):TI:=λσ H R=>ta σ H λvs H1=>∃i j:Int,vs=[.int i,.int j]/\(-(2^62)<=i/\i<2^62/\-(2^62)<=j/\j<2^62)/\R (mZ i (j-i).toNat) H1
def iC{a:Expr}{ta:TA}{p pos:Pos}(hg:Gl X "range")(hm:X.mg "range" = none)(ha:PA X [a] ta)(hs:starEach [a] X.env=[(false,eval a X.env)]:=by rfl):PI X tg (.Call (.Name "range" p) [a] [] pos) (ard ta):=by
 intro pins s σ H R I h;refine Call_ (ux I hg hm boot_range (uJ (aW (ha pos pins s σ H _ I h) λus s1 ⟨vs,H1,I1,r1,q1⟩=>?_) hs rfl));obtain⟨j,e,q1,q2,q⟩:=q1;subst e;cases r1 with
 |cons r rr=>
  cases rr;obtain⟨t,rfl⟩:=r;exact call_range_1 (Xp I1 ⋯ ⋯ q1 q2 (by simpa using q))
def af7{a b:Expr}{ta:TA}{p pos:Pos}(hg:Gl X "range")(hm:X.mg "range" = none)(ha:PA X [a,b] ta)(hs:starEach [a,b] X.env=[(false,eval a X.env),(false,eval b X.env)]:=by rfl)(hs2:starEach [b] X.env=[(false,eval b X.env)]:=by rfl):
  PI X tg (.Call (.Name "range" p) [a,b] [] pos) (au7 ta):=by
 intro pins s σ H R I h;refine Call_ (ux I hg hm boot_range (uJ (aW (ha pos pins s σ H _ I h) λus s1 ⟨vs,H1,I1,r1,q1⟩=>?_) (by rw[hs,hs2]) (by rw[hs2];rfl)));obtain⟨i,j,e,⟨q1,q2,q3,q4⟩,q⟩:=q1;subst e;cases r1 with
 |cons r rr=>
  cases rr with
  |cons r' rr=>
   cases rr;obtain⟨t,rfl⟩:=r;obtain⟨t',rfl⟩:=r';exact call_range_2 (Xp I1 q1 q2 q3 q4 q)
def asR(wi:TI)(g:TG)(tb:TS):TS:=λD σ H=>wi σ H λJ H1=>∃W:Nat->Nat->St->Hp->Prop,(∃m,W 0 m σ H1)/\∀i m σ H,W i m σ H->
 (J.stop i H/\D.nx σ H)∨(J.go i H/\∃N:St->Hp->Prop,(∀σ' H',N σ' H'->∃m',m'<m/\W (i+1) m' σ' H')/\∀x H',J.jM i H x H'->g x σ H' λσ2 H2=>tb { D with nx:=N,ct:=N,bk:=D.nx } σ2 H2)
def Bw(fp:List Addr)(h:Heap):List (Addr×Obj):=fp.filterMap λb=>(h.get? b).map λo=>(b,o)
def Cd{fp:List Addr}{h:Heap}{b:Addr}{o:Obj}(hb:b∈fp)(e:h.get? b=some o):(b,o)∈Bw fp h:=UQ.mpr ⟨b,hb,by rw[e];rfl⟩
def aua{fp:List Addr}{h:Heap}{p:Addr×Obj}(hp:p∈Bw fp h):p.1∈fp/\h.get? p.1=some p.2:=by
 obtain⟨b,hb,e⟩:=UQ.mp hp;cases q:h.get? b with
 |none=>rw[q]at e;cases e
 |some o=>
  rw[q]at e;have e':(b,o)=p:=rJ e;subst e';exact⟨hb,q⟩
def Inv.pinned{pins:List (Addr×Obj)}{σ:St}{H:Hp}{s:Shared}{fp:List Addr}(I:Inv X pins σ H s)(hf:∀b∈fp,oK X pins H b)(ho:∀b∈fp,∃o,s.heap.get? b=some o/\∀v,o.data≠ .cell v):Inv X (pins++Bw fp s.heap) σ H s:=
 I.adX λp hp=>(fP.mp hp).elim (λz=>I.pin p (nq _ z)) λz=>by
  obtain⟨hb,e⟩:=aua z;obtain⟨f0,f1,f2,_⟩:=hf p.1 hb;obtain⟨o,e',d⟩:=ho p.1 hb;rw[e]at e';cases e';exact⟨e,f0,f1,f2,d⟩
def Inv.Dn{pins pl:List (Addr×Obj)}{σ:St}{H:Hp}{s:Shared}(I:Inv X (pins++pl) σ H s):Inv X pins σ H s:=I.adX λp hp=>I.pin p (nq _ (Gw _ hp))
def gk{iter:Expr}{body:List Stmt}{wi:TI}{g:TG}{tb:TS}{pos:Pos}(hp:PassesOwn (model X.prog X.w) X.A X.env X.xe)(hc:X.calm=true)(hi:PI X tg iter wi)(hg:PG X tg g)(hb:jK X body tb)
  (hs:∀x,foldedSetIterable iter X.env x=pure x:=by intro _;rfl):PS X (.For tg iter body [] pos) (asR wi g tb):=by
 intro pins s σ H D I h;refine wpAny_For (aW (hi pins s σ H _ I h) λv s1 h1=>aW h1 λitv s2 h2=>?_) hs;obtain⟨it,fp,tn,J,H2,e,I2,T,st2,f2,W,⟨m0,w0⟩,turn⟩:=h2;subst e;have stat:∀{H':Hp},(∀b∈fp,H' b=none)->∀b∈fp,oK X pins H' b:=λhn b hb=>⟨hn b hb,(f2 b hb).2⟩;refine codeAny_forLoop_any (λn s'=>∃i σ' H',Inv X pins σ' H' s'/\tn i s'.heap/\(∀b∈fp,H' b=none)/\W i n σ' H') ?_ m0 ⟨0,σ,H2,I2,st2,λb hb=>(f2 b hb).1,w0⟩;rintro n s3 ⟨i,σ3,H3,I3,st3,fr3,w3⟩;rcases turn i n σ3 H3 w3 with⟨stop,qn⟩|⟨go,N,hN,step⟩
 .refine wpAny_passesOwn hp (aW (T.done X rfl rfl rfl hc i pins s3 σ3 H3 X.xe I3 (stat fr3) st3 stop) λr s4 ⟨hr,I4⟩=>?_);subst hr;exact wpAny_execs_nil ⟨σ3,H3,I4,qn⟩
 .refine wpAny_passesOwn hp (aW (T.item X rfl rfl rfl hc i pins s3 σ3 H3 X.xe I3 (stat fr3) st3 go) λr s4 ⟨u,hr,h4⟩=>?_);subst hr;refine wpAny_passesOwn hp (aW h4 λ_ s5 ⟨x,H5,I5,r5,y5,yE,Kl⟩=>?_);have I5':=I5.pinned (stat Kl) (T.obj _ _ yE);refine wpAny_passesOwn hp (aW (hg _ s5 σ3 H5 x u _ I5' r5 (step x H5 y5)) λ_ s6 ⟨σ6,H6,I6,q6⟩=>?_);refine wpAny_passesOwn hp (aW (hb _ s6 σ6 H6 _ I6 q6) λf s7 q7=>?_);have again:∀{σ7:St} {H7:Hp},Inv X (pins++Bw fp s5.heap) σ7 H7 s7->N σ7 H7->∃m,m<n/\∃i σ' H',Inv X pins σ' H' s7/\tn i s7.heap/\(∀b∈fp,H' b=none)/\W i m σ' H':=λ{σ7 H7} I7 n7=>by
   obtain⟨m',hm,w7⟩:=hN σ7 H7 n7;refine⟨m',hm,i+1,σ7,H7,I7.Dn,T.keep _ _ _ yE λb hb o e=>(I7.pin (b,o) (nq _ (nq _ (Cd hb e)))).1,λb hb=>?_,w7⟩;obtain⟨o,e,d⟩:=T.obj _ _ yE b hb;exact(I7.pin (b,o) (nq _ (nq _ (Cd hb e)))).2.1
  cases f with
  |next=>obtain⟨σ7,H7,I7,n7⟩:=q7;exact again I7 n7
  |cont=>obtain⟨σ7,H7,I7,n7⟩:=q7;exact again I7 n7
  |brk=>obtain⟨σ7,H7,I7,q7⟩:=q7;exact⟨σ7,H7,I7.Dn,q7⟩
  |ret v=>obtain⟨x7,σ7,H7,I7,r7,q7⟩:=q7;exact⟨x7,σ7,H7,I7.Dn,r7,q7⟩
end
def lG{lo:Int}{n:Nat}{g:TG}{tb:TS}{D:Ends}{σ:St}{H:Hp}(Pv:Nat->St->Hp->Prop)(h0:Pv 0 σ H)
  (hs:∀i σ H,i<n->Pv i σ H->g (.int (lo+i)) σ H λσ2 H2=>tb { D with nx:=Pv (i+1),ct:=Pv (i+1),bk:=D.nx } σ2 H2) (hd:∀σ H,Pv n σ H->D.nx σ H):
  ∃W:Nat->Nat->St->Hp->Prop,(∃m,W 0 m σ H)/\∀i m σ H,W i m σ H->
   ((mZ lo n).stop i H/\D.nx σ H)∨((mZ lo n).go i H/\∃N:St->Hp->Prop,(∀σ' H',N σ' H'->∃m',m'<m/\W (i+1) m' σ' H')/\∀x H',(mZ lo n).jM i H x H'->g x σ H' λσ2 H2=>tb { D with nx:=N,ct:=N,bk:=D.nx } σ2 H2):=by
 refine⟨λi m σ H=>m=n-i/\i<=n/\Pv i σ H,⟨n,by simp,cD _,h0⟩,?_⟩;rintro i m σ H ⟨rfl,hi,p⟩;by_cases hlt:i<n
 .refine .inr ⟨hlt,Pv (i+1),λσ' H' p'=>⟨n-(i+1),⋯,rfl,hlt,p'⟩,λx H' y=>?_⟩;obtain⟨e,y⟩:=y;subst e y;exact hs i σ _ hlt p
 .have e:i=n:=⋯;subst e;exact .inl ⟨aN _,hd σ H p⟩
abbrev R2:=V->V->Hp->VK->Prop
def dh(X:Cx)(f:Value->Value->Sem Value)(r:R2):Prop:=
 ∀(pins:List (Addr×Obj)) (s:Shared) (σ:St) (H:Hp) (x y:V) (v u:Value) (Q:VK),Inv X pins σ H s->RelV x v->RelV y u->r x y H Q->
  wpAny (model X.prog X.w) X.A (f v u) (EP X pins σ Q) X.xe s
def OB(X:Cx)(f:Value->Sem Value)(r:V->Hp->VK->Prop):Prop:=
 ∀(pins:List (Addr×Obj)) (s:Shared) (σ:St) (H:Hp) (x:V) (v:Value) (Q:VK),Inv X pins σ H s->RelV x v->r x H Q->
  wpAny (model X.prog X.w) X.A (f v) (EP X pins σ Q) X.xe s
def jU(X:Cx)(f:Value)(r:List V->Hp->VK->Prop):Prop:=
 ∀(pins:List (Addr×Obj)) (s:Shared) (σ:St) (H:Hp) (xs:List V) (us:List Value) (Q:VK),Inv X pins σ H s->Vals xs us->r xs H Q->
  wpAny (model X.prog X.w) X.A (call f us) (EP X pins σ Q) X.xe s
def yq(r:R2)(ta tb:TE):TE:=λσ H Q=>ta σ H λx H1=>tb σ H1 λy H2=>r x y H2 Q
def tUn(r:V->Hp->VK->Prop)(ta:TE):TE:=λσ H Q=>ta σ H λx H1=>r x H1 Q
inductive SII(C:Int->Int->Prop)(g:Int->Int->V)(x y:V)(H:Hp)(Q:VK):Prop|mk (i j:Int) (hx:x = .int i) (hy:y = .int j) (c:C i j) (q:Q (g i j) H)
def rI(C:Int->Int->Prop)(g:Int->Int->V):R2:=λx y H Q=>SII C g x y H Q
inductive SI0(g:Int->Int->V)(x y:V)(H:Hp)(Q:VK):Prop|mk (i j:Int) (hx:x = .int i) (hy:y = .int j) (q:Q (g i j) H)
def vQ(g:Int->Int->V):R2:=λx y H Q=>SI0 g x y H Q
inductive SU(g:Int->V)(x:V)(H:Hp)(Q:VK):Prop|mk (i:Int) (hx:x = .int i) (q:Q (g i) H)
def rU(g:Int->V):V->Hp->VK->Prop:=λx H Q=>SU g x H Q
section
variable {X:Cx} {a b c:Expr} {ta tb tc:TE} {pos:Pos}
def MQ(ha:PE X a ta)(hb:PE X b tb){pins:List (Addr×Obj)}{s:Shared}{σ:St}{H:Hp}{R:V->V->Hp->Prop}(I:Inv X pins σ H s)
  (h:ta σ H λx H1=>tb σ H1 λy H2=>R x y H2) {Q:Value->Shared->Prop} {f:Value->Value->Sem Value}
  (hf:∀v u s2 x y H2,Inv X pins σ H2 s2->RelV x v->RelV y u->R x y H2->wpAny (model X.prog X.w) X.A (f v u) Q X.xe s2):
  wpAny (model X.prog X.w) X.A (eval a X.env) (λv s₁=>wpAny (model X.prog X.w) X.A (eval b X.env) (λu s₂=>wpAny (model X.prog X.w) X.A (f v u) Q X.xe s₂) X.xe s₁) X.xe s:=by
 refine aW (ha pins s σ H _ I h) λv s1 ⟨x,H1,I1,r1,q1⟩=>?_;refine aW (hb pins s1 σ H1 _ I1 q1) λu s2 ⟨y,H2,I2,r2,q2⟩=>?_;exact hf v u s2 x y H2 I2 r1 r2 q2
def aK{op:Operator}{r:R2}(ho:dh X (binaryOp op) r)(ha:PE X a ta)(hb:PE X b tb):PE X (.BinOp a op b pos) (yq r ta tb):=by
 intro pins s σ H Q I h;exact wpAny_BinOp (MQ ha hb I h λv u s2 x y H2 I2 rx ry q=>ho pins s2 σ H2 x y v u Q I2 rx ry q)
def G9{op:UnaryOp}{r:V->Hp->VK->Prop}(ho:OB X (unaryOp op) r)(ha:PE X a ta):PE X (.UnaryOp op a pos) (tUn r ta):=by
 intro pins s σ H Q I h;exact UnaryOp_ (aW (ha pins s σ H _ I h) λv s1 ⟨x,H1,I1,r1,q1⟩=>ho pins s1 σ H1 x v Q I1 r1 q1)
def DN{f:Value->Value->Sem Value}{C:Int->Int->Prop}{g:Int->Int->Int}
  (rule:∀(i j:Int) (t u:Tok) (s:Shared) (Q:Value->Shared->Prop) (E:Value->Shared->Prop),C i j->Q (.int (g i j) s.toks) { s with toks:=s.toks+1 }->wpAny (model X.prog X.w) X.A (f (.int i t) (.int j u)) Q E s):
  dh X f (rI C λi j=> .int (g i j)):=by
 intro pins s σ H x y v u Q I rx ry h;obtain⟨i,j,rfl,rfl,hc,q⟩:=h;obtain⟨t,rfl⟩:=rx;obtain⟨t',rfl⟩:=ry;exact rule i j t t' s _ _ hc ⟨.int (g i j),H,I.tok _,⟨_,rfl⟩,q⟩
def afe{f:Value->Value->Sem Value}{g:Int->Int->Int}
  (rule:∀(i j:Int) (t u:Tok) (s:Shared) (Q:Value->Shared->Prop) (E:Value->Shared->Prop),Q (.int (g i j) s.toks) { s with toks:=s.toks+1 }->wpAny (model X.prog X.w) X.A (f (.int i t) (.int j u)) Q E s):
  dh X f (vQ λi j=> .int (g i j)):=by
 intro pins s σ H x y v u Q I rx ry h;obtain⟨i,j,rfl,rfl,q⟩:=h;obtain⟨t,rfl⟩:=rx;obtain⟨t',rfl⟩:=ry;exact rule i j t t' s _ _ ⟨.int (g i j),H,I.tok _,⟨_,rfl⟩,q⟩
def Ka{f:Value->Value->Sem Value}{g:Int->Int->Bool}
  (rule:∀(i j:Int) (t u:Tok) (s:Shared) (Q:Value->Shared->Prop) (E:Value->Shared->Prop),Q (.bool (g i j)) s->wpAny (model X.prog X.w) X.A (f (.int i t) (.int j u)) Q E s):
  dh X f (vQ λi j=> .bl (g i j)):=by
 intro pins s σ H x y v u Q I rx ry h;obtain⟨i,j,rfl,rfl,q⟩:=h;obtain⟨t,rfl⟩:=rx;obtain⟨t',rfl⟩:=ry;exact rule i j t t' s _ _ ⟨.bl (g i j),H,I,rfl,q⟩
def anp(i j:Int):Prop:=0<j/\j<1073741824
def ayb(i j:Int):Prop:=0<=j/\j<=1000000/\i.natAbs<2^64
def arQ:dh X (binaryOp .Add) (vQ λi j=> .int (i+j)):=afe λ_ _ _ _ _ _ _ q=>add_int q
def dI:dh X (binaryOp .Sub) (vQ λi j=> .int (i-j)):=afe λ_ _ _ _ _ _ _ q=>sub_int q
def AW:dh X (binaryOp .FloorDiv) (rI anp λi j=> .int (i/j)):=DN λi j _ _ _ _ _ hc q=>by
 have h1:(0:Int)<j:=hc.1;have h2:j<1073741824:=hc.2;exact floordiv_int ⋯ (by rw[Vw i ⋯];exact q) (.inl (V2 ⋯))
def jg:dh X (binaryOp .Mod) (rI (λ_ j=>0<j) λi j=> .int (i%j)):=DN λi j _ _ _ _ _ hc q=>by
 have h1:(0:Int)<j:=hc;exact mod_int' ⋯ (by rw[Int.fmod_eq_emod_of_nonneg i ⋯];exact q)
def abR:dh X (binaryOp .Pow) (rI ayb λi j=> .int (i^j.toNat)):=DN λ_ _ _ _ _ _ _ hc q=>pow_int_small hc.1 hc.2.1 hc.2.2 q
def unI{f:Value->Sem Value}{g:Int->Int}
  (rule:∀(i:Int) (t:Tok) (s:Shared) (Q:Value->Shared->Prop) (E:Value->Shared->Prop),Q (.int (g i) s.toks) { s with toks:=s.toks+1 }->wpAny (model X.prog X.w) X.A (f (.int i t)) Q E s):
  OB X f (rU λi=> .int (g i)):=by
 intro pins s σ H x v Q I rx h;obtain⟨i,rfl,q⟩:=h;obtain⟨t,rfl⟩:=rx;exact rule i t s _ _ ⟨.int (g i),H,I.tok _,⟨_,rfl⟩,q⟩
def FN:OB X (unaryOp .USub) (rU λi=> .int (-i)):=unI λ_ _ _ _ _ q=>neg_int q
end
def NK:V->V->Bool
 |.non,.non=>true | .non,.int _=>true | .int _,.non=>true | .non,.bl _=>true | .bl _,.non=>true | .non,.str _=>true | .str _,.non=>true
 |.int _,.int _=>true | .bl _,.bl _=>true | .str _,.str _=>true | .lX _,.lX _=>true
 |.int _,.str _=>true | .str _,.int _=>true | .bl _,.str _=>true | .str _,.bl _=>true
 |_,_=>false
def rEq:R2:=λx y H Q=>NK x y=true/\Q (.bl (decide (x=y))) H
def rNe:R2:=λx y H Q=>NK x y=true/\Q (.bl (!decide (x=y))) H
def Yt{i j:Int}:decide (V.int i=V.int j)=(i==j):=by
 rw[Bu];simp
def abu{i j:Bool}:decide (V.bl i=V.bl j)=(i==j):=by
 rw[Bu];simp
def aeb{i j:Str}:decide (V.str i=V.str j)=(i==j):=by
 rw[Bu];simp
def adw{i j:Array UInt8}:decide (V.lX i=V.lX j)=(i.toList==j.toList):=by
 rw[Bu];cases i;cases j;simp
section
variable {X:Cx} {a b c:Expr} {ta tb tc:TE} {pos:Pos}
def fL{pins:List (Addr×Obj)}{σ:St}{H:Hp}{s:Shared}{Q:VK}{k k':Bool}(I:Inv X pins σ H s)(q:Q (.bl k) H)(e:k=k'):EP X pins σ Q (.bool k') s:=by
 subst e;exact⟨.bl k,H,I,rfl,q⟩
def aqC:dh X (compareOp .Eq) rEq:=by
 intro pins s σ H x y v u Q I rx ry h;obtain⟨hs,q⟩:=h;cases x with
 |non=>
  cases rx;cases y with
  |non=>cases ry;exact ars (fL I q (by simp))
  |bl j=>cases ry;exact avt (fL I q (by simp))
  |int j=>obtain⟨t',rfl⟩:=ry;exact awn (fL I q (by simp))
  |str j=>obtain⟨t',rfl⟩:=ry;exact auT (fL I q (by simp))
  |_=>exact absurd (show false=true from hs) f9
 |bl i=>
  cases rx;cases y with
  |non=>cases ry;exact an8 (fL I q (by simp))
  |bl j=>cases ry;exact eq_bool (fL I q abu)
  |str j=>obtain⟨t',rfl⟩:=ry;exact avl (fL I q (by simp))
  |_=>exact absurd (show false=true from hs) f9
 |int i=>
  obtain⟨t,rfl⟩:=rx;cases y with
  |non=>cases ry;exact aja (fL I q (by simp))
  |int j=>obtain⟨t',rfl⟩:=ry;exact eq_int (fL I q Yt)
  |str j=>obtain⟨t',rfl⟩:=ry;exact al1 (fL I q (by simp))
  |_=>exact absurd (show false=true from hs) f9
 |str i=>
  obtain⟨t,rfl⟩:=rx;cases y with
  |non=>cases ry;exact avR (fL I q (by simp))
  |bl j=>cases ry;exact aqE (fL I q (by simp))
  |int j=>obtain⟨t',rfl⟩:=ry;exact aq0 (fL I q (by simp))
  |str j=>obtain⟨t',rfl⟩:=ry;exact eq_str (fL I q aeb)
  |_=>exact absurd (show false=true from hs) f9
 |lX i=>
  obtain⟨t,rfl⟩:=rx;cases y with
  |lX j=>obtain⟨t',rfl⟩:=ry;exact W.eq_bytes (fL I q adw)
  |_=>exact absurd (show false=true from hs) f9
 |_=>cases y<;>exact absurd (show false=true from hs) f9
def aow:dh X (compareOp .NotEq) rNe:=by
 intro pins s σ H x y v u Q I rx ry h;obtain⟨hs,q⟩:=h;cases x with
 |non=>
  cases rx;cases y with
  |non=>cases ry;exact anS (fL I q (by simp))
  |bl j=>cases ry;exact as5 (fL I q (by simp))
  |int j=>obtain⟨t',rfl⟩:=ry;exact avC (fL I q (by simp))
  |str j=>obtain⟨t',rfl⟩:=ry;exact amR (fL I q (by simp))
  |_=>exact absurd (show false=true from hs) f9
 |bl i=>
  cases rx;cases y with
  |non=>cases ry;exact ahN (fL I q (by simp))
  |bl j=>cases ry;exact ne_bool (fL I q (congrArg not abu))
  |str j=>obtain⟨t',rfl⟩:=ry;exact avy (fL I q (by simp))
  |_=>exact absurd (show false=true from hs) f9
 |int i=>
  obtain⟨t,rfl⟩:=rx;cases y with
  |non=>cases ry;exact aoh (fL I q (by simp))
  |int j=>obtain⟨t',rfl⟩:=ry;exact ne_int (fL I q (congrArg not Yt))
  |str j=>obtain⟨t',rfl⟩:=ry;exact aui (fL I q (by simp))
  |_=>exact absurd (show false=true from hs) f9
 |str i=>
  obtain⟨t,rfl⟩:=rx;cases y with
  |non=>cases ry;exact aiO (fL I q (by simp))
  |bl j=>cases ry;exact ak5 (fL I q (by simp))
  |int j=>obtain⟨t',rfl⟩:=ry;exact ar3 (fL I q (by simp))
  |str j=>obtain⟨t',rfl⟩:=ry;exact ne_str (fL I q (congrArg not aeb))
  |_=>exact absurd (show false=true from hs) f9
 |lX i=>
  obtain⟨t,rfl⟩:=rx;cases y with
  |lX j=>obtain⟨t',rfl⟩:=ry;exact W.ne_bytes (fL I q (congrArg not adw))
  |_=>exact absurd (show false=true from hs) f9
 |_=>cases y<;>exact absurd (show false=true from hs) f9
def Aq:dh X (compareOp .Lt) (vQ λi j=> .bl (decide (i<j))):=Ka λ_ _ _ _ _ _ _ q=>lt_int q
def Nv:dh X (compareOp .LtE) (vQ λi j=> .bl (decide (i<=j))):=Ka λ_ _ _ _ _ _ _ q=>le_int q
def tQ:dh X (compareOp .Gt) (vQ λi j=> .bl (decide (j<i))):=Ka λ_ _ _ _ _ _ _ q=>gt_int q
def axO:dh X (compareOp .GtE) (vQ λi j=> .bl (decide (j<=i))):=Ka λ_ _ _ _ _ _ _ q=>ge_int q
def dh.or{f:Value->Value->Sem Value}{r r':R2}(h:dh X f r)(h':dh X f r'):dh X f (λx y H Q=>r x y H Q∨r' x y H Q):=by
 intro pins s σ H x y v u Q I rx ry q;rcases q with q|q
 .exact h pins s σ H x y v u Q I rx ry q
 .exact h' pins s σ H x y v u Q I rx ry q
def wz(b:Expr){op:CmpOp}(h:op≠ .In:=by decide)(h2:op≠ .NotIn:=by decide):behindInMarks op b=false:=by
 have e1:(op==CmpOp.In)=false:=by cases op<;>first|rfl|exact absurd rfl h
 have e2:(op==CmpOp.NotIn)=false:=by cases op<;>first|rfl|exact absurd rfl h2
 cases b<;>simp[behindInMarks,e1,e2]
def Ai{op:CmpOp}{r:R2}(ho:dh X (compareOp op) r)(ha:PE X a ta)(hb:PE X b tb)(hm:behindInMarks op b=false):PE X (.Compare a [op] [b] pos) (yq r ta tb):=by
 intro pins s σ H Q I h;exact wpAny_Compare1 (MQ ha hb I h λv u s2 x y H2 I2 rx ry q=>ho pins s2 σ H2 x y v u Q I2 rx ry q) hm
inductive av5(x:V)(H:Hp)(Q:Bool->Hp->Prop):Prop|mk (k:Bool) (hx:x = .bl k) (q:Q k H)
def YH(t:TE):TT:=λσ H Q=>t σ H λx H'=>av5 x H' Q
def ahl{op:CmpOp}{r:R2}(ho:dh X (compareOp op) r)(ha:PE X a ta)(hb:PE X b tb)(hm:behindInMarks op b=false):PT X (.Compare a [op] [b] pos) (YH (yq r ta tb)):=by
 intro pins s σ H Q I h;refine wpAny_isTrue_Compare1 (aW (ha pins s σ H _ I h) λv s1 ⟨x,H1,I1,r1,q1⟩=>aW (hb pins s1 σ H1 _ I1 q1) λu s2 ⟨y,H2,I2,r2,q2⟩=>
  aW (ho pins s2 σ H2 x y v u _ I2 r1 r2 q2) λc s3 ⟨z,H3,I3,r3,k,e,q3⟩=>?_) hm
 subst e;cases r3;exact wpAny_truthy_bool ⟨H3,I3,q3⟩
def az0{κ:Type}{kvs:List (κ×V)}{vs:List (κ×Value)}(r:KV kvs vs):(!vs.isEmpty)=!kvs.isEmpty:=by
 cases r<;>rfl
def azF{xs:List V}{its:List Value}(r:Vals xs its):(!its.toArray.isEmpty)=!xs.isEmpty:=by
 cases r<;>simp
def Dy:(sizeLine:Nat)<2^63:=by rw[sizeLine_eq];decide
def aqH:dh X (binaryOp .Add) (λx y H Q=>∃i j,x = .str i/\y = .str j/\i.length+j.length<=sizeLine/\Q (.str (i++j)) H):=by
 intro pins s σ H x y v u Q I rx ry h;obtain⟨i,j,rfl,rfl,hz,q⟩:=h;obtain⟨t,rfl⟩:=rx;obtain⟨t',rfl⟩:=ry;exact add_str (λt' tk=>⟨.str (i++j),H,I.tok _,⟨_,rfl⟩,q⟩) hz
def vals1{x:V}{us:List Value}(r:Vals [x] us):∃u,us=[u]/\RelV x u:=by
 cases r with
 |cons r1 r2=>cases r2;exact⟨_,rfl,r1⟩
def vals2{x y:V}{us:List Value}(r:Vals [x,y] us):∃u w',us=[u,w']/\RelV x u/\RelV y w':=by
 cases r with
 |cons r1 r2=>
  cases r2 with
  |cons r3 r4=>cases r4;exact⟨_,_,rfl,r1,r3⟩
def wQ:jU X (.builtin "abs") (λxs H Q=>∃i,xs=[.int i]/\Q (.int (if i<0 then -i else i)) H):=by
 intro pins s σ H xs us Q I r h;obtain⟨i,rfl,q⟩:=h;obtain⟨u,rfl,t,rfl⟩:=vals1 r;exact call_abs_int λu tk=>⟨.int (if i<0 then -i else i),H,I.tok _,⟨_,rfl⟩,q⟩
def W2(hc:X.calm=true):jU X (.builtin "max") (λxs H Q=>∃i j,xs=[.int i,.int j]/\Q (.int (if j>i then j else i)) H):=by
 intro pins s σ H xs us Q I r h;obtain⟨i,j,rfl,q⟩:=h;obtain⟨u,w',rfl,⟨t,rfl⟩,⟨t',rfl⟩⟩:=vals2 r;refine max_two_ints (I.ok.hd hc) λh' tk k=>⟨_,H,I.kept k,?_,q⟩;by_cases hj:j>i
 .rw[if_pos hj,if_pos hj];exact⟨_,rfl⟩
 .rw[if_neg hj,if_neg hj];exact⟨_,rfl⟩
def arL(K:aF)(x:V)(H:Hp)(n:Nat):Prop:=
 match x with
 |.str y=>y.length<=sizeLine/\n=y.length
 |.lX y=>y.size<=sizeLine/\n=y.size
 |.ref p=>(∃xs,au K H p xs/\n=xs.length)∨∃xs,aA K H p xs/\n=xs.length
 |_=>False
inductive U6(K:aF)(xs:List V)(H:Hp)(Q:VK):Prop|mk (x:V) (n:Nat) (h:xs=[x]) (l:arL K x H n) (q:Q (.int n) H)
def aq5:jU X (.builtin "len") (U6 X.K):=by
 intro pins s σ H xs us Q I r h;obtain⟨x,n,rfl,e,q⟩:=h;obtain⟨u,rfl,rx⟩:=vals1 r;have hl:=Dy;have hs:sizeLine=16777216:=sizeLine_eq;cases x with
 |str y=>
  obtain⟨t,rfl⟩:=rx;obtain⟨hy,e'⟩:y.length<=sizeLine/\n=y.length:=e;subst e';exact len_str ⋯ ⟨.int _,H,I.tok _,⟨_,rfl⟩,q⟩
 |lX y=>
  obtain⟨t,rfl⟩:=rx;obtain⟨hy,e'⟩:y.size<=sizeLine/\n=y.size:=e;subst e';exact W.len_bytes ⋯ ⟨.int _,H,I.tok _,⟨_,rfl⟩,q⟩
 |ref p=>
  cases rx;have e':(∃xs,au X.K H p xs/\n=xs.length)∨∃xs,aA X.K H p xs/\n=xs.length:=e;rcases e' with⟨xs,hx,e'⟩|⟨xs,hx,e'⟩
  .subst e';obtain⟨its,r',pl,hz⟩:=I.list hx;have hlen:=r'.length;exact Calls.call_len_list pl.isList (by simp only[eU];omega) ⟨.int xs.length,H,I.tok _,⟨_,by simp only[eU];rw[hlen]⟩,q⟩
  .subst e';obtain⟨its,r',pl,hz⟩:=I.tuple hx;have hlen:=r'.length;exact len_tuple pl (by simp only[eU];omega) ⟨.int xs.length,H,I.tok _,⟨_,by simp only[eU];rw[hlen]⟩,q⟩
 |_=>exact(show False from e).elim
end
section
variable {prog:Program} {w:World} {A:Around} {E:Value->Shared->Prop} {s:Shared} {K:aF} {x dx C f:Addr} {mA:Str->Option Value} {name:Str} {v:Value}
end
def j7.some_of{v:V}{o:Option Value}(r:j7 (some v) o):∃u,o=some u/\RelV v u:=by
 cases o with
 |none=>exact(show False from r).elim
 |some u=>exact⟨u,rfl,r⟩
def j7.none_of{o:Option Value}(r:j7 none o):o=none:=by
 cases o with
 |none=>rfl
 |some u=>exact(show False from r).elim
section
variable {P:Program} {w:World} {H H':Hp} {h h':Heap} {a C dx:Addr} {fs fs':List (Str×V)}
end
section
variable {X:Cx} {pins:List (Addr×Obj)} {σ:St} {H:Hp} {s:Shared} {a C dx:Addr} {fs:List (Str×V)} {f:Str} {v:V} {A:Around} {E:Value->Shared->Prop}
end
section
variable {X:Cx} {o e value:Expr} {f:Str} {pos pos' tpos:Pos} {ta tv:TE}
end
section
variable {X:Cx} {pins:List (Addr×Obj)} {σ:St} {H:Hp} {s:Shared} {A:Around} {E:Value->Shared->Prop} {Q:Value->Shared->Prop} {c:Value} {b:Bool}
end
structure dY(k:Nat)(A:Around):Prop where
 hd:A.handled=none
 dp:A.depth+3*k+105<recursionLimit
 un:A.units+16*k+200<cLine
def dY.mono{j k:Nat}{A:Around}(r:dY k A)(h:j<=k):dY j A:=⟨r.hd,by have:=r.dp;omega,by have:=r.un;omega⟩
theorem dY.deeper{k:Nat}{A:Around}(r:dY (k+1) A)(env:Env):dY k (A.deeper env):=
 ⟨r.hd,by have:=r.dp;show A.depth+1+3*k+105<_;omega,by have:=r.un;show A.units+3+16*k+200<_;omega⟩
theorem dY.depth{k:Nat}{A:Around}(r:dY k A):A.depth<recursionLimit:=by have:=r.dp;omega
theorem dY.units{k:Nat}{A:Around}(r:dY k A):A.units+64<cLine:=by have:=r.un;omega
def dY.aaV{k:Nat}{A:Around}(r:dY k A):A.units<cLine:=by have:=r.un;omega
def PX:TA:=λ_ H Q=>Q [] H
def tO(ta:TE)(tr:TA):TA:=λσ H Q=>ta σ H λx H1=>tr σ H1 λxs H2=>Q (x::xs) H2
section
variable {X:Cx} {e:Expr} {es:List Expr} {te:TE} {t:TA} {pos:Pos}
def aj:PA X [] PX:=λ_ _ _ _ H Q I h=>Ql ⟨[],H,I,.nil,h⟩
def aL(ha:PE X e te)(hr:PA X es t)(hs:starEach (e::es) X.env=(false,eval e X.env)::starEach es X.env:=by rfl):PA X (e::es) (tO te t):=by
 intro pos pins s σ H Q I h;rw[hs];show wpAny _ _ (spliced ((false,eval e X.env)::backTo pos (starEach es X.env))) _ _ s;refine JT (aW (ha pins s σ H _ I h) λu s1 ⟨x,H1,I1,r1,q1⟩=>?_);exact aW (hr pos pins s1 σ H1 _ I1 q1) λus s2 ⟨xs,H2,I2,r2,q2⟩=>⟨x::xs,H2,I2,.cons r1 r2,q2⟩
inductive VN(xs:List V)(o:HO)(H:Hp)(Q:VK):Prop|mk (hz:xs.length<=sizeLine) (q:∀p,H p=none->Q (.ref p) (upd H p o))
def ayZ(t:TA):TE:=λσ H Q=>t σ H λxs H1=>VN xs (.tup xs) H1 Q
def ahw(t:TA):TE:=λσ H Q=>t σ H λxs H1=>VN xs (.lst xs) H1 Q
def gh{x1}(h:PA X es t):PE X (.Tuple es x1 pos) (ayZ t):=by
 intro pins s σ H Q I hq;refine wpAny_Tuple_spliced (aW (h pos pins s σ H _ I hq) λus s1 ⟨xs,H1,I1,r,z,q⟩=>⟨by rw[<-r.length];exact z,?_⟩);have hf:H1 s1.heap.objs.size=none:=I1.hok.fresh (aN _);refine⟨.ref s1.heap.objs.size,upd H1 s1.heap.objs.size (.tup xs),I1.laid (t':=s1.toks) (λb u e=>Heap.get?_push_of_some _ e) (aN _) ?_,rfl,q _ hf⟩;exact⟨z,us,r,⟨_,Heap.get?_push_size _ rfl,rfl,_,rfl⟩⟩
def gJ(h:PA X es t):PE X (.List es pos) (ahw t):=by
 intro pins s σ H Q I hq;refine wpAny_List_spliced (aW (h pos pins s σ H _ I hq) λus s1 ⟨xs,H1,I1,r,z,q⟩=>⟨by rw[<-r.length];exact z,?_⟩);have hf:H1 s1.heap.objs.size=none:=I1.hok.fresh (aN _);refine⟨.ref s1.heap.objs.size,upd H1 s1.heap.objs.size (.lst xs),I1.laid (t':=s1.toks) (λb u e=>Heap.get?_push_of_some _ e) (aN _) ?_,rfl,q _ hf⟩;exact⟨z,us,0,r,Heap.get?_push_size _ rfl⟩
end
abbrev Sp:=List V->Hp->VK->XK->Prop
abbrev qY:=List Env->Hp->Shared->XK->Value->Shared->Prop
structure Hz(P:Program)(w:World)(K:aF)(mg:Str->Option Value)(base:Heap)(A:Around)(outer:List Env)(s:Shared)(H:Hp):Prop where
 frames:A.frames=some outer
 mod:Mod K mg base
 bs:∀b o,base.get? b=some o->s.heap.get? b=some o/\H b=none
 vf:base.objs.size<=s.heap.objs.size
 ql:s.heap.FunFrames base outer
 yZ:∀b∈frs outer,H b=none
 hok:fD P w H s.heap
 bare:AllBare s.gens
 tree:P.given.tree=none
def CE(outer:List Env)(P:Program)(w:World)(H:Hp)(s:Shared)(Q:VK)(u:Value)(s':Shared):Prop:=
 ∃v H',s'.os=s.os/\AllBare s'.gens/\Un (frs outer) [] H H' s.heap s'.heap/\fD P w H' s'.heap/\RelV v u/\Q v H'
def CR(CX:qY)(outer:List Env)(P:Program)(w:World)(H:Hp)(s:Shared)(Q:VK)(E:XK)(r:Result)(s':Shared):Prop:=
 match r with
 |.ok (.ret u)=>CE outer P w H s Q u s'
 |.ok _=>False
 |.error e=>CX outer H s E e s'
structure rB(P:Program)(w:World)(K:aF)(mg:Str->Option Value)(base:Heap)(CX:qY)(k:Nat)(f:Addr)(fd:FuncData)(ps:List Str)(sp:Sp):Prop where
 len:∀vs H Q E,sp vs H Q E->vs.length=ps.length
 run:∀(A:Around) (outer:List Env) (s:Shared) (H:Hp) (args:Args) (us:List Value) (vs:List V) (Q:VK) (E:XK),dY k A->Hz P w K mg base A outer s H->BindsTo s fd args (ps.zip us)->Vals vs us->sp vs H Q E->
  codeAny (model P w) A (.call (.ref f) args) (CR CX outer P w H s Q E) s
section
variable {X:Cx} {pins:List (Addr×Obj)} {σ:St} {H:Hp} {s s':Shared}
def Inv.env0(I:Inv X pins σ H s):Hz X.prog X.w X.K X.mg X.base X.A X.stack s H:=
 ⟨I.ok.frames,I.ok.mod,I.bs,fX I.ok.vf I.sz,I.stack,I.Mx,I.hok,I.bare,I.ok.tree⟩
def Inv.after{Q:VK}{u:Value}(I:Inv X pins σ H s)(h:CE X.stack X.prog X.w H s Q u s'):EP X pins σ Q u s':=by
 obtain⟨v,H',os,bare,un,hok,r,q⟩:=h;obtain⟨hh,g,d,t,os'⟩:=s';obtain rfl:os'=s.os:=os;exact⟨v,H',I.call (h':=hh) (g':=g) (d':=d) (t':=t) (ch:=[]) un hok bare (λb z=>absurd z (by simp)),r,q⟩
end
def JZ(sp:Sp)(vH:List V)(E:XK)(t:TA):TE:=λσ H Q=>t σ H λvs H1=>sp (vs++vH) H1 Q E
def Binds(K:aF)(fd:FuncData)(ps:List Str)(ds:List Value):Prop:=
 ∀(s:Shared) (us:List Value),K.In s.heap->(us++ds).length=ps.length->BindsTo s fd ⟨us,[]⟩ (ps.zip (us++ds))
def Binds.all{K:aF}{fd:FuncData}{ps:List Str}(h:∀us:List Value,us.length=ps.length->bindArgs fd ⟨us,[]⟩=pure (ps.zip us)):Binds K fd ps []:=λs us _ hl=>by
 rw[xu]at hl⊢;exact .of_eq (h us hl)
def Passes(CX:qY)(X:Cx)(E:XK):Prop:=∀(pins:List (Addr×Obj)) (σ:St) (H:Hp) (s:Shared) (e:Value) (s':Shared),Inv X pins σ H s->CX X.stack H s E e s'->X.xe e s'
section
variable {X:Cx} {CX:qY} {k:Nat} {f C:Addr} {fd:FuncData} {ps:List Str} {sp:Sp} {vH:List V} {ds:List Value} {E:XK} {x m:Str} {p pos apos:Pos} {e o:Expr} {es:List Expr} {ta:TE} {t:TA}
def abr{pins:List (Addr×Obj)}{σ:St}{H:Hp}{s:Shared}{Q:VK}{us:List Value}{vs:List V}(F:rB X.prog X.w X.K X.mg X.base CX k f fd ps sp)(hr:dY k X.A)(hb:Binds X.K fd ps ds)(hd:Vals vH ds)(hx:Passes CX X E)
  (I:Inv X pins σ H s) (r:Vals vs us) (h:sp (vs++vH) H Q E):wpAny (model X.prog X.w) X.A (call (.ref f) us) (EP X pins σ Q) X.xe s:=by
 have r2:Vals (vs++vH) (us++ds):=r.append hd;have hl:(us++ds).length=ps.length:=by rw[<-r2.length];exact F.len _ _ _ _ h
 refine wpAny_call (codeAny_mono (F.run X.A X.stack s H ⟨us,[]⟩ (us++ds) (vs++vH) Q E hr I.env0 (hb s us I.xW hl) r2 h) λr s' hq=>?_);cases r with
 |error e=>exact hx pins σ H s e s' I hq
 |ok fl=>
  cases fl with
  |ret u=>exact I.after hq
  |next=>exact False.elim hq
  |brk=>exact False.elim hq
  |cont=>exact False.elim hq
def aaM(F:rB X.prog X.w X.K X.mg X.base CX k f fd ps sp)(hr:dY k X.A)(hg:Gl X x)(hm:X.mg x=some (.ref f))(hk:yV X.K (.ref f)=true)(hb:Binds X.K fd ps ds)(hd:Vals vH ds)(hx:Passes CX X E)
  (ha:PA X (e::es) t) (hdb:(x==("__debug__" : Str))=false:=by decide) (he:starEach (e::es) X.env=(false,eval e X.env)::starEach es X.env:=by rfl) (hpl:(backTo pos (starEach es X.env)).any (·.1)=false:=by rfl):
  PE X (.Call (.Name x p) (e::es) [] pos) (JZ sp vH E t):=by
 intro pins s σ H Q I h;refine wpAny_Call_Name_kw (Rt I hg hm ?_ hdb);refine W.callWith_K (h₀:=X.base) I.ok.mod.Fi hk (aW (ha pos pins s σ H _ I h) λus s1 ⟨vs,H1,I1,r,q⟩=>⟨I1.xW,?_⟩) he hpl;exact abr F hr hb hd hx I1 r q
end
section
variable {X:Cx} {CX:qY} {k:Nat} {f C:Addr} {fd:FuncData} {ps ks:List Str} {sp:Sp} {E:XK} {x m:Str} {p pos apos kpos:Pos} {e o:Expr} {es:List Expr} {kws:List Keyword} {te ta:TE} {t tk:TA} {nm:Option Str}
variable {g:List Value->List Value->List Value} {gV:List V->List V->List V}
end
structure aZ(N P:List Str)(sc:Scope):Prop where
 kind:sc.kind = .function
 co:sc.isCoroutine=false
 gen:sc.isGenerator=false
 nd:N.Nodup
 pre:N.take P.length=P
 par:∀x∈P,sc.names.lookup x=some .local∨sc.names.lookup x=some .cell
 LN:∀y∈sc.names,y.2≠ .free
theorem Zv{kindOf:Str->Option NameKind}{x:Str}:∀{binds:List (Str×Value)} {m:Str->Option Value},(∀v,(x,v)∉binds)->bindL kindOf binds m x=m x
 |[],_,_=>rfl
 |(n,v)::r,m,h=>by
  unfold bindL;rw[Zv λw hw=>h w (cZ _ hw)];split
  .have:x≠n:=by rintro rfl;exact h v cV
   simp[this]
  .rfl
theorem aa1{kindOf:Str->Option NameKind}{x:Str}:∀{binds:List (Str×Value)} {m:Str->Option Value},(∀v,(x,v)∉binds)->bindC kindOf binds m x=m x
 |[],_,_=>rfl
 |(n,v)::r,m,h=>by
  unfold bindC;rw[aa1 λw hw=>h w (cZ _ hw)];split
  .rfl
  .have:x≠n:=by rintro rfl;exact h v cV
   simp[this]
theorem agl{kindOf:Str->Option NameKind}{x:Str}{v:Value}:∀{P:List Str} {vs:List Value} {i:Nat} {m:Str->Option Value},P.Nodup->P[i]?=some x->vs[i]?=some v->kindOf x=some .local->
  bindL kindOf (P.zip vs) m x=some v
 |[],_,_,_,_,h,_,_=>by simp at h
 |_::_,[],_,_,_,_,h,_=>by simp at h
 |p::P,w::vs,0,m,nd,h1,h2,hk=>by
  simp at h1 h2;subst h1;subst h2;show bindL kindOf ((p,w)::P.zip vs) m p=_;unfold bindL;rw[Zv λv hv=>(mV.mp nd).1 (Vz hv).1,if_pos hk];simp
 |p::P,w::vs,i+1,m,nd,h1,h2,hk=>by
  show bindL kindOf ((p,w)::P.zip vs) m x=_;unfold bindL;exact agl (i:=i) (mV.mp nd).2 (by simpa using h1) (by simpa using h2) hk
theorem Yl{kindOf:Str->Option NameKind}{x:Str}{v:Value}:∀{P:List Str} {vs:List Value} {i:Nat} {m:Str->Option Value},P.Nodup->P[i]?=some x->vs[i]?=some v->kindOf x≠some .local->
  bindC kindOf (P.zip vs) m x=some v
 |[],_,_,_,_,h,_,_=>by simp at h
 |_::_,[],_,_,_,_,h,_=>by simp at h
 |p::P,w::vs,0,m,nd,h1,h2,hk=>by
  simp at h1 h2;subst h1;subst h2;show bindC kindOf ((p,w)::P.zip vs) m p=_;unfold bindC;rw[aa1 λv hv=>(mV.mp nd).1 (Vz hv).1,if_neg hk];simp
 |p::P,w::vs,i+1,m,nd,h1,h2,hk=>by
  show bindC kindOf ((p,w)::P.zip vs) m x=_;unfold bindC;exact Yl (i:=i) (mV.mp nd).2 (by simpa using h1) (by simpa using h2) hk
def start(N:List Str)(vs:List V):St:=vs.map some++bN (N.length-vs.length) none
def zf(CX:qY)(P:Program)(w:World)(K:aF)(mg:Str->Option Value)(base:Heap)(N:List Str)(qual:Str)(scope:Scope)(f:Addr)(cd:Value)(A:Around)(outer:List Env)(s:Shared)(H:Hp)(E:XK):Cx where
 prog:=P
 w:=w
 K:=K
 mg:=mg
 base:=base
 A:=A.deeper (envOfC qual scope s.heap.objs.size f cd)
 N:=N
 s₀:=s
 H₀:=H
 env:=envOfC qual scope s.heap.objs.size f cd
 outer:=outer
 stack:=envOfC qual scope s.heap.objs.size f cd::outer
 ex:=[]
 calm:=true
 fn:=λ_=>true
 pn:=[]
 xe:=λe s'=>wpAny (model P w) (A.deeper (envOfC qual scope s.heap.objs.size f cd)) (leaving (envOfC qual scope s.heap.objs.size f cd) e) (λ_ s''=>CX outer H s E e s'') (λe' s''=>CX outer H s E e' s'') s'
def aaQ{sc:Scope}{n:Nat}{x:Str}(h:sc.names.lookup x=some .cell):∃c,(cellsFrom n sc.names []).lookup x=some c:=by
 have q:=adD sc.names n [] (.inl h);exact Option.isSome_iff_exists.mp q
def avu{CX:qY}{P:Program}{w:World}{K:aF}{mg:Str->Option Value}{base:Heap}{N ps:List Str}{qual:Str}{scope:Scope}{f:Addr}{cd:Value}{A:Around}{outer:List Env}{s s1:Shared}{H:Hp}{E:XK}{us:List Value}{vs:List V}
  (S:aZ N ps scope) (hd:A.handled=none) (e0:Hz P w K mg base A outer s H) (hl:vs.length=ps.length) (r:Vals vs us)
  (x:InCallC s s.heap.objs.size (bindL (envOfC qual scope s.heap.objs.size f cd).kindOf (ps.zip us) λ_=>none) (cellsFrom (s.heap.objs.size+1) scope.names []) (bindC (envOfC qual scope s.heap.objs.size f cd).kindOf (ps.zip us) λ_=>none) s1):
  Inv (zf CX P w K mg base N qual scope f cd A outer s H E) [] (start N vs) H s1:=by
 have hpl:ps.length<=N.length:=by have:=congrArg tH S.pre;rw[iZ]at this;omega
 obtain⟨h1,tk,rfl,hk⟩:=x.done;have D4:∀b:Addr,b∉(zf CX P w K mg base N qual scope f cd A outer s H E).ex:=λb z=>absurd (show b∈([]:List Addr)from z) (by simp);refine⟨⟨e0.mod,S.kind,rfl,rfl,aN _,λy z c h1 h2=>?_,λy hy=>?_,λy c _ h=>?_,λ_=>hd,Around.frames_deeper e0.frames,.inr ⟨rfl,rfl⟩,λb z=>absurd z (D4 b),e0.bs,e0.vf,λb _ _=>D4 b,λb z=>absurd z (D4 b),e0.ql,e0.yZ,e0.tree,⟨_,_,rfl,S.gen,S.co,rfl,rfl⟩⟩,
  rfl,e0.bare,Un.kept hk,⟨_,x.toInCall.ns,λi y v h1 h2 h3=>?_⟩,λy c h=>⟨_,x.cell y c h⟩,e0.hok.fresh (aN _),λy c h=>?_,λp hp=>absurd (show p∈([]:List (Addr×Obj))from hp) (by simp),e0.hok.kept hk,?_⟩
 .exact name_of_addr x.apart (vC h1) (vC h2)
 .have hy:scope.names.lookup y=some .cell∨scope.names.lookup y=some .free:=hy;rcases hy with hy|hy
  .exact aaQ hy
  .exact absurd rfl (S.LN _ (vC hy))
 .exact gC (x.above y c (vC h))
 .have hi:i<vs.length:=by
   unfold start at h2;by_cases hi:i<vs.length
   .exact hi
   .rw[List.getElem?_append_right (by simpa using hi)]at h2;rw[List.getElem?_replicate]at h2;split at h2<;>cases h2
  have ha:vs[i]?=some v:=by
   unfold start at h2;rw[List.getElem?_append_left (by simpa using hi),List.getElem?_map]at h2;cases e:vs[i]? with
   |none=>rw[e]at h2;cases h2
   |some a=>rw[e]at h2;cases h2;rfl
  obtain⟨u,hu,rv⟩:=r.get ha;have hp:ps[i]?=some y:=by
   rw[<-S.pre,List.getElem?_take_of_lt ⋯];exact h1
  have ndP:ps.Nodup:=by rw[<-S.pre];exact S.nd.sublist (ags _ _)
  refine⟨u,rv,?_⟩;rcases S.par y (List.mem_of_getElem? hp)with k|k
  .exact .inl ⟨k,agl ndP hp hu k⟩
  .obtain⟨c,e⟩:=aaQ (n:=s.heap.objs.size+1) k;refine .inr ⟨.inl k,c,e,?_⟩;have q:=x.cell y c e;rw[Yl ndP hp hu (by show scope.names.lookup y≠_;rw[k];decide)]at q;exact q
 .exact e0.hok.fresh (gC (x.above y c (vC h)))
 .unfold start;show _=N.length;rw[dW,aB,qP];omega
def auY{CX:qY}{P:Program}{w:World}{K:aF}{mg:Str->Option Value}{base:Heap}{k:Nat}{f:Addr}{name qual:Str}{params:Arguments}{body:List Stmt}{scope:Scope}{dV kV doc pm cdv ct oc:Value}{an od:Option Addr}
  {osl:Array (Option Value)} {N ps:List Str} {sp:Sp} (lk:K.lookup f=some ⟨oc,od,.func (qz name qual params body scope dV kV doc pm an cdv ct),osl⟩) (hcd:DF K cdv qual=true) (S:aZ N ps scope)
  (len:∀vs H Q E,sp vs H Q E->vs.length=ps.length)
  (hbody:∀(A:Around) (outer:List Env) (s:Shared) (H:Hp) (vs:List V) (Q:VK) (E:XK),dY k (A.deeper (envOfC qual scope s.heap.objs.size f cdv))->sp vs H Q E->
   ∃t,jK (zf CX P w K mg base N qual scope f cdv A outer s H E) body t/\t { nx:=λ_ H'=>Q .non H',rt:=Q } (start N vs) H):
  rB P w K mg base CX (k+1) f (qz name qual params body scope dV kV doc pm an cdv ct) ps sp:=by
 refine⟨len,λA outer s H args us vs Q E hr e0 hb r hsp=>?_⟩;have hl:=len _ _ _ _ hsp;have KX:K.In s.heap:=e0.mod.Fi.keeps λb o e=>(e0.bs b o e).1;have lim:s.heap.NoLimit:=e0.mod.nolimit.keeps λb o e=>(e0.bs b o e).1;have hkind:∀y∈ps.zip us,scope.names.lookup y.1=some .local∨(scope.names.lookup y.1=some .cell/\((cellsFrom (s.heap.objs.size+1) scope.names []).lookup y.1).isSome=true):=λ⟨n,v⟩ hy=>by
  rcases S.par n (Vz hy).1 with q|q
  .exact .inl q
  .exact .inr ⟨q,adD _ _ _ (.inl q)⟩
 refine codeAny_call_function hr.depth (KX _ _ lk) rfl S.co S.gen rfl (W.codeRec_of KX hcd) (hb _ _ _ _ ?_);refine wpAny_newFunctionEnv_cells S.kind hkind λenv he s1 x=>?_;subst he;refine⟨lim.keeps x.toInCall.keep,codeAny_func ?_⟩;obtain⟨t,ht,hq⟩:=hbody A outer s H vs Q E (hr.deeper _) hsp;have I:Inv (zf CX P w K mg base N qual scope f cdv A outer s H E) [] (start N vs) H s1:=avu S hr.hd e0 hl r x;refine wpAny_mono (ht [] s1 (start N vs) H _ I hq) (λfl s' hs=>?_) λe s' hs=>hs;have fin:∀{σ':St} {H':Hp} {v:V} {u:Value},Inv (zf CX P w K mg base N qual scope f cdv A outer s H E) [] σ' H' s'->RelV v u->Q v H'->CE outer P w H s Q u s':=
  λ{σ' H' v u} J rv q=>⟨v,H',J.os,J.bare,J.base,J.hok,rv,q⟩
 cases fl with
 |ret u=>
  obtain⟨v,σ',H',J,rv,q⟩:=hs;exact fin J rv q
 |next=>
  obtain⟨σ',H',J,q⟩:=hs;exact fin (v:=V.non) (u:=Value.none) J rfl q
 |brk=>
  obtain⟨_,_,_,q⟩:=hs;exact False.elim q
 |cont=>
  obtain⟨_,_,_,q⟩:=hs;exact False.elim q
section
variable {X:Cx} {x:Str} {p pos:Pos} {e:Expr} {es:List Expr} {t:TA} {id T:String} {r:List V->Hp->VK->Prop}
def QB(r:List V->Hp->VK->Prop)(t:TA):TE:=λσ H Q=>t σ H λvs H1=>r vs H1 Q
def jy(hc:jU X (.builtin id) r)(hg:Gl X x)(hm:X.mg x=none)(hv:bootBuiltins x=some (.builtin id))(ha:PA X (e::es) t)(hn:x≠ "__name__" := by decide)(hdb:(x==("__debug__" : Str))=false:=by decide)
  (he:starEach (e::es) X.env=(false,eval e X.env)::starEach es X.env:=by rfl) (hpl:(backTo pos (starEach es X.env)).any (·.1)=false:=by rfl):PE X (.Call (.Name x p) (e::es) [] pos) (QB r t):=by
 intro pins s σ H Q I h;refine wpAny_Call_Name_kw (ux I hg hm hv ?_ hn hdb);exact amW (aW (ha pos pins s σ H _ I h) λus s1 ⟨vs,H1,I1,r1,q1⟩=>hc pins s1 σ H1 vs us Q I1 r1 q1) he hpl
def lB(hc:jU X (.type T) r)(hg:Gl X x)(hm:X.mg x=none)(hv:bootBuiltins x=some (.type T))(ha:PA X (e::es) t)(hn:x≠ "__name__" := by decide)(hdb:(x==("__debug__" : Str))=false:=by decide)
  (he:starEach (e::es) X.env=(false,eval e X.env)::starEach es X.env:=by rfl) (hpl:(backTo pos (starEach es X.env)).any (·.1)=false:=by rfl):PE X (.Call (.Name x p) (e::es) [] pos) (QB r t):=by
 intro pins s σ H Q I h;refine wpAny_Call_Name_kw (ux I hg hm hv ?_ hn hdb);exact uJ (aW (ha pos pins s σ H _ I h) λus s1 ⟨vs,H1,I1,r1,q1⟩=>hc pins s1 σ H1 vs us Q I1 r1 q1) he hpl
end
end L2
namespace HT
open PySem PyProof.Rows
section
open PySem.SeqAt
open PySem.AutoSeq1 (wpAny_loadPart')
open PySem.MeetsSeq PySem.MeetsSeq2 PySem.MeetsSeq3
end
section
variable {prog:Program} {w:World} {A:Around} {E:Value->Shared->Prop} {s:Shared}
def avT{t b:Addr}{vs ws:List Value}{Q:Value->Shared->Prop}(ht:IsTup s.heap t vs.toArray)(hb:IsTup s.heap b ws.toArray)(hv:vs≠[])
  (h1:ws=[]->Q (.ref t) s) (h2:ws≠[]->Q (.ref s.heap.objs.size) { s with heap:=s.heap.push { cls:= .type "tuple",data:= .seq (vs++ws).toArray } })
  (hsz:vs.length+ws.length<=sizeLine):wpAny (model prog w) A (binaryOp .Add (.ref t) (.ref b)) Q E s:=by
 obtain⟨⟨cls,dd,data,sl⟩,ho,hc,n,hd⟩:=id ht;obtain⟨⟨cls2,dd2,data2,sl2⟩,ho2,hc2,n2,hd2⟩:=id hb;simp only at hc hd hc2 hd2;subst hc hd hc2 hd2;have e:vs.toArray++ws.toArray=(vs++ws).toArray:=by simp
 by_cases hw:ws=[]
 .exact concat_meets ⟨_,ho,rfl⟩ ⟨_,ho2,rfl⟩ noFill_tuple_add seq_tuple_add Qk Nz (OG _ _)
   (tuple_addW1 t b vs.toArray ws.toArray n n2 dd dd2 sl sl2 (by simpa using hv) (by simp[hw])) ⟨ho,ho2,h1 hw⟩
 .refine concat_meets ⟨_,ho,rfl⟩ ⟨_,ho2,rfl⟩ noFill_tuple_add seq_tuple_add Qk Nz (OG _ _)
   (tuple_addW2 t b vs.toArray ws.toArray n n2 dd dd2 sl sl2 (by simpa using hv) (by simpa using hw) (by rw[eU,eU];exact hsz)) ⟨ho,ho2,?_⟩
  rw[e];exact h2 hw
def bw(n d:Nat):Option Int->Nat
 |none=>d
 |some v=>if v<0 then(v+(n:Int)).toNat else min v.toNat n
def rP(n d:Nat):bw n d none=d:=rfl
def qe(n d k:Nat):bw n d (some (k:Int))=min k n:=by
 show(if(k:Int)<0 then((k:Int)+(n:Int)).toNat else min (k:Int).toNat n)=min k n;rw[if_neg ⋯,d9]
def awG(n d:Nat)(hd:d<=n)(o:Option Int):bw n d o<=n:=by
 cases o with
 |none=>exact hd
 |some v=>
  show(if v<0 then(v+(n:Int)).toNat else min v.toNat n)<=n;by_cases hv:v<0
  .rw[if_pos hv];omega
  .rw[if_neg hv];exact agb _ _
def afa(v:Int)(n d:Nat):(if v<0 then max (v+(n:Int)) 0 else min v (n:Int))=((bw n d (some v):Nat):Int):=by
 show(if v<0 then max (v+(n:Int)) 0 else min v (n:Int))=(((if v<0 then(v+(n:Int)).toNat else min v.toNat n):Nat):Int);by_cases hv:v<0
 .simp only[if_pos hv];omega
 .simp only[if_neg hv];omega
def an9(lo hi:Option Int)(n:Nat):Builtin.Slice.sliceAdjust lo hi 1 (n:Int)=(((bw n 0 lo:Nat):Int),((bw n n hi:Nat):Int)):=by
 have h1:¬((1:Int)<0):=⋯;unfold Builtin.Slice.sliceAdjust;simp only[h1,if_false];refine Ir ?_ ?_
 .cases lo with
  |none=>rfl
  |some v=>exact afa v n 0
 .cases hi with
  |none=>rfl
  |some v=>exact afa v n n
def asV(i j:Nat):Builtin.Slice.slicePlaces (i:Int) (j:Int) 1=j-i:=by
 unfold Builtin.Slice.slicePlaces;have h1:(1:Int)>0:=⋯;simp only[h1,if_true,abC];split<;>omega
def aes{v:Value}{o:Option Int}{Q:Option Int->Shared->Prop}(p:IsPart v o)(h:Q o s):wpAny (model prog w) A (Builtin.Slice.slicePartIndex v) Q E s:=by
 cases p with
 |none=>exact slicePart_none h
 |int i t=>exact slicePart_int h
def afl{sl:Addr}{vl vu:Value}{lo hi:Option Int}{n:Nat}{Q:Int×Int×Nat->Shared->Prop}(hs:s.heap.IsSliceOf sl vl vu .none)(pl:IsPart vl lo)(pu:IsPart vu hi)
  (h:Q (((bw n 0 lo:Nat):Int),1,bw n n hi-bw n 0 lo) s):wpAny (model prog w) A (Builtin.Slice.sliceApplied (.ref sl) (pure (n:Int))) Q E s:=by
 obtain⟨os,hos,hcs,hds⟩:=id hs;unfold Builtin.Slice.sliceApplied Builtin.Slice.sliceFields;refine wpAny_bind (wpAny_bind (wpAny_field hos hds (x:=vl) rfl (wpAny_bind (wpAny_field hos hds (x:=vu) rfl (wpAny_bind (wpAny_field hos hds (x:= .none) rfl (wpAny_pure ?_)))))));refine wpAny_bind (slicePart_none ?_);show wpAny _ _ (if((1:Int)==0)=true then _ else _) _ _ s;rw[if_neg ∅];refine wpAny_bind (aes pl (wpAny_bind (aes pu (wpAny_bind (wpAny_pure ?_)))));show wpAny _ _ (match Builtin.Slice.sliceAdjust lo hi 1 (n:Int)with|(lo,hi)=>pure (lo,(1:Int),Builtin.Slice.slicePlaces lo hi 1)) _ _ s
 rw[an9 lo hi n];show wpAny _ _ (pure (((bw n 0 lo:Nat):Int),(1:Int),Builtin.Slice.slicePlaces ((bw n 0 lo:Nat):Int) ((bw n n hi:Nat):Int) 1)) _ _ s;rw[asV];exact wpAny_pure h
def amy(xs:Array Value)(i k:Nat):((fj k).filterMap λ(m:Nat)=>xs[((i:Int)+(m:Int)*1).toNat]?).toArray=((xs.toList.drop i).take k).toArray:=by
 have e:(λ(m:Nat)=>xs[((i:Int)+(m:Int)*1).toNat]?)=λm=>xs[i+m]?:=by
  funext m
  have:((i:Int)+(m:Int)*1).toNat=i+m:=⋯;rw[this]
 rw[e];have:=pick_run xs i k;rw[List.filterMap_map]at this;have e2:((λx=>xs[x]?)∘λx=>i+x)=λm=>xs[i+m]?:=rfl;rw[e2]at this;rw[this]
def ahY{t sl:Addr}{items:Array Value}{vl vu:Value}{lo hi:Option Int}{Q:Value->Shared->Prop}(ht:IsTup s.heap t items)(hs:s.heap.IsSliceOf sl vl vu .none)(pl:IsPart vl lo)(pu:IsPart vu hi)
  (hw:¬(bw items.size 0 lo=0/\bw items.size items.size hi=items.size))
  (h:Q (.ref s.heap.objs.size) { s with heap:=s.heap.push { cls:= .type "tuple",data:= .seq ((items.toList.drop (bw items.size 0 lo)).take (bw items.size items.size hi-bw items.size 0 lo)).toArray } })
  (hsz:items.size<=sizeLine):wpAny (model prog w) A (getItem (.ref t) (.ref sl)) Q E s:=by
 have Jb:sizeOk (.seq ((items.toList.drop (bw items.size 0 lo)).take (bw items.size items.size hi-bw items.size 0 lo)).toArray):=by
  show((items.toList.drop (bw items.size 0 lo)).take (bw items.size items.size hi-bw items.size 0 lo)).toArray.size<=sizeLine;rw[eU,iZ,oU,Lb];omega
 have hj:bw items.size items.size hi<=items.size:=awG _ _ (aN _) hi;obtain⟨os,hos,hcs,hds⟩:=id hs;have hTs:s.TypeIs (.ref sl) "slice" := ⟨os,hos,hcs⟩;unfold getItem;try with_reducible refine wpAny_holding ?_
 first|refine wpAny_bind (wpAny_pure ?_)|skip
 refine wpAny_bind (wpAny_sequenceKey ht.typeIs ∅ ?_);refine wpAny_bind (wpAny_callSpecial?_slot (name:=Str.ofString "__getitem__") ht.typeIs Aa
  (wpAny_call_entry Aa ht.typeIs entry_tuple_getitem ?_ (args_tuple_getitem _ _)))
 show wpAny _ _ (Builtin.Tuple.tupleItemsOf (.ref t)>>=_) _ _ s;refine wpAny_bind (tupleItemsOf_ ht ?_);refine wpAny_bind (wpAny_typeOf hTs ?_);rw[if_pos ∅];refine wpAny_bind (afl hs pl pu ?_);have hno:¬((((bw items.size 0 lo:Nat):Int)==0&&(1:Int)==1&&(bw items.size items.size hi-bw items.size 0 lo)==items.size)=true):=by
  intro q;rw[rY,rY]at q;have q1:((bw items.size 0 lo:Nat):Int)=0:=eq_of_beq q.1.1;have q2:bw items.size items.size hi-bw items.size 0 lo=items.size:=eq_of_beq q.2;exact hw ⟨⋯,⋯⟩
 show wpAny _ _ (if(((bw items.size 0 lo:Nat):Int)==0&&(1:Int)==1&&(bw items.size items.size hi-bw items.size 0 lo)==items.size)=true then _ else _) _ _ s;rw[if_neg hno,amy];first
  |exact wpAny_bind (m:=Builtin.Tuple.tupleExact _) (wpAny_newObj_type (wpAny_pure ⟨_,rfl,wpAny_pure h⟩) Jb)
  |exact wpAny_bind (m:=Builtin.Tuple.tupleExact _) (wpAny_newObj_type (wpAny_bind (wpAny_pure (wpAny_pure ⟨_,rfl,wpAny_pure h⟩))) Jb)
  |exact wpAny_bind (wpAny_bind (m:=Builtin.Tuple.tupleExact _) (wpAny_newObj_type (wpAny_pure (wpAny_pure ⟨_,rfl,wpAny_pure h⟩)) Jb))
  |exact wpAny_bind (wpAny_bind (m:=Builtin.Tuple.tupleExact _) (wpAny_newObj_type (wpAny_pure ⟨_,rfl,wpAny_pure h⟩) Jb))
end
end HT
namespace L2
open PySem PySem.Spec PyProof.Rows
abbrev TO:=St->Hp->(Option Int->Hp->Prop)->Prop
def PO(X:Cx)(e:Option Expr)(t:TO):Prop:=
 ∀(pins:List (Addr×Obj)) (s:Shared) (σ:St) (H:Hp) (Q:Option Int->Hp->Prop),Inv X pins σ H s->t σ H Q->
  wpAny (model X.prog X.w) X.A (evalPart e X.env) (λu s'=>∃o H',Inv X pins σ H' s'/\IsPart u o/\Q o H') X.xe s
def av1:TO:=λ_ H Q=>Q none H
inductive auG(x:V)(H:Hp)(Q:Option Int->Hp->Prop):Prop|mk (i:Int) (hx:x = .int i) (q:Q (some i) H)
def alz(t:TE):TO:=λσ H Q=>t σ H λx H1=>auG x H1 Q
def intsAre_of{ns:List Int}:∀{us:List Value},Vals (ns.map V.int) us->IntsAre us ns:=by
 induction ns with
 |nil=>intro us r;rw[Ow]at r;cases r;exact .nil
 |cons n ns ih=>
  intro us r;rw[bG]at r;cases r with
  |cons r1 r2=>
   obtain⟨t,e⟩:=r1;subst e;exact .cons n t (ih r2)
section
variable {X:Cx} {e:Expr} {te:TE} {lo hi:Option Expr} {tl th:TO} {pos p2:Pos}
def yX:PO X none av1:=by
 intro pins s σ H Q I h;rw[evalPart_none];exact wpAny_pure ⟨none,H,I,.none,h⟩
def uL(h:PE X e te):PO X (some e) (alz te):=by
 intro pins s σ H Q I hw;rw[evalPart_some];refine aW (h pins s σ H _ I hw) λu s1 ⟨x,H1,I1,r1,q1⟩=>?_;obtain⟨i,rfl,q⟩:=q1;obtain⟨t,rfl⟩:=r1;exact⟨some i,H1,I1,.int i t,q⟩
def oR(X:Cx)(r:V->Option Int->Option Int->Hp->VK->Prop):Prop:=
 ∀(pins:List (Addr×Obj)) (s:Shared) (σ:St) (H:Hp) (x:V) (v vl vu:Value) (lo hi:Option Int) (sl:Addr) (Q:VK),Inv X pins σ H s->RelV x v->s.heap.IsSliceOf sl vl vu .none->IsPart vl lo->IsPart vu hi->r x lo hi H Q->
  ∃T id,typeLookup (.type T) "__getitem__" = pure (some (.builtin id))/\s.TypeIs v T/\wpAny (model X.prog X.w) X.A (getItem v (.ref sl)) (EP X pins σ Q) X.xe s
def oR.or{r r':V->Option Int->Option Int->Hp->VK->Prop}(h:oR X r)(h':oR X r'):oR X (λx lo hi H Q=>r x lo hi H Q∨r' x lo hi H Q):=by
 intro pins s σ H x v vl vu lo hi sl Q I rx hs pl pu q;rcases q with q|q
 .exact h pins s σ H x v vl vu lo hi sl Q I rx hs pl pu q
 .exact h' pins s σ H x v vl vu lo hi sl Q I rx hs pl pu q
def tSl(r:V->Option Int->Option Int->Hp->VK->Prop)(te:TE)(tl th:TO):TE:=λσ H Q=>te σ H λx H1=>tl σ H1 λl H2=>th σ H2 λu H3=>r x l u H3 Q
def wK{r:V->Option Int->Option Int->Hp->VK->Prop}(hr:oR X r)(he:PE X e te)(hl:PO X lo tl)(hu:PO X hi th):PE X (.Subscript e (.Slice lo hi none p2) pos) (tSl r te tl th):=by
 intro pins s σ H Q I h;refine Subscript_ (aW (he pins s σ H _ I h) λv s1 ⟨x,H1,I1,r1,q1⟩=>?_);refine wpAny_Slice (aW (hl pins s1 σ H1 _ I1 q1) λvl s2 ⟨l,H2,I2,pl,q2⟩=>aW (hu pins s2 σ H2 _ I2 q2) λvu s3 ⟨u,H3,I3,pu,q3⟩=>?_);rw[evalPart_none];refine wpAny_pure ?_;have I4:Inv X pins σ H3 { s3 with heap:=s3.heap.push { cls:= .type "slice",data:= .fields #[vl,vu,.none] } }:=I3.kept (t':=s3.toks) λb ob q=>Heap.get?_push_of_some _ q;obtain⟨T,id,hT,ht,hg⟩:=hr pins { s3 with heap:=s3.heap.push { cls:= .type "slice",data:= .fields #[vl,vu,.none] } } σ H3 x v vl vu l u s3.heap.objs.size Q I4 r1 (apw ..) pl pu q3;show wpAny (model X.prog X.w) X.A (subscriptTail e (.Slice lo hi none p2) v (.ref s3.heap.objs.size)) (EP X pins σ Q) X.xe { s3 with heap:=s3.heap.push { cls:= .type "slice",data:= .fields #[vl,vu,.none] } };exact tail_any (ops:=[.ref s3.heap.objs.size,v]) ht hT hg (by with_unfolding_all rfl)
def gU(xs:List V)(lo hi:Option Int):List V:=(xs.drop (HT.bw xs.length 0 lo)).take (HT.bw xs.length xs.length hi-HT.bw xs.length 0 lo)
def acz(xs:List V)(lo hi:Option Int):(gU xs lo hi).length<=xs.length:=by
 unfold gU;rw[iZ,oU];omega
def axu(K:aF):V->Option Int->Option Int->Hp->VK->Prop:=λx lo hi H Q=>∃a xs,x = .ref a/\aA K H a xs/\
 ¬(HT.bw xs.length 0 lo=0/\HT.bw xs.length xs.length hi=xs.length)/\∀p,H p=none->Q (.ref p) (upd H p (.tup (gU xs lo hi)))
def atb:oR X (axu X.K):=by
 intro pins s σ H x v vl vu lo hi sl Q I rx hs pl pu h;obtain⟨a,xs,rfl,hx,hw,q⟩:=h;cases rx;obtain⟨its,r,ht,hz⟩:=I.tuple hx;have hlen:its.toArray.size=xs.length:=by rw[eU];exact r.length.symm
 refine⟨"tuple",_,Aa.lookup,ht.typeIs,?_⟩;refine HT.ahY ht hs pl pu (by rw[hlen];exact hw) ?_ (by rw[hlen];exact hz);rw[hlen];refine⟨.ref s.heap.objs.size,_,I.laid (t':=s.toks) (o:= .tup (gU xs lo hi)) (λb ob q=>Heap.get?_push_of_some _ q) (aN _) ?_,rfl,q _ (I.hok.fresh (aN _))⟩;exact⟨fX (acz xs lo hi) hz,_,(r.drop (HT.bw xs.length 0 lo)).take (HT.bw xs.length xs.length hi-HT.bw xs.length 0 lo),IsTup.new _ _⟩
def anA(K:aF):R2:=λx y H Q=>∃a b xs ys,x = .ref a/\y = .ref b/\aA K H a xs/\aA K H b ys/\xs≠[]/\xs.length+ys.length<=sizeLine/\
 (ys=[]->Q (.ref a) H)/\(ys≠[]->∀p,H p=none->Q (.ref p) (upd H p (.tup (xs++ys))))
def Vals.Gn{xs:List V}{us:List Value}(r:Vals xs us):us=[]↔xs=[]:=by
 cases r with
 |nil=>simp
 |cons _ _=>simp
def ani:dh X (binaryOp .Add) (anA X.K):=by
 intro pins s σ H x y v u Q I rx ry h;obtain⟨a,b,xs,ys,rfl,rfl,ha,hb,hx,hz,q1,q2⟩:=h;cases rx;cases ry;obtain⟨its,r1,p1,_⟩:=I.tuple ha;obtain⟨its2,r2,p2,_⟩:=I.tuple hb;refine HT.avT p1 p2 (λz=>hx (r1.Gn.mp z)) (λz=>⟨.ref a,H,I,rfl,q1 (r2.Gn.mp z)⟩) (λz=>?_) (by rw[<-r1.length,<-r2.length];exact hz);refine⟨.ref s.heap.objs.size,_,I.laid (t':=s.toks) (o:= .tup (xs++ys)) (λb ob q=>Heap.get?_push_of_some _ q) (aN _) ?_,rfl,q2 (λw=>z (r2.Gn.mpr w)) _ (I.hok.fresh (aN _))⟩;exact⟨by rw[dW];exact hz,_,r1.append r2,IsTup.new _ _⟩
end
def pY(n:Nat)(i:Int):Option Nat:=if 0<=i then(if i<n then some i.toNat else none)else if -(n:Int)<=i then some (i+n).toNat else none
def lQ{α:Type}(xs:List α)(i:Int):Option α:=(pY xs.length i).bind λj=>xs[j]?
def Xi{n:Nat}{i:Int}{j:Nat}(h:pY n i=some j):seqIndex? i n=some j/\j<n/\-(n:Int)<=i/\i<n:=by
 unfold pY at h;by_cases h0:0<=i
 .rw[if_pos h0]at h;by_cases h1:i<n
  .rw[if_pos h1]at h;have e:i.toNat=j:=rJ h;exact⟨by rw[seqIndex_of h0 h1,e],⋯,⋯,h1⟩
  .rw[if_neg h1]at h;cases h
 .rw[if_neg h0]at h;by_cases h1:-(n:Int)<=i
  .rw[if_pos h1]at h;have e:(i+n).toNat=j:=rJ h;exact⟨by rw[seqIndex_neg ⋯ h1,e],⋯,h1,⋯⟩
  .rw[if_neg h1]at h;cases h
def Uw{α:Type}{xs:List α}{i:Int}{v:α}(h:lQ xs i=some v):∃j,seqIndex? i xs.length=some j/\xs[j]?=some v/\j<xs.length/\-(xs.length:Int)<=i/\i<xs.length:=by
 unfold lQ at h;cases e:pY xs.length i with
 |none=>rw[e]at h;cases h
 |some j=>
  rw[e]at h;obtain⟨h1,h2,h3,h4⟩:=Xi e;exact⟨j,h1,h,h2,h3,h4⟩
def afQ{α:Type}{xs:List α}{j:Nat}{v:α}(h:xs[j]?=some v):lQ xs (j:Int)=some v:=by
 have hj:j<xs.length:=(List.getElem?_eq_some_iff.mp h).1;have e:pY xs.length (j:Int)=some j:=by
  unfold pY;rw[if_pos ⋯,if_pos ⋯];simp
 unfold lQ;rw[e];exact h
def aj0{α:Type}(xs:List α)(v:α):lQ (xs++[v]) (-1)=some v:=by
 have hl:(xs++[v]).length=xs.length+1:=by simp
 have e:pY (xs++[v]).length (-1)=some xs.length:=by
  unfold pY;rw[hl,if_neg ∅,if_pos ⋯];congr 1;omega
 unfold lQ;rw[e];show(xs++[v])[xs.length]?=some v;simp
def WB(b:Expr):Prop:=∀o i,subscripted b false o i=operate [o,i] (getItem o i)
def lW(X:Cx)(r:R2):Prop:=
 ∀(value slice:Expr) (pins:List (Addr×Obj)) (s:Shared) (σ:St) (H:Hp) (x y:V) (v u:Value) (Q:VK),Inv X pins σ H s->RelV x v->RelV y u->r x y H Q->
  subscripted slice false v u=operate [v,u] (getItem v u)->wpAny (model X.prog X.w) X.A (subscriptTail value slice v u) (EP X pins σ Q) X.xe s
def MtR(X:Cx)(id:String)(r:V->List V->Hp->VK->Prop):Prop:=
 ∀(pins:List (Addr×Obj)) (s:Shared) (σ:St) (H:Hp) (x:V) (xs:List V) (v:Value) (us:List Value) (Q:VK),Inv X pins σ H s->RelV x v->Vals xs us->r x xs H Q->
  wpAny (model X.prog X.w) X.A (call (.builtin id) (v::us)) (EP X pins σ Q) X.xe s
section
variable {X:Cx} {a b:Expr} {ta tb:TE} {pos:Pos}
def lW.or{r r':R2}(h:lW X r)(h':lW X r'):lW X (λx y H Q=>r x y H Q∨r' x y H Q):=by
 intro value slice pins s σ H x y v u Q I rx ry q hs;rcases q with q|q
 .exact h value slice pins s σ H x y v u Q I rx ry q hs
 .exact h' value slice pins s σ H x y v u Q I rx ry q hs
def ayQ{r:R2}(hr:lW X r)(ha:PE X a ta)(hb:PE X b tb)(hs:WB b):PE X (.Subscript a b pos) (yq r ta tb):=by
 intro pins s σ H Q I h;exact Subscript_ (MQ ha hb I h λv u s2 x y H2 I2 rx ry q=>hr a b pins s2 σ H2 x y v u Q I2 rx ry q (hs _ _))
def agy(K:aF):R2:=λx y H Q=>∃p xs i v,x = .ref p/\y = .int i/\au K H p xs/\lQ xs i=some v/\Q v H
def afL(K:aF):R2:=λx y H Q=>∃p xs i v,x = .ref p/\y = .int i/\aA K H p xs/\lQ xs i=some v/\Q v H
def abL:R2:=λx y H Q=>∃z i c,x = .str z/\y = .int i/\z.length<=sizeLine/\lQ z.cps.toList i=some c/\Q (.str ⟨#[c]⟩) H
def akk:lW X (agy X.K):=by
 intro value slice pins s σ H x y v u Q I rx ry h hs;obtain⟨p,xs,i,z,rfl,rfl,hq,he,q⟩:=h;cases rx;obtain⟨t,rfl⟩:=ry;obtain⟨its,r,pl,hz⟩:=I.list hq;obtain⟨j,h1,h2,h3,h4,h5⟩:=Uw he;obtain⟨w,ew,nH⟩:=r.get h2;have hl:=r.length;have hn:=Dy;have fin:EP X pins σ Q w s:=⟨z,H,I,nH,q⟩;by_cases h0:0<=i
 .have hj:i.toNat=j:=by
   rw[seqIndex_of h0 h5]at h1;exact rJ h1
  exact item_listR pl.isList h0 ⋯ (by rw[hj];simpa using ew) fin hs
 .have hj:(i+(its.toArray.size:Int)).toNat=j:=by
   rw[seqIndex_neg ⋯ h4]at h1;rw[eU,<-hl];exact rJ h1
  exact subscriptTail_builtinR (x:=w) pl.isList.typeIs slot_list_getitem.lookup
   (wpAny_getItem_list_neg (Q:=λr s'=>r=w/\EP X pins σ Q r s') pl.isList ⋯ (by rw[eU]<;>omega) ⋯ (by rw[hj];simpa using ew) ⟨rfl,fin⟩) hs
def avF:lW X (afL X.K):=by
 intro value slice pins s σ H x y v u Q I rx ry h hs;obtain⟨p,xs,i,z,rfl,rfl,hq,he,q⟩:=h;cases rx;obtain⟨t,rfl⟩:=ry;obtain⟨its,r,pl,hz⟩:=I.tuple hq;obtain⟨j,h1,h2,h3,h4,h5⟩:=Uw he;obtain⟨w,ew,nH⟩:=r.get h2;have hl:=r.length;have hn:=Dy;have fin:EP X pins σ Q w s:=⟨z,H,I,nH,q⟩;exact subscriptTail_builtinR (x:=w) pl.typeIs slot_tuple_getitem.lookup
  (getItem_tuple (j:=j) (Q:=λr s'=>r=w/\EP X pins σ Q r s') pl ⋯ ⋯ (by rw[eU,<-hl];exact h1) (by simpa using ew) ⟨rfl,fin⟩) hs
def ajb:lW X abL:=by
 intro value slice pins s σ H x y v u Q I rx ry h hs;obtain⟨z,i,c,rfl,rfl,hz,he,q⟩:=h;obtain⟨t,rfl⟩:=rx;obtain⟨t',rfl⟩:=ry;obtain⟨j,h1,h2,h3,h4,h5⟩:=Uw he;have hl:z.cps.toList.length=z.length:=by simp[Str.length]
 rw[hl]at h1 h4 h5;have hn:=Dy;exact tail_any (typeIs_str s z t) slot_str_getitem.lookup (getItem_str (c:=c) (by
  have e1:decide (i < -(2^63:Int))=false:=decide_eq_false ⋯;have e2:decide (i≥2^63)=false:=decide_eq_false ⋯;rw[e1,e2,Bool.or_false]) (by rw[h1];simpa using h2) ⟨.str ⟨#[c]⟩,H,I.tok _,⟨_,rfl⟩,q⟩) hs
def rIx(K:aF):R2:=λx y H Q=>agy K x y H Q∨afL K x y H Q∨abL x y H Q
def apA:lW X (rIx X.K):=akk.or (avF.or ajb)
def ayv(its:List Value)(n j:Nat)(u:Value):kj (·.setIfInBounds j u) { cls:= .type "list",data:= .seq its.toArray n }={ cls:= .type "list",data:= .seq (its.set j u).toArray n }:=by
 simp[kj]
theorem Inv.lst{pins:List (Addr×Obj)}{σ:St}{H:Hp}{s:Shared}{p:Addr}{xs:List V}(I:Inv X pins σ H s)(h:H p=some (.lst xs)):
  ∃(its:List Value) (n:Nat),Vals xs its/\s.heap.get? p=some { cls:= .type "list",data:= .seq its.toArray n }/\xs.length<=sizeLine:=by
 obtain⟨z,its,n,r,e⟩:=I.hok p _ h;exact⟨its,n,r,e,z⟩
def Inv.am8{pins:List (Addr×Obj)}{σ:St}{H:Hp}{s:Shared}{p:Addr}{xs ys:List V}{its its':List Value}{n n':Nat}{f:Obj->Obj}(I:Inv X pins σ H s)(h:H p=some (.lst xs))
  (ho:s.heap.get? p=some { cls:= .type "list",data:= .seq its.toArray n }) (hf:f { cls:= .type "list",data:= .seq its.toArray n }={ cls:= .type "list",data:= .seq its'.toArray n' }) (r:Vals ys its') (hz:ys.length<=sizeLine) (t:Nat):
  Inv X pins σ (upd H p (.lst ys)) { s with heap:=s.heap.update p f,toks:=t }:=by
 have e:(s.heap.update p f).get? p=some { cls:= .type "list",data:= .seq its'.toArray n' }:=by
  rw[Heap.get?_update_self f ho (by rw[hf]<;>rfl),hf]
 refine I.write (x:=p) (e:=p) (by rw[h];trivial) (.inl rfl) (λb u hb q=>(Heap.get?_update_other _ _ (dG hb)).trans q) ⟨_,e⟩ ?_;exact⟨hz,its',n',r,e⟩
inductive SSet(o i v:V)(H:Hp)(Q:Hp->Prop):Prop|mk (p:Addr) (xs:List V) (k:Int) (j:Nat) (ho:o = .ref p) (hi:i = .int k) (hp:H p=some (.lst xs)) (hj:pY xs.length k=some j) (q:Q (upd H p (.lst (xs.set j v))))
def ao3:V->V->V->Hp->(Hp->Prop)->Prop:=λo i v H Q=>SSet o i v H Q
def set_list:aa9 X ao3:=by
 intro pins s σ H o i v ov iv u Q I ro ri rv h;obtain⟨p,xs,k,j,rfl,rfl,hp,hj,q⟩:=h;cases ro;obtain⟨t,rfl⟩:=ri;obtain⟨its,n,r,ho,hz⟩:=I.lst hp;obtain⟨h1,h2,h3,h4⟩:=Xi hj;have hl:=r.length;have hn:=Dy;have I':Inv X pins σ (upd H p (.lst (xs.set j v))) { s with heap:=s.heap.update p (kj (·.setIfInBounds j u)) }:=
  I.am8 hp ho (ayv its n j u) (r.set rv j) (by rw[nW];exact hz) s.toks
 by_cases h0:0<=k
 .have hk:k.toNat=j:=by
   rw[seqIndex_of h0 h4]at h1;exact rJ h1
  exact W.ki_setAt ho h0 ⋯ (by rw[eU,<-hl];exact h4) (by rw[hk];exact⟨_,I',q⟩)
 .have hk:(k+(its.toArray.size:Int)).toNat=j:=by
   rw[seqIndex_neg ⋯ h3]at h1;rw[eU,<-hl];exact rJ h1
  exact W.ki_setBack ho ⋯ (by rw[eU,<-hl];exact h3) ⋯ (by rw[hk];exact⟨_,I',q⟩)
def ah0(lo hi:Option Int)(n:Nat):(sliceBounds lo hi none n).1=((HT.bw n 0 lo:Nat):Int)/\(sliceBounds lo hi none n).2.1=((HT.bw n n hi:Nat):Int)/\(sliceBounds lo hi none n).2.2=1:=by
 refine⟨?_,?_,rfl⟩
 .cases lo with
  |none=>simp[sliceBounds,HT.bw]
  |some i=>
   simp only[sliceBounds,HT.bw,Yz,show(1:Int)>0 by decide,if_true];by_cases h:i<0
   .simp only[h,if_true]<;>omega
   .simp only[h,if_false]<;>omega
 .cases hi with
  |none=>simp[sliceBounds,HT.bw]
  |some i=>
   simp only[sliceBounds,HT.bw,Yz,show(1:Int)>0 by decide,if_true];by_cases h:i<0
   .simp only[h,if_true]<;>omega
   .simp only[h,if_false]<;>omega
def ayu(its:List Value)(lo hi:Option Int):slicePick its.toArray lo hi none=((its.drop (HT.bw its.length 0 lo)).take (HT.bw its.length its.length hi-HT.bw its.length 0 lo)).toArray:=by
 obtain⟨h1,h2,h3⟩:=ah0 lo hi its.toArray.size;unfold slicePick;rw[h1,h2,h3];simp only[sliceRange_one,pick_run,eU]<;>rfl
def ay8(K:aF):V->Option Int->Option Int->Hp->VK->Prop:=λx lo hi H Q=>∃a xs,x = .ref a/\au K H a xs/\∀p,H p=none->Q (.ref p) (upd H p (.lst (gU xs lo hi)))
def ava:oR X (ay8 X.K):=by
 intro pins s σ H x v vl vu lo hi sl Q I rx hs pl pu h;obtain⟨a,xs,rfl,hx,q⟩:=h;cases rx;obtain⟨its,r,ht,hz⟩:=I.list hx;have hlen:=r.length;refine⟨"list",_,slot_list_getitem.lookup,ht.isList.typeIs,?_⟩;refine wpAny_getItem_list_slice ht.isList hs pl pu .none (by simp) ?_ (by rw[eU]<;>omega);rw[ayu,<-hlen];refine⟨.ref s.heap.objs.size,_,I.laid (t':=s.toks) (o:= .lst (gU xs lo hi)) (λb ob q=>Heap.get?_push_of_some _ q) (aN _) ?_,rfl,q _ (I.hok.fresh (aN _))⟩;exact⟨fX (acz xs lo hi) hz,_,0,(r.drop (HT.bw xs.length 0 lo)).take (HT.bw xs.length xs.length hi-HT.bw xs.length 0 lo),Heap.get?_push_size _ rfl⟩
def qD:V->Bool
 |.non=>true
 |.bl _=>true
 |.int _=>true
 |.str _=>true
 |_=>false
def UN:V->V->Bool
 |.non,.non=>true
 |.bl a,.bl b=>a==b
 |.bl a,.int b=>(if a then 1 else 0)==b
 |.int a,.bl b=>a==(if b then 1 else 0)
 |.int a,.int b=>a==b
 |.str a,.str b=>a==b
 |_,_=>false
def ai6{A:Around}{s:Shared}{y x:V}{u v:Value}(ry:RelV y u)(rx:RelV x v)(fy:qD y=true)(fx:qD x=true):SeqAt.EqAt A s u v (UN y x):=by
 cases y with
 |non=>
  cases ry;cases x with
  |non=>cases rx;exact SeqAt.EqAt.same _
  |bl b=>cases rx;exact SeqAt.EqAt.none_bool b
  |int b=>obtain⟨t,rfl⟩:=rx;exact SeqAt.EqAt.none_int b t
  |str b=>obtain⟨t,rfl⟩:=rx;exact SeqAt.EqAt.none_str b t
  |_=>exact absurd (show false=true from fx) f9
 |bl a=>
  cases ry;cases x with
  |non=>cases rx;exact SeqAt.EqAt.bool_none a
  |bl b=>cases rx;exact SeqAt.EqAt.bool_bool a b
  |int b=>obtain⟨t,rfl⟩:=rx;exact SeqAt.EqAt.bool_int a b t
  |str b=>obtain⟨t,rfl⟩:=rx;exact SeqAt.EqAt.bool_str a b t
  |_=>exact absurd (show false=true from fx) f9
 |int a=>
  obtain⟨t',rfl⟩:=ry;cases x with
  |non=>cases rx;exact SeqAt.EqAt.int_none a t'
  |bl b=>cases rx;exact SeqAt.EqAt.int_bool a t' b
  |int b=>obtain⟨t,rfl⟩:=rx;exact SeqAt.EqAt.int_int a t' b t
  |str b=>obtain⟨t,rfl⟩:=rx;exact SeqAt.EqAt.int_str a t' b t
  |_=>exact absurd (show false=true from fx) f9
 |str a=>
  obtain⟨t',rfl⟩:=ry;cases x with
  |non=>cases rx;exact SeqAt.EqAt.str_none a t'
  |bl b=>cases rx;exact SeqAt.EqAt.str_bool a t' b
  |int b=>obtain⟨t,rfl⟩:=rx;exact SeqAt.EqAt.str_int a t' b t
  |str b=>obtain⟨t,rfl⟩:=rx;exact SeqAt.EqAt.str_str a t' b t
  |_=>exact absurd (show false=true from fx) f9
 |_=>exact absurd (show false=true from fy) f9
def amB:jU X (.type "list") (λxs H Q=>∃p ys,xs=[.ref p]/\(au X.K H p ys∨aA X.K H p ys)/\∀l,H l=none->Q (.ref l) (upd H l (.lst ys))):=by
 intro pins s σ H xs us Q I r h;obtain⟨p,ys,rfl,hq,q⟩:=h;obtain⟨u,rfl,rx⟩:=vals1 r;cases rx;have fin:∀(its:List Value),Vals ys its->ys.length<=sizeLine->∀(h':Heap) (c':Nat),(∀b o',s.heap.get? b=some o'->h'.get? b=some o')->
   h'.get? s.heap.objs.size=some { cls:= .type "list",dict:=none,data:= .seq its.toArray c',slots:=#[] }->EP X pins σ Q (.ref s.heap.objs.size) { s with heap:=h' }:=λits r' hz h' c' kp e=>
  ⟨.ref s.heap.objs.size,_,I.laid (t':=s.toks) kp (aN _) (show dB X.prog X.w _ h' _ (.lst ys)from⟨hz,its,c',r',e⟩),rfl,q _ (I.hok.fresh (aN _))⟩
 rcases hq with hq|hq
 .obtain⟨its,r',pl,hz⟩:=I.list hq;have hlen:=r'.length;obtain⟨o,ho,hc,n,hd⟩:=pl.isList;exact call_list_seq p (.inl rfl) ho hc hd (λh' c' kp e=>fin its r' hz h' c' kp e) (by simp only[eU]<;>omega)
 .obtain⟨its,r',pl,hz⟩:=I.tuple hq;have hlen:=r'.length;obtain⟨o,ho,hc,n,hd⟩:=pl;exact call_list_seq p (.inr rfl) ho hc hd (λh' c' kp e=>fin its r' hz h' c' kp e) (by simp only[eU]<;>omega)
def akY:jU X (.type "tuple") (λxs H Q=>∃p ys,xs=[.ref p]/\((au X.K H p ys/\∀l,H l=none->Q (.ref l) (upd H l (.tup ys)))∨(aA X.K H p ys/\Q (.ref p) H))):=by
 intro pins s σ H xs us Q I r h;obtain⟨p,ys,rfl,h⟩:=h;obtain⟨u,rfl,rx⟩:=vals1 r;cases rx;rcases h with⟨hq,q⟩|⟨hq,q⟩
 .obtain⟨its,r',pl,hz⟩:=I.list hq;have hlen:=r'.length;refine call_tuple_list pl.isList (λh' kp=>?_) (by simp only[eU]<;>omega);have I1:Inv X pins σ H { s with heap:=h' }:=I.kept (t':=s.toks) kp;have I2:Inv X pins σ (upd H h'.objs.size (.tup ys)) { s with heap:=h'.push { cls:= .type "tuple",data:= .seq its.toArray } }:=
   I1.laid (t':=s.toks) (λb o e=>Heap.get?_push_of_some _ e) (aN _) (show dB X.prog X.w _ _ _ (.tup ys)from⟨hz,its,r',IsTup.new _ _⟩)
  exact⟨.ref h'.objs.size,_,I2,rfl,q _ (I1.hok.fresh (aN _))⟩
 .obtain⟨its,r',pl,hz⟩:=I.tuple hq;exact call_tuple_same pl ⟨.ref p,H,I,rfl,q⟩
def Lq(K:aF)(T:String)(x:V)(H:Hp):Prop:=match x with
 |.str _=>T = "str"
 |.int _=>T = "int"
 |.ref p=>(T = "list" /\ ∃xs,au K H p xs)∨(T = "tuple" /\ ∃o,K.lookup p=some o/\o.cls = .type "tuple" /\ o.dict=none)∨
   (T = "dict" /\ ((∃kvs,H p=some (.dK kvs))∨∃kvs,H p=some (.dT kvs)))∨(T = "set" /\ ∃S n,H p=some (.set S n))
 |_=>False
def XI{pins:List (Addr×Obj)}{σ:St}{H:Hp}{s:Shared}{T:String}{x:V}{v:Value}(I:Inv X pins σ H s)(r:RelV x v)(ty:Lq X.K T x H):
  s.TypeIs v T/\∀a,v = .ref a->∃ob,s.heap.get? a=some ob/\ob.dict=none:=by
 cases x with
 |str z=>
  obtain⟨t,rfl⟩:=r;cases (show T = "str" from ty);exact⟨typeIs_str s z t,λ_ e=>nomatch e⟩
 |int i=>
  obtain⟨t,rfl⟩:=r;cases (show T = "int" from ty);exact⟨typeIs_int s i t,λ_ e=>nomatch e⟩
 |ref p=>
  cases r;rcases ty with⟨rfl,xs,hq⟩|⟨rfl,o,hk,hc,hd⟩|⟨rfl,hk⟩|⟨rfl,S,n,hk⟩
  .obtain⟨its,_,pl,_⟩:=I.list hq;refine⟨pl.isList.typeIs,λa e=>?_⟩;cases e;obtain⟨o,n,e,c,hd,_⟩:=pl;exact⟨o,e,hd⟩
  .refine⟨⟨o,I.xW p o hk,hc⟩,λa e=>?_⟩;cases e;exact⟨o,I.xW _ o hk,hd⟩
  .have z:∃o,s.heap.get? p=some o/\o.ExactDict:=by
    rcases hk with⟨kvs,hk⟩|⟨kvs,hk⟩
    .obtain⟨_,_,_,_,o,_,_,e,ex,_⟩:=I.hok p _ hk;exact⟨o,e,ex⟩
    .obtain⟨_,_,_,_,o,_,_,e,ex,_⟩:=I.hok p _ hk;exact⟨o,e,ex⟩
   obtain⟨o,e,ex⟩:=z;refine⟨⟨o,e,ex.1⟩,λa e2=>?_⟩;cases e2;exact⟨o,e,ex.2.1⟩
  .obtain⟨o,_,_,_,e,ex,_⟩:=I.hok p _ hk;refine⟨⟨o,e,ex.1⟩,λa e2=>?_⟩;cases e2;exact⟨o,e,ex.2.1⟩
 |_=>exact False.elim ty
inductive awL(K:aF)(T:String)(r:V->List V->Hp->VK->Prop)(x:V)(H:Hp)(Q:VK):Prop|mk (h:Lq K T x H) (q:r x [] H Q)
def Xo(K:aF)(T:String)(r:V->List V->Hp->VK->Prop)(to:TE):TE:=λσ H Q=>to σ H λx H1=>awL K T r x H1 Q
inductive SBM(K:aF)(T:String)(r:V->List V->Hp->VK->Prop)(t:TA)(x:V)(σ:St)(H:Hp)(Q:VK):Prop|mk (h:Lq K T x H) (q:t σ H λxs H2=>r x xs H2 Q)
def Vv(K:aF)(T:String)(r:V->List V->Hp->VK->Prop)(to:TE)(t:TA):TE:=λσ H Q=>to σ H λx H1=>SBM K T r t x σ H1 Q
variable {o e:Expr} {es:List Expr} {to:TE} {t:TA} {name:Str} {apos cpos:Pos} {T id:String} {r:V->List V->Hp->VK->Prop}
def au8(pa:PlainAttrs T)(slot:Slot T name id)(hty:typeOf (.builtin id)=pure (.type "method_descriptor"))(hm:MtR X id r)(ho:PE X o to)
  (hbase:attributeBase o name X.env (eval o X.env)=eval o X.env:=by rfl) (hline:(apos.endLine==cpos.line)=true:=by rfl):PE X (.Call (.Attribute o name apos) [] [] cpos) (Xo X.K T r to):=by
 intro pins s σ H Q I h;refine wpAny_Call_method0_late hbase hline (aW (ho pins s σ H _ I h) λv s1 ⟨x,H1,I1,r1,ty,q1⟩=>?_);obtain⟨h1,h2⟩:=XI I1 r1 ty;exact⟨T,id,pa,slot,hty,h1,h2,Tn rfl (PySem.evalArgs_none (hm pins s1 σ H1 x [] v [] Q I1 r1 .nil q1))⟩
def Y0(pa:PlainAttrs T)(slot:Slot T name id)(hty:typeOf (.builtin id)=pure (.type "method_descriptor"))(hm:MtR X id r)(ho:PE X o to)(ha:PA X (e::es) t)
  (hbase:attributeBase o name X.env (eval o X.env)=eval o X.env:=by rfl)
  (hfew:((backTo cpos (starEach (e::es) X.env)).all (λx=>!x.1)&&(backToKw cpos (keywordEach [] X.env)).all (λx=>x.1.isSome)
   && decide ((e::es).length+([]:List Keyword).length+(if([]:List Keyword).isEmpty then 0 else 1)<30))=true:=by rfl)
  (hline:(apos.endLine==cpos.line)=true:=by rfl) (hs:starEach (e::es) X.env=(false,eval e X.env)::starEach es X.env:=by rfl) (hplain:(backTo cpos (starEach es X.env)).any (·.1)=false:=by rfl):
  PE X (.Call (.Attribute o name apos) (e::es) [] cpos) (Vv X.K T r to t):=by
 intro pins s σ H Q I h;refine wpAny_Call_method_late hbase hfew hline rfl (aW (ho pins s σ H _ I h) λv s1 ⟨x,H1,I1,r1,ty,q1⟩=>?_);obtain⟨h1,h2⟩:=XI I1 r1 ty;refine⟨T,id,pa,slot,hty,h1,h2,?_⟩;have hA:=ha cpos pins s1 σ H1 _ I1 q1;rw[hs]at hA⊢;refine Tn (by show(false||(backTo cpos (starEach es X.env)).any (·.1))=false;rw[hplain]<;>rfl) (Lx ?_);exact aW hA λus s2 ⟨vs,H2,I2,r2,q2⟩=>hm pins s2 σ H2 x vs v us Q I2 r1 r2 q2
end
def PF(X:Cx)(id:String)(r:V->List V->Hp->VK->Prop):Prop:=
 ∀(pins:List (Addr×Obj)) (s:Shared) (σ:St) (H:Hp) (x:V) (xs:List V) (v:Value) (us:List Value) (Q:VK),Inv X pins σ H s->RelV x v->Vals xs us->r x xs H Q->
  wpAny (model X.prog X.w) X.A (call (.builtin id) (v::us)) (EP X pins σ Q) X.xe s
def Vals.one{x:V}{us:List Value}(h:Vals [x] us):∃u,us=[u]/\RelV x u:=by
 cases h with
 |cons r h=>cases h;exact⟨_,rfl,r⟩
def Vals.zero:∀{us:List Value},Vals [] us->us=[]
 |_,.nil=>rfl
theorem Vals.dropLast{xs:List V}{us:List Value}(h:Vals xs us):Vals xs.dropLast us.dropLast:=by
 induction h with
 |nil=>exact .nil
 |cons r t ih=>
  cases t with
  |nil=>exact .nil
  |cons q t'=>exact .cons r ih
theorem Vals.reverse{xs:List V}{us:List Value}(h:Vals xs us):Vals xs.reverse us.reverse:=by
 induction h with
 |nil=>exact .nil
 |cons r t ih=>rw[VP,VP];exact Vals.append ih (.cons r .nil)
theorem Vals.rep{xs:List V}{us:List Value}(h:Vals xs us):∀k:Nat,Vals (bN k xs).flatten (bN k us).flatten
 |0=> .nil
 |k+1=>by
  rw[wU,wU,Ef,Ef];exact Vals.append h (Vals.rep h k)
def awS{α:Type}(l:List α):l.eraseIdx (l.length-1)=l.dropLast:=by
 induction l with
 |nil=>rfl
 |cons a r ih=>
  cases r with
  |nil=>rfl
  |cons b r=>
   have e:(a::b::r).length-1=((b::r).length-1)+1:=by
    have h1:(a::b::r).length=r.length+2:=rfl;have h2:(b::r).length=r.length+1:=rfl;omega
   rw[e,List.eraseIdx_cons_succ,ih];all_goals rfl
theorem foldl_rep(its:List Value):∀(k:Nat) (acc:List Value),
  Q6 (λx1 x2=>x1++x2) acc.toArray (bN k its.toArray)=(acc++(bN k its).flatten).toArray
 |0,acc=>by simp
 |k+1,acc=>by
  have e:acc.toArray++its.toArray=(acc++its).toArray:=by simp
  have e2:(acc++its)++(bN k its).flatten=acc++(bN (k+1) its).flatten:=by
   rw[wU,Ef,OJ]
  rw[<-e2,<-foldl_rep its k (acc++its),<-e,wU,List.foldl_cons]
section
variable {X:Cx} {pins:List (Addr×Obj)} {σ:St} {H:Hp} {s:Shared} {l b:Addr} {xs ys zs:List V}
def Inv.Q9{its its':List Value}{n:Nat}{f:Array Value->Array Value}{t':Nat}(I:Inv X pins σ H s)(hH:H l=some (.lst xs))
  (e:s.heap.get? l=some { cls:= .type "list",data:= .seq its.toArray n }) (hf:f its.toArray=its'.toArray) (hv:Vals ys its') (hz:ys.length<=sizeLine):
  Inv X pins σ (upd H l (.lst ys)) { s with heap:=s.heap.update l (kj f),toks:=t' }:=by
 have q:=PySem.IsL.update e f;rw[hf]at q;refine I.write (x:=l) (e:=l) (by rw[hH];exact trivial) (.inl rfl) (λb' u hb hu=>(Heap.get?_update_other s.heap (kj f) (dG hb)).trans hu) ⟨_,q⟩ ?_;exact⟨hz,its',_,hv,q⟩
def Inv.Ob{its:List Value}{t':Nat}(I:Inv X pins σ H s)(hv:Vals ys its)(hz:ys.length<=sizeLine):
  Inv X pins σ (upd H s.heap.objs.size (.lst ys)) { s with heap:=s.heap.push { cls:= .type "list",data:= .seq its.toArray },toks:=t' }:=
 I.laid (λ_ _ q=>Heap.get?_push_of_some _ q) (aN _) ⟨hz,its,0,hv,Heap.get?_push_size _ rfl⟩
theorem Inv.fresh(I:Inv X pins σ H s):H s.heap.objs.size=none:=I.hok.fresh (aN _)
def Inv.uy(I:Inv X pins σ H s)(hH:H l=some (.lst xs)):xs.length<=sizeLine/\∃(its:List Value) (n:Nat),Vals xs its/\xs.length=its.length/\s.heap.get? l=some { cls:= .type "list",data:= .seq its.toArray n }:=by
 obtain⟨z,its,n,r,e⟩:=I.hok l _ hH;exact⟨z,its,n,r,r.length,e⟩
def adK{n:Nat}(h:n<=sizeLine):Builtin.List.listTooLong n=false:=by
 unfold Builtin.List.listTooLong;exact decide_eq_false ⋯
end
section
variable {X:Cx}
inductive awX(x:V)(vs:List V)(H:Hp)(Q:VK):Prop|mk (l:Addr) (xs:List V) (y:V) (hx:x = .ref l) (hv:vs=[y]) (hl:H l=some (.lst xs)) (hz:xs.length<sizeLine) (q:Q .non (upd H l (.lst (xs++[y]))))
def Wz:V->List V->Hp->VK->Prop:=λx vs H Q=>awX x vs H Q
def WM:PF X "list.append" Wz:=by
 intro pins s σ H x vs v us Q I rx rv h;obtain⟨l,xs,y,rfl,rfl,hH,hz,q⟩:=h;cases rx;obtain⟨u,rfl,ru⟩:=rv.one;obtain⟨z,its,n,r,hl,e⟩:=I.uy hH;refine call_meets F.slot_list_append ⟨_,e,rfl⟩ F.entry_list_append (F.args_list_append_2 _ _) (PySem.list_append l its.toArray n u (by rw[eU];omega)) ⟨e,?_⟩;refine⟨.non,_,I.Q9 (its':=its++[u]) hH e (by simp) (r.append (.cons ru .nil)) ?_,rfl,q⟩;rw[dW,ae0];omega
def abA:V->List V->Hp->VK->Prop:=λx vs H Q=>∃l b xs zs,x = .ref l/\vs=[.ref b]/\H l=some (.lst xs)/\H b=some (.lst zs)/\xs.length+zs.length<=sizeLine/\Q .non (upd H l (.lst (xs++zs)))
def ahL:PF X "list.extend" abA:=by
 intro pins s σ H x vs v us Q I rx rv h;obtain⟨l,b,xs,zs,rfl,rfl,hH,hB,hz,q⟩:=h;cases rx;obtain⟨u,rfl,ru⟩:=rv.one;cases ru;obtain⟨z,its,n,r,hl,e⟩:=I.uy hH;obtain⟨z2,its2,n2,r2,hl2,e2⟩:=I.uy hB;have hsz:its.toArray.size+its2.toArray.size<=sizeLine:=by rw[eU,eU];omega
 have N7:¬(!its.toArray.isEmpty&&Builtin.List.listTooLong (its.toArray.size+its2.toArray.size))=true:=by
  rw[adK hsz,Bool.and_false];exact f9
 refine call_meets F.slot_list_extend ⟨_,e,rfl⟩ F.entry_list_extend (F.args_list_extend_2 _ _)
  (AutoSeq1.list_extend_list_list_0 l its.toArray n b its2.toArray n2 N7 (by rw[eU];omega) ⋯) ⟨e,e2,?_⟩
 refine⟨.non,_,I.Q9 (its':=its++its2) hH e (by simp) (r.append r2) ?_,rfl,q⟩;rw[dW];omega
def aei:V->List V->Hp->VK->Prop:=λx vs H Q=>∃l xs y,x = .ref l/\vs=[]/\H l=some (.lst xs)/\xs[xs.length-1]?=some y/\Q y (upd H l (.lst xs.dropLast))
def ajt:PF X "list.pop" aei:=by
 intro pins s σ H x vs v us Q I rx rv h;obtain⟨l,xs,y,rfl,rfl,hH,hy,q⟩:=h;cases rx;have hus:=rv.zero;subst hus;obtain⟨z,its,n,r,hl,e⟩:=I.uy hH;obtain⟨u,hu,ru⟩:=r.get hy;have hy':its.toArray[its.toArray.size-1]?=some u:=by
  show its.toArray[its.length-1]?=some u;rw[<-Array.getElem?_toList,<-hl];exact hu
 refine call_meets F.slot_list_pop ⟨_,e,rfl⟩ F.entry_list_pop (F.args_list_pop_1 _) (MeetsSeq.list_pop_last l its.toArray n u hy' (by rw[eU];omega)) ⟨e,?_⟩;refine⟨y,_,I.Q9 (its':=its.dropLast) hH e ?_ r.dropLast ?_,ru,q⟩
 .show its.toArray.eraseIdxIfInBounds (its.toArray.size-1)=its.dropLast.toArray;rw[eU,List.eraseIdxIfInBounds_toArray,awS]
 .rw[vB];omega
def arZ:R2:=λx y H Q=>∃l b xs zs,x = .ref l/\y = .ref b/\H l=some (.lst xs)/\H b=some (.lst zs)/\xs.length+zs.length<=sizeLine/\∀p,H p=none->Q (.ref p) (upd H p (.lst (xs++zs)))
def alq:dh X (binaryOp .Add) arZ:=by
 intro pins s σ H x y v u Q I rx ry h;obtain⟨l,b,xs,zs,rfl,rfl,hH,hB,hz,q⟩:=h;cases rx;cases ry;obtain⟨z,its,n,r,hl,e⟩:=I.uy hH;obtain⟨z2,its2,n2,r2,hl2,e2⟩:=I.uy hB;refine PySem.P.add_list e e2 ?_ (by rw[eU,eU];omega);have ea:its.toArray++its2.toArray=(its++its2).toArray:=by simp
 rw[ea];exact⟨.ref _,_,I.Ob (t':=s.toks) (r.append r2) (by rw[dW];omega),rfl,q _ I.fresh⟩
def apx:R2:=λx y H Q=>∃l k xs,x = .ref l/\y = .int k/\H l=some (.lst xs)/\-(2^63)<=k/\k<2^63/\xs.length*k.toNat<=sizeLine/\
 ∀p,H p=none->Q (.ref p) (upd H p (.lst (bN k.toNat xs).flatten))
def len_rep{α:Type}(xs:List α)(k:Nat):(bN k xs).flatten.length=k*xs.length:=by
 induction k with
 |zero=>simp
 |succ k ih=>rw[wU,Ef,dW,ih,sV,aea]
def atn:dh X (binaryOp .Mult) apx:=by
 intro pins s σ H x y v u Q I rx ry h;obtain⟨l,k,xs,rfl,rfl,hH,h1,h2,hz,q⟩:=h;cases rx;obtain⟨t,rfl⟩:=ry;obtain⟨z,its,n,r,hl,e⟩:=I.uy hH;have hlen:its.toArray.size*k.toNat<=sizeLine:=by rw[eU,<-hl];exact hz
 have hcap:¬its.toArray.size*k.toNat>(2^63-1)/8:=by
  have:(sizeLine:Nat)<=(2^63-1)/8:=∅;omega
 have hfit:¬(!Builtin.List.listFitsIndex k)=true:=by
  rw[fitsIndex_both h1 h2];exact f9
 have N7:¬Builtin.List.listTooLong (its.toArray.size*k.toNat)=true:=by
  rw[adK hlen];exact f9
 have hnew:Q6 (λx1 x2=>x1++x2) #[] (bN (if its.toArray.isEmpty=true then 0 else k.toNat) its.toArray)=(bN k.toNat its).flatten.toArray:=by
  have f0:∀m:Nat,Q6 (λx1 x2=>x1++x2) #[] (bN m its.toArray)=(bN m its).flatten.toArray:=λm=>by
   have:=foldl_rep its m [];rw[List.nil_append]at this;exact this
  rw[f0];cases its with
  |nil=>simp
  |cons a r'=>rw[if_neg (by simp)]
 refine wpAny_binaryOp_repeat_ref (T:= "list") (U:= "int") ∅ ⟨_,e,rfl⟩ (λs'=>typeIs_int s' k t) noFill_list_mul F.fills_int_mul aee repeat_list F.slot_int_index.lookup
  (call_meets aee (typeIs_int s k t) F.entry_int_rmul (F.args_int_rmul_2 _ _) (int___rmul___int_list k t l its.toArray n)
   ⟨e,rfl,⟨_,e,rfl⟩,call_meets F.slot_list_mul ⟨_,e,rfl⟩ F.entry_list_mul (F.args_list_mul_2 _ _) (AutoListH.list___mul___list_int_3 l its.toArray n k t hfit hcap N7) ⟨e,?_⟩⟩)
 rw[hnew];exact⟨.ref _,_,I.Ob (t':=s.toks) (r.rep k.toNat) (by rw[len_rep,qF];exact hz),rfl,q _ I.fresh⟩
end
section
variable {prog:Program} {w:World} {A:Around} {E:Value->Shared->Prop} {s:Shared}
end
section
variable {X:Cx}
end
section
variable {κ:Type} [DecidableEq κ]
def dU(kvs:List (κ×V))(k:κ):Option V:=(kvs.find? λkv=>decide (kv.1=k)).map (·.2)
def putK(kvs:List (κ×V))(k:κ)(v:V):List (κ×V):=
 if(kvs.any λkv=>decide (kv.1=k))=true then kvs.map (λkv=>if kv.1=k then(kv.1,v)else kv)else kvs++[(k,v)]
def yL{p:κ×V}{r:List (κ×V)}{k:κ}(e:p.1=k):dU (p::r) k=some p.2:=by simp[dU,List.find?_cons,e]
def wO{p:κ×V}{r:List (κ×V)}{k:κ}(e:¬p.1=k):dU (p::r) k=dU r k:=by simp[dU,List.find?_cons,e]
theorem af2(k:κ):∀kvs:List (κ×V),(kvs.any λkv=>decide (kv.1=k))=(dU kvs k).isSome
 |[]=>rfl
 |p::r=>by
  rw[Bj];by_cases e:p.1=k
  .simp only[yL e,decide_eq_true e,WH,Option.isSome_some]
  .rw[wO e,decide_eq_false e,Pq];exact af2 k r
def W5(kvs:List (κ×V))(k:κ)(v:V):(putK kvs k v).length<=kvs.length+1:=by
 unfold putK;split
 .rw[aB];omega
 .rw[dW,iQ,M6];omega
def j7.U0{o:Option V}{u:Option Value}(r:j7 o u):o.isSome=u.isSome:=by
 cases o with
 |none=>cases u with
  |none=>rfl
  |some _=>exact(show False from r).elim
 |some _=>cases u with
  |none=>exact(show False from r).elim
  |some _=>rfl
theorem j7.getD{o:Option V}{u:Option Value}{d:V}{d':Value}(r:j7 o u)(rd:RelV d d'):RelV (o.getD d) (u.getD d'):=by
 cases o with
 |none=>cases u with
  |none=>exact rd
  |some _=>exact(show False from r).elim
 |some _=>cases u with
  |none=>exact(show False from r).elim
  |some _=>exact r
def KV.val{kvs:List (κ×V)}{vs:List (κ×Value)}(r:KV kvs vs)(k:κ):j7 (dU kvs k) (valueAt vs k):=by
 unfold KV at r;induction r with
 |nil=>exact True.intro
 |@cons p q ps qs h t ih=>
  obtain⟨h1,h2⟩:=h;by_cases e:p.1=k
  .have e':q.1=k:=h1.symm.trans e;have b:valueAt (q::qs) k=some q.2:=by simp[valueAt,List.find?_cons,e']
   rw[yL e,b];exact h2
  .have e':¬q.1=k:=λz=>e (h1.trans z);have b:valueAt (q::qs) k=valueAt qs k:=by simp[valueAt,List.find?_cons,e']
   rw[wO e,b];exact ih
theorem KV.any{kvs:List (κ×V)}{vs:List (κ×Value)}(r:KV kvs vs)(k:κ):(kvs.any λkv=>decide (kv.1=k))=vs.any λkv=>decide (kv.1=k):=by
 unfold KV at r;induction r with
 |nil=>rfl
 |cons h t ih=>rw[Bj,Bj,ih,h.1]
def KV.repl{kvs:List (κ×V)}{vs:List (κ×Value)}(r:KV kvs vs)(k:κ){y:V}{u:Value}(ry:RelV y u):
  KV (kvs.map λkv=>if kv.1=k then(kv.1,y)else kv) (vs.map λkv=>if kv.1=k then(kv.1,u)else kv):=by
 unfold KV at r⊢;induction r with
 |nil=>exact .nil
 |@cons p q ps qs h t ih=>
  rw[bG,bG];refine .cons ?_ ih;obtain⟨h1,h2⟩:=h;by_cases e:p.1=k
  .rw[if_pos e,if_pos (h1.symm.trans e)];exact⟨h1,ry⟩
  .rw[if_neg e,if_neg (λz=>e (h1.trans z))];exact⟨h1,h2⟩
def KV.put{kvs:List (κ×V)}{vs:List (κ×Value)}(r:KV kvs vs)(k:κ){y:V}{u:Value}(ry:RelV y u):KV (putK kvs k y) (stored vs k u):=by
 unfold putK stored;rw[r.any k];by_cases e:(vs.any λkv=>decide (kv.1=k))=true
 .rw[if_pos e,if_pos e];exact r.repl k ry
 .rw[if_neg e,if_neg e];exact Paired.snoc r ⟨rfl,ry⟩
theorem KV.length{kvs:List (κ×V)}{vs:List (κ×Value)}(r:KV kvs vs):kvs.length=vs.length:=Paired.length r
end
def Dw{P:Program}{w:World}{k:Key}{u:Value}(r:RelV (kV k) u):(gW P w).is k u=true:=by
 cases k with
 |inl i=>obtain⟨t,e⟩:=(show ∃t,u=Value.int i t from r);subst e;exact akc P w i t
 |inr x=>obtain⟨t,e⟩:=(show ∃t,u=Value.str x t from r);subst e;exact avh P w x t
theorem Yg{P:Program}{w:World}:∀{ks:List Key} {us:List Value},Vals (ks.map kV) us->ItemsAre (gW P w) ks us
 |[],_,r=>by rw[Ow]at r;cases r;exact .nil
 |k::ks,_,r=>by
  rw[bG]at r;cases r with
  |cons h t=>exact .cons (Dw h) (Yg t)
abbrev KT(H:Hp):List (List Key×V)->List (List Key×Addr×Value)->Prop:=Paired λp q=>p.1=q.1/\H q.2.1=some (.tup (p.1.map kV))/\RelV p.2 q.2.2
def KT.val{H:Hp}{kvs:List (List Key×V)}{xs:List (List Key×Addr×Value)}(r:KT H kvs xs)(k:List Key):j7 (dU kvs k) ((atKey xs k).map (·.2)):=by
 induction r with
 |nil=>exact True.intro
 |@cons p q ps qs h t ih=>
  obtain⟨h1,_,h2⟩:=h;by_cases e:p.1=k
  .have e':q.1=k:=h1.symm.trans e;have b:atKey (q::qs) k=some q.2:=by simp[atKey,List.find?_cons,e']
   rw[yL e,b];exact h2
  .have e':¬q.1=k:=λz=>e (h1.trans z);have b:atKey (q::qs) k=atKey qs k:=by simp[atKey,List.find?_cons,e']
   rw[wO e,b];exact ih
def KT.repl{H:Hp}{kvs:List (List Key×V)}{xs:List (List Key×Addr×Value)}(r:KT H kvs xs)(k:List Key){y:V}{u:Value}(ry:RelV y u):
  KT H (kvs.map λkv=>if kv.1=k then(kv.1,y)else kv) (xs.map (putAt k u)):=by
 induction r with
 |nil=>exact .nil
 |@cons p q ps qs h t ih=>
  rw[bG,bG];refine .cons ?_ ih;obtain⟨h1,h2,h3⟩:=h;unfold putAt;by_cases e:p.1=k
  .rw[if_pos e,if_pos (h1.symm.trans e)];exact⟨h1,h2,ry⟩
  .rw[if_neg e,if_neg (λz=>e (h1.trans z))];exact⟨h1,h2,h3⟩
def KT.put{H:Hp}{kvs:List (List Key×V)}{xs:List (List Key×Addr×Value)}(r:KT H kvs xs)(k:List Key){b:Addr}{y:V}{u:Value}(hb:H b=some (.tup (k.map kV)))(ry:RelV y u):
  KT H (putK kvs k y) (storedH xs k b u):=by
 have e:(kvs.any λkv=>decide (kv.1=k))=(atKey xs k).isSome:=by
  rw[af2,(r.val k).U0,afd]
 unfold putK storedH;rw[e];by_cases q:(atKey xs k).isSome=true
 .rw[if_pos q,if_pos q];exact r.repl k ry
 .rw[if_neg q,if_neg q];exact Paired.snoc r ⟨rfl,hb,ry⟩
def KT.keeps{H H':Hp}{kvs:List (List Key×V)}{xs:List (List Key×Addr×Value)}(r:KT H kvs xs)(ht:∀b ys,H b=some (.tup ys)->H' b=some (.tup ys)):KT H' kvs xs:=
 Paired.MG r λ_ _ z=>⟨z.1,ht _ _ z.2.1,z.2.2⟩
section
variable {P:Program} {w:World} {H:Hp} {h:Heap} {a:Addr}
def acd{u:HO}(ok:fD P w H h)(e:Rd H a u):dB P w H h a u:=e.ok ok
def Bf{kvs:List (Key×V)}(ok:fD P w H h)(e:Rd H a (.dK kvs)):kvs.length<=sizeLine/\(a==sysModules)=false/\∃vs,KV kvs vs/\h.DictOf (gW P w) a vs:=
 show dB P w H h a (.dK kvs)from acd ok e
def asz{kvs:List (Key×V)}(ok:fD P w H h)(e:H a=some (.dK kvs)):kvs.length<=sizeLine/\(a==sysModules)=false/\∃vs,KV kvs vs/\h.DictOf (gW P w) a vs:=Bf ok (.inl e)
def DV{ks:List Key}(ok:fD P w H h)(e:H a=some (.tup (ks.map kV))):(tupleKind (gW P w)).is h ks a:=by
 obtain⟨_,its,r,o,h1,h2,n,h3⟩:=(show dB P w H h a (.tup (ks.map kV))from ok a _ e);exact⟨o,its.toArray,n,h1,h2,h3,by simpa using Yg r⟩
def yR{kvs:List (List Key×V)}(ok:fD P w H h)(e:Rd H a (.dT kvs)):kvs.length<=sizeLine/\(a==sysModules)=false/\
  ∃xs,KT H kvs xs/\h.DictOfH (tupleKind (gW P w)) a xs:=by
 obtain⟨z,y,xs,r,o,es,ep,h1,h2,h3,h4,h5⟩:=(show dB P w H h a (.dT kvs)from acd ok e);refine⟨z,y,xs,r,o,es,ep,h1,h2,h3,h4,λx hx=>?_,h5⟩;have all:∀{l:List (List Key×V)} {m:List (List Key×Addr×Value)},KT H l m->∀x∈m,(tupleKind (gW P w)).is h x.1 x.2.1:=by
  intro l m q;induction q with
  |nil=>intro x hx;exact nomatch hx
  |@cons p q ps qs hq t ih=>
   intro x hx;rcases bJ.mp hx with e|hx
   .subst e;exact DV ok (by rw[<-hq.1];exact hq.2.1)
   .exact ih x hx
 exact all r x hx
def amP{kvs:List (List Key×V)}(ok:fD P w H h)(e:H a=some (.dT kvs)):kvs.length<=sizeLine/\(a==sysModules)=false/\
  ∃xs,KT H kvs xs/\h.DictOfH (tupleKind (gW P w)) a xs:=yR ok (.inl e)
end
def oE(H:Hp)(a:Addr)(y:V)(r:Option V):Prop:=
 (∃kvs k,Rd H a (.dK kvs)/\y=kV k/\r=dU kvs k)∨∃kvs k b,Rd H a (.dT kvs)/\y = .ref b/\H b=some (.tup (k.map kV))/\r=dU kvs k
def xJ(H:Hp)(a:Addr)(y v:V)(H':Hp):Prop:=
 (∃kvs k,H a=some (.dK kvs)/\y=kV k/\kvs.length<sizeLine/\H'=upd H a (.dK (putK kvs k v)))∨
 ∃kvs k b,H a=some (.dT kvs)/\y = .ref b/\H b=some (.tup (k.map kV))/\kvs.length<sizeLine/\H'=upd H a (.dT (putK kvs k v))
theorem oE.k{H:Hp}{a:Addr}{kvs:List (Key×V)}{k:Key}(e:H a=some (.dK kvs)):oE H a (kV k) (dU kvs k):= .inl ⟨kvs,k,.inl e,rfl,rfl⟩
theorem xJ.k{H:Hp}{a:Addr}{kvs:List (Key×V)}{k:Key}{v:V}(e:H a=some (.dK kvs))(hl:kvs.length<sizeLine):xJ H a (kV k) v (upd H a (.dK (putK kvs k v))):= .inl ⟨kvs,k,e,rfl,hl,rfl⟩
section
variable {X:Cx} {pins:List (Addr×Obj)} {σ:St} {H:Hp} {s:Shared} {a:Addr} {y v:V} {u r:Value} {o:Option V} {A:Around} {E:Value->Shared->Prop}
def Inv.big(I:Inv X pins σ H s):sysModules<s.heap.objs.size:=by
 have h:mainGlobals<s.heap.objs.size:=(I.mod.glob.keeps I.bk).lt;exact vJ ∅ h
def aog{Q:Value->Shared->Prop}(hu:A.units+1<cLine)(I:Inv X pins σ H s)(g:oE H a y (some v))(ry:RelV y u)(h:∀w' s',Inv X pins σ H s'->RelV v w'->Q w' s'):
  wpAny (model X.prog X.w) A (getItem (.ref a) u) Q E s:=by
 rcases g with⟨kvs,k,e,ey,l⟩|⟨kvs,k,b,e,ey,eb,l⟩
 .subst ey;obtain⟨z,hd,vs,rel,dd⟩:=Bf I.hok e;obtain⟨w',hw,nH⟩:=j7.some_of (v:=v) (o:=valueAt vs k) (by rw[l];exact rel.val k);exact wpAny_getItem_of (Dw ry) dd.mapOf hw (h w' _ (I.tok _) nH)
 .subst ey;cases (show u=Value.ref b from ry);obtain⟨z,hd,xs,rel,dd⟩:=yR I.hok e;obtain⟨w',hw,nH⟩:=j7.some_of (v:=v) (o:=(atKey xs k).map (·.2)) (by rw[l];exact rel.val k);obtain⟨p,hp,hp2⟩:=Xx.mp hw;refine wpAny_getItem_heap (tupleKind_room_in1 hu) (DV I.hok eb) dd hp ?_;rw[hp2];exact h w' _ (I.tok _) nH
def ajR{Q:Value->Shared->Prop}(hu:A.units+1<cLine)(I:Inv X pins σ H s)(g:oE H a y o)(ry:RelV y u)(h:∀s',Inv X pins σ H s'->Q (.bool (!o.isSome)) s'):
  wpAny (model X.prog X.w) A (compareOp .NotIn u (.ref a)) Q E s:=by
 rcases g with⟨kvs,k,e,ey,l⟩|⟨kvs,k,b,e,ey,eb,l⟩
 .subst ey;obtain⟨z,hd,vs,rel,dd⟩:=Bf I.hok e;refine wpAny_notIn_of (Dw ry) hd dd.mapOf ?_;rw[<-(rel.val k).U0,<-l];exact h _ (I.tok _)
 .subst ey;cases (show u=Value.ref b from ry);obtain⟨z,hd,xs,rel,dd⟩:=yR I.hok e;refine wpAny_notIn_heap (tupleKind_room_in1 hu) (DV I.hok eb) hd dd ?_;have q:=(rel.val k).U0;rw[afd]at q;rw[<-q,<-l];exact h _ (I.tok _)
def adL{h':Heap}{t':Nat}{ob:HO}(I:Inv X pins σ H s)(mu:Dg (H a))(hs:Fo a s.heap h')(he:∃q,h'.get? a=some q)(new:dB X.prog X.w (upd H a ob) h' a ob):
  Inv X pins σ (upd H a ob) { s with heap:=h',toks:=t' }:=
 I.write (x:=a) (e:=a) mu (.inl rfl) (λb q hb z=>(hs.2 b hb).trans z) he new
def aqf{P:Program}{w:World}{H':Hp}{h':Heap}{kvs:List (Key×V)}{vs:List (Key×Value)}(z:kvs.length<=sizeLine)(hd:(a==sysModules)=false)(rel:KV kvs vs)(dd:h'.DictOf (gW P w) a vs):
  dB P w H' h' a (.dK kvs):=⟨z,hd,vs,rel,dd⟩
def ams{H':Hp}{Q:Unit->Shared->Prop}(hu:A.units+1<cLine)(I:Inv X pins σ H s)(g:xJ H a y v H')(ry:RelV y u)(rv:RelV v r)(h:∀s',Inv X pins σ H' s'->Q () s'):
  wpAny (model X.prog X.w) A (setItem (.ref a) u r) Q E s:=by
 rcases g with⟨kvs,k,e,ey,l,eH⟩|⟨kvs,k,b,e,ey,eb,l,eH⟩
 .subst ey eH;obtain⟨z,hd,vs,rel,dd⟩:=asz I.hok e;have hz:vs.length<=sizeLine:=by rw[<-rel.length];exact z
  have hl:(putK kvs k v).length<=sizeLine:=by have:=W5 kvs k v;omega
  refine wpAny_setItem_pairs (hsz:=hz) (Dw ry) dd λh' Jz hs=>h _ ?_;have he:∃q,h'.get? a=some q:=let⟨q,_,_,hq,_⟩:=Jz;⟨q,hq⟩;exact adL I (by rw[e];exact True.intro) hs he (aqf hl hd (rel.put k rv) Jz)
 .subst ey eH;cases (show u=Value.ref b from ry);obtain⟨z,hd,xs,rel,dd⟩:=amP I.hok e;have hz:xs.length<=sizeLine:=by rw[<-Paired.length rel];exact z
  have hl:(putK kvs k v).length<=sizeLine:=by have:=W5 kvs k v;omega
  refine wpAny_setItem_heap (hsz:=hz) (tupleKind_room_in1 hu) (DV I.hok eb) dd λh' Jz hs=>h _ ?_;obtain⟨q,es,ep,hq,h2,h3,h4,_,h5⟩:=Jz;refine adL I (by rw[e];exact True.intro) hs ⟨q,hq⟩ ⟨hl,hd,_,(rel.put k eb rv).keeps λc ys ec=>?_,q,es,ep,hq,h2,h3,h4,h5⟩;rw[bI (axt ec e (λz=>nomatch z))];exact ec
end
section
variable {X:Cx} {pins:List (Addr×Obj)} {σ:St} {H:Hp} {s:Shared} {a:Addr} {kvs:List (Key×V)} {k:Key} {u:Value} {A:Around} {E:Value->Shared->Prop}
end
def adO(i:Expr):Prop:=∀ov iv,subscripted i false ov iv=operate [ov,iv] (getItem ov iv)
def aw8{prog:Program}{w:World}{A:Around}{E:Value->Shared->Prop}{s:Shared}{env:Env}{value slice:Expr}{pos:Pos}{T id:String}{Q:Value->Shared->Prop}
  (hl:typeLookup (.type T) "__getitem__" = pure (some (.builtin id))) (hs:adO slice)
  (h:wpAny (model prog w) A (eval value env) (λo s₁=>wpAny (model prog w) A (eval slice env) (λi s₂=>s₂.TypeIs o T/\wpAny (model prog w) A (getItem o i) Q E s₂) E s₁) E s):
  wpAny (model prog w) A (eval (.Subscript value slice pos) env) Q E s:=by
 refine Subscript_ (wpAny_mono h (λo s₁ h₁=>wpAny_mono h₁ (λi s₂ h₂=>?_) λ_ _ x=>x) λ_ _ x=>x);obtain⟨hT,h₂⟩:=h₂;unfold subscriptTail;refine wpAny_bind ?_;rw[getitemInPython_of_ne hT.not_modules];refine wpAny_bind (wpAny_specialOf hT hl ?_);have fin:wpAny (model prog w) A (subscripted slice false o i) (λr s₃=>wpAny (model prog w) A (letTemporaryGo value o r>>=λ_=>pure r) Q E s₃) E s₂:=by
  rw[hs o i];exact wpAny_operating (wpAny_mono h₂ (λr s₃ h₃=>wpAny_bind (wpAny_letTemporaryGo (wpAny_pure h₃))) λ_ _ x=>x)
 first
  |exact wpAny_pure (wpAny_bind fin)
  |exact wpAny_bind (wpAny_pure (wpAny_bind fin))
  |exact wpAny_bind fin
def avk{X:Cx}{pins:List (Addr×Obj)}{σ:St}{H:Hp}{s:Shared}{a:Addr}{y:V}{o:Option V}(I:Inv X pins σ H s)(g:oE H a y o):s.TypeIs (.ref a) "dict" := by
 rcases g with⟨kvs,k,e,_,_⟩|⟨kvs,k,b,e,_,_,_⟩
 .obtain⟨_,_,vs,_,dd⟩:=Bf I.hok e;exact dd.typeIs
 .obtain⟨_,_,xs,_,dd⟩:=yR I.hok e;exact dd.typeIs
inductive apv(x y:V)(H:Hp)(Q:VK):Prop|mk (a:Addr) (v:V) (hx:x = .ref a) (hg:oE H a y (some v)) (q:Q v H)
def avQ(td ty:TE):TE:=λσ H Q=>td σ H λx H1=>ty σ H1 λy H2=>apv x y H2 Q
def awm(ty td:TE):TE:=λσ H Q=>ty σ H λy H1=>td σ H1 λx H2=>∃a o,x = .ref a/\oE H2 a y o/\Q (.bl (!o.isSome)) H2
inductive ajY(x y v:V)(σ:St)(H:Hp)(Q:St->Hp->Prop):Prop|mk (a:Addr) (H4:Hp) (hx:x = .ref a) (hp:xJ H a y v H4) (q:Q σ H4)
def awt(td ty tv:TE):TS:=λD σ H=>tv σ H λv H1=>td σ H1 λx H2=>ty σ H2 λy H3=>ajY x y v σ H3 D.nx
section
variable {X:Cx} {o i e value:Expr} {pos pos' tpos:Pos} {td ty tv:TE}
def FJ(hu:X.A.units+1<cLine)(ho:PE X o td)(hi:PE X i ty)(hs:adO i):PE X (.Subscript o i pos) (avQ td ty):=by
 intro pins s σ H Q I h;refine aw8 PySem.F.slot_dict_getitem.lookup hs (aW (ho pins s σ H _ I h) λu s1 ⟨x,H1,I1,rx,q1⟩=>aW (hi pins s1 σ H1 _ I1 q1) λiv s2 ⟨y,H2,I2,ry,a,v,ex,g,q2⟩=>?_);subst ex;obtain rfl:u=Value.ref a:=rx;exact⟨avk I2 g,aog hu I2 g ry λw' s3 I3 nH=>⟨v,H2,I3,nH,q2⟩⟩
def ao5(hu:X.A.units+1<cLine)(hi:PE X i ty)(ho:PE X o td):PC X .NotIn i o (awm ty td):=by
 intro pins s σ H Q I h;refine aW (hi pins s σ H _ I h) λiv s1 ⟨y,H1,I1,ry,q1⟩=>aW (ho pins s1 σ H1 _ I1 q1) λu s2 ⟨x,H2,I2,rx,a,ov,ex,g,q2⟩=>?_;subst ex;obtain rfl:u=Value.ref a:=rx;exact ajR hu I2 g ry λs3 I3=>⟨.bl (!ov.isSome),H2,I3,rfl,q2⟩
def Tv(hu:X.A.units+1<cLine)(ho:PE X o td)(hi:PE X i ty)(hv:PE X value tv)(hs:swapsWith value (some (.Subscript o i pos')) pos.line X.env=pure false):
  PS X (.Assign [.Subscript o i pos'] value pos) (awt td ty tv):=by
 intro pins s σ H D I h;refine wpAny_Assign_Subscript (aW (hv pins s σ H _ I h) λr s1 ⟨v,H1,I1,rv,q1⟩=>aW (ho pins s1 σ H1 _ I1 q1) λu s2 ⟨x,H2,I2,rx,q2⟩=>aW (hi pins s2 σ H2 _ I2 q2) λiv s3 ⟨y,H3,I3,ry,a,H4,ex,g,q3⟩=>?_) hs;subst ex;obtain rfl:u=Value.ref a:=rx;exact ams hu I3 g ry rv λs4 I4=>⟨σ,H4,I4,q3⟩
end
def ang{P:Program}{w:World}{H:Hp}(h:Heap)(hb:sysModules<h.objs.size):dB P w H (h.push { cls:= .type "dict",data:= .dict #[] }) h.objs.size (.dK []):=
 ⟨cD _,beq_eq_false_iff_ne.mpr (dG (jJ hb)),[],.nil,Heap.DictOf.new h⟩
def al0:TE:=λ_ H Q=>∀p,H p=none->Q (.ref p) (upd H p (.dK []))
section
variable {X:Cx} {pos:Pos}
def SR:PE X (.Dict [] [] pos) al0:=λpins s σ H Q I h=>
 wpAny_Dict_empty ⟨.ref s.heap.objs.size,_,I.laid (a:=s.heap.objs.size) (o:= .dK []) (t':=s.toks) (λ_ _ q=>Heap.get?_push_of_some _ q) (aN _) (ang s.heap I.big),rfl,h _ (I.hok.fresh (aN _))⟩
end
structure M2(X:Cx)(o:Expr)(m:Str)(apos:Pos)(e f:Expr)(cpos:Pos):Prop where
 base:attributeBase o m X.env (eval o X.env)=eval o X.env
 few:((backTo cpos (starEach [e,f] X.env)).all (λx=>!x.1)&&(backToKw cpos (keywordEach [] X.env)).all (λx=>x.1.isSome)
  && decide (([e,f]:List Expr).length+([]:List Keyword).length+(if([]:List Keyword).isEmpty then 0 else 1)<30))=true
 line:(apos.endLine==cpos.line)=true
 trees:backTo cpos (starEach [e,f] X.env)=[(false,eval e X.env),(false,eval f X.env)]
def IsD(H:Hp)(a:Addr):Prop:=(∃kvs,Rd H a (.dK kvs))∨∃kvs,Rd H a (.dT kvs)
def ayl{X:Cx}{pins:List (Addr×Obj)}{σ:St}{H:Hp}{s:Shared}{a:Addr}(I:Inv X pins σ H s)(d:IsD H a):
  s.TypeIs (.ref a) "dict" /\ (∀b,Value.ref a = .ref b->∃ob,s.heap.get? b=some ob/\ob.dict=none)/\(a==sysModules)=false:=by
 rcases d with⟨kvs,e⟩|⟨kvs,e⟩
 .obtain⟨_,hd,vs,_,dd⟩:=Bf I.hok e;refine⟨dd.typeIs,λb q=>?_,hd⟩;cases q;obtain⟨ob,_,_,h1,h2,_⟩:=dd;exact⟨ob,h1,h2.2.1⟩
 .obtain⟨_,hd,xs,_,dd⟩:=yR I.hok e;refine⟨dd.typeIs,λb q=>?_,hd⟩;cases q;obtain⟨ob,_,_,h1,h2,_⟩:=dd;exact⟨ob,h1,h2.2.1⟩
section
variable {X:Cx} {pins:List (Addr×Obj)} {σ:St} {H:Hp} {s:Shared} {a:Addr} {y d:V} {u r:Value} {o:Option V} {A:Around} {E:Value->Shared->Prop}
def asu{Q:Value->Shared->Prop}(hu:A.units+1<cLine)(I:Inv X pins σ H s)(g:oE H a y o)(ry:RelV y u)(rd:RelV d r)(h:∀w' s',Inv X pins σ H s'->RelV (o.getD d) w'->Q w' s'):
  wpAny (model X.prog X.w) A (call (.builtin "dict.get") [.ref a,u,r]) Q E s:=by
 rcases g with⟨kvs,k,e,ey,l⟩|⟨kvs,k,b,e,ey,eb,l⟩
 .subst ey;obtain⟨z,hd,vs,rel,dd⟩:=Bf I.hok e;refine call_meetsIn Uz dd.typeIs aco (Yw _ _ _) (meets_dict_get_default (gW X.prog X.w) a (Dw ry) hd r) ⟨_,dd.mapOf,h _ _ (I.tok _) ?_⟩;rw[l];exact(rel.val k).getD rd
 .subst ey;cases (show u=Value.ref b from ry);obtain⟨z,hd,xs,rel,dd⟩:=yR I.hok e;refine call_meetsIn Uz dd.typeIs aco (Yw _ _ _) (meetsH_dict_get_default (tupleKind (gW X.prog X.w)) a b hd r) ⟨tupleKind_room_in1 hu,k,xs,DV I.hok eb,dd,h _ _ (I.tok _) ?_⟩;rw[l];exact(rel.val k).getD rd
end
inductive ajz(a:Addr)(y z:V)(H:Hp)(Q:VK):Prop|mk (o:Option V) (hg:oE H a y o) (q:Q (o.getD z) H)
inductive asW(ty tx:TE)(x:V)(σ:St)(H:Hp)(Q:VK):Prop|mk (a:Addr) (hx:x = .ref a) (hd:IsD H a) (q:ty σ H λy H2=>tx σ H2 λz H3=>ajz a y z H3 Q)
def apS(td ty tx:TE):TE:=λσ H Q=>td σ H λx H1=>asW ty tx x σ H1 Q
section
variable {X:Cx} {o e f:Expr} {apos cpos:Pos} {td ty tx:TE}
def awU(hu:X.A.units+1<cLine)(ho:PE X o td)(he:PE X e ty)(hf:PE X f tx)(m:M2 X o "get" apos e f cpos):PE X (.Call (.Attribute o "get" apos) [e,f] [] cpos) (apS td ty tx):=by
 intro pins s σ H Q I h;refine wpAny_Call_method m.base m.few m.line PySem.F.plainAttrs_dict Uz PySem.F.type_dict_get (aW (ho pins s σ H _ I h) λu s1 ⟨x,H1,I1,rx,a,ex,d,q1⟩=>?_);subst ex;obtain rfl:u=Value.ref a:=rx;obtain⟨t1,t2,_⟩:=ayl I1 d;refine⟨t1,t2,?_⟩;rw[m.trees];refine Tn rfl (Lx (JT (aW (he pins s1 σ H1 _ I1 q1) λiv s2 ⟨y,H2,I2,ry,q2⟩=>
  JT (aW (hf pins s2 σ H2 _ I2 q2) λfv s3 ⟨z,H3,I3,rz,ov,g,q3⟩=>Ql ?_))))
 exact asu hu I3 g ry rz λw' s4 I4 nH=>⟨_,H3,I4,nH,q3⟩
end
section
variable {X:Cx} {pins:List (Addr×Obj)} {σ:St} {H:Hp} {s:Shared} {a:Addr} {kvs:List (Key×V)} {A:Around} {E:Value->Shared->Prop}
end
section
variable {X:Cx} {pins:List (Addr×Obj)} {σ:St} {H:Hp} {s:Shared} {a:Addr} {y:V} {u:Value} {A:Around} {E:Value->Shared->Prop}
end
end L2
namespace WX
open PySem PySem.W PySem.Calls PyProof.Rows
def amC{P:Params}{h:Heap}:∀(ns:List Int) (vs:List Value),WellAll P h vs (ns.map WData.int)->IntsAre vs ns:=by
 intro ns;induction ns with
 |nil=>
  intro vs w;rw[Ow]at w;cases w;exact .nil
 |cons n ns ih=>
  intro vs w;rw[bG]at w;cases w with
  |cons a b=>
   cases a;exact .cons _ _ (ih _ b)
def ahu{l:OpenLaw}{n:Nat}(hn:l.most=some n){P:Params}{h:Heap}{args:List WData}{vals:List Value}
  (hpre:l.row.toRowW.claim.pre args=true) (hwl:WellAll P h vals args):
  ∃a vs ns,vals=[Value.ref a]/\args=[WData.list (ns.map WData.int)]/\h.get? a=some { cls:= .type "list",data:= .seq vs.toArray }/\IntsAre vs ns/\ns.length<=n:=by
 have hsh:WShape.hasAll [] args [.list .int]=true:=(pre_splitW hpre).1;have hc:l.pre.holds [] { args:=args }=true:=(pre_splitW hpre).2;obtain⟨d,r,rfl,h1,h2⟩:=hasAllW_cons hsh;obtain rfl:=hasAllW_nil h2;obtain⟨xs,rfl,h3⟩:=hasW_list h1;obtain⟨ns,rfl⟩:=items_int h3;have hlen:ns.length<=n:=by
  unfold OpenLaw.pre at hc;have h4:(WTm.not (.lt (.lit (.int (n:Int))) (.len (.arg 0)))).holds [] { args:=[.list (ns.map .int)] }=true:=by
   have h4:=(holds_andW hc).1;rw[hn]at h4;exact h4
  have h5:=condW_of h4 (w_not (w_lt w_lit (w_len_list (w_arg rfl))));rw[aB]at h5;refine aap λq=>?_;have q':(n:Int)<((ns.length:Nat):Int):=⋯;first
   |(rw[decide_eq_true q']at h5;exact absurd h5 ∅)
   |(simp at h5;omega)
 cases hwl with
 |cons w1 w2=>
  cases w2;cases w1 with
  |list ho hall=>exact⟨_,_,ns,rfl,rfl,ho,amC ns _ hall,hlen⟩
def anO(l:OpenLaw)(args:List WData):l.row.toRowW.claim.post args (.bool true) args=true:=
 postW_of (r:=l.row.toRowW) (X:=(true==true))
  (show WShape.has [] (.bool true) .bool=true by first|rfl|decide|simp[WShape.has,WShape.arms,WShape.armsAll])
  (show(WTm.eq .res (.lit (.bool true))).value [] { args:=args,res:=some (.bool true),after:=args }=some (.bool (true==true))from w_eq_bool (w_res rfl) w_lit) rfl
def auu{l:OpenLaw}{n:Nat}{q:Program}{loose:List Str}{XP:(Str->Option Value)->Heap->Prop}{YP:World->Heap->Prop}{d:DefRec}
  (hn:l.most=some n) (hdf:d.params.defaults=[])
  (call:∀(w:World) (s₀ s₁:Shared) (mg mb:Str->Option Value) (fa:Addr) (o:Obj) (pm cd doc:Value) (a:Addr) (vs:List Value) (ns:List Int),
   Ground q loose [] XP w s₀ mg mb s₁.heap->YP w s₁.heap->
   s₁.heap.get? fa=some o->o.data = .func (docDef d.name d.params d.body d.scope pm cd doc)->s₁.heap.CodeRec cd d.name->mg d.name=some (.ref fa)->
   s₁.heap.get? a=some { cls:= .type "list",data:= .seq vs.toArray }->IntsAre vs ns->ns.length<=n->s₁.gens=#[]->
   codeAny (model l.prog w) callerA (.call (.ref fa) ⟨[.ref a],[]⟩) (λr s'=>r = .ok (.ret (.bool true))/\OldK s₁.heap s'.heap/\s'.os=s₁.os/\AllBare s'.gens) s₁):
  WalkO q loose XP YP l.row.toRowW d [] (λf vs=>acg f vs):=by
 intro w s₀ s₁ mg mb G Y fa o pm cd doc dV kV ho hd hcd hD hmg hg args vals as hpre hlay hrd hwl hlo;obtain rfl:dV = .none:=Dflts.none hD hdf;obtain rfl:kV = .none:=Dflts.noKw hD;obtain⟨a,vs,ns,rfl,rfl,hobj,hints,hlen⟩:=ahu hn hpre hwl;refine enter_call (codeAny_mono (call w s₀ s₁ mg mb fa o pm cd doc a vs ns G Y ho (fd_plain hd) hcd hmg hobj hints hlen hg) λr s' hq=>?_);obtain⟨rfl,h2,h3,h4⟩:=hq;exact⟨.inl ⟨.bool true,.bool true,[],rfl,λ_=>rfl,.bool true,anO l _,λ_=>⟨axX,λ_ hm=>(nomatch hm)⟩⟩,h2,h3,h4⟩
section
variable {prog:Program} {w:World} {A:Around} {E:Value->Shared->Prop} {s:Shared} {K:Frag}
end
end WX
namespace L2
open PySem PySem.Spec PyProof.Rows
def aoq{vs:List Value}{ns:List Int}(h:IntsAre vs ns):Vals (ns.map V.int) vs:=by
 induction h with
 |nil=>exact .nil
 |cons n t h ih=>exact .cons ⟨t,rfl⟩ ih
def Only(H:Hp):Prop:=∀b,H b=none∨∃o xs,H b=some (.dw o (.lst xs))
def alN{P:Program}{w:World}{K:aF}{mg mb:Str->Option Value}{CX:qY}{k:Nat}{fa a:Addr}{fd:FuncData}{x:Str}{sp:Sp}{s₁:Shared}{vs:List Value}{ns:List Int}
  (KX:K.In s₁.heap) (hns:s₁.heap.Ns mainGlobals mg) (hb:s₁.heap.Ns builtinsNs mb) (hbb:∀x:Str,x≠ "__name__" -> mb x=bootBuiltins x) (hlim:s₁.heap.NoLimit) (hdig:s₁.heap.NoDigits) (hse:s₁.heap.NoSeer) (htr:P.given.tree=none) (hg:s₁.gens=#[])
  (ha:s₁.heap.get? a=some { cls:= .type "list",data:= .seq vs.toArray }) (hi:IntsAre vs ns) (hl:ns.length<=sizeLine) (hr:dY k callerA)
  (F:∀base:Heap,K.In base->base.Ns mainGlobals mg->rB P w K mg base CX k fa fd [x] sp) (hbind:∀(s:Shared) (u:Value),BindsTo s fd ⟨[u],[]⟩ [(x,u)])
  (hsp:∀H:Hp,Only H->au K H a (ns.map V.int)->sp [.ref a] H (λv _=>v = .bl true) λ_ _ _=>False)
  (Vm:∀H e s',CX [] H s₁ (λ_ _ _=>False) e s'->False):
  codeAny (model P w) callerA (.call (.ref fa) ⟨[.ref a],[]⟩) (λr s'=>r = .ok (.ret (.bool true))/\OldK s₁.heap s'.heap/\s'.os=s₁.os/\AllBare s'.gens) s₁:=by
 have rv:=aoq hi;have lenV:=hi.length;have core:∀H:Hp,Only H->au K H a (ns.map V.int)->fD P w H s₁.heap->(∀b,H b≠none->b=a)->(H a≠none->K.lookup a=none)->
   codeAny (model P w) callerA (.call (.ref fa) ⟨[.ref a],[]⟩) (λr s'=>r = .ok (.ret (.bool true))/\OldK s₁.heap s'.heap/\s'.os=s₁.os/\AllBare s'.gens) s₁:=by
  intro H hO hS hok hA hK;have R7:∀{b:Addr} {o:Obj},s₁.heap.get? b=some o->H b=none->(sX s₁.heap H).get? b=some o:=λe n=>anZ e n;have D4:∀{b:Addr} {o:Obj} {es:Array DictEntry} {ep:Nat},s₁.heap.get? b=some o->o.data = .dict es ep->H b=none:=λ{b o es ep} e d=>by
   cases q:H b with
   |none=>rfl
   |some u=>
    have e':b=a:=hA b (by rw[q];simp);subst e';rw[ha]at e;cases e;have d':Data.seq vs.toArray _=Data.dict es ep:=d;cases d'
  have noC:∀{b:Addr} {o:Obj},s₁.heap.get? b=some o->o.cls = .type "module" -> H b=none:=λ{b o} e d=>by
   cases q:H b with
   |none=>rfl
   |some u=>
    have e':b=a:=hA b (by rw[q];simp);subst e';rw[ha]at e;cases e;exact absurd (show Value.type "list" = Value.type "module" from d) ∅
  have sI:∀{b:Addr} {m:Str->Option Value},s₁.heap.Ns b m->(sX s₁.heap H).Ns b m:=λ{b m} ⟨o,es,ep,e,d,r⟩=>⟨o,es,ep,R7 e (D4 e d),d,r⟩;have hKb:K.In (sX s₁.heap H):=λb o e=>R7 (KX b o e) (by
   cases q:H b with
   |none=>rfl
   |some u=>
    have e':b=a:=hA b (by rw[q];simp);subst e';rw[hK (by rw[q];simp)]at e;cases e)
  have hM:Mod K mg (sX s₁.heap H):=⟨hKb,sI hns,⟨mb,sI hb,hbb⟩,let⟨mc,h1,h2⟩:=hlim;⟨mc,sI h1,h2⟩,let⟨mc,h1,h2⟩:=hdig;⟨mc,sI h1,h2⟩,let⟨⟨mc,a1,a2⟩,⟨mm,b1,b2⟩,⟨mb,c1,c2⟩,m,bm,ob,d1,d2,d3,d4,d5⟩:=hse;⟨⟨mc,sI a1,a2⟩,⟨mm,sI b1,b2⟩,⟨mb,sI c1,c2⟩,m,bm,ob,sI d1,d2,R7 d3 (noC d3 d4),d4,d5⟩⟩;have e0:Hz P w K mg (sX s₁.heap H) callerA [] s₁ H:=⟨rfl,hM,λb o e=>ah8 e,QN (aos _ _),trivial,λb hb=>absurd (show b∈([]:List Addr)from hb) (by simp),hok,.of_eq hg,htr⟩;refine codeAny_mono ((F _ hKb (sI hns)).run callerA [] s₁ H ⟨[.ref a],[]⟩ [.ref a] [.ref a] _ _ hr e0 (hbind s₁ (.ref a)) (.cons rfl .nil) (hsp H hO hS)) λr s' h=>?_;cases r with
  |error e=>exact(Vm H e s' h).elim
  |ok fl=>
   cases fl with
   |next=>exact False.elim h
   |brk=>exact False.elim h
   |cont=>exact False.elim h
   |ret u=>
    obtain⟨v,H',os,bare,un,hok',r',q⟩:=h;have q':v = .bl true:=q;subst q';obtain rfl:u=Value.bool true:=r';refine⟨rfl,OldK.of_keep λb o e=>?_,os,bare⟩;cases q:H b with
    |none=>exact un.keep b o e q (by intro z;exact absurd (show b∈([]:List Addr)from z) (by simp)) (by simp)
    |some u=>
     rcases hO b with z|⟨ob,xs,z⟩
     .rw[q]at z;cases z
     .have z2:=un.j9 b ob _ z;obtain⟨e1,_⟩:=hok b _ z;obtain⟨e2,_⟩:=hok' b _ z2;rw[e]at e1;cases e1;exact e2
 cases hk:K.lookup a with
 |some o=>
  have e:=KX a o hk;rw[ha]at e;cases e;refine core (λ_=>none) (λ_=> .inl rfl) (.inr ⟨_,vs.toArray,_,hk,rfl,rfl,rfl,by rw[eU,lenV];exact hl,by simpa using rv⟩) (λb u z=>by have z':(none:Option HO)=some u:=z;cases z') (λb z=>absurd rfl z) λz=>absurd rfl z
 |none=>
  refine core (λb=>if b=a then some (.dw { cls:= .type "list",data:= .seq vs.toArray } (.lst (ns.map V.int)))else none) (λb=>?_) (.inl (.inr ⟨{ cls:= .type "list",data:= .seq vs.toArray },if_pos rfl⟩)) (λb u z=>?_) (λb z=>?_) λ_=>hk
  .by_cases hb:b=a
   .exact .inr ⟨_,_,if_pos hb⟩
   .exact .inl (if_neg hb)
  .by_cases hb:b=a
   .have z':=(if_pos hb).symm.trans z;cases z';subst hb;exact⟨ha,by rw[aB];exact hl,vs,_,rv,ha⟩
   .have z':=(if_neg hb).symm.trans z;cases z'
  .by_cases hb:b=a
   .exact hb
   .exact absurd (if_neg hb) z
def arS{l:W.OpenLaw}{n k:Nat}{q:Program}{loose:List Str}{XP:(Str->Option Value)->Heap->Prop}{YP:World->Heap->Prop}{d:DefRec}{K:Params->aF}{CX:World->qY}{sp:World->Sp}{x:Str}
  (hn:l.most=some n) (hn2:n<=sizeLine) (hdf:d.params.defaults=[]) (hr:dY k callerA) (hIm:importsNone q=true) (htr:l.prog.given.tree=none)
  (hY:∀(w:World) (h:Heap),YP w h->(K w.params).In h)
  (F:∀(w:World) (mg:Str->Option Value) (fa:Addr) (h:Heap),(K w.params).In h->h.Ns mainGlobals mg->mg d.name=some (.ref fa)->
   ∃fd:FuncData,(∀(s:Shared) (u:Value),BindsTo s fd ⟨[u],[]⟩ [(x,u)])/\
    ∀base:Heap,(K w.params).In base->base.Ns mainGlobals mg->rB l.prog w (K w.params) mg base (CX w) k fa fd [x] (sp w))
  (hsp:∀(w:World) (H:Hp) (a:Addr) (ns:List Int),ns.length<=n->Only H->au (K w.params) H a (ns.map V.int)->sp w [.ref a] H (λv _=>v = .bl true) λ_ _ _=>False)
  (Vm:∀(w:World) (H:Hp) (s:Shared) (e:Value) (s':Shared),CX w [] H s (λ_ _ _=>False) e s'->False):
  W.WalkO q loose XP YP l.row.toRowW d [] (λf vs=>acg f vs):=by
 refine WX.auu hn hdf λw s₀ s₁ mg mb fa o pm cd doc a vs ns G Y ho hd hcd hmg hobj hints hlen hg=>?_;have KX:=hY w _ Y;obtain⟨fd,hb,hF⟩:=F w mg fa _ KX G.T.g hmg;exact alN KX G.T.g G.T.b G.T.builtins G.T.nolimit G.T.nodigits (G.T.seer hIm) htr hg hobj hints (fX hlen hn2) hr hF hb (λH hO hS=>hsp w H a ns hlen hO hS) λH e s'=>Vm w H s₁ e s'
def qM(s:Stmt):Arguments:=match s with
 |.FunctionDef _ a _ _ _ _ _ _ _ _=>a
 |_=>{ posonlyargs:=[],args:=[],vararg:=none,kwonlyargs:=[],kw_defaults:=[],kwarg:=none,defaults:=[] }
def lN(s:Stmt):List Stmt:=match s with
 |.FunctionDef _ _ b _ _ _ _ _ _ _=>b
 |_=>[]
def aU(s:Stmt):Scope:=match s with
 |.FunctionDef _ _ _ _ _ _ sc _ _ _=>sc
 |_=>{ kind:= .function,names:=[],isGenerator:=false,isCoroutine:=false }
abbrev E0:XK:=λ_ _ _=>False
structure tW(K:aF)(x qual:Str)(st:Stmt)(f:Addr)(fd:FuncData):Prop where
 ex:∃(oc:Value) (od:Option Addr) (kV doc pm:Value) (an:Option Addr) (cdv ct:Value) (osl:Array (Option Value)),
  fd=qz x qual (qM st) (lN st) (aU st) .none kV doc pm an cdv ct/\K.lookup f=some ⟨oc,od,.func fd,osl⟩/\DF K cdv qual=true
 kp:yV K (.ref f)=true
section
variable {P:Program} {w:World} {K:aF} {mg:Str->Option Value} {base:Heap}
def tW.binds{x qual:Str}{st:Stmt}{f:Addr}{fd:FuncData}{ps:List Str}(F:tW K x qual st f fd)
  (h:∀(kV doc pm:Value) (an:Option Addr) (cdv ct:Value) (us:List Value),us.length=ps.length->bindArgs (qz x qual (qM st) (lN st) (aU st) .none kV doc pm an cdv ct) ⟨us,[]⟩=pure (ps.zip us)):Binds K fd ps []:=by
 obtain⟨oc,od,kV,doc,pm,an,cdv,ct,osl,rfl,lk,hcd⟩:=F.ex;exact .all (h kV doc pm an cdv ct)
def XR{x qual:Str}{st:Stmt}{f:Addr}{oc:Value}{od an:Option Addr}{osl:Array (Option Value)}{kV doc pm cdv ct:Value}(l:K.lookup f=some ⟨oc,od,.func (qz x qual (qM st) (lN st) (aU st) .none kV doc pm an cdv ct),osl⟩)
  (c:DF K cdv qual=true) (k:yV K (.ref f)=true):tW K x qual st f (qz x qual (qM st) (lN st) (aU st) .none kV doc pm an cdv ct):=⟨⟨oc,od,kV,doc,pm,an,cdv,ct,osl,rfl,l,c⟩,k⟩
end
def dZ{n:Nat}(h:n<=1000):n<sizeLine:=qp h ∅
section
variable {X:Cx}
def pv(i:Nat){x:Str}{pos:Pos}(hN:X.N[i]?=some x:=by rfl)(hv:Gk X.env.scope x:=by first|exact pC rfl|exact fM (pC rfl)|exact fM (fM rfl))(hd:(x==("__debug__" : Str))=false:=by decide)
  (hcd:(x==("__classdict__" : Str))=false:=by decide):PE X (.Name x pos) (acC i):=ant hN hv hd hcd
end
def kY{A B:Prop}(h:B):if false=true then A else B:=by
 rw[if_neg f9];exact h
def qU{A B:Prop}(h:A):if true=true then A else B:=by
 rw[if_pos rfl];exact h
def dM{c A B:Prop}[Decidable c](h1:c->A)(h2:¬c->B):if c then A else B:=by
 by_cases h:c
 .rw[if_pos h];exact h1 h
 .rw[if_neg h];exact h2 h
def Rb{c A B:Prop}[Decidable c](hc:c)(h:B):if(!decide c)=true then A else B:=by
 rw[decide_eq_true hc];exact kY h
def Same(H H':Hp):Prop:=∀b o,H b=some o->H' b=some o
def Same.refl(H:Hp):Same H H:=λ_ _ h=>h
def Same.trans{H H1 H2:Hp}(a:Same H H1)(b:Same H1 H2):Same H H2:=λc o h=>b c o (a c o h)
def Same.free{H H':Hp}(e:Same H H'){l:Addr}(h:H' l=LY):H l=LY:=by
 cases q:H l with
 |none=>rfl
 |some o=>
  rw[e l o q]at h;cases h
def Same.seq{K:aF}{H H':Hp}{a:Addr}{xs:List V}(e:Same H H')(h:au K H a xs):au K H' a xs:=by
 rcases h with(h|⟨o,h⟩)|h
 .exact .inl (.inl (e _ _ h))
 .exact .inl (.inr ⟨o,e _ _ h⟩)
 .exact .inr h
section
variable {κ:Type} [DecidableEq κ]
end
def us0{us:List Value}(h:us.length=0):us=[]:=sU h
def B7{us:List Value}{n:Nat}(h:us.length=n+1):∃a r,us=a::r/\r.length=n:=by
 cases us with
 |nil=>cases h
 |cons a r=>exact⟨a,r,rfl,Nat.succ.inj h⟩
def us1{us:List Value}(h:us.length=1):∃a,us=[a]:=by
 obtain⟨a,r,rfl,k⟩:=B7 h;obtain rfl:=us0 k;exact⟨a,rfl⟩
def us2{us:List Value}(h:us.length=2):∃a b,us=[a,b]:=by
 obtain⟨a,r,rfl,k⟩:=B7 h;obtain⟨b,rfl⟩:=us1 k;exact⟨a,b,rfl⟩
def us3{us:List Value}(h:us.length=3):∃a b c,us=[a,b,c]:=by
 obtain⟨a,r,rfl,k⟩:=B7 h;obtain⟨b,c,rfl⟩:=us2 k;exact⟨a,b,c,rfl⟩
def us4{us:List Value}(h:us.length=4):∃a b c d,us=[a,b,c,d]:=by
 obtain⟨a,r,rfl,k⟩:=B7 h;obtain⟨b,c,d,rfl⟩:=us3 k;exact⟨a,b,c,d,rfl⟩
def us5{us:List Value}(h:us.length=5):∃a b c d e,us=[a,b,c,d,e]:=by
 obtain⟨a,r,rfl,k⟩:=B7 h;obtain⟨b,c,d,e,rfl⟩:=us4 k;exact⟨a,b,c,d,e,rfl⟩
structure rG(P:Program)(w:World)(outer:List Env)(H:Hp)(s:Shared)(E:XK)(e:Value)(s':Shared):Prop where
 ex:∃(ea C:Addr) (a0:Value) (B:Heap) (H':Hp),e = .ref ea/\s'.os=s.os/\AllBare s'.gens/\Heap.FlyingW B outer ea (.ref C) a0 s'.heap/\fD P w H' B/\Un (frs outer) [] H H' s.heap s'.heap/\
  (∀b o,s.heap.get? b=some o->b∈frs outer∨∃o',B.get? b=some o')/\E (.ref C) none H'
def adH{P:Program}{w:World}{outer:List Env}{H:Hp}{s s':Shared}{e:Value}(h:rG P w outer H s E0 e s'):False:=by
 obtain⟨_,_,_,_,_,_,_,_,_,_,_,_,q⟩:=h.ex;exact q
def ad6{X:Cx}:Passes (rG X.prog X.w) X E0:=λ_ _ _ _ _ _ _ h=>(adH h).elim
section
variable {X:Cx} {pins:List (Addr×Obj)} {σ:St} {H:Hp} {s:Shared}
def Inv.Mh(I:Inv X pins σ H s){b:Addr}{o:Obj}(e:X.s₀.heap.get? b=some o)(hb:b∉X.fs):b∉frs X.stack:=λz=>by
 rcases bJ.mp (I.Fy b z)with q|q
 .exact absurd (jm (cW e) I.ok.above) (by rw[<-q];exact lE _)
 .exact hb q
def Ji(I:Inv X pins σ H s){b:Addr}{o:Obj}(e:s.heap.get? b=some o)(hb:b∉frs X.stack):(EA s.heap (frs X.stack)).get? b=some o:=W.hideAll_get _ e hb
def Inv.avZ(I:Inv X pins σ H s):fD X.prog X.w H (EA s.heap (frs X.stack)):=λb o e=>
 (I.hok b o e).stay (λc u hc q=>Ji I q λz=>by
  have n:=I.Mx c z;rcases hc with rfl|hc
  .rw[n]at e;cases e
  .rw[n]at hc;cases hc) (λ_ q=>q) λ_ _ q=>q
def Inv.ae8(I:Inv X pins σ H s)(hex:X.ex=[]){H':Hp}{h':Heap}(keep:∀b o,s.heap.get? b=some o->H b=none->b∉frs X.stack->h'.get? b=some o)
  (slot:∀b o,s.heap.get? b=some o->H b=none->b∈X.fs->∃sl,h'.get? b=some { o with slots:=sl }) (free:∀b o,s.heap.get? b=some o->H b=none->H' b=none) (there:∀b o,s.heap.get? b=some o->∃o',h'.get? b=some o')
  (tups:∀b xs,H b=some (.tup xs)->H' b=some (.tup xs)) (j9:∀b o u,H b=some (.dw o u)->H' b=some (.dw o u)) (nU:∀b ps,H b=some (.rH ps)->∃more,H' b=some (.rH (ps++more))):
  Un (frs X.outer) [] X.H₀ H' X.s₀.heap h':=by
 have nx:∀b:Addr,b∉X.ex:=λb=>by rw[hex];simp
 refine⟨λb o e n hb _=>?_,λb o e n hb _=>?_,λb o e n _=>?_,λb o e _=>?_,λb xs e=>tups b xs (I.base.tups b xs e),λb o u e=>j9 b o u (I.base.j9 b o u e),λb ps e=>?_⟩
 .exact keep b o (I.base.keep b o e n hb (nx b)) (I.base.free b o e n (nx b)) (I.Mh e hb)
 .obtain⟨sl,e1⟩:=I.base.slot b o e n hb (nx b);obtain⟨sl',e2⟩:=slot b _ e1 (I.base.free b o e n (nx b)) hb;exact⟨sl',e2⟩
 .obtain⟨o',e1⟩:=I.base.there b o e (nx b);exact free b o' e1 (I.base.free b o e n (nx b))
 .obtain⟨o',e1⟩:=I.base.there b o e (nx b);exact there b o' e1
 .obtain⟨m1,e1⟩:=I.base.nU b ps e;obtain⟨m2,e2⟩:=nU b _ e1;exact⟨m1++m2,by rw[e2,Zo]⟩
end
abbrev iy(P:Program)(w:World)(K:aF)(mg:Str->Option Value)(base:Heap)(N:List Str)(qual:Str)(scope:Scope)(f:Addr)(cdv:Value)(A:Around)(outer:List Env)(s:Shared)(H:Hp)(E:XK):Cx:=
 zf (rG P w) P w K mg base N qual scope f cdv A outer s H E
section
variable {P:Program} {w:World} {K:aF} {mg:Str->Option Value} {base:Heap} {N:List Str} {qual:Str} {scope:Scope} {f:Addr} {cdv:Value} {A:Around} {outer:List Env} {s₀:Shared} {H₀:Hp} {E:XK}
def auO{pins:List (Addr×Obj)}{σ:St}{H:Hp}{s:Shared}{h1:Heap}{e C:Addr}{vs:List Value}(I:Inv (iy P w K mg base N qual scope f cdv A outer s₀ H₀ E) pins σ H s)(hx:Heap.MadeExcOf s.heap h1 e (.ref C) vs)(q:E (.ref C) none H):
  (iy P w K mg base N qual scope f cdv A outer s₀ H₀ E).xe (.ref e) { s with heap:=h1 }:=by
 have hin:∀env∈envOfC qual scope s₀.heap.objs.size f cdv::outer,∀a,env.frame=some a->a∈frs (envOfC qual scope s₀.heap.objs.size f cdv::outer):=λenv he a ha=>UQ.mpr ⟨env,he,ha⟩;refine wpAny_leaves_madeW (base:=EA s.heap (frs (envOfC qual scope s₀.heap.objs.size f cdv::outer))) (h:=s.heap) (L:=s₀.heap.objs.size) I.ok.frames rfl (λb o q=>W.of_hideAll _ q) (W.funFrames_hide I.stack hin) hx λh' t x1 x2 x3 x4=>?_;have up:∀b o,s.heap.get? b=some o->b∈frs (envOfC qual scope s₀.heap.objs.size f cdv::outer)->∃sl,h'.get? b=some { o with slots:=sl }:=λb o e hb=>by
  obtain⟨_,o',ho',hd⟩:=I.stack.mem hb;rw[e]at ho';cases ho';exact x4 b o (hx.keeps b o e) hd
 refine⟨e,C,.ref t,_,H,rfl,I.os,I.bare,x1,I.avZ,I.ae8 rfl (λb o e _ hb=>x1.1 b o (Ji I e hb)) (λb o e _ hb=>up b o e (cZ _ hb)) (λ_ _ _ n=>n) (λb o e=>?_) (λ_ _ z=>z) (λ_ _ _ z=>z) (λb ps z=>⟨#[],by rw[z];simp⟩),λb o e=>?_,q⟩
 .by_cases hb:b∈frs (envOfC qual scope s₀.heap.objs.size f cdv::outer)
  .obtain⟨sl,z⟩:=up b o e hb;exact⟨_,z⟩
  .exact⟨o,x1.1 b o (Ji I e hb)⟩
 .by_cases hb:b∈frs outer
  .exact .inl hb
  .obtain⟨o',e1⟩:=I.base.there b o e (by intro z;cases z);exact .inr ⟨o',Ji I e1 (I.Mh e hb)⟩
def aiS:Passes (rG P w) (iy P w K mg base N qual scope f cdv A outer s₀ H₀ E) E:=by
 intro pins σ H s e s' I h;obtain⟨ea,C,a0,B,H',rfl,os,bare,fl,hok,un,old,q⟩:=h.ex;refine wpAny_leaves_onW (L:=s₀.heap.objs.size) I.ok.frames rfl fl λh' x1 x2=>?_;have inB:∀b o,s.heap.get? b=some o->b∉frs (envOfC qual scope s₀.heap.objs.size f cdv::outer)->∃o',B.get? b=some o'/\s'.heap.get? b=some o':=λb o e hb=>by
  rcases old b o e with z|⟨o',z⟩
  .exact absurd z hb
  .exact⟨o',z,fl.1 b o' z⟩
 have up:∀b o,s'.heap.get? b=some o->b∈frs (envOfC qual scope s₀.heap.objs.size f cdv::outer)->∃sl,h'.get? b=some { o with slots:=sl }:=λb o e hb=>by
  obtain⟨_,o',ho',hd⟩:=fl.2.2.1.mem hb;rw[e]at ho';cases ho';exact x2 b o e hd
 refine⟨ea,C,a0,B,H',rfl,os.trans I.os,bare,x1,hok,I.ae8 rfl (λb o e n hb=>?_) (λb o e n hb=>?_) (λb o e n=>un.free b o e n (by simp)) (λb o e=>?_) un.tups un.j9 un.nU,λb o e=>?_,q⟩
 .obtain⟨o',e1,e2⟩:=inB b o e hb;have e3:=un.keep b o e n hb (by simp);rw[e2]at e3;cases e3;exact x1.1 b _ e1
 .obtain⟨sl,e1⟩:=un.slot b o e n (cZ _ hb) (by simp);obtain⟨sl',e2⟩:=up b _ e1 (cZ _ hb);exact⟨sl',e2⟩
 .by_cases hb:b∈frs (envOfC qual scope s₀.heap.objs.size f cdv::outer)
  .obtain⟨o',e1⟩:=un.there b o e (by simp);obtain⟨sl,e2⟩:=up b o' e1 hb;exact⟨_,e2⟩
  .obtain⟨o',e1,_⟩:=inB b o e hb;exact⟨o',x1.1 b o' e1⟩
 .by_cases hb:b∈frs outer
  .exact .inl hb
  .obtain⟨o',e1⟩:=I.base.there b o e (by intro z;cases z);obtain⟨o2,e2,_⟩:=inB b o' e1 (I.Mh e hb);exact .inr ⟨o2,e2⟩
end
def auR(C:Addr)(E:XK)(t:TA):TS:=λ_ σ H=>t σ H λvs H1=>vs.length<=sizeLine/\E (.ref C) none H1
structure Ez(mg:Str->Option Value)(base:Heap)(x:Str)(C:Addr):Prop where
 ex:∃bm newId,OwnCls x C bm newId mg base/\∃(Bn inN:String) (bmN:List Value) (B nid initId:String),ExcBaseFacts Bn newId inN bmN/\bm.contains (.type Bn)=true/\ExcBaseFacts B nid initId bm
def abM{P:Program}{w:World}{K:aF}{mg:Str->Option Value}{base:Heap}{N:List Str}{qual:Str}{scope:Scope}{f:Addr}{cdv:Value}{A:Around}{outer:List Env}{s₀:Shared}{H₀:Hp}{E:XK}
  {x:Str} {C:Addr} {np cpos pos:Pos} {e:Expr} {es:List Expr} {t:TA} (O:Ez mg base x C) (hg:Gl (iy P w K mg base N qual scope f cdv A outer s₀ H₀ E) x) (ha:PA (iy P w K mg base N qual scope f cdv A outer s₀ H₀ E) (e::es) t)
  (hdb:(x==("__debug__" : Str))=false:=by decide)
  (he:starEach (e::es) (iy P w K mg base N qual scope f cdv A outer s₀ H₀ E).env=(false,eval e (iy P w K mg base N qual scope f cdv A outer s₀ H₀ E).env)::starEach es (iy P w K mg base N qual scope f cdv A outer s₀ H₀ E).env:=by rfl)
  (hpl:(backTo cpos (starEach es (iy P w K mg base N qual scope f cdv A outer s₀ H₀ E).env)).any (·.1)=false:=by rfl):
  PS (iy P w K mg base N qual scope f cdv A outer s₀ H₀ E) (.Raise (some (.Call (.Name x np) (e::es) [] cpos)) none pos) (auR C E t):=by
 intro pins s σ H D I h;obtain⟨bm,newId,O,Bn,inN,bmN,B,nid,initId,Fn,hBn,FB⟩:=O.ex;obtain⟨tl,Nn,nm,q,bs,hdct,sn,sub,ab,col,dd,k0,k1,k2,k3,k5,mN,hC,hN,hni,T⟩:=O.obj;refine wpAny_Raise_call_subU (C:=C) (nm:=nm) (q:=q) (N:=Nn) (bs:=bs) (bm:=tl) (hdct:=hdct) (sn:=sn) (sub:=sub) (ab:=ab) (col:=col) (dd:=dd) (k0:=k0) (k1:=k1) (k2:=k2) (k3:=k3) (k5:=k5)
  Fn hBn FB (mN:=mN) (T.hasType FB.hasBase) (I.ok.hd rfl) (by rw[he];show(false||(backTo cpos (starEach es (iy P w K mg base N qual scope f cdv A outer s₀ H₀ E).env)).any (·.1))=false;rw[hpl];rfl) hni (Rt I hg O.bound ⟨rfl,?_⟩ hdb)
 have h2:=ha cpos pins s σ H _ I h;rw[he]at h2⊢;refine Lx (wpAny_mono h2 (λus s2 ⟨vs,H2,I2,r,z,q⟩=>⟨rfl,by rw[<-r.length];exact z,I2.bk _ _ hC,hN.keeps I2.bk,T.keeps I2.bk,λh' e hm=>auO I2 hm q⟩) λ_ _ y=>y)
def tW.okF{P:Program}{w:World}{K:aF}{mg:Str->Option Value}{base:Heap}{x qual:Str}{st:Stmt}{f:Addr}{fd:FuncData}{N ps:List Str}{k:Nat}{sp:Sp}(F:tW K x qual st f fd)(S:aZ N ps (aU st))(len:∀vs H Q E,sp vs H Q E->vs.length=ps.length)
  (hbody:∀(cdv:Value) (A:Around) (outer:List Env) (s:Shared) (H:Hp) (vs:List V) (Q:VK) (E:XK),dY k (A.deeper (envOfC qual (aU st) s.heap.objs.size f cdv))->sp vs H Q E->
   ∃t,jK (iy P w K mg base N qual (aU st) f cdv A outer s H E) (lN st) t/\t { nx:=λ_ H'=>Q .non H',rt:=Q } (start N vs) H):rB P w K mg base (rG P w) (k+1) f fd ps sp:=by
 obtain⟨oc,od,kV,doc,pm,an,cdv,ct,osl,rfl,lk,hcd⟩:=F.ex;exact auY lk hcd S len λA outer s H vs Q E hr hsp=>hbody cdv A outer s H vs Q E hr hsp
def tW.okN{P:Program}{w:World}{K:aF}{mg:Str->Option Value}{base:Heap}{x qual:Str}{st:Stmt}{f:Addr}{fd:FuncData}{N ps:List Str}{k:Nat}{sp:Sp}(F:tW K x qual st f fd)(S:aZ N ps (aU st))(len:∀vs H Q E,sp vs H Q E->vs.length=ps.length)
  (hbody:∀(cdv:Value) (A:Around) (outer:List Env) (s:Shared) (H:Hp) (vs:List V) (Q:VK) (E:XK),dY k (A.deeper (envOfC qual (aU st) s.heap.objs.size f cdv))->sp vs H Q E->
   ∃t,jK (iy P w K mg base N qual (aU st) f cdv A outer s H E).CD (lN st) t/\t { nx:=λ_ H'=>Q .non H',rt:=Q } (start N vs) H):rB P w K mg base (rG P w) (k+1) f fd ps sp:=
 F.okF S len λcdv A outer s H vs Q E hr h=>let⟨t,a,b⟩:=hbody cdv A outer s H vs Q E hr h;⟨t,a.CD,b⟩
section
variable {X:Cx}
def dh.imp{f:Value->Value->Sem Value}{r r':R2}(h:dh X f r)(i:∀x y H Q,r' x y H Q->r x y H Q):dh X f r':=λpins s σ H x y v u Q I rx ry q=>h pins s σ H x y v u Q I rx ry (i _ _ _ _ q)
def lW.imp{r r':R2}(h:lW X r)(i:∀x y H Q,r' x y H Q->r x y H Q):lW X r':=λvalue slice pins s σ H x y v u Q I rx ry q hs=>h value slice pins s σ H x y v u Q I rx ry (i _ _ _ _ q) hs
def Qf{x:Str}{i:Int}{pos:Pos}(hg:Gl X x)(hm:∃t,X.mg x=some (.int i t))(hd:(x==("__debug__" : Str))=false:=by decide):PE X (.Name x pos) (tC (.int i)):=by
 obtain⟨t,e⟩:=hm;exact VR hg e ⟨t,rfl⟩ hd
structure iU(P:Program)(w:World)(K:aF)(mg:Str->Option Value)(base:Heap)(x:Str)(k:Nat)(ps:List Str)(sp:Sp):Prop where
 ex:∃(g:Addr) (gd:FuncData),mg x=some (.ref g)/\yV K (.ref g)=true/\Binds K gd ps []/\rB P w K mg base (rG P w) k g gd ps sp
def ar4{x:Str}{k k':Nat}{ps:List Str}{sp:Sp}{p pos:Pos}{e:Expr}{es:List Expr}{t:TA}(C:iU X.prog X.w X.K X.mg X.base x k ps sp)(hr:dY k' X.A)(hg:Gl X x)(ha:PA X (e::es) t)
  (hk:k<=k':=by decide) (hd:(x==("__debug__" : Str))=false:=by decide)
  (he:starEach (e::es) X.env=(false,eval e X.env)::starEach es X.env:=by rfl) (hpl:(backTo pos (starEach es X.env)).any (·.1)=false:=by rfl):PE X (.Call (.Name x p) (e::es) [] pos) (JZ sp [] E0 t):=by
 obtain⟨g,gd,hm,hkp,hb,F⟩:=C.ex;exact aaM F (hr.mono hk) hg hm hkp hb .nil ad6 ha hd he hpl
def Ng{P:Program}{w:World}{K:aF}{mg:Str->Option Value}{base:Heap}{N:List Str}{qual:Str}{scope:Scope}{f:Addr}{cdv:Value}{A:Around}{outer:List Env}{s₀:Shared}{H₀:Hp}{E:XK}
  {x:Str} {k k':Nat} {ps:List Str} {sp:Sp} {p pos:Pos} {e:Expr} {es:List Expr} {t:TA} (C:iU P w K mg base x k ps sp) (hr:dY k' (iy P w K mg base N qual scope f cdv A outer s₀ H₀ E).A) (hg:Gl (iy P w K mg base N qual scope f cdv A outer s₀ H₀ E) x)
  (ha:PA (iy P w K mg base N qual scope f cdv A outer s₀ H₀ E) (e::es) t) (hk:k<=k':=by decide) (hd:(x==("__debug__" : Str))=false:=by decide)
  (he:starEach (e::es) (iy P w K mg base N qual scope f cdv A outer s₀ H₀ E).env=(false,eval e (iy P w K mg base N qual scope f cdv A outer s₀ H₀ E).env)::starEach es (iy P w K mg base N qual scope f cdv A outer s₀ H₀ E).env:=by rfl)
  (hpl:(backTo pos (starEach es (iy P w K mg base N qual scope f cdv A outer s₀ H₀ E).env)).any (·.1)=false:=by rfl):
  PE (iy P w K mg base N qual scope f cdv A outer s₀ H₀ E) (.Call (.Name x p) (e::es) [] pos) (JZ sp [] E t):=by
 obtain⟨g,gd,hm,hkp,hb,F⟩:=C.ex;exact aaM (X:=iy P w K mg base N qual scope f cdv A outer s₀ H₀ E) F (hr.mono hk) hg hm hkp hb .nil aiS ha hd he hpl
def ap6{prog:Program}{w:World}{A:Around}{E:Value->Shared->Prop}{s:Shared}{t b:Addr}{vs ws:List Value}{Q:Value->Shared->Prop}(ht:IsTup s.heap t vs.toArray)(hb:IsTup s.heap b ws.toArray)(hv:vs=[])
  (h1:Q (.ref b) s):wpAny (model prog w) A (binaryOp .Add (.ref t) (.ref b)) Q E s:=by
 obtain⟨⟨cls,dd,data,sl⟩,ho,hc,n,hd⟩:=id ht;obtain⟨⟨cls2,dd2,data2,sl2⟩,ho2,hc2,n2,hd2⟩:=id hb;simp only at hc hd hc2 hd2;subst hc hd hc2 hd2;exact concat_meets ⟨_,ho,rfl⟩ ⟨_,ho2,rfl⟩ noFill_tuple_add seq_tuple_add Qk Nz (OG _ _)
   (tuple_addW0 t b vs.toArray ws.toArray n n2 dd dd2 sl sl2 (by simp[hv])) ⟨ho,ho2,h1⟩
def awe(K:aF):R2:=λx y H Q=>∃a b ys,x = .ref a/\y = .ref b/\aA K H a []/\aA K H b ys/\Q (.ref b) H
def ay9:dh X (binaryOp .Add) (awe X.K):=by
 intro pins s σ H x y v u Q I rx ry h;obtain⟨a,b,ys,rfl,rfl,ha,hb,q⟩:=h;cases rx;cases ry;obtain⟨its,r1,p1,_⟩:=I.tuple ha;obtain⟨its2,r2,p2,_⟩:=I.tuple hb;exact ap6 p1 p2 (r1.Gn.mpr rfl) ⟨.ref b,H,I,rfl,q⟩
inductive arG(a b:Addr)(H:Hp)(Q:VK):Prop|mk (xs ys:List V) (h1:H a=some (.lst xs)) (h2:H b=some (.lst ys)) (hz:xs.length+ys.length<=sizeLine) (q:∀p,H p=none->Q (.ref p) (upd H p (.lst (xs++ys))))
def Ia(K:aF):R2:=λx y H Q=>match x,y with
 |.int i,.int j=>Q (.int (i+j)) H
 |.str i,.str j=>i.length+j.length<=sizeLine/\Q (.str (i++j)) H
 |.ref a,.ref b=>arG a b H Q∨
   (∃xs ys,aA K H a xs/\aA K H b ys/\xs.length+ys.length<=sizeLine/\(xs=[]->Q (.ref b) H)/\(xs≠[]->ys=[]->Q (.ref a) H)/\(xs≠[]->ys≠[]->∀p,H p=none->Q (.ref p) (upd H p (.tup (xs++ys)))))
 |_,_=>False
def v_add:dh X (binaryOp .Add) (Ia X.K):=by
 refine((arQ.or aqH).or (alq.or (ani.or ay9))).imp λx y H Q h=>?_;unfold Ia at h;split at h
 .exact .inl (.inl ⟨_,_,rfl,rfl,h⟩)
 .exact .inl (.inr ⟨_,_,rfl,rfl,h⟩)
 .rcases h with⟨xs,ys,h1,h2,h3,h4⟩|⟨xs,ys,h1,h2,h3,h4,h5,h6⟩
  .exact .inr (.inl ⟨_,_,xs,ys,rfl,rfl,h1,h2,h3,h4⟩)
  .by_cases hx:xs=[]
   .subst hx;exact .inr (.inr (.inr ⟨_,_,ys,rfl,rfl,h1,h2,h4 rfl⟩))
   .exact .inr (.inr (.inl ⟨_,_,xs,ys,rfl,rfl,h1,h2,hx,h3,h5 hx,h6 hx⟩))
 .exact h.elim
inductive amx(i j:Int)(H:Hp)(Q:VK):Prop|mk (h:IntMulOk i j) (q:Q (.int (i*j)) H)
inductive aoN(l:Addr)(k:Int)(H:Hp)(Q:VK):Prop|mk (xs:List V) (h:H l=some (.lst xs)) (h1:-(2^63)<=k) (h2:k<2^63) (hz:xs.length*k.toNat<=sizeLine) (q:∀p,H p=none->Q (.ref p) (upd H p (.lst (bN k.toNat xs).flatten)))
def X8:R2:=λx y H Q=>match x,y with
 |.int i,.int j=>amx i j H Q
 |.ref l,.int k=>aoN l k H Q
 |_,_=>False
def asj:dh X (binaryOp .Mult) (rI IntMulOk λi j=> .int (i*j)):=DN λ_ _ _ _ _ _ _ hc q=>mul_int q hc
def v_mul:dh X (binaryOp .Mult) X8:=by
 refine(asj.or atn).imp λx y H Q h=>?_;unfold X8 at h;split at h
 .obtain⟨h1,h2⟩:=h;exact .inl ⟨_,_,rfl,rfl,h1,h2⟩
 .obtain⟨xs,h1,h2,h3,h4,h5⟩:=h;exact .inr ⟨_,_,xs,rfl,rfl,h1,h2,h3,h4,h5⟩
 .exact h.elim
inductive SIx(K:aF)(p:Addr)(i:Int)(H:Hp)(Q:VK):Prop|mk (xs:List V) (v:V) (hs:au K H p xs∨aA K H p xs) (ha:lQ xs i=some v) (q:Q v H)
def JQ(K:aF):R2:=λx y H Q=>match x,y with
 |.ref p,.int i=>SIx K p i H Q
 |.str z,.int i=>∃c,z.length<=sizeLine/\lQ z.cps.toList i=some c/\Q (.str ⟨#[c]⟩) H
 |_,_=>False
def asU:lW X (JQ X.K):=by
 refine apA.imp λx y H Q h=>?_;unfold JQ at h;split at h
 .obtain⟨xs,v,h1|h1,h2,h3⟩:=h
  .exact .inl ⟨_,xs,_,v,rfl,rfl,h1,h2,h3⟩
  .exact .inr (.inl ⟨_,xs,_,v,rfl,rfl,h1,h2,h3⟩)
 .obtain⟨c,h1,h2,h3⟩:=h;exact .inr (.inr ⟨_,_,c,rfl,rfl,h1,h2,h3⟩)
 .exact h.elim
theorem XG:∀{bs:List Bool} {us:List Value},Vals (bs.map V.bl) us->us=bs.map Value.bool
 |[],_,.nil=>rfl
 |b::bs,_,.cons r t=>by
  have e:=XG (bs:=bs) t;cases (show _=Value.bool b from r);rw[e];rfl
def aiv{s:Shared}{h':Heap}{o:Obj}(hk:∀b x,b∉[s.heap.objs.size]->(s.heap.push o).get? b=some x->h'.get? b=some x):∀b x,s.heap.get? b=some x->h'.get? b=some x:=
 λb x e=>hk b x (λhm=>by rw[eE.mp hm]at e;exact lE _ (cW e)) (Heap.get?_push_of_some _ e)
def v_sum(hc:X.calm=true):jU X (.builtin "sum") (λxs H Q=>∃(l:Addr) (ns:List Int),xs=[.ref l]/\au X.K H l (ns.map V.int)/\Q (.int ns.sum) H):=by
 intro pins s σ H xs us Q I r h;obtain⟨l,ns,rfl,hl,q⟩:=h;obtain⟨u,rfl,ru⟩:=r.one;cases ru;obtain⟨its,rv,pl,hz⟩:=I.list hl;have hi:=intsAre_of rv;obtain⟨xs,hx⟩:=hi.allInts.items;have hl':s.heap.IsList l (intItems xs):=hx▸pl.isList;refine sum_intListG (I.ok.hd hc) hl' λh' tk t' hk=>?_;have e1:ns=xs.toList.map (·.1):=by
  rw[<-nums_intItems,<-hx];exact(show numsOf its.toArray.toList=ns from hi.numsOf).symm
 have e2:preSum (numAt xs) xs.size=ns.sum:=by
  rw[preSum_eq,rm (by simp),e1]
 rw[e2];exact⟨.int _,H,I.kept hk,⟨_,rfl⟩,q⟩
inductive aaW(P:Prop)(R:It->Hp->Prop)(J:It)(H:Hp):Prop|mk (h:P) (q:R J H)
inductive SSq(K:aF)(a:Addr)(H:Hp)(R:It->Hp->Prop):Prop
 |inl (h:aaW (∃xs,au K H a xs) R (nY K a) H)
 |inr (h:aaW (∃xs,aA K H a xs) R (IK K a) H)
inductive aqG(K:aF)(x:V)(H:Hp)(R:It->Hp->Prop):Prop|mk (a:Addr) (hx:x = .ref a) (q:SSq K a H R)
def aac(K:aF)(tl:TE):TI:=λσ H R=>tl σ H λx H1=>aqG K x H1 R
def akQ{tg l:Expr}{tl:TE}(hl:PE X l tl):PI X tg l (aac X.K tl):=by
 intro pins s σ H R I h;refine aW (hl pins s σ H _ I h) λv s1 ⟨x,H1,I1,r1,a,e,q⟩=>?_;subst e;cases r1;rcases q with⟨⟨xs,hq⟩,q⟩|⟨⟨xs,hq⟩,q⟩
 .have hh:PI X tg l (ai3 X.K λσ' H' Q=>Q (.ref a) H')->True:=λ_=>trivial;obtain⟨its,rv,p,hz⟩:=I1.list hq;refine wpAny_pyIter_list p.isList ?_;refine⟨s1.heap.objs.size,[s1.heap.objs.size],_,_,H1,rfl,I1.kept (t':=s1.toks) λb o e=>Heap.get?_push_of_some _ e,awa a _,⟨_,Heap.get?_push_size _ rfl,rfl,rfl⟩,λb hb=>?_,q⟩;have e:b=s1.heap.objs.size:=by simpa using hb
  subst e;exact I1.pN (aN _) (I1.hok.fresh (aN _))
 .obtain⟨its,rv,p,hz⟩:=I1.tuple hq;refine wpAny_pyIter_tuple (show s1.heap.IsTuple a its.toArray from p) ?_;refine⟨s1.heap.objs.size,[s1.heap.objs.size],_,_,H1,rfl,I1.kept (t':=s1.toks) λb o e=>Heap.get?_push_of_some _ e,ayC a _,⟨_,Heap.get?_push_size _ rfl,rfl,rfl⟩,λb hb=>?_,q⟩;have e:b=s1.heap.objs.size:=by simpa using hb
  subst e;exact I1.pN (aN _) (I1.hok.fresh (aN _))
end
theorem RQ{env:Env}:∀(names:List (Str×NameKind)) (acc:List (Str×Addr)),(∀y∈names,y.2 = .free->∃c,env.cells.lookup y.1=some c)->(∀p∈acc,env.cells.lookup p.1=some p.2)->
 ∃cl,(forIn names acc λ(y:Str×NameKind) (cs:List (Str×Addr))=>match y with|(name,kind)=>if(kind== .free)=true then do let a<-cellOf env name;pure (ForInStep.yield ((name,a)::cs))else pure (ForInStep.yield cs))=(pure cl:Sem _)/\(∀p∈cl,env.cells.lookup p.1=some p.2)/\(∀p∈acc,p∈cl)/\∀y∈names,y.2 = .free->∃c,(y.1,c)∈cl
 |[],acc,_,ha=>⟨acc,rfl,ha,λ_ h=>h,λ_ h=>nomatch h⟩
 |(n,k)::r,acc,hf,ha=>by
  have hr:∀y∈r,y.2 = .free->∃c,env.cells.lookup y.1=some c:=λy hy=>hf y (cZ _ hy);by_cases hk:k = .free
  .subst hk;obtain⟨c,hc⟩:=hf (n,.free) cV rfl;obtain⟨cl,e,h1,h2,h3⟩:=RQ r ((n,c)::acc) hr (λp hp=>by
    rcases bJ.mp hp with rfl|hp
    .exact hc
    .exact ha p hp)
   refine⟨cl,?_,h1,λp hp=>h2 p (cZ _ hp),λy hy hyf=>?_⟩
   .rw[KJ];simp only[beq_self_eq_true,if_true,cellOf,hc,pure_bind];exact e
   .rcases bJ.mp hy with rfl|hy
    .exact⟨c,h2 _ cV⟩
    .exact h3 y hy hyf
  .have hb:(k==NameKind.free)=false:=by simpa using hk
   obtain⟨cl,e,h1,h2,h3⟩:=RQ r acc hr ha;refine⟨cl,?_,h1,h2,λy hy hyf=>?_⟩
   .rw[KJ];simp only[hb,VB,if_false,pure_bind];exact e
   .rcases bJ.mp hy with rfl|hy
    .exact absurd hyf hk
    .exact h3 y hy hyf
def amM{env:Env}{scope:Scope}(hf:∀y∈scope.names,y.2 = .free->∃c,env.cells.lookup y.1=some c):
  ∃cl,closureFor scope env=pure cl/\(∀x c,cl.lookup x=some c->env.cells.lookup x=some c)/\∀y∈scope.names,y.2 = .free->∃c,cl.lookup y.1=some c:=by
 obtain⟨cl,e,h1,_,h3⟩:=RQ (env:=env) scope.names [] hf (λ_ h=>nomatch h);refine⟨cl,?_,λx c h=>h1 (x,c) (vC h),λy hy hyf=>?_⟩
 .unfold closureFor;simp only[bind_pure_comp]at e⊢;rw[e];rfl
 .obtain⟨c,hc⟩:=h3 y hy hyf;cases q:cl.lookup y.1 with
  |some d=>exact⟨d,rfl⟩
  |none=>
   have z:=List.lookup_eq_none_iff.mp q (y.1,c) hc;simp at z
def Qi(sc:Scope)(cl:List (Str×Addr))(C:Addr)(env:Env):Env:=
 { scope:=sc,locals:=C,globals:=env.globals,cells:=cl,qual:=env.qual,func:=none,code:=env.code,frame:=env.frame,builtins:=env.builtins }
def jO(X:Cx)(sc:Scope)(N:List Str)(cl:List (Str×Addr))(C:Addr)(s₀:Shared)(H₀:Hp)(ex:List Addr):Cx:=
 { X with env:=Qi sc cl C X.env,N:=N,s₀:=s₀,H₀:=H₀,outer:=X.stack,ex:=ex,fn:=λ_=>false,pn:=[],xe:=λ_ _=>False }
def cst(ix:List (Option Nat))(σ:St):St:=ix.map λo=>match o with
 |none=>none
 |some i=>match σ[i]? with
  |some v=>v
  |none=>none
def yJ(X:Cx)(ifs:List Expr)(t:TT):Prop:=
 ∀(pins:List (Addr×Obj)) (s:Shared) (σ:St) (H:Hp) (Q:Bool->Hp->Prop),Inv X pins σ H s->t σ H Q->
  wpAny (model X.prog X.w) X.A (forIn ifs true λc r=>if r=true then do let ok<-isTrue c X.env (eval c X.env);pure (ForInStep.yield ok)else pure (ForInStep.yield r)) (TP X pins σ Q) X.xe s
def lA:TT:=λ_ H Q=>Q true H
def eO{X:Cx}:yJ X [] lA:=λ_ _ _ H _ I h=>wpAny_tests_nil ⟨H,I,h⟩
def aad{X:Cx}{c:Expr}{t:TT}(h:PT X c t):yJ X [c] t:=λpins s σ H Q I q=>wpAny_tests_one (h pins s σ H Q I q)
def ajG{prog:Program}{w:World}{A:Around}{R:Result->Shared->Prop}{s:Shared}{elt target iter:Expr}{ifs:List Expr}{scope:Scope}{pos:Pos}{it acc:Value}{env:Env}(I:Nat->Shared->Prop)
  (turn:∀n s,I n s->wpAny (model prog w) A (pyNext it) (λr s₁=>match r with
   |none=>R (.ok .next) s₁
   |some v=>wpAny (model prog w) A (letOwnedTupleGo target it v) (λ_ s₀=>wpAny (model prog w) A (assign target env v) (λ_ s₂=>
     wpAny (model prog w) A (forIn ifs true λc r=>if r=true then do let ok<-isTrue c env (eval c env);pure (ForInStep.yield ok)else pure (ForInStep.yield r)) (λok s₃=>
      if ok=true then wpAny (model prog w) A (eval elt env) (λx s₄=>
       wpAny (model prog w) A (call (.builtin "list.append") [acc,x]) (λ_ s₅=>∃m,m<n/\I m s₅) (λ_ _=>False) s₄) (λ_ _=>False) s₃
      else ∃m,m<n/\I m s₃) (λ_ _=>False) s₂) (λ_ _=>False) s₀) (λ_ _=>False) s₁) (λ_ _=>False) s)
  (n:Nat) (h:I n s):
  codeAny (model prog w) A (.compLoop (.ListComp elt [⟨target,iter,ifs,0⟩] scope pos) 0 it acc env) R s:=by
 refine codeAny_loop rfl I (λn s hI=>?_) n h;show wpAny _ A ((compTurn (.ListComp elt [⟨target,iter,ifs,0⟩] scope pos) 0 it acc env).onRaise (λx=>do noteFrame x env;theTreesLotGoes x)) _ _ s
 refine wpAny_noted ?_;rw[compTurn_list];refine wpAny_bind (wpAny_standAt (wpAny_bind (wpAny_mono (turn n s hI) (λr s₁ h₁=>?_) λ_ _ h'=>h'.elim)));cases r with
 |none=>exact wpAny_pure h₁
 |some v=>
  refine wpAny_bind (wpAny_mono h₁ (λ_ s₀ h₀=>?_) λ_ _ h'=>h'.elim);refine wpAny_bind (wpAny_mono h₀ (λ_ s₂ h₂=>wpAny_bind (wpAny_mono h₂ (λok s₃ h₃=>?_) λ_ _ h'=>h'.elim)) λ_ _ h'=>h'.elim);cases ok with
  |false=>exact wpAny_pure ⟨rfl,h₃⟩
  |true=>
   exact wpAny_bind (wpAny_bind (wpAny_mono h₃ (λx s₄ h₄=>wpAny_bind (wpAny_mono h₄ (λ_ s₅ h₅=>wpAny_pure (wpAny_pure ⟨rfl,h₅⟩)) λ_ _ h'=>h'.elim)) λ_ _ h'=>h'.elim))
structure jN(ix:List (Option Nat))(g:TG)(tc:TT)(te:TE)(σ:St)(Q:VK)(J:It)(H1:Hp):Prop where
 go:∀D,H1 D=none->∃W:Nat->Nat->St->Hp->Prop,(∃m,W 0 m (cst ix σ) (upd H1 D (.lst [])))/\
  ∀i m σ' H',W i m σ' H'->(J.stop i H'/\Q (.ref D) H')∨(J.go i H'/\∀x H2,J.jM i H' x H2->g x σ' H2 λσ3 H3=>tc σ3 H3 λb H4=>
   if b=true then te σ3 H4 λy H5=>∃ys,H5 D=some (.lst ys)/\ys.length<sizeLine/\∃m',m'<m/\W (i+1) m' σ3 (upd H5 D (.lst (ys++[y])))
   else ∃m',m'<m/\W (i+1) m' σ3 H4)
def KQ(ix:List (Option Nat))(wi:TI)(g:TG)(tc:TT)(te:TE):TE:=λσ H Q=>wi σ H λJ H1=>jN ix g tc te σ Q J H1
structure IX(X:Cx)(scope sc:Scope)(N:List Str)(ix:List (Option Nat)):Prop where
 rel:relabel scope X.env=sc
 kind:scope.kind = .function
 cell:∀y∈scope.names,y.2≠ .cell
 names:∀x∈scope.names,x.2 = .local->scope.names.lookup x.1=some .local
 free:∀y∈scope.names,y.2 = .free->X.env.kindOf y.1=some .cell∨X.env.kindOf y.1=some .free
 len:N.length=ix.length
 ix:∀(j:Nat) (x:Str) (i:Nat),N[j]?=some x->ix[j]?=some (some i)->X.N[i]?=some x/\(x,NameKind.free)∈scope.names/\(sc.names.lookup x=some .cell∨sc.names.lookup x=some .free)
 has:∀x,(sc.names.lookup x=some .cell∨sc.names.lookup x=some .free)->(x,NameKind.free)∈scope.names
def agZ{X:Cx}{tg iter elt:Expr}{ifs:List Expr}{scope sc:Scope}{pos ip:Pos}{wi:TI}{g:TG}{tc:TT}{te:TE}{N:List Str}{ix:List (Option Nat)}(O:IX X scope sc N ix)(hc:X.calm=true)(hi:PI X tg iter wi)
  (hb:∀cl C s₀ H₀ ex,PG (jO X sc N cl C s₀ H₀ ex) tg g/\yJ (jO X sc N cl C s₀ H₀ ex) ifs tc/\PE (jO X sc N cl C s₀ H₀ ex) elt te) (hs:∀x,foldedSetIterable iter X.env x=pure x)
  {use:Option (Value->Sem Unit)} {QQ:Value->Shared->Prop} {pins:List (Addr×Obj)} {s:Shared} {σ:St} {H:Hp} {Q:VK} (I:Inv X pins σ H s) (h:KQ ix wi g tc te σ H Q)
  (fin:∀(D C:Addr) (s6:Shared) (H5:Hp) (m:Str->Option Value),Inv X pins σ H5 s6->s6.heap.Ns C m->oK X pins H5 C->Q (.ref D) H5->compPost (model X.prog X.w) X.A X.xe use QQ (.ref D) C (.ok .next) s6):
  wpAny (model X.prog X.w) X.A (comprehension (.ListComp elt [⟨tg,iter,ifs,0⟩] scope pos) scope X.env ip (newList []) false (eval iter X.env) use) QQ X.xe s:=by
 have hcl:∃cl,closureFor scope X.env=pure cl/\(∀x c,cl.lookup x=some c->X.env.cells.lookup x=some c)/\∀y∈scope.names,y.2 = .free->∃c,cl.lookup y.1=some c:=
  amM λy hy hf=>I.ok.has y.1 (O.free y hy hf)
 obtain⟨cl,ecl,xT,afB⟩:=hcl;refine wpAny_comprehension_free (use:=use) rfl hs ecl O.kind O.names (aW (hi pins s σ H _ I h) λv s1 h1=>aW h1 λitv s2 h2=>?_);obtain⟨it,fp,tn,J,H2,e,I2,T,st2,f2,q2⟩:=h2;subst e;obtain⟨W,⟨m0,w0⟩,turn⟩:=q2.go s2.heap.objs.size I2.fresh;refine wpAny_newObj_type ?_;have I3:=I2.Ob (its:=[]) (t':=s2.toks) (ys:=[]) .nil (cD _);generalize eH3:upd H2 s2.heap.objs.size (.lst [])=H3 at I3 w0;have eD:H3 s2.heap.objs.size=some (.lst []):=by rw[<-eH3];exact aC
 have anx:∀b∈fp,b≠s2.heap.objs.size:=λb hb z=>by
  obtain⟨o,ho,_⟩:=T.obj _ _ st2 b hb;exact absurd (cW ho) (by rw[z];exact lE _)
 have st3:tn 0 (s2.heap.push { cls:= .type "list",dict:=none,data:= .seq ([]:List Value).toArray }):=T.keep _ _ _ st2 λb _ o e=>Heap.get?_push_of_some _ e;have f3:∀b∈fp,oK X pins H3 b:=λb hb=>⟨by rw[<-eH3,bI (anx b hb)];exact(f2 b hb).1,(f2 b hb).2⟩;generalize es3:({ s2 with heap:=s2.heap.push { cls:= .type "list",dict:=none,data:= .seq ([]:List Value).toArray },toks:=s2.toks }:Shared)=s3 at I3;have acQ:tn 0 s3.heap:=by rw[<-es3];exact st3
 refine wpAny_newFunctionEnv O.cell (λy hy=>nomatch hy) (λh4 asl arh=>?_) O.kind;have O8:∀b o,s3.heap.get? b=some o->h4.get? b=some o:=λb o e=>(arh.2 b (jJ (cW e))).trans (Heap.get?_push_of_some _ e);have I4:Inv X pins σ H3 { s3 with heap:=h4,toks:=s3.toks+([]:List (Str×Value)).length }:=I3.kept O8;have amI:({ newEnv scope s3.heap.objs.size X.env.globals cl X.env.qual none .none (some X.env) builtinsNs with scope:=relabel scope X.env }:Env)=Qi sc cl s3.heap.objs.size X.env:=by rw[O.rel];rfl
 rw[amI];show codeAny _ _ _ (compPost (model X.prog X.w) X.A X.xe use QQ (.ref s2.heap.objs.size) s3.heap.objs.size) _;generalize eC:s3.heap.objs.size=C;generalize es4:({ s3 with heap:=h4,toks:=s3.toks+([]:List (Str×Value)).length }:Shared)=s4 at I4;have Ug:s4.heap=h4:=by rw[<-es4]
 have o4s:s4.os=s3.os:=by rw[<-es4]
 have fC:∀b∈fp,b≠C:=λb hb z=>by
  obtain⟨o,ho,_⟩:=T.obj _ _ acQ b hb;exact absurd (cW ho) (by rw[z,eC];exact lE _)
 have okC:(jO X sc N cl C s3 H3 fp).Ok:=by
  refine⟨I3.ok.mod,?_,I3.ok.glob,I3.ok.blt,QN eC,λx y c h1 h2=>I3.ok.inj x y c (xT x c h1) (xT y c h2),λx hx=>?_,λx c z _=>(nomatch z),I3.ok.hd,I3.ok.frames,.inl rfl,λb hb=>⟨fC b hb,λx c e=>(f3 b hb).2.2.2.2.1 x c (xT x c e)⟩,
   I3.bs,fX I3.ok.vf I3.sz,λb o e hb=>?_,λb hb z=>?_,I3.stack,I3.Mx,I3.ok.tree,I3.ok.top⟩
  .show sc.kind = .function;rw[<-O.rel];exact O.kind
  .exact afB (x,.free) (O.has x hx) rfl
  .rcases(f3 b hb).2.2.2.1 with z|z
   .exact I3.ok.Cw b o e z
   .exact absurd (jm (cW e) (fX I3.ok.vf z)) (lE _)
  .rcases bJ.mp (I3.Fy b z)with z|z
   .exact(f3 b hb).2.1 z
   .exact(f3 b hb).2.2.1 z
 have IC:Inv (jO X sc N cl C s3 H3 fp) [] (cst ix σ) H3 s4:=by
  refine⟨okC,o4s,I4.bare,?_,?_,λx c e=>I4.cell x c (xT x c e),?_,λx c e=>I4.qN x c (xT x c e),λp hp=>(nomatch hp),I4.hok,?_⟩
  .rw[Ug];exact Un.kept O8
  .refine⟨_,by rw[Ug,<-eC];exact asl,λj x v e1 e2 e3=>?_⟩;have e2':(cst ix σ)[j]?=some (some v):=e2;unfold cst at e2';rw[List.getElem?_map]at e2';cases q:ix[j]? with
   |none=>rw[q]at e2';cases e2'
   |some o=>
    rw[q]at e2';cases o with
    |none=>cases e2'
    |some i=>
     obtain⟨hx,hm,hsc⟩:=O.ix j x i e1 q;cases q2:σ[i]? with
     |none=>simp[q2]at e2'
     |some w'=>
      simp[q2]at e2';subst e2';obtain⟨m,hn,hl⟩:=I4.loc;have kf:=O.free (x,.free) hm rfl;have vis:Gk X.env.scope x:=by
       rcases kf with k|k
       .exact .inr (.inl k)
       .exact .inr (.inr k)
      obtain⟨u,r,l⟩:=hl i x v hx q2 vis;refine⟨u,r,?_⟩;rcases l with⟨k,_⟩|⟨_,c,e,z⟩
      .rcases kf with k'|k'
       .rw[k]at k';cases k'
       .rw[k]at k';cases k'
      .obtain⟨c',e'⟩:=afB (x,.free) hm rfl;have:=xT x c' e';rw[e]at this;cases this;exact .inr ⟨hsc,c,e',z⟩
  .rw[<-eC];exact I3.fresh
  .show(cst ix σ).length=N.length;rw[O.len];simp[cst]
 have st4:tn 0 s4.heap:=T.keep _ _ _ acQ λb _ o e=>by rw[Ug];exact O8 b o e
 have stat:∀{H':Hp},(∀b∈fp,H' b=none)->∀b∈fp,oK (jO X sc N cl C s3 H3 fp) [] H' b:=λhn b hb=>
  ⟨hn b hb,fC b hb,okC.Cg b hb,.inl hb,λx c e=>(f3 b hb).2.2.2.2.1 x c (xT x c e),λp hp=>(nomatch hp)⟩
 obtain⟨hg,ht,he⟩:=hb cl C s3 H3 fp;have loop:codeAny (model X.prog X.w) X.A (.compLoop (.ListComp elt [⟨tg,iter,ifs,0⟩] scope pos) 0 (.ref it) (.ref s2.heap.objs.size) (Qi sc cl C X.env))
   (compPost (model X.prog X.w) X.A X.xe use QQ (.ref s2.heap.objs.size) C) s4:=by
  refine ajG (λn s'=>∃i σ' H',Inv (jO X sc N cl C s3 H3 fp) [] σ' H' s'/\tn i s'.heap/\(∀b∈fp,H' b=none)/\W i n σ' H') ?_ m0 ⟨0,cst ix σ,H3,IC,st4,λb hb=>(f3 b hb).1,w0⟩;rintro n s5 ⟨i,σ5,H5,I5,yE,Kl,w5⟩;rcases turn i n σ5 H5 w5 with⟨stop,qn⟩|⟨go,step⟩
  .refine aW (T.done (jO X sc N cl C s3 H3 fp) rfl rfl rfl hc i [] s5 σ5 H5 (λ_ _=>False) I5 (stat Kl) yE stop) λr s6 ⟨hr,I6⟩=>?_;subst hr;obtain⟨m,hn,_⟩:=id I6.loc;have I7:Inv X pins σ H5 s6:=I3.aoQ (ch:=fp) I6.os I6.base I6.hok I6.bare λb hb=>⟨(f3 b hb).2.2.2.1,(f3 b hb).2.1,(f3 b hb).2.2.2.2.1,(f3 b hb).2.2.2.2.2⟩;exact fin _ C s6 H5 m I7 hn (I3.pN (QN eC) I6.free) qn
  .refine aW (T.item (jO X sc N cl C s3 H3 fp) rfl rfl rfl hc i [] s5 σ5 H5 (λ_ _=>False) I5 (stat Kl) yE go) λr s6 ⟨u,hr,h6⟩=>?_;subst hr;refine aW h6 λ_ s7 ⟨x,H7,I7,r7,y7,SV,fr7⟩=>?_;have I7':=I7.pinned (stat fr7) (T.obj _ _ SV);have again:∀{σ9:St} {H9:Hp} {s9:Shared} {m':Nat},Inv (jO X sc N cl C s3 H3 fp) ([]++Bw fp s7.heap) σ9 H9 s9->m'<n->W (i+1) m' σ9 H9->
     ∃m,m<n/\∃i σ' H',Inv (jO X sc N cl C s3 H3 fp) [] σ' H' s9/\tn i s9.heap/\(∀b∈fp,H' b=none)/\W i m σ' H':=λ{σ9 H9 s9 m'} I9 hm w9=>by
    refine⟨m',hm,i+1,σ9,H9,I9.Dn,T.keep _ _ _ SV λb hb o e=>(I9.pin (b,o) (nq _ (nq _ (Cd hb e)))).1,λb hb=>?_,w9⟩;obtain⟨o,e,d⟩:=T.obj _ _ SV b hb;exact(I9.pin (b,o) (nq _ (nq _ (Cd hb e)))).2.1
   refine aW (hg _ s7 σ5 H7 x u _ I7' r7 (step x H7 y7)) λ_ s8 ⟨σ8,H8,I8,q8⟩=>?_;refine aW (ht _ s8 σ8 H8 _ I8 q8) λb s9 ⟨H9,I9,q9⟩=>?_;cases b with
   |false=>
    rw[if_neg f9]at q9;obtain⟨m',hm,w9⟩:=q9;rw[if_neg f9];exact again I9 hm w9
   |true=>
    rw[if_pos rfl]at q9;rw[if_pos rfl];refine aW (he _ s9 σ8 H9 _ I9 q9) λy s10 ⟨yv,uo,I10,r10,ys,e10,HC,m',hm,w10⟩=>?_;refine aW (WM _ s10 σ8 uo (.ref s2.heap.objs.size) [yv] (.ref s2.heap.objs.size) [y] (λ_ H'=>W (i+1) m' σ8 H') I10 rfl (.cons r10 .nil) ⟨_,ys,yv,rfl,rfl,e10,HC,w10⟩) λ_ s11 ⟨_,wN,I11,_,w11⟩=>?_;exact again I11 hm w11
 exact codeAny_compStart_list loop (T.self _ _ _ _ _ st4 loop)
def fY{X:Cx}{tg iter elt:Expr}{ifs:List Expr}{scope sc:Scope}{pos:Pos}{wi:TI}{g:TG}{tc:TT}{te:TE}{N:List Str}{ix:List (Option Nat)}(O:IX X scope sc N ix)(hc:X.calm=true)(hi:PI X tg iter wi)
  (hb:∀cl C s₀ H₀ ex,PG (jO X sc N cl C s₀ H₀ ex) tg g/\yJ (jO X sc N cl C s₀ H₀ ex) ifs tc/\PE (jO X sc N cl C s₀ H₀ ex) elt te)
  (hs:∀x,foldedSetIterable iter X.env x=pure x:=by intro _;rfl):PE X (.ListComp elt [⟨tg,iter,ifs,0⟩] scope pos) (KQ ix wi g tc te):=by
 intro pins s σ H Q I h;rw[eval_ListComp];exact agZ (use:=none) (QQ:=EP X pins σ Q) O hc hi hb hs I h λD C s6 H5 m I7 hn f q=>⟨m,hn,λh' hs'=>⟨.ref D,H5,I7.turned (it:=C) (t':=s6.toks) (λb o hb e=>(hs'.2 b hb).trans e) f.1 f.2.1 f.2.2.2.1 f.2.2.2.2.1 f.2.2.2.2.2,rfl,q⟩⟩
def uG{X:Cx}{i:Nat}{y:Str}{py spos:Pos}{tg iter elt:Expr}{ifs:List Expr}{scope sc:Scope}{pos:Pos}{wi:TI}{g:TG}{tc:TT}{te:TE}{N:List Str}{ix:List (Option Nat)}(hN:X.N.Nodup)(hi':X.N[i]?=some y)(hx:Loc X.env.scope y)
  (O:IX X scope sc N ix) (hc:X.calm=true) (hi:PI X tg iter wi)
  (hb:∀cl C s₀ H₀ ex,PG (jO X sc N cl C s₀ H₀ ex) tg g/\yJ (jO X sc N cl C s₀ H₀ ex) ifs tc/\PE (jO X sc N cl C s₀ H₀ ex) elt te)
  (hs:∀x,foldedSetIterable iter X.env x=pure x:=by intro _;rfl) (hsw:swapsWith (.ListComp elt [⟨tg,iter,ifs,0⟩] scope pos) (some (.Name y py)) spos.line X.env=pure true:=by rfl)
  (hf:X.fn y=true∨X.env.scope.names.lookup y=some .local:=by first|exact .inl rfl|exact .inr rfl|assumption):
  PS X (.Assign [.Name y py] (.ListComp elt [⟨tg,iter,ifs,0⟩] scope pos) spos) (Gi (KQ ix wi g tc te) (iD i)):=by
 intro pins s σ H D I h;rw[exec_Assign_Name_used _ _ _ _ hsw];refine wpAny_bind (wpAny_standAt (wpAny_bind ?_));show wpAny _ X.A (do let _<-comprehension (.ListComp elt [⟨tg,iter,ifs,0⟩] scope pos) scope X.env _ (newList []) false (eval iter X.env) (some (assign (.Name y py) X.env))) _ _ s
 refine wpAny_bind (wpAny_mono (agZ (use:=some (assign (.Name y py) X.env)) (QQ:=λ_ s'=>∃σ' H',Inv X pins σ' H' s'/\D.nx σ' H') O hc hi hb hs I h λD1 C s6 H5 m I7 hn f q=>?_) (λ_ s' ⟨σ',H',I',q'⟩=>wpAny_pure (wpAny_pure ⟨σ',H',I',q'⟩)) λ_ _ e=>e);obtain⟨o,es,ep,ho,hc1,hc2⟩:=id hn;have I8:=I7.pinned (fp:=[C]) (λb hb=>by
  have e:b=C:=by simpa using hb
  subst e;exact f) (λb hb=>by
  have e:b=C:=by simpa using hb
  subst e;exact⟨o,ho,λv z=>by first|(rw[hc1.2]at z;cases z)|(rw[hc2.1]at z;cases z)|(rw[hc1]at z;cases z)|(simp_all)⟩)
 show wpAny _ X.A (assign (.Name y py) X.env (.ref D1)) _ _ _;refine wpAny_assign_Name (Bh I8 hN hi' hx (v:= .ref D1) rfl (λs7 I9=>?_) hf);have hC:=(I9.pin (C,o) (nq _ (nq _ (Cd (by simp) ho)))).1;refine⟨m,⟨o,es,ep,hC,hc1,hc2⟩,λh' hs'=>⟨_,H5,I9.Dn.turned (it:=C) (t':=s7.toks) (λb o hb e=>(hs'.2 b hb).trans e) f.1 f.2.1 f.2.2.2.1 f.2.2.2.2.1 f.2.2.2.2.2,q⟩⟩
mutual
inductive mz(K:aF)(H:Hp):V->PyData->Prop
 |non:mz K H .non .none
 |bl (b:Bool):mz K H (.bl b) (.bool b)
 |int (i:Int):mz K H (.int i) (.int i)
 |str (x:Str):mz K H (.str x) (.str x)
 |lst {a:Addr} {xs:List V} {ds:List PyData}:au K H a xs->kW K H xs ds->mz K H (.ref a) (.list ds)
 |tup {a:Addr} {xs:List V} {ds:List PyData}:aA K H a xs->kW K H xs ds->mz K H (.ref a) (.tuple ds)
inductive kW(K:aF)(H:Hp):List V->List PyData->Prop
 |nil:kW K H [] []
 |cons {x:V} {d:PyData} {xs:List V} {ds:List PyData}:mz K H x d->kW K H xs ds->kW K H (x::xs) (d::ds)
end
section
variable {X:Cx} {pins:List (Addr×Obj)} {σ:St} {H:Hp} {s:Shared}
mutual
theorem Inv.reads(I:Inv X pins σ H s):∀{x:V} {d:PyData} {u:Value},mz X.K H x d->RelV x u->∃as,Reads s.heap u d as
 |_,_,_,.non,r=>by cases r;exact⟨_,.none⟩
 |_,_,_,.bl b,r=>by cases r;exact⟨_,.bool b⟩
 |_,_,_,.int i,r=>by obtain⟨t,rfl⟩:=r;exact⟨_,.int i t⟩
 |_,_,_,.str x,r=>by obtain⟨t,rfl⟩:=r;exact⟨_,.str x t⟩
 |_,_,_,.lst hq hs,r=>by
  cases r;obtain⟨its,rv,pl,_⟩:=I.list hq;obtain⟨as,ra⟩:=Inv.readsAll I hs rv;obtain⟨o,ho,hc,n,hd⟩:=pl.isList;exact⟨_,.list ho hc hd (by simpa using ra)⟩
 |_,_,_,.tup hq hs,r=>by
  cases r;obtain⟨its,rv,pl,_⟩:=I.tuple hq;obtain⟨as,ra⟩:=Inv.readsAll I hs rv;obtain⟨o,ho,hc,n,hd⟩:=pl;exact⟨_,.tuple ho hc hd (by simpa using ra)⟩
theorem Inv.readsAll(I:Inv X pins σ H s):∀{xs:List V} {ds:List PyData} {us:List Value},kW X.K H xs ds->Vals xs us->∃as,ReadsAll s.heap us ds as
 |_,_,_,.nil,.nil=>⟨_,.nil⟩
 |_,_,_,.cons h1 h2,.cons r1 r2=>by
  obtain⟨as,a⟩:=Inv.reads I h1 r1;obtain⟨bs,b⟩:=Inv.readsAll I h2 r2;exact⟨_,.cons a b⟩
end
theorem kW.ints{K:aF}{H:Hp}:∀ns:List Int,kW K H (ns.map V.int) (ns.map Im)
 |[]=> .nil
 |n::r=> .cons (.int n) (kW.ints r)
def qX(kb:List (Key×V)):List (Key×V)->Bool
 |[]=>true
 |(k,v)::r=>match dU kb k with
  |none=>false
  |some y=>UN v y&&qX kb r
theorem Ou{A:Around}{kb:List (Key×V)}{vb:List (Key×Value)}(hb:KV kb vb)(fb:kb.all (λp=>qD p.2)=true):∀{ka:List (Key×V)} {va:List (Key×Value)},KV ka va->ka.all (λp=>qD p.2)=true->
  W.KeqHits A s vb va (qX kb ka)
 |[],_,.nil,_=> .nil
 |(k,v)::r,(k',v')::r',.cons ⟨e,rv⟩ t,f=>by
  cases (show k=k' from e);rw[List.all_cons,rY]at f;have hv:=KV.val hb k;cases q:dU kb k with
  |none=>
   have hn:valueAt vb k=none:=j7.none_of (by rw[q]at hv;exact hv);have e2:qX kb ((k,v)::r)=false:=by simp[qX,q]
   rw[e2];exact .miss hn
  |some y=>
   rw[q]at hv;obtain⟨u,hu,ru⟩:=j7.some_of hv;have fy:qD y=true:=by
    unfold dU at q;cases q2:kb.find? (λkv=>decide (kv.1=k))with
    |none=>rw[q2]at q;cases q
    |some p=>
     rw[q2]at q;cases q;exact mq.mp fb p (List.mem_of_find?_eq_some q2)
   have e2:qX kb ((k,v)::r)=(UN v y&&qX kb r):=by simp[qX,q]
   rw[e2];exact .hit hu (ai6 rv ru f.1 fy) (Ou hb fb t f.2)
end
section
variable {X:Cx}
def rD(K:aF)(g:Bool->Bool):R2:=λx y H Q=>match x,y with
 |.int i,.int j=>Q (.bl (g (decide (i=j)))) H
 |.bl i,.bl j=>Q (.bl (g (decide (i=j)))) H
 |.str i,.str j=>Q (.bl (g (decide (i=j)))) H
 |.non,.non=>Q (.bl (g true)) H
 |.ref a,.ref b=>(∃d e,mz K H (.ref a) d/\mz K H (.ref b) e/\SeqAt.shaped d=true/\SeqAt.shaped e=true/\Q (.bl (g (oF d e))) H)∨
   (∃ka kb,H a=some (.dK ka)/\H b=some (.dK kb)/\ka.all (λp=>qD p.2)=true/\kb.all (λp=>qD p.2)=true/\Q (.bl (g (ka.length==kb.length&&qX kb ka))) H)
 |.non,.ref _=>False
 |.ref _,.non=>False
 |x,y=>NK x y=true/\Q (.bl (g (decide (x=y)))) H
def ayj{k:Nat}(hr:dY k X.A):dh X (compareOp .Eq) (λx y H Q=>∃d e,mz X.K H x d/\mz X.K H y e/\SeqAt.shaped d=true/\SeqAt.shaped e=true/\Q (.bl (oF d e)) H):=by
 intro pins s σ H x y v u Q I rx ry h;obtain⟨d,e,h1,h2,h3,h4,q⟩:=h;obtain⟨as,ra⟩:=I.reads h1 rx;obtain⟨bs,rb⟩:=I.reads h2 ry;exact eq_dataH ra rb h3 h4 hr.units ⟨.bl _,H,I,rfl,q⟩
def ah5{k:Nat}(hr:dY k X.A):dh X (compareOp .NotEq) (λx y H Q=>∃d e,mz X.K H x d/\mz X.K H y e/\SeqAt.shaped d=true/\SeqAt.shaped e=true/\Q (.bl (!oF d e)) H):=by
 intro pins s σ H x y v u Q I rx ry h;obtain⟨d,e,h1,h2,h3,h4,q⟩:=h;obtain⟨as,ra⟩:=I.reads h1 rx;obtain⟨bs,rb⟩:=I.reads h2 ry;exact ne_dataH ra rb h3 h4 hr.units ⟨.bl _,H,I,rfl,q⟩
def ahg{k:Nat}(hr:dY k X.A):dh X (compareOp .Eq) (λx y H Q=>∃a b ka kb,x = .ref a/\y = .ref b/\H a=some (.dK ka)/\H b=some (.dK kb)/\ka.all (λp=>qD p.2)=true/\kb.all (λp=>qD p.2)=true/\Q (.bl (ka.length==kb.length&&qX kb ka)) H):=by
 intro pins s σ H x y v u Q I rx ry h;obtain⟨a,b,ka,kb,rfl,rfl,h1,h2,h3,h4,q⟩:=h;cases rx;cases ry;obtain⟨_,ea,va,ra,da⟩:ka.length<=sizeLine/\(a==sysModules)=false/\∃vs,KV ka vs/\s.heap.DictOf (gW X.prog X.w) a vs:=I.hok a _ h1;obtain⟨_,eb,vb,rb,db⟩:kb.length<=sizeLine/\(b==sysModules)=false/\∃vs,KV kb vs/\s.heap.DictOf (gW X.prog X.w) b vs:=I.hok b _ h2;refine W.keq_eq ea eb da db hr.aaV (λ_=>Ou rb h4 ra h3) ⟨.bl _,H,I,?_,q⟩;show _=Value.bool _;rw[Paired.length ra,Paired.length rb]
def ajB{k:Nat}(hr:dY k X.A):dh X (compareOp .NotEq) (λx y H Q=>∃a b ka kb,x = .ref a/\y = .ref b/\H a=some (.dK ka)/\H b=some (.dK kb)/\ka.all (λp=>qD p.2)=true/\kb.all (λp=>qD p.2)=true/\Q (.bl (!(ka.length==kb.length&&qX kb ka))) H):=by
 intro pins s σ H x y v u Q I rx ry h;obtain⟨a,b,ka,kb,rfl,rfl,h1,h2,h3,h4,q⟩:=h;cases rx;cases ry;obtain⟨_,ea,va,ra,da⟩:ka.length<=sizeLine/\(a==sysModules)=false/\∃vs,KV ka vs/\s.heap.DictOf (gW X.prog X.w) a vs:=I.hok a _ h1;obtain⟨_,eb,vb,rb,db⟩:kb.length<=sizeLine/\(b==sysModules)=false/\∃vs,KV kb vs/\s.heap.DictOf (gW X.prog X.w) b vs:=I.hok b _ h2;refine W.keq_ne ea eb da db hr.aaV (λ_=>Ou rb h4 ra h3) ⟨.bl _,H,I,?_,q⟩;show _=Value.bool _;rw[Paired.length ra,Paired.length rb]
def Wq{i j:Int}:decide (V.int i=V.int j)=decide (i=j):=by simp
def agG{i j:Bool}:decide (V.bl i=V.bl j)=decide (i=j):=by simp
def abg{i j:Str}:decide (V.str i=V.str j)=decide (i=j):=by simp
def v_eq{k:Nat}(hr:dY k X.A):dh X (compareOp .Eq) (rD X.K id):=by
 refine(aqC.or ((ayj hr).or (ahg hr))).imp λx y H Q h=>?_;unfold rD at h;split at h
 .exact .inl ⟨rfl,by rw[Wq];exact h⟩
 .exact .inl ⟨rfl,by rw[agG];exact h⟩
 .exact .inl ⟨rfl,by rw[abg];exact h⟩
 .exact .inl ⟨rfl,by rw[decide_eq_true rfl];exact h⟩
 .rcases h with⟨d,e,h⟩|⟨ka,kb,h⟩
  .exact .inr (.inl ⟨d,e,h⟩)
  .exact .inr (.inr ⟨_,_,ka,kb,rfl,rfl,h⟩)
 .exact h.elim
 .exact h.elim
 .exact .inl h
def ajA{k:Nat}(hr:dY k X.A):dh X (compareOp .NotEq) (rD X.K not):=by
 refine(aow.or ((ah5 hr).or (ajB hr))).imp λx y H Q h=>?_;unfold rD at h;split at h
 .exact .inl ⟨rfl,by rw[Wq];exact h⟩
 .exact .inl ⟨rfl,by rw[agG];exact h⟩
 .exact .inl ⟨rfl,by rw[abg];exact h⟩
 .exact .inl ⟨rfl,by rw[decide_eq_true rfl];exact h⟩
 .rcases h with⟨d,e,h⟩|⟨ka,kb,h⟩
  .exact .inr (.inl ⟨d,e,h⟩)
  .exact .inr (.inr ⟨_,_,ka,kb,rfl,rfl,h⟩)
 .exact h.elim
 .exact h.elim
 .exact .inl h
end
end L2
namespace PySem.SeqAt
open AutoSeq1 (wpAny_loadPart')
open MeetsSeq MeetsSeq2 MeetsSeq3 SeqRoads2
section
variable {A:Around} {s:Shared}
end
end PySem.SeqAt
namespace L2
open PySem PySem.Spec PyProof.Rows
section
variable {X:Cx}
end
def boot_abs:bootBuiltins "abs" = some (.builtin "abs"):=by decide +kernel
def boot_sum:bootBuiltins "sum" = some (.builtin "sum"):=by decide +kernel
def boot_max:bootBuiltins "max" = some (.builtin "max"):=by decide +kernel
def boot_tuple:bootBuiltins "tuple" = some (.type "tuple"):=by decide +kernel
def boot_list:bootBuiltins "list" = some (.type "list"):=by decide +kernel
structure Fn(K:aF)(mg:Str->Option Value)(x:Str)(st:Stmt)(ps:List Str):Prop where
 ex:∃(f:Addr) (fd:FuncData),tW K x x st f fd/\mg x=some (.ref f)/\Binds K fd ps []
def Fn.cal{P:Program}{w:World}{K:aF}{mg:Str->Option Value}{base:Heap}{x:Str}{st:Stmt}{N ps:List Str}{k:Nat}{sp:Sp}(F:Fn K mg x st ps)(S:aZ N ps (aU st))(len:∀vs H Q E,sp vs H Q E->vs.length=ps.length)
  (hbody:∀(f:Addr) (cdv:Value) (A:Around) (outer:List Env) (s:Shared) (H:Hp) (vs:List V) (Q:VK) (E:XK),dY k (A.deeper (envOfC x (aU st) s.heap.objs.size f cdv))->sp vs H Q E->
   ∃t,jK (iy P w K mg base N x (aU st) f cdv A outer s H E).CD (lN st) t/\t { nx:=λ_ H'=>Q .non H',rt:=Q } (start N vs) H):iU P w K mg base x (k+1) ps sp:=by
 obtain⟨f,fd,F,m,b⟩:=F.ex;exact⟨f,fd,m,F.kp,b,F.okN S len λcdv A outer s H vs Q E hr h=>hbody f cdv A outer s H vs Q E hr h⟩
def Fn.IY{P:Program}{w:World}{K:aF}{mg:Str->Option Value}{base:Heap}{x:Str}{st:Stmt}{N ps:List Str}{k:Nat}{sp:Sp}(F:Fn K mg x st ps)(S:aZ N ps (aU st))(len:∀vs H Q E,sp vs H Q E->vs.length=ps.length)
  (hbody:∀(f:Addr) (cdv:Value) (A:Around) (outer:List Env) (s:Shared) (H:Hp) (vs:List V) (Q:VK) (E:XK),dY k (A.deeper (envOfC x (aU st) s.heap.objs.size f cdv))->sp vs H Q E->
   ∃t,jK (iy P w K mg base N x (aU st) f cdv A outer s H E) (lN st) t/\t { nx:=λ_ H'=>Q .non H',rt:=Q } (start N vs) H):iU P w K mg base x (k+1) ps sp:=by
 obtain⟨f,fd,F,m,b⟩:=F.ex;exact⟨f,fd,m,F.kp,b,F.okF S len λcdv A outer s H vs Q E hr h=>hbody f cdv A outer s H vs Q E hr h⟩
def Same.new{H:Hp}{p:Addr}(h:H p=none)(o:HO):Same H (upd H p o):=λb u q=>by rw[bI (jr q h)];exact q
theorem Same.upd{H H':Hp}{p:Addr}(g:Same H H')(h:H p=none)(o:HO):Same H (L2.upd H' p o):=λb u q=>by rw[bI (jr q h)];exact g b u q
def Same.Gq{K:aF}{H H':Hp}{a:Addr}{xs:List V}(e:Same H H')(h:aA K H a xs):aA K H' a xs:=by
 rcases h with(h|⟨o,h⟩)|h
 .exact .inl (.inl (e _ _ h))
 .exact .inl (.inr ⟨o,e _ _ h⟩)
 .exact .inr h
def mulL{i j:Int}(h1:-(2^64)<i)(h2:i<2^64):IntMulOk i j:= .of_left (intBits_le_64 h1 h2)
def mulR{i j:Int}(h1:-(2^64)<j)(h2:j<2^64):IntMulOk i j:= .of_right (intBits_le_64 h1 h2)
def dH{N:List Str}(h:decide N.Nodup=true:=by kernel_rfl):N.Nodup:=of_decide_eq_true h
abbrev d7(l:List (Str×NameKind)):Scope:={ kind:= .function,names:=l,isGenerator:=false,isCoroutine:=false }
def dX{X:Cx}{scope sc:Scope}{N:List Str}{ix:List (Option Nat)}(sc':relabel scope X.env=sc:=by kernel_rfl)(kind:scope.kind = .function:=by kernel_rfl)(cell:scope.names.all (λy=>y.2 != .cell)=true:=by kernel_rfl)
  (names:scope.names.all (λx=>x.2 != .local||scope.names.lookup x.1==some .local)=true:=by kernel_rfl)
  (free:scope.names.all (λy=>y.2 != .free||(X.env.scope.names.lookup y.1==some .cell||X.env.scope.names.lookup y.1==some .free))=true:=by kernel_rfl)
  (len:N.length=ix.length:=by kernel_rfl)
  (hix:(N.zip ix).all (λp=>match p.2 with
   |none=>true
   |some i=>X.N[i]?==some p.1&&scope.names.any (λy=>y.1==p.1&&y.2== .free)&&(sc.names.lookup p.1==some .cell||sc.names.lookup p.1==some .free))=true:=by kernel_rfl)
  (has:sc.names.all (λy=>(y.2 != .cell&&y.2 != .free)||scope.names.any (λz=>z.1==y.1&&z.2== .free))=true:=by kernel_rfl):IX X scope sc N ix:=by
 have mem:∀x:Str,scope.names.any (λy=>y.1==x&&y.2== .free)=true->(x,NameKind.free)∈scope.names:=λx h=>by
  obtain⟨y,hy,e⟩:=sY.mp h;rw[rY]at e;obtain⟨a,b⟩:=y;have e1:a=x:=eq_of_beq e.1;have e2:b = .free:=eq_of_beq e.2;subst e1;subst e2;exact hy
 refine⟨sc',kind,λy hy e=>?_,λx hx e=>?_,λy hy e=>?_,len,λj x i h1 h2=>?_,λx hx=>?_⟩
 .have:=mq.mp cell y hy;rw[e]at this;cases this
 .have:=mq.mp names x hx;rw[e]at this;simpa using this
 .have:=mq.mp free y hy;rw[e]at this;simpa[Env.kindOf]using this
 .have hm:(x,some i)∈N.zip ix:=by
   have:(N.zip ix)[j]?=some (x,some i):=by
    rw[List.getElem?_zip_eq_some];exact⟨h1,h2⟩
   exact List.mem_of_getElem? this
  have:=mq.mp hix _ hm;simp only[rY]at this;obtain⟨⟨a1,a2⟩,a3⟩:=this;refine⟨eq_of_beq a1,mem x a2,?_⟩;rw[uD]at a3;rcases a3 with z|z
  .exact .inl (eq_of_beq z)
  .exact .inr (eq_of_beq z)
 .have hm:∃k,(x,k)∈sc.names/\(k = .cell∨k = .free):=by
   rcases hx with z|z
   .exact⟨_,vC z,.inl rfl⟩
   .exact⟨_,vC z,.inr rfl⟩
  obtain⟨k,hk,e⟩:=hm;have:=mq.mp has _ hk;rw[uD]at this;rcases this with z|z
  .rcases e with e|e<;>(subst e;simp at z)
  .exact mem x z
structure bB(K:aF)(x:Str)(st:Stmt):Prop where
 ex:∃(f:Addr) (oc:Value) (od:Option Addr) (kV doc pm:Value) (an:Option Addr) (cdv ct:Value) (sl:Array (Option Value)),jk K mainGlobals x=some (some (.ref f))/\
  K.lookup f=some ⟨oc,od,.func (qz x x (qM st) (lN st) (aU st) .none kV doc pm an cdv ct),sl⟩/\DF K cdv x=true/\yV K (.ref f)=true
def aw3{K:aF}{x:Str}{st:Stmt}{f:Addr}{oc:Value}{od:Option Addr}{kV doc pm:Value}{an:Option Addr}{cdv ct:Value}{sl:Array (Option Value)}(a:jk K mainGlobals x=some (some (.ref f)))
  (l:K.lookup f=some ⟨oc,od,.func (qz x x (qM st) (lN st) (aU st) .none kV doc pm an cdv ct),sl⟩) (c:DF K cdv x=true) (k:yV K (.ref f)=true):bB K x st:=
 ⟨f,oc,od,kV,doc,pm,an,cdv,ct,sl,a,l,c,k⟩
def bB.fn{K:aF}{h:Heap}{mg:Str->Option Value}{x:Str}{st:Stmt}{ps:List Str}(F:bB K x st)(X:K.In h)(G:h.Ns mainGlobals mg)
  (hb:∀(kV doc pm:Value) (an:Option Addr) (cdv ct:Value) (us:List Value),us.length=ps.length->bindArgs (qz x x (qM st) (lN st) (aU st) .none kV doc pm an cdv ct) ⟨us,[]⟩=pure (ps.zip us)):Fn K mg x st ps:=by
 obtain⟨f,oc,od,kV,doc,pm,an,cdv,ct,sl,a,l,c,k⟩:=F.ex;have FF:=XR (st:=st) l c k;exact⟨f,_,FF,vp X G a,FF.binds hb⟩
def bB.bK{K:aF}{h:Heap}{mg:Str->Option Value}{x:Str}{st:Stmt}{ps:List Str}(F:bB K x st)(X:K.In h)(G:h.Ns mainGlobals mg)
  (hb:∀(kV doc pm:Value) (an:Option Addr) (cdv ct:Value) (us:List Value),us.length=ps.length->bindArgs (qz x x (qM st) (lN st) (aU st) .none kV doc pm an cdv ct) ⟨us,[]⟩=pure (ps.zip us):=by
   intro _ _ _ _ _ _ us hl;first
    |(obtain⟨_,rfl⟩:=L2.us1 hl;rfl)
    |(obtain⟨_,_,rfl⟩:=L2.us2 hl;rfl)
    |(obtain⟨_,_,_,rfl⟩:=L2.us3 hl;rfl)
    |(obtain⟨_,_,_,_,rfl⟩:=L2.us4 hl;rfl)
    |(obtain rfl:=L2.us0 hl;rfl)
    |(obtain⟨_,_,_,_,_,rfl⟩:=L2.us5 hl;rfl)
    |(obtain⟨_,_,_,_,_,_,rfl⟩:=L2.us6 hl;rfl)):Fn K mg x st ps:=F.fn X G hb
def bH{N P:List Str}{sc:Scope}(kind:sc.kind = .function:=by rfl)(co:sc.isCoroutine=false:=by rfl)(gen:sc.isGenerator=false:=by rfl)(nd:N.Nodup:=by decide +kernel)(pre:N.take P.length=P:=by rfl)
  (par:∀x∈P,sc.names.lookup x=some .local∨sc.names.lookup x=some .cell:=by decide +kernel) (LN:∀y∈sc.names,y.2≠ .free:=by decide +kernel):aZ N P sc:=⟨kind,co,gen,nd,pre,par,LN⟩
structure qC(J:It)(xs:List V)(H1:Hp):Prop where
 go:∀i H',Same H1 H'->i<xs.length->J.go i H'
 jM:∀i H' x H2,Same H1 H'->J.jM i H' x H2->H2=H'/\(i<xs.length->xs[i]?=some x)
 stop:∀i H',Same H1 H'->xs.length<=i->J.stop i H'
def wG{K:aF}{a:Addr}{xs:List V}{H1:Hp}(hq:au K H1 a xs):qC (nY K a) xs H1:=
 ⟨λi H' g h=>⟨xs,xs[i],g.seq hq,by simp[h]⟩,λi H' x H2 g y=>⟨y.1,λ_=>y.2 xs (g.seq hq)⟩,λi H' g h=>⟨xs,g.seq hq,h⟩⟩
def Vo{K:aF}{a:Addr}{xs:List V}{H1:Hp}(hq:aA K H1 a xs):qC (IK K a) xs H1:=
 ⟨λi H' g h=>⟨xs,xs[i],g.Gq hq,by simp[h]⟩,λi H' x H2 g y=>⟨y.1,λ_=>y.2 xs (g.Gq hq)⟩,λi H' g h=>⟨xs,g.Gq hq,h⟩⟩
def zq{lo:Int}{n:Nat}{H1:Hp}:qC (mZ lo n) ((fj n).map λi=>V.int (lo+(i:Nat))) H1:=
 ⟨λi H' g h=>show i<n by simpa using h,λi H' x H2 g y=>⟨y.1,λh=>by
  have h':i<n:=by simpa using h
  rw[List.getElem?_map,List.getElem?_range h',y.2];rfl⟩,λi H' g h=>show n<=i by simpa using h⟩
def qT{J:It}{xs:List V}{ix:List (Option Nat)}{tc:TT}{te:TE}{σ:St}{H1:Hp}{Q:VK}(I:qC J xs H1)(hz:xs.length<=sizeLine){rest:St}(hst:cst ix σ=none::rest)(p:V->Bool)(F:V->V)
  (ht:∀H' x,Same H1 H'->x∈xs->∀k:Bool->Hp->Prop,k (p x) H'->tc (some x::rest) H' k)
  (he:∀H' x,Same H1 H'->x∈xs->p x=true->∀k:VK,k (F x) H'->te (some x::rest) H' k)
  (hQ:∀D,H1 D=none->Q (.ref D) (upd H1 D (.lst ((xs.filter p).map F)))):
  jN ix (iD 0) tc te σ Q J H1:=by
 constructor;intro D hD;refine⟨λi m σ' H'=>m=xs.length-i/\i<=xs.length/\(∃o,σ'=o::rest)/\H'=upd H1 D (.lst (((xs.take i).filter p).map F)),⟨xs.length,by simp,cD _,⟨none,hst⟩,by simp⟩,?_⟩;rintro i m σ' H' ⟨rfl,hi,⟨o,rfl⟩,rfl⟩;have g:Same H1 (upd H1 D (.lst (((xs.take i).filter p).map F))):=Same.new hD _;by_cases hlt:i<xs.length
 .refine .inr ⟨I.go i _ g hlt,λx H2 y=>?_⟩;obtain⟨rfl,hx⟩:=I.jM i _ x H2 g y;have hx:=hx hlt;have hm:x∈xs:=List.mem_of_getElem? hx;have et:xs.take (i+1)=xs.take i++[x]:=by
   rw[pL,hx];rfl
  show tc (some x::rest) _ _;refine ht _ x g hm _ ?_;cases hp:p x with
  |true=>
   rw[if_pos rfl];refine he _ x g hm hp _ ⟨_,aC,?_,xs.length-(i+1),⋯,rfl,hlt,⟨_,rfl⟩,?_⟩
   .have h1:(((xs.take i).filter p).map F).length<=i:=by
     rw[aB];exact fX (Qx _ _) (by rw[iZ];omega)
    omega
   .rw[aoG,et,BQ,fZ];simp[hp]
  |false=>
   rw[if_neg f9];refine⟨xs.length-(i+1),⋯,rfl,hlt,⟨_,rfl⟩,?_⟩;rw[et,BQ];simp[hp]
 .have e:i=xs.length:=⋯;subst e;refine .inl ⟨I.stop _ _ g (aN _),?_⟩;rw[mF];exact hQ D hD
def GN{J:It}{xs:List V}{g:TG}{tb:TS}{D:Ends}{σ:St}{H:Hp}(I:qC J xs H)(Pv:Nat->St->Hp->Prop)(h0:Pv 0 σ H)(hsame:∀i σ' H',Pv i σ' H'->Same H H')
  (hs:∀i x σ' H',xs[i]?=some x->Pv i σ' H'->g x σ' H' λσ2 H2=>tb { D with nx:=Pv (i+1),ct:=Pv (i+1),bk:=D.nx } σ2 H2) (hd:∀σ' H',Pv xs.length σ' H'->D.nx σ' H'):
  ∃W:Nat->Nat->St->Hp->Prop,(∃m,W 0 m σ H)/\∀i m σ H,W i m σ H->
   (J.stop i H/\D.nx σ H)∨(J.go i H/\∃N:St->Hp->Prop,(∀σ' H',N σ' H'->∃m',m'<m/\W (i+1) m' σ' H')/\∀x H',J.jM i H x H'->g x σ H' λσ2 H2=>tb { D with nx:=N,ct:=N,bk:=D.nx } σ2 H2):=by
 refine⟨λi m σ' H'=>m=xs.length-i/\i<=xs.length/\Pv i σ' H',⟨xs.length,by simp,cD _,h0⟩,?_⟩;rintro i m σ' H' ⟨rfl,hi,p⟩;have gs:=hsame i σ' H' p;by_cases hlt:i<xs.length
 .refine .inr ⟨I.go i _ gs hlt,Pv (i+1),λσ2 H2 p'=>⟨xs.length-(i+1),⋯,rfl,hlt,p'⟩,λx H2 y=>?_⟩;obtain⟨rfl,hx⟩:=I.jM i _ x H2 gs y;exact hs i x σ' _ (hx hlt) p
 .have e:i=xs.length:=⋯;subst e;exact .inl ⟨I.stop _ _ gs (aN _),hd σ' H' p⟩
structure Bar(t:TE)(σ:St)(H:Hp)(Q:VK):Prop where
 go:t σ H Q
def axe(t:TE):TE:=λσ H Q=>Bar t σ H Q
def Bar.by{t:TE}{σ:St}{H:Hp}{Q:VK}(R:V->Hp->Prop)(h:∀k:VK,(∀v H1,R v H1->k v H1)->t σ H k)(q:∀v H1,R v H1->Q v H1):Bar t σ H Q:=⟨h Q q⟩
def aqN{X:Cx}{e:Expr}{t:TE}(h:PE X e t):PE X e (axe t):=λpins s σ H Q I q=>h pins s σ H Q I q.go
structure qO(t:TS)(D:Ends)(σ:St)(H:Hp):Prop where
 go:t D σ H
def al4(t:TS):TS:=λD σ H=>qO t D σ H
def uc{X:Cx}{st:Stmt}{t:TS}(h:PS X st t):PS X st (al4 t):=λpins s σ H D I q=>h pins s σ H D I q.go
theorem qO.by{t:TS}{D:Ends}{σ:St}{H:Hp}(R:St->Hp->Prop)(h:∀N:St->Hp->Prop,(∀σ' H',R σ' H'->N σ' H')->t { D with nx:=N } σ H)(q:∀σ' H',R σ' H'->D.nx σ' H'):qO t D σ H:=by
 constructor;exact h D.nx q
end L2
namespace HT
open PySem PyProof.Rows
section
variable {prog:Program} {w:World} {A:Around} {E:Value->Shared->Prop} {s:Shared}
def aw2{t sl:Addr}{items:Array Value}{vl vu:Value}{lo hi:Option Int}{Q:Value->Shared->Prop}(ht:IsTup s.heap t items)(hs:s.heap.IsSliceOf sl vl vu .none)(pl:IsPart vl lo)(pu:IsPart vu hi)
  (hw:bw items.size 0 lo=0/\bw items.size items.size hi=items.size) (h:Q (.ref t) s):wpAny (model prog w) A (getItem (.ref t) (.ref sl)) Q E s:=by
 obtain⟨os,hos,hcs,hds⟩:=id hs;have hTs:s.TypeIs (.ref sl) "slice" := ⟨os,hos,hcs⟩;unfold getItem;try with_reducible refine wpAny_holding ?_
 first|refine wpAny_bind (wpAny_pure ?_)|skip
 refine wpAny_bind (wpAny_sequenceKey ht.typeIs ∅ ?_);refine wpAny_bind (wpAny_callSpecial?_slot (name:=Str.ofString "__getitem__") ht.typeIs Aa
  (wpAny_call_entry Aa ht.typeIs entry_tuple_getitem ?_ (args_tuple_getitem _ _)))
 show wpAny _ _ (Builtin.Tuple.tupleItemsOf (.ref t)>>=_) _ _ s;refine wpAny_bind (tupleItemsOf_ ht ?_);refine wpAny_bind (wpAny_typeOf hTs ?_);rw[if_pos ∅];refine wpAny_bind (afl hs pl pu ?_);have hyes:(((bw items.size 0 lo:Nat):Int)==0&&(1:Int)==1&&(bw items.size items.size hi-bw items.size 0 lo)==items.size)=true:=by
  rw[hw.1,hw.2];simp
 show wpAny _ _ (if(((bw items.size 0 lo:Nat):Int)==0&&(1:Int)==1&&(bw items.size items.size hi-bw items.size 0 lo)==items.size)=true then _ else _) _ _ s;rw[if_pos hyes];unfold Builtin.Tuple.tupleIsExact;refine wpAny_bind (wpAny_bind (wpAny_typeOf ht.typeIs (wpAny_pure ?_)));rw[if_pos ∅];exact wpAny_bind (wpAny_rule (wpAny_pure ⟨_,rfl,wpAny_pure h⟩))
end
end HT
namespace L2
open PySem PySem.Spec PyProof.Rows
section
variable {X:Cx}
def as4:oR X (λx lo hi H Q=>∃a xs,x = .ref a/\aA X.K H a xs/\(HT.bw xs.length 0 lo=0/\HT.bw xs.length xs.length hi=xs.length)/\Q (.ref a) H):=by
 intro pins s σ H x v vl vu lo hi sl Q I rx hs pl pu h;obtain⟨a,xs,rfl,hx,hw,q⟩:=h;cases rx;obtain⟨its,r,ht,hz⟩:=I.tuple hx;have hlen:its.toArray.size=xs.length:=by rw[eU];exact r.length.symm
 refine⟨"tuple",_,Aa.lookup,ht.typeIs,?_⟩;exact HT.aw2 ht hs pl pu (by rw[hlen];exact hw) ⟨.ref a,H,I,rfl,q⟩
end
def boot_zip:bootBuiltins "zip" = some (.type "zip"):=by decide +kernel
section
variable {X:Cx} (K:aF)
def oR.imp{r r':V->Option Int->Option Int->Hp->VK->Prop}(h:oR X r)(i:∀x lo hi H Q,r' x lo hi H Q->r x lo hi H Q):oR X r':=λpins s σ H x v vl vu lo hi sl Q I rx hs pl pu q=>h pins s σ H x v vl vu lo hi sl Q I rx hs pl pu (i _ _ _ _ _ q)
def amb(hK:X.K=K:=by rfl):dh X (binaryOp .Add) (Ia K):=by subst hK;exact v_add
def xix(hK:X.K=K:=by rfl):lW X (JQ K):=by subst hK;exact asU
def jh{k:Nat}(hr:dY k X.A)(hK:X.K=K:=by rfl):dh X (compareOp .Eq) (rD K id):=by subst hK;exact v_eq hr
def ni{k:Nat}(hr:dY k X.A)(hK:X.K=K:=by rfl):dh X (compareOp .NotEq) (rD K not):=by subst hK;exact ajA hr
def avO(hK:X.K=K:=by rfl):jU X (.builtin "len") (U6 K):=by subst hK;exact aq5
def PJ(hc:X.calm=true)(hK:X.K=K:=by rfl):jU X (.builtin "sum") (λxs H Q=>∃(l:Addr) (ns:List Int),xs=[.ref l]/\au K H l (ns.map V.int)/\Q (.int ns.sum) H):=by subst hK;exact v_sum hc
def xlist(hK:X.K=K:=by rfl):jU X (.type "list") (λxs H Q=>∃p ys,xs=[.ref p]/\(au K H p ys∨aA K H p ys)/\∀l,H l=none->Q (.ref l) (upd H l (.lst ys))):=by subst hK;exact amB
def pF(hK:X.K=K:=by rfl):jU X (.type "tuple") (λxs H Q=>∃p ys,xs=[.ref p]/\((au K H p ys/\∀l,H l=none->Q (.ref l) (upd H l (.tup ys)))∨(aA K H p ys/\Q (.ref p) H))):=by subst hK;exact akY
def aci(K:aF):V->Option Int->Option Int->Hp->VK->Prop:=λx lo hi H Q=>match x with
 |.ref a=>(∃xs,au K H a xs/\∀p,H p=none->Q (.ref p) (upd H p (.lst (gU xs lo hi))))∨
   (∃xs,aA K H a xs/\¬(HT.bw xs.length 0 lo=0/\HT.bw xs.length xs.length hi=xs.length)/\∀p,H p=none->Q (.ref p) (upd H p (.tup (gU xs lo hi))))∨
   (∃xs,aA K H a xs/\(HT.bw xs.length 0 lo=0/\HT.bw xs.length xs.length hi=xs.length)/\Q (.ref a) H)
 |_=>False
def wD(hK:X.K=K:=by rfl):oR X (aci K):=by
 subst hK;refine(ava.or (atb.or as4)).imp λx lo hi H Q h=>?_;unfold aci at h;split at h
 .rcases h with⟨xs,h⟩|⟨xs,h⟩|⟨xs,h⟩
  .exact .inl ⟨_,xs,rfl,h⟩
  .exact .inr (.inl ⟨_,xs,rfl,h⟩)
  .exact .inr (.inr ⟨_,xs,rfl,h⟩)
 .exact h.elim
def fH{tg l:Expr}{tl:TE}(hl:PE X l tl)(hK:X.K=K:=by rfl):PI X tg l (aac K tl):=by subst hK;exact akQ hl
def BJ{es:List Expr}{k:Nat}{t:sE}{n:Nat}{pos:Pos}(hc:X.calm=true)(h:zu X es t)(hK:X.K=K:=by rfl)
  (hn:(assignEach es X.env).length=n:=by rfl) (hst:(assignEach es X.env).findIdx? (·.1)=none:=by rfl):PG X (.Tuple es k pos) (QS K n t):=by subst hK;exact ayB hc h hn hst
def tX{o e:Expr}{to:TE}{te:TE}{apos cpos:Pos}(ho:PE X o to)(he:PE X e te)(hK:X.K=K:=by rfl)
  (hbase:attributeBase o "append" X.env (eval o X.env)=eval o X.env:=by rfl)
  (hfew:((backTo cpos (starEach [e] X.env)).all (λx=>!x.1)&&(backToKw cpos (keywordEach [] X.env)).all (λx=>x.1.isSome)
   && decide ([e].length+([]:List Keyword).length+(if([]:List Keyword).isEmpty then 0 else 1)<30))=true:=by rfl)
  (hline:(apos.endLine==cpos.line)=true:=by rfl) (hs:starEach [e] X.env=(false,eval e X.env)::starEach [] X.env:=by rfl):
  PE X (.Call (.Attribute o "append" apos) [e] [] cpos) (Vv K "list" Wz to (tO te PX)):=by
 subst hK;exact Y0 Vr PySem.F.slot_list_append PySem.F.type_list_append WM ho (aL he aj hs) hbase hfew hline hs rfl
def aic{o:Expr}{to:TE}{apos cpos:Pos}(ho:PE X o to)(hK:X.K=K:=by rfl)(hbase:attributeBase o "pop" X.env (eval o X.env)=eval o X.env:=by rfl)(hline:(apos.endLine==cpos.line)=true:=by rfl):
  PE X (.Call (.Attribute o "pop" apos) [] [] cpos) (Xo K "list" aei to):=by
 subst hK;exact au8 Vr PySem.F.slot_list_pop PySem.F.type_list_pop ajt ho hbase hline
def ao1{o e:Expr}{to:TE}{te:TE}{apos cpos:Pos}(ho:PE X o to)(he:PE X e te)(hK:X.K=K:=by rfl)
  (hbase:attributeBase o "extend" X.env (eval o X.env)=eval o X.env:=by rfl)
  (hfew:((backTo cpos (starEach [e] X.env)).all (λx=>!x.1)&&(backToKw cpos (keywordEach [] X.env)).all (λx=>x.1.isSome)
   && decide ([e].length+([]:List Keyword).length+(if([]:List Keyword).isEmpty then 0 else 1)<30))=true:=by rfl)
  (hline:(apos.endLine==cpos.line)=true:=by rfl) (hs:starEach [e] X.env=(false,eval e X.env)::starEach [] X.env:=by rfl):
  PE X (.Call (.Attribute o "extend" apos) [e] [] cpos) (Vv K "list" abA to (tO te PX)):=by
 subst hK;exact Y0 Vr PySem.F.slot_list_extend PySem.F.type_list_extend ahL ho (aL he aj hs) hbase hfew hline hs rfl
end
section
variable {X:Cx} {es:List Expr} {te:TE} {t:TA}
def fu{c:Const}{j}{p:Pos}(h:PE X (.Constant c j p) te)(hr:PA X es t):PA X ((.Constant c j p)::es) (tO te t):=aL h hr rfl
def ak{x:Str}{p:Pos}(h:PE X (.Name x p) te)(hr:PA X es t):PA X ((.Name x p)::es) (tO te t):=aL h hr rfl
def aiJ{as:List Expr}{p:Pos}(h:PE X (.List as p) te)(hr:PA X es t):PA X ((.List as p)::es) (tO te t):=aL h hr rfl
def D9{as:List Expr}{j}{p:Pos}(h:PE X (.Tuple as j p) te)(hr:PA X es t):PA X ((.Tuple as j p)::es) (tO te t):=aL h hr rfl
def fK{a:Expr}{o:Operator}{b:Expr}{p:Pos}(h:PE X (.BinOp a o b p) te)(hr:PA X es t):PA X ((.BinOp a o b p)::es) (tO te t):=aL h hr rfl
def aew{o:UnaryOp}{a:Expr}{p:Pos}(h:PE X (.UnaryOp o a p) te)(hr:PA X es t):PA X ((.UnaryOp o a p)::es) (tO te t):=aL h hr rfl
end
section
variable {X:Cx} {pins:List (Addr×Obj)} {σ:St} {H:Hp} {s:Shared}
end
structure ExI(K:aF)(C:Addr):Prop where
 ga:uf K (.ref C) "__getattribute__" = some (some (.builtin "BaseException.__getattribute__"))
 gt:uf K (.ref C) "__getattr__" = some none
 cl:uf K (.ref C) "__class__" = some (some (.builtin "object.__class__"))
 mb:Ao K C (.type "BaseException")=some true
 mo:Ao K C (.type "object")=some true
 is:(W.clsIn K C).isSome=true
section
variable {prog:Program} {w:World} {A:Around} {E:Value->Shared->Prop} {h:Heap} {g:Array GenState} {d:Drawn} {t:Nat} {os:OsState} {a C:Addr} {o:Obj} {K:aF}
end
def X5{K:aF}{h:Heap}{mg:Str->Option Value}{x:Str}{C:Addr}{newId inN Bn:String}{bmN:List Value}(X:K.In h)(G:h.Ns mainGlobals mg)(e:jk K mainGlobals x=some (some (.ref C)))
  (q:Ga K C [.type "ValueError",.type "Exception",.type "BaseException",.type "object"] newId=true) (Fn:ExcBaseFacts Bn newId inN bmN)
  (hBn:[Value.type "ValueError",.type "Exception",.type "BaseException",.type "object"].contains (.type Bn)=true):Ez mg h x C:=by
 refine⟨_,newId,⟨vp X G e,?_⟩,Bn,inN,bmN,_,_,_,Fn,hBn,Oc⟩;unfold Ga at q;split at q
 .rename_i dd cd sl ho
  split at q
  .rename_i C' bm k0 k1 k2 k3 n k5 hm hs
   simp only[rY,beq_iff_eq,Bool.not_eq_true']at q;obtain⟨⟨⟨⟨⟨rfl,rfl⟩,hdel⟩,ht⟩,hok⟩,hni⟩:=q;obtain⟨nm,bs,mro,ns,qn,hdc,sn,sub,ab,col,del⟩:=cd;dsimp only at hm hdel hok hni;subst hm;subst hdel;have hsl:sl=#[k0,k1,k2,k3,some (.builtin n),k5]:=by
    obtain⟨l⟩:=sl;simp only at hs;rw[hs]
   subst hsl;exact⟨bm,ns,nm,qn,bs,hdc,sn,sub,ab,col,dd,k0,k1,k2,k3,k5,_,X _ _ ho,.of_isNs (W.isNs_of_in X hok),W.nsMap_none_of_in X hok hni,W.tail_of_in X ht⟩
  .cases q
 .cases q
section
variable {X:Cx} {a:Expr} {ta:TE}
end
end L2
namespace L2
open PySem
theorem HB:∀ns:List Int,DC (ns.map Im)=true
 |[]=>rfl
 |n::r=>by
  have:=HB r;simp[DC,CJ,this]
theorem IZ:∀ns:List Int,xY (ns.map Im)<=1
 |[]=>by simp[xY]
 |n::r=>by
  have:=IZ r;simp[xY,Dh];omega
def ZM(ns:List Int):SeqAt.shaped (.list (ns.map .int))=true:=by
 have h1:=HB ns;have h2:=IZ ns;simp only[SeqAt.shaped,CJ,Dh,h1,U7];exact decide_eq_true ⋯
def agi(ns:List Int):SeqAt.shaped (.tuple (ns.map .int))=true:=by
 have h1:=HB ns;have h2:=IZ ns;simp only[SeqAt.shaped,CJ,Dh,h1,U7];exact decide_eq_true ⋯
def Wu(ns ms:List Int):oF (.list (ns.map .int)) (.list (ms.map .int))=decide (ns=ms):=by
 rw[oF];exact W.ked_eqvAll ns ms
def ahn(ns ms:List Int):oF (.tuple (ns.map .int)) (.tuple (ms.map .int))=decide (ns=ms):=by
 rw[oF];exact W.ked_eqvAll ns ms
def Wb{K:aF}{g:Bool->Bool}{H:Hp}{a b:Addr}{ns ms:List Int}{Q:VK}(ha:au K H a (ns.map V.int))(hb:au K H b (ms.map V.int))(q:Q (.bl (g (decide (ns=ms)))) H):rD K g (.ref a) (.ref b) H Q:=
 .inl ⟨_,_,.lst ha (kW.ints ns),.lst hb (kW.ints ms),ZM ns,ZM ms,by rw[Wu];exact q⟩
def Hv{K:aF}{g:Bool->Bool}{H:Hp}{a b:Addr}{ns ms:List Int}{Q:VK}(ha:aA K H a (ns.map V.int))(hb:aA K H b (ms.map V.int))(q:Q (.bl (g (decide (ns=ms)))) H):rD K g (.ref a) (.ref b) H Q:=
 .inl ⟨_,_,.tup ha (kW.ints ns),.tup hb (kW.ints ms),agi ns,agi ms,by rw[ahn];exact q⟩
end L2
set_option maxHeartbeats 4000000
namespace L2
open PySem PySem.Spec PyProof.Rows
def yU(lo:Int)(n:Nat):It:=⟨λi _=>i<n,λi H x H'=>H'=H/\x = .int (lo-i),λi _=>n<=i⟩
def yd{P:Program}{w:World}{K:aF}{tg:Expr}(it:Addr)(lo:Int)(n:Nat):Turn P w K tg (yU lo n) [it] it (λi h=>IsRangeIter h it (lo+(i:Nat)*(-1)) ((n:Int)-(i:Nat)) (-1)) where
 mem:=by simp
 obj:=λi h st b hb=>by
  have e:b=it:=by simpa using hb
  subst e;exact⟨_,st,λv z=>by
   have z':Data.fields _=Data.cell v:=z;cases z'⟩
 keep:=λi h h' st k=>k it (by simp) _ st
 item:=by
  intro X hP hw hK hc i pins s σ H E I hf st hg;subst hP hw hK;obtain⟨f0,f1,f2,f3,f4,f5⟩:=hf it (by simp);have W:=Walks.range (prog:=X.prog) (w:=X.w) (I.ok.hd hc) it lo (-1) n;refine W.item i s _ _ hg st λv h' tk hv st' kk=>?_;obtain⟨t,rfl⟩:=hv;have I1:Inv X pins σ H { s with heap:=h',toks:=tk }:=I.turned (λb o hb e=>kk b o (by simpa using hb) e) f0 f1 f3 f4 f5;refine⟨_,rfl,zW (s:={ s with heap:=h',toks:=tk }) (n:= "range_iterator") st' rfl rfl ∅ ⟨.int (lo-i),H,I1,⟨t,?_⟩,⟨rfl,rfl⟩,st',λb hb=>(hf b hb).1⟩⟩;rw[Int.mul_neg_one];rfl
 done:=by
  intro X hP hw hK hc i pins s σ H E I hf st hg;subst hP hw hK;obtain⟨f0,f1,f2,f3,f4,f5⟩:=hf it (by simp);exact wpAny_pyNext_range_end (I.ok.hd hc) st (by have:n<=i:=hg;omega) λh' eb=>⟨rfl,I.turned (t':=s.toks) (λb o hb e=>eb b o hb e) f0 f1 f3 f4 f5⟩
 self:=λ_ _ _ _ _ st h=>wpAny_pyIter_rangeiter st h
def rangeSize_down(a b:Int):Builtin.Range.rangeSize a b (-1)=if b<a then a-b else 0:=by
 unfold Builtin.Range.rangeSize;simp only[show ¬(-1:Int)>0 by decide,if_false,xK,abC];split<;>omega
def small_down{a b:Int}(ha:-(2^62)<=a)(ha':a<2^62)(hb:-(2^62)<=b)(hb':b<2^62):Builtin.Range.small a b (-1)=true:=by
 unfold Builtin.Range.small;rw[rangeSize_down];simp only[Builtin.Range.rangeFitsLong,rY,uD,decide_eq_true_eq,beq_iff_eq,show ¬(-1:Int)>0 by decide,if_false];split<;>omega
section
variable {X:Cx} {tg:Expr}
def amQ{pins:List (Addr×Obj)}{σ:St}{H:Hp}{s:Shared}{R:It->Hp->Prop}{E:Value->Shared->Prop}{lo hi:Int}{t u v:Tok}{tk:Nat}(I:Inv X pins σ H s)(h1:-(2^62)<=lo)(h2:lo<2^62)(h3:-(2^62)<=hi)(h4:hi<2^62)
  (q:R (yU lo (lo-hi).toNat) H):wpAny (model X.prog X.w) X.A (pyIter (.ref s.heap.objs.size)) (RG X pins σ tg R) E { s with heap:=s.heap.push { cls:= .type "range",data:= .fields #[.int lo t,.int hi u,.int (-1) v] },toks:=tk }:=by
 refine wpAny_pyIter_range (IsRange.new ..) (small_down h1 h2 h3 h4) ?_;have I1:Inv X pins σ H { s with heap:=s.heap.push { cls:= .type "range",data:= .fields #[.int lo t,.int hi u,.int (-1) v] },toks:=tk }:=I.kept λb o e=>Heap.get?_push_of_some _ e;refine⟨(s.heap.push { cls:= .type "range",data:= .fields #[.int lo t,.int hi u,.int (-1) v] }).objs.size,[(s.heap.push { cls:= .type "range",data:= .fields #[.int lo t,.int hi u,.int (-1) v] }).objs.size],_,_,H,rfl,
  I1.kept (t':=tk) λb o e=>Heap.get?_push_of_some _ e,yd _ lo (lo-hi).toNat,?_,λb hb=>?_,q⟩
 .have e1:lo+((0:Nat):Int)*(-1)=lo:=by simp
  have e2:(((lo-hi).toNat:Nat):Int)-((0:Nat):Int)=Builtin.Range.rangeSize lo hi (-1):=by rw[rangeSize_down];split<;>omega
  show IsRangeIter _ _ (lo+((0:Nat):Int)*(-1)) ((((lo-hi).toNat:Nat):Int)-((0:Nat):Int)) (-1);rw[e1,e2];exact Heap.get?_push_size _ rfl
 .have e:b=(s.heap.push { cls:= .type "range",data:= .fields #[.int lo t,.int hi u,.int (-1) v] }).objs.size:=by simpa using hb
  subst e;exact I1.pN (aN _) (I1.hok.fresh (aN _))
def ahv(ta:TA):TI:=λσ H R=>ta σ H λvs H1=>∃i j:Int,vs=[.int i,.int j,.int (-1)]/\(-(2^62)<=i/\i<2^62/\-(2^62)<=j/\j<2^62)/\R (yU i (i-j).toNat) H1
def avJ{a b c:Expr}{ta:TA}{p pos:Pos}(hg:Gl X "range")(hm:X.mg "range" = none)(ha:PA X [a,b,c] ta)(hs:starEach [a,b,c] X.env=(false,eval a X.env)::starEach [b,c] X.env:=by rfl)(hs2:(backTo pos (starEach [b,c] X.env)).any (·.1)=false:=by rfl):
  PI X tg (.Call (.Name "range" p) [a,b,c] [] pos) (ahv ta):=by
 intro pins s σ H R I h;refine Call_ (ux I hg hm boot_range (uJ (aW (ha pos pins s σ H _ I h) λus s1 ⟨vs,H1,I1,r1,q1⟩=>?_) hs hs2));obtain⟨i,j,e,⟨q1,q2,q3,q4⟩,q⟩:=q1;subst e;cases r1 with
 |cons r rr=>
  cases rr with
  |cons r' rr=>
   cases rr with
   |cons r'' rr=>
    cases rr;obtain⟨t,rfl⟩:=r;obtain⟨t',rfl⟩:=r';obtain⟨t'',rfl⟩:=r'';exact call_range_3 ∅ (amQ (tk:=s1.toks) I1 q1 q2 q3 q4 q) (.inl (V2 ⋯))
end
def asL{lo:Int}{n:Nat}{g:TG}{tb:TS}{D:Ends}{σ:St}{H:Hp}(Pv:Nat->St->Hp->Prop)(h0:Pv 0 σ H)
  (hs:∀i σ H,i<n->Pv i σ H->g (.int (lo-i)) σ H λσ2 H2=>tb { D with nx:=Pv (i+1),ct:=Pv (i+1),bk:=D.nx } σ2 H2) (hd:∀σ H,Pv n σ H->D.nx σ H):
  ∃W:Nat->Nat->St->Hp->Prop,(∃m,W 0 m σ H)/\∀i m σ H,W i m σ H->
   ((yU lo n).stop i H/\D.nx σ H)∨((yU lo n).go i H/\∃N:St->Hp->Prop,(∀σ' H',N σ' H'->∃m',m'<m/\W (i+1) m' σ' H')/\∀x H',(yU lo n).jM i H x H'->g x σ H' λσ2 H2=>tb { D with nx:=N,ct:=N,bk:=D.nx } σ2 H2):=by
 refine⟨λi m σ H=>m=n-i/\i<=n/\Pv i σ H,⟨n,by simp,cD _,h0⟩,?_⟩;rintro i m σ H ⟨rfl,hi,p⟩;by_cases hlt:i<n
 .refine .inr ⟨hlt,Pv (i+1),λσ' H' p'=>⟨n-(i+1),⋯,rfl,hlt,p'⟩,λx H' y=>?_⟩;obtain⟨e,y⟩:=y;subst e y;exact hs i σ _ hlt p
 .have e:i=n:=⋯;subst e;exact .inl ⟨aN _,hd σ H p⟩
section
variable {X:Cx}
end
def Dj{X:Cx}:dh X (binaryOp .FloorDiv) (rI (λ_ j=>j≠0/\j.natAbs.log2<9000) λi j=> .int (i.fdiv j)):=DN λ_ _ _ _ _ _ _ hc q=>floordiv_int hc.1 q (.inl (PyProof.noPylong_of_log2 hc.2))
section
variable {X:Cx}
end
section
variable {X:Cx}
def boot_any:bootBuiltins "any" = some (.builtin "any"):=by decide +kernel
def v_any(hc:X.calm=true):jU X (.builtin "any") (λxs H Q=>∃(l:Addr) (bs:List Bool),xs=[.ref l]/\au X.K H l (bs.map V.bl)/\Q (.bl (bs.any id)) H):=by
 intro pins s σ H xs us Q I r h;obtain⟨l,bs,rfl,hl,q⟩:=h;obtain⟨u,rfl,ru⟩:=r.one;cases ru;obtain⟨its,rv,pl,hz⟩:=I.list hl;have eb:=XG rv;subst eb;have hl':=pl.isList;have hlt:l<s.heap.objs.size:=by obtain⟨_,e,_⟩:=hl';exact cW e
 refine call_any_walk (wpAny_pyIter_list hl' ?_);refine⟨s.heap.objs.size,[s.heap.objs.size,l],[s.heap.objs.size],(bs.map Value.bool).toArray.size,_,_,λi=>(bs[i]?).getD false,rfl,Walks.list (A:=X.A.in1) (I.ok.hd hc) _ l (jJ hlt) (bs.map Value.bool).toArray,
  ⟨⟨_,Heap.get?_push_size _ rfl,rfl,rfl⟩,hl'.push _⟩,λi v s' Q' E' hP hQ=>?_,λh' tk hk=>?_⟩
 .have hP':(bs.map Value.bool)[i]?=some v:=by simpa using hP
  rw[List.getElem?_map]at hP';cases e:bs[i]? with
  |none=>rw[e]at hP';cases hP'
  |some b=>
   rw[e]at hP';cases hP';dsimp only at hQ;rw[e]at hQ;exact wpAny_truthy_bool hQ
 .have e2:((fj (bs.map Value.bool).toArray.size).any λi=>(bs[i]?).getD false)=bs.any id:=by
   rw[eU,aB];rw[Bu,sY,sY];constructor
   .rintro⟨i,hi,e⟩;have hi':=iT.mp hi;rw[List.getElem?_eq_getElem hi']at e;exact⟨_,wA hi',e⟩
   .rintro⟨x,hx,e⟩;obtain⟨i,hi,e'⟩:=jq.mp hx;exact⟨i,iT.mpr hi,by rw[List.getElem?_eq_getElem hi,e'];exact e⟩
  have fin:EP X pins σ Q (.bool (bs.any id)) { s with heap:=h',toks:=tk }:=⟨.bl _,H,I.kept (aiv hk),rfl,q⟩;first|(rw[e2];exact fin)|(simpa[e2]using fin)
def MN(K:aF)(hc:X.calm=true)(hK:X.K=K:=by rfl):jU X (.builtin "any") (λxs H Q=>∃(l:Addr) (bs:List Bool),xs=[.ref l]/\au K H l (bs.map V.bl)/\Q (.bl (bs.any id)) H):=by subst hK;exact v_any hc
end
def asa:typeLookup (.type "list_reverseiterator") "__len__" = pure none:=by rw[typeLookup_type,builtinLookup_eq_fast];kernel_rfl
def ajO:typeLookup (.type "list_reverseiterator") "__length_hint__" = pure (some (.builtin "list_reverseiterator.__length_hint__")):=by rw[typeLookup_type,builtinLookup_eq_fast];kernel_rfl
def ZX:bootBuiltins "reversed" = some (.type "reversed"):=by decide +kernel
section
variable {X:Cx} {pins:List (Addr×Obj)} {σ:St} {H:Hp} {s:Shared} {h':Heap}
def Inv.ah2{p:Addr}{o:HO}(I:Inv X pins σ H s)(f:oK X pins H p)(new:dB X.prog X.w (upd H p o) s.heap p o):Inv X pins σ (upd H p o) s:=by
 obtain⟨f0,f1,_,f3,f4,f5⟩:=f;refine I.step (g':=s.gens) (d':=s.drawn) (t':=s.toks) (h':=s.heap) (ch:=[p]) (λb hb=>?_) (λb o _ _ hc e _=>e) (λb o _ _ hc e _=>⟨o.slots,e⟩) (λb _ hc _ n=>?_)
  (λb o hc e=>⟨o,e⟩) (λb xs e=>?_) (λb xs _ e=>?_) (λb ps e=>⟨#[],?_⟩) (λm hm=>hm) (λb u e=>?_) I.bare
 .have e:b=p:=by simpa using hb
  subst e;exact⟨f3,f1,f4,f5⟩
 .rw[bI λz=>hc (by simp[z])];exact n
 .rw[bI (jr e f0)];exact e
 .rw[bI (jr e f0)];exact e
 .rw[bI (jr e f0),e];simp
 .by_cases hb:b=p
  .subst hb;rw[aC]at e;cases e;exact new
  .rw[bI hb]at e;exact(I.hok b u e).stay (λc v _ q=>q) (λc q=>by rw[bI (jr q f0)];exact q) λc xs q=>by rw[bI (jr q f0)];exact q
end
def vA(n i:Nat):Int:=if i<n then((n-1-i:Nat):Int)else -1
def QX(K:aF)(a:Addr)(n:Nat):It:=
 ⟨λi H=>∃xs x,au K H a xs/\i<n/\xs[n-1-i]?=some x,λi H x H'=>H'=H/\∀xs,au K H a xs->xs[n-1-i]?=some x,λi _=>n<=i⟩
def avG{P:Program}{w:World}{K:aF}{tg:Expr}(a it:Addr)(n:Nat):Turn P w K tg (QX K a n) [it] it (λi h=>h.IsRevIter it a (vA n i)) where
 mem:=by simp
 obj:=λi h st b hb=>by
  have e:b=it:=by simpa using hb
  subst e;obtain⟨o,e,c,d⟩:=st;exact⟨o,e,λv z=>by rw[d]at z;cases z⟩
 keep:=λi h h' st k=>st.at λo e=>k it (by simp) o e
 item:=by
  intro X hP hw hK hc i pins s σ H E I hf st hg;subst hP hw hK;obtain⟨xs,x,hq,hi,hx⟩:=hg;obtain⟨its,rv,p,hz⟩:=I.list hq;obtain⟨u,hu,ru⟩:=rv.get hx;obtain⟨f0,f1,f2,f3,f4,f5⟩:=hf it (by simp);have e:vA n i=((n-1-i:Nat):Int):=if_pos hi;rw[e]at st;refine wpAny_pyNext_rev_item st p.isList (x:=u) (by simpa using hu) λh' st' sb=>?_;have e2:((n-1-i:Nat):Int)-1=vA n (i+1):=by unfold vA;split<;>omega
  rw[e2]at st';have I1:Inv X pins σ H { s with heap:=h' }:=I.turned (t':=s.toks) (λb o hb e=>(sb.2 b hb).trans e) f0 f1 f3 f4 f5;obtain⟨o,e,c,d⟩:=id st';exact⟨u,rfl,zW (s:={ s with heap:=h' }) e c d ∅ ⟨x,H,I1,ru,⟨rfl,λys hy=>by rw[I.RL hy hq];exact hx⟩,st',λb hb=>(hf b hb).1⟩⟩
 done:=by
  intro X hP hw hK hc i pins s σ H E I hf st hg;subst hP hw hK;have hg:n<=i:=hg;obtain⟨f0,f1,f2,f3,f4,f5⟩:=hf it (by simp);have e:vA n i=-1:=if_neg ⋯;rw[e]at st;exact wpAny_pyNext_rev_end (I.ok.hd hc) st λh' eb=>⟨rfl,I.turned (t':=s.toks) (λb o hb e=>eb b o hb e) f0 f1 f3 f4 f5⟩
 self:=λ_ _ _ _ _ st h=>wpAny_pyIter_revIter st h
section
variable {X:Cx}
def alG(K:aF)(ta:TA):TI:=λσ H R=>ta σ H λvs H1=>∃a xs,vs=[.ref a]/\au K H1 a xs/\R (QX K a xs.length) H1
def abX(K:aF){tg e1:Expr}{ta:TA}{p pos:Pos}(hg:Gl X "reversed")(hm:X.mg "reversed" = none)(ha:PA X [e1] ta)(hK:X.K=K:=by rfl)
  (hs:starEach [e1] X.env=[(false,eval e1 X.env)]:=by rfl):PI X tg (.Call (.Name "reversed" p) [e1] [] pos) (alG K ta):=by
 subst hK;intro pins s σ H R I h;refine Call_ (ux I hg hm ZX (uJ (aW (ha pos pins s σ H _ I h) λus s1 ⟨vs,H1,I1,r1,q1⟩=>?_) hs rfl));obtain⟨a,xs,e,hq,q⟩:=q1;subst e;cases r1 with
 |cons r rr=>
  cases rr;cases r;obtain⟨its,rv,p1,_⟩:=I1.list hq;have hl:=rv.length;refine call_reversed_list p1.isList ?_;have st:(s1.heap.push (revObj a ((its.toArray.size:Int)-1))).IsRevIter s1.heap.objs.size a (vA xs.length 0):=⟨_,Heap.get?_push_size _ rfl,rfl,by
   show Data.fields #[.ref a,rawInt ((its.toArray.size:Int)-1)]=_;have e:(its.toArray.size:Int)-1=vA xs.length 0:=by unfold vA;simp;split<;>omega
   rw[e]⟩
  have I2:Inv X pins σ H1 { s1 with heap:=s1.heap.push (revObj a ((its.toArray.size:Int)-1)) }:=I1.kept (t':=s1.toks) λb o e=>Heap.get?_push_of_some _ e;refine wpAny_pyIter_revIter (s:={ s1 with heap:=s1.heap.push (revObj a ((its.toArray.size:Int)-1)) }) st ⟨_,[s1.heap.objs.size],_,_,H1,rfl,I2,avG a _ _,st,λc hc=>?_,q⟩;have e:c=s1.heap.objs.size:=by simpa using hc
  subst e;exact I1.pN (aN _) (I1.hok.fresh (aN _))
def aeU{K:aF}{a:Addr}{xs:List V}{H1:Hp}(h:au K H1 a xs):qC (QX K a xs.length) xs.reverse H1:=by
 refine⟨λi H' g hi=>?_,λi H' x H2 g y=>⟨y.1,λhi=>?_⟩,λi H' g hi=>?_⟩
 .rw[oY]at hi;exact⟨xs,xs[xs.length-1-i]'⋯,g.seq h,hi,List.getElem?_eq_getElem ⋯⟩
 .rw[oY]at hi;rw[List.getElem?_reverse hi];exact y.2 xs (g.seq h)
 .rw[oY]at hi;exact hi
end
section
variable {prog:Program} {w:World} {A:Around} {E:Value->Shared->Prop} {s:Shared} {I:Addr} {fp wr:List Addr} {G:Array GenState->Array GenState->Prop} {n:Nat} {P:Nat->Value->Prop} {St:Nat->Shared->Prop} {R:Result->Shared->Prop}
def ahd(W:WalksS prog w A.in1 I fp wr G n P St)(hT:∀i s,St i s->s.TypeIs (.ref I) "list_reverseiterator")(S:Addr)(c0:Nat)(hst:St 0 s)(hSf:S∉fp)(hI:I∈fp)
  (hS:s.heap.get? S=some { cls:= .type "list",data:= .seq #[] c0 })
  (hR:∀s' acc' c',Moved (S::wr) G s s'->s'.heap.get? S=some { cls:= .type "list",dict:=none,data:= .seq acc' c',slots:=#[] }->ItemsOf P acc' n->R (.ok (.ret .none)) s') (hn:n<=sizeLine):
  wpAny (model prog w) A.in1 (Builtin.List.listExtendWith (.ref S) (.ref I) .none)
   (λfin s'=>match fin with | .done f=>R (.ok f) s' | .again c'=>c'.quiet=true/\codeAny (model prog w) A c' R s') (λe s'=>R (.error e) s') s:=by
 have hSI:S≠I:=λe=>hSf (e▸hI);have h1:Builtin.List.listSameRef (.ref S) (.ref I)=false:=by simp[Builtin.List.listSameRef,hSI]
 unfold Builtin.List.listExtendWith;refine wpAny_bind (wpAny_typeOf (hT 0 _ hst) ?_);rw[if_neg (by rw[h1];decide)];refine wpAny_bind (W.self 0 _ _ _ hst ?_);refine wpAny_bind (wpAny_holding ?_);unfold Builtin.List.listLengthHint;refine wpAny_bind (wpAny_specialOf (hT 0 _ hst) asa ?_);show wpAny _ A.in1 (specialOf (Value.ref I) (Str.ofString "__length_hint__")>>=_) _ _ _;refine wpAny_bind (wpAny_specialOf (hT 0 _ hst) ajO ?_)
 (generalize hid:("list_reverseiterator.__length_hint__" : String)=id0;(fail_if_success (clear hid id0));wp_delta;rw[show splitId id0=some ("list_reverseiterator","__length_hint__")from by subst hid;decide +kernel];subst hid)
 refine wpAny_bind (wpAny_isInstance (b:=true) (hT 0 _ hst) (by rw[isSubtype_type];kernel_rfl) ?_);refine wpAny_pure ?_;rw[if_neg ∅];exact wpAny_pure ⟨plainId_quiet F.plain_extend_loop _,codeAny_extend_loopS W hn _ hSf _ n 0 _ _ _ rfl (cD _) hst hS (ItemsOf.nil P) λs' acc' c' hm hS' hacc=>hR s' acc' c' hm hS' hacc⟩
def ahm(W:WalksS prog w A.in1 I fp wr G n P St)(hT:∀i s,St i s->s.TypeIs (.ref I) "list_reverseiterator")(S:Addr)(hst:St 0 s)(hSf:S∉fp)(hI:I∈fp)
  (hS:s.heap.get? S=some { cls:= .type "list",data:= .seq #[] })
  (hR:∀s' acc' c',Moved (S::wr) G s s'->s'.heap.get? S=some { cls:= .type "list",dict:=none,data:= .seq acc' c',slots:=#[] }->ItemsOf P acc' n->R (.ok (.ret .none)) s') (hn:n<=sizeLine):
  wpAny (model prog w) A.in1 (Builtin.«list.__init__» ⟨[.ref S,.ref I],[]⟩)
   (λfin s'=>match fin with | .done f=>R (.ok f) s' | .again c'=>c'.quiet=true/\codeAny (model prog w) A c' R s') (λe s'=>R (.error e) s') s:=by
 show wpAny _ A.in1 (Builtin.List.listItems (.ref S)>>=λold=>Builtin.List.listUpdate (.ref S) (λ_=>#[])>>=λ_=>letGo old.toList.reverse>>=λ_=>Builtin.List.listExtendWith (.ref S) (.ref I) .none) _ _ s;refine wpAny_bind ?_;unfold Builtin.List.listItems;refine wpAny_bind (wpAny_seqItems hS rfl (wpAny_pure ?_));refine wpAny_bind (wpAny_updateSeq hS rfl ?_);have hS2:=Heap.get?_update_self (kj (λ_=>(#[]:Array Value))) hS rfl;have oth:∀b o,b≠S->s.heap.get? b=some o->(s.heap.update S (kj (λ_=>(#[]:Array Value)))).get? b=some o:=
  λb o hb e=>(Heap.get?_update_other _ _ (dG hb)).trans e
 refine wpAny_bind (wpAny_letGo ?_);refine ahd W hT S _ (W.frame 0 s _ s.toks hst (aN _) λb hb o e=>oth b o (λh=>hSf (h▸hb)) e) hSf hI hS2 (λs' acc' c' hm hS' hacc=>?_) hn;exact hR s' acc' c' (Moved.trans W.gtrans ((Moved.refl W.grefl).then_heap (aN _) λb o hb e=>oth b o (λh=>hb (h▸cV)) e) hm) hS' hacc
def alM{Q:Value->Shared->Prop}(W:WalksS prog w A.in1.in1 I fp wr G n P St)(hT:∀i s,St i s->s.TypeIs (.ref I) "list_reverseiterator")(hst:St 0 s)(hfp:∀b∈fp,b<s.heap.objs.size)(hI:I∈fp)
  (hQ:∀s' acc' c',Moved (s.heap.objs.size::wr) G { s with heap:=s.heap.push { cls:= .type "list",data:= .seq #[] } } s'->
   s'.heap.get? s.heap.objs.size=some { cls:= .type "list",dict:=none,data:= .seq acc' c',slots:=#[] }->ItemsOf P acc' n->Q (.ref s.heap.objs.size) s') (hn:n<=sizeLine):
  wpAny (model prog w) A (call (.type "list") [.ref I]) Q E s:=by
 have hSf:s.heap.objs.size∉fp:=λhm=>lE _ (hfp _ hm);refine callType_codes (Q₁:=λobj s₁=>obj = .ref s.heap.objs.size/\s₁={ s with heap:=s.heap.push { cls:= .type "list",data:= .seq #[] } }) F.called_list (F.typeCall_list_1 _) F.entry_list_init
  (code_list_new _ ⟨rfl,rfl⟩) λobj s₁ h₁=>?_
 obtain⟨rfl,rfl⟩:=h₁;have hS:(s.heap.push { cls:= .type "list",data:= .seq #[] }).get? s.heap.objs.size=some { cls:= .type "list",data:= .seq #[] }:=Heap.get?_push_size _ rfl;refine⟨⟨_,hS,rfl⟩,F.args_list_init_2 _ _,ahm W hT _ (W.frame 0 s _ s.toks hst (aN _) λb _ o e=>Heap.get?_push_of_some _ e) hSf hI hS (λs' acc' c' hm hS' hacc=>?_) hn⟩;exact⟨rfl,hQ s' acc' c' hm hS' hacc⟩
end
section
variable {X:Cx}
def auB(te:TA):TE:=λσ H Q=>te σ H λvs H1=>∃(l:Addr) (xs:List V),vs=[.ref l]/\H1 l=some (.lst xs)/\∀l',H1 l'=none->Q (.ref l') (upd H1 l' (.lst xs.reverse))
def ah1{a:Expr}{ta:TA}{p p2 pos pos2:Pos}(hc:X.calm=true)(hg:Gl X "list")(hm:X.mg "list" = none)(hg2:Gl X "reversed")(hm2:X.mg "reversed" = none)(ha:PA X [a] ta)
  (hs2:starEach [a] X.env=[(false,eval a X.env)]:=by rfl)
  (hs:starEach [.Call (.Name "reversed" p2) [a] [] pos2] X.env=[(false,eval (.Call (.Name "reversed" p2) [a] [] pos2) X.env)]:=by rfl):
  PE X (.Call (.Name "list" p) [.Call (.Name "reversed" p2) [a] [] pos2] [] pos) (auB ta):=by
 intro pins s σ H Q I h;refine wpAny_Call_Name_kw (ux I hg hm boot_list ?_ ∅ ∅);refine uJ ?_ hs rfl;rw[hs];show wpAny _ _ (spliced ((false,eval (.Call (.Name "reversed" p2) [a] [] pos2) X.env)::backTo pos [])) _ _ s;refine JT ?_;refine Call_ (ux I hg2 hm2 ZX (uJ (aW (ha pos2 pins s σ H _ I h) λus s1 ⟨vs,H1,I1,r1,q1⟩=>?_) hs2 rfl));obtain⟨l,xs,e,hl,q⟩:=q1;subst e;cases r1 with
 |cons r rr=>
  cases rr;cases r;obtain⟨z,its,nn,rv,hlen,eo⟩:=I1.uy hl;have hil:s1.heap.IsList l its.toArray:=⟨_,eo,rfl,_,rfl⟩;refine call_reversed_list hil ?_;refine Ql ?_;have hln:l≠s1.heap.objs.size:=λe=>absurd (cW eo) (by rw[e];exact lE _);have hh:=I1.ok.hd hc;have hle:its.toArray.size=xs.length:=by have:=rv.length;simp;omega
  have key:(s1.heap.push (revObj l ((its.toArray.size:Int)-1))).IsRevIter s1.heap.objs.size l ((its.toArray.size:Int)-1-((0:Nat):Int)):=⟨_,Heap.get?_push_size _ rfl,rfl,by simp[revObj]⟩;have W:=(Walks.listRev (prog:=X.prog) (w:=X.w) (A:=X.A.in1.in1) hh s1.heap.objs.size l hln its.toArray).toS;have hsz2:(s1.heap.push (revObj l ((its.toArray.size:Int)-1))).objs.size=s1.heap.objs.size+1:=by simp[Heap.push]
  refine alM (s:={ s1 with heap:=s1.heap.push (revObj l ((its.toArray.size:Int)-1)) }) W (λi s' st=>st.2.1.typeIs) ⟨cD _,key,hil.push _⟩ (λb hb=>?_) (by simp) (λs' acc' c' hm' hS' hacc=>?_) (by rw[hle];exact z)
  .have hb':b=s1.heap.objs.size∨b=l:=by simpa using hb
   have:=cW eo;show b<(s1.heap.push (revObj l ((its.toArray.size:Int)-1))).objs.size;rcases hb' with z|z
   .rw[z,hsz2];exact CM _
   .rw[z,hsz2];exact ZC this
  .have I3:Inv X pins σ H1 { s1 with heap:=s1.heap.push (revObj l ((its.toArray.size:Int)-1)) }:=I1.kept (t':=s1.toks) λb o e=>Heap.get?_push_of_some _ e;obtain⟨f0,f1,f2,f3,f4,f5⟩:=I1.pN (H':=H1) (aN _) I1.fresh;have hfree:H1 (s1.heap.push (revObj l ((its.toArray.size:Int)-1))).objs.size=none:=I3.hok.fresh (aN _);have hfp:=I3.pN (H':=H1) (aN _) hfree;have hv:Vals xs.reverse acc'.toList:=by
    have e:acc'.toList=its.reverse:=by
     obtain⟨h1,h2⟩:=hacc;refine List.ext_getElem? λj=>?_;have hs1:acc'.toList.length=its.length:=by simpa using h1
     by_cases hj:j<its.length
     .have a1:acc'[j]?=some (acc'[j]'(by simpa using(hs1▸hj:j<acc'.toList.length))):=Array.getElem?_eq_getElem _;have a2:=h2 j _ a1;rw[List.getElem?_reverse hj,Array.getElem?_toList,a1,<-a2];simp
     .rw[List.getElem?_eq_none ⋯,List.getElem?_eq_none (by rw[oY];omega)]
    rw[e];exact rv.reverse
   obtain⟨hp',g',d',t'',o'⟩:=s';have eg:g'=s1.gens:=hm'.gens;have ed:d'=s1.drawn:=hm'.drawn;have eo':o'=s1.os:=hm'.os;subst eg ed eo';have I5:=I3.turned (h':=hp') (it:=s1.heap.objs.size) (t':=t'') (λb o hb e=>hm'.heap b o (by
    have hlt:=cW e;have:b≠(s1.heap.push (revObj l ((its.toArray.size:Int)-1))).objs.size:=jJ hlt;simp only[bJ,gK,or_false,not_or];exact⟨this,hb⟩) (Heap.get?_push_of_some _ e)) f0 f1 f3 f4 f5
   refine⟨.ref _,_,I5.ah2 (o:= .lst xs.reverse) hfp ?_,rfl,q _ hfree⟩;exact⟨by rw[oY];exact z,acc'.toList,c',hv,by simpa using hS'⟩
end
def j4(t:Bool)(h:Heap)(it l:Addr)(i:Nat):Prop:=∃o,h.get? it=some o/\o.cls = .type (if t then "tuple_iterator" else "list_iterator")/\o.data = .fields #[.ref l,.int i 0]
def jC(t:Bool)(h:Heap)(l:Addr)(items:Array Value):Prop:=∃o,h.get? l=some o/\o.cls = .type (if t then "tuple" else "list")/\∃n,o.data = .seq items n
def j4.at{t:Bool}{h h':Heap}{it l:Addr}{i:Nat}(x:j4 t h it l i)(e:∀o,h.get? it=some o->h'.get? it=some o):j4 t h' it l i:=let⟨o,ho,r⟩:=x;⟨o,e o ho,r⟩
def jC.at{t:Bool}{h h':Heap}{l:Addr}{xs:Array Value}(x:jC t h l xs)(e:∀o,h.get? l=some o->h'.get? l=some o):jC t h' l xs:=let⟨o,ho,r⟩:=x;⟨o,e o ho,r⟩
section
variable {prog:Program} {w:World} {A:Around} {E:Value->Shared->Prop} {s:Shared}
def Vk{t:Bool}{it l:Addr}{i:Nat}{items:Array Value}{x:Value}{Q:Value->Shared->Prop}(h1:j4 t s.heap it l i)(h2:jC t s.heap l items)(hx:items[i]?=some x)
  (k:∀h',j4 t h' it l (i+1)->Fo it s.heap h'->Q x { s with heap:=h' }):wpAny (model prog w) A (Builtin.SmallTypes.nextOf (.ref it)) Q E s:=by
 cases t with
 |false=>exact wpAny_nextOf_list_item h1 h2 hx k
 |true=>
  obtain⟨o,ho,hc,hd⟩:=id h1;obtain⟨ol,hol,_,nl,hdl⟩:=id h2;have ty:s.TypeIs (.ref it) "tuple_iterator" := ⟨o,ho,hc⟩;unfold Builtin.SmallTypes.nextOf;refine wpAny_bind (wpAny_callSpecial?_slot (name:=Str.ofString "__next__") ty GF (wpAny_call_entry GF ty afG ?_ (WV _)));show wpAny _ _ (field (.ref it) 0>>=_) _ _ s;refine wpAny_bind (wpAny_field ho hd (x:=Value.ref l) rfl ?_);show wpAny _ _ (if(Value.ref l==Value.none)=true then _ else _) _ _ s;rw[if_neg (show ¬((Value.ref l==Value.none)=true)fromλq=>f9 q)];refine wpAny_bind (wpAny_field ho hd (x:=Value.int i 0) rfl ?_);refine wpAny_bind (wpAny_seqItems hol hdl (Q:=_) ?_);simp only[hx,d9];refine wpAny_bind (wpAny_setField ho hd (by simp) (wpAny_pure ⟨x,rfl,wpAny_pure (k _ ⟨_,Heap.get?_update_self _ ho (Obj.isFreed_of_fields (afb hd _)),?_,?_⟩ (abm ..))⟩))
  .exact(Obj.cls_mapFields ..).trans hc
  .rw[afb hd];simp[rawInt]
def Zq{t:Bool}{it l:Addr}{i:Nat}{items:Array Value}{Q:Value->Shared->Prop}(hh:A.handled=none)(h1:j4 t s.heap it l i)(h2:jC t s.heap l items)(hx:items[i]?=none)
  (k:∀h' e,Heap.ExtBut it s.heap h'->(∃o,h'.get? e=some o/\o.cls = .type "StopIteration")->E (.ref e) { s with heap:=h' }):wpAny (model prog w) A (Builtin.SmallTypes.nextOf (.ref it)) Q E s:=by
 cases t with
 |false=>exact wpAny_nextOf_list_end hh h1 h2 hx k
 |true=>
  obtain⟨o,ho,hc,hd⟩:=id h1;obtain⟨ol,hol,_,nl,hdl⟩:=id h2;have ty:s.TypeIs (.ref it) "tuple_iterator" := ⟨o,ho,hc⟩;unfold Builtin.SmallTypes.nextOf;refine wpAny_bind (wpAny_callSpecial?_slot (name:=Str.ofString "__next__") ty GF (wpAny_call_entry GF ty afG ?_ (WV _)));show wpAny _ _ (field (.ref it) 0>>=_) _ _ s;refine wpAny_bind (wpAny_field ho hd (x:=Value.ref l) rfl ?_);show wpAny _ _ (if(Value.ref l==Value.none)=true then _ else _) _ _ s;rw[if_neg (show ¬((Value.ref l==Value.none)=true)fromλq=>f9 q)];refine wpAny_bind (wpAny_field ho hd (x:=Value.int i 0) rfl ?_);refine wpAny_bind (wpAny_seqItems hol hdl (Q:=_) ?_);simp only[hx,d9];refine wpAny_bind (wpAny_rule (wpAny_bind (wpAny_setField ho hd (by simp) (Q:=_) ?_)));show wpAny _ _ (newExc (.type "StopIteration") []>>=_) _ _ _;refine wpAny_bind ?_;simp only[newTuple,newExc];refine wpAny_bind (wpAny_newObj_type (Q:=_) ?_ (by size_fits));refine wpAny_bind (m:=firstArgMember _ _) (wpAny_of_eq (a:=Value.none) (by first|rfl|(simp only[firstArgMember];done)) ?_)
  refine wpAny_newObj_type (Q:=_) ?_ (by size_fits);simp only[raiseNew];refine wpAny_bind (wpAny_handled (Q:=_) ?_);first|rw[hh]|rw[show A.in1.handled=LY from hh]
  refine wpAny_bind (wpAny_pure (wpAny_throw (k _ _ (((abm ..).extBut.push _).push _) ⟨_,Heap.get?_push_size _ rfl,rfl⟩)))
structure Apart(z TI TO i1 i2 l1 l2:Addr):Prop where
 own:[z,TI,TO,i1,i2].Nodup
 azJ:l1∉[z,TI,TO,i1,i2]
 azK:l2∉[z,TI,TO,i1,i2]
def Apart.ne{z TI TO i1 i2 l1 l2:Addr}(D:Apart z TI TO i1 i2 l1 l2):
  (TI≠z/\TO≠z/\i1≠z/\i2≠z)/\(TI≠TO/\TI≠i1/\TI≠i2)/\(TO≠i1/\TO≠i2/\i1≠i2)/\(l1≠z/\l1≠TO/\l1≠i1/\l1≠i2)/\(l2≠z/\l2≠TO/\l2≠i1/\l2≠i2):=by
 obtain⟨a,b,c⟩:=D;simp only[mV,bJ,gK,or_false,not_or,List.nodup_nil,and_true,not_false_eq_true]at a b c;obtain⟨⟨a1,a2,a3,a4⟩,⟨a5,a6,a7⟩,⟨a8,a9⟩,a10⟩:=a;exact⟨⟨dG a1,dG a2,dG a3,dG a4⟩,⟨a5,a6,a7⟩,⟨a8,a9,a10⟩,⟨b.1,b.2.2.1,b.2.2.2.1,b.2.2.2.2⟩,⟨c.1,c.2.2.1,c.2.2.2.1,c.2.2.2.2⟩⟩
def ayq{t1 t2:Bool}{z TI TO i1 i2 l1 l2:Addr}{k1 k2:Nat}{xs ys:Array Value}{x y a b:Value}{Q:Value->Shared->Prop}(D:Apart z TI TO i1 i2 l1 l2)
  (hz:IsZip s.heap z TI TO .none) (hI:IsPair s.heap TI (.ref i1) (.ref i2)) (hO:IsPair s.heap TO a b)
  (h1:j4 t1 s.heap i1 l1 k1) (h2:j4 t2 s.heap i2 l2 k2) (q1:jC t1 s.heap l1 xs) (q2:jC t2 s.heap l2 ys) (hx:xs[k1]?=some x) (hy:ys[k2]?=some y)
  (k:∀h',IsZip h' z TI TO (rawInt s.heap.objs.size)->IsPair h' TO x y->j4 t1 h' i1 l1 (k1+1)->j4 t2 h' i2 l2 (k2+1)->IsPair h' s.heap.objs.size x y->
   (∀c o,c∉[z,TO,i1,i2]->s.heap.get? c=some o->h'.get? c=some o)->Q (.ref s.heap.objs.size) { s with heap:=h' }):
  wpAny (model prog w) A (Builtin.«zip.__next__» ⟨[.ref z],[]⟩) (λfin s'=>∃v,fin = .done (.ret v)/\Q v s') E s:=by
 obtain⟨⟨DG,sJ,rQ,vV⟩,⟨NP,Ru,Mg⟩,⟨Dp,Bo,Ko⟩,⟨J7,amu,e11,e12⟩,⟨MH,Nj,Mp,e22⟩⟩:=D.ne;show wpAny _ _ (field (.ref z) 2>>=_) _ _ _;refine wpAny_bind (wpAny_field hz rfl (x:=Value.bool false) rfl ?_);show wpAny _ _ (field (.ref z) 3>>=_) _ _ _;refine wpAny_bind (wpAny_field hz rfl (x:=Value.ref TI) rfl ?_);refine wpAny_bind (wpAny_seqItems hI rfl (Q:=_) ?_);show wpAny _ _ (Builtin.SmallTypes.ownedTupleIsFree (.ref z)>>=_) _ _ _;refine wpAny_bind ?_;unfold Builtin.SmallTypes.ownedTupleIsFree;refine wpAny_bind (wpAny_field hz rfl (x:=Value.none) rfl (wpAny_pure (Q:=_) ?_));simp only[if_true];refine wpAny_bind (wpAny_rule (Q:=_) ?_);refine wpAny_bind (wpAny_field hz rfl (x:=Value.ref TO) rfl ?_);refine wpAny_bind (wpAny_setField_rec hz (by simp) λg1 z1 m1=>?_);replace z1:IsZip g1 z TI TO .ellipsis:=z1;refine wpAny_bind ?_;simp only[KJ,XD,Xr,Xg];refine wpAny_bind (wpAny_bind (wpAny_onRaise (Q:=_) ?_));show wpAny _ _ (Builtin.SmallTypes.nextOf (.ref i1)>>=_) _ _ _;refine wpAny_bind (Vk (h1.at λo e=>m1.extBut _ _ rQ e) (q1.at λo e=>m1.extBut _ _ J7 e) hx λg2 n2 m2=>wpAny_pure (Q:=_) ?_);have O2:IsPair g2 TO a b:=m2.extBut _ _ Dp (m1.extBut _ _ sJ hO);refine wpAny_bind (wpAny_seqItems O2 rfl (Q:=_) ?_);refine wpAny_bind (wpAny_updateSeq_pair O2 λg3 O3 m3=>?_);replace O3:IsPair g3 TO x b:=O3;refine wpAny_bind (wpAny_letGo (wpAny_pure (Q:=_) ?_));refine wpAny_bind (wpAny_bind (wpAny_onRaise (Q:=_) ?_));show wpAny _ _ (Builtin.SmallTypes.nextOf (.ref i2)>>=_) _ _ _;refine wpAny_bind (Vk (h2.at λo e=>m3.extBut _ _ (dG Bo) (m2.extBut _ _ (dG Ko) (m1.extBut _ _ vV e))) (q2.at λo e=>m3.extBut _ _ Nj (m2.extBut _ _ Mp (m1.extBut _ _ MH e))) hy λg4 n4 m4=>wpAny_pure (Q:=_) ?_);have O4:IsPair g4 TO x b:=m4.extBut _ _ Bo O3;refine wpAny_bind (wpAny_seqItems O4 rfl (Q:=_) ?_);refine wpAny_bind (wpAny_updateSeq_pair O4 λg5 O5 m5=>?_);replace O5:IsPair g5 TO x y:=O5;refine wpAny_bind (wpAny_letGo (wpAny_pure (wpAny_pure (Q:=_) ?_)));refine wpAny_bind (wpAny_seqItems O5 rfl (Q:=_) ?_);refine wpAny_bind (wpAny_newTuple (Q:=_) ?_);have sz:g5.objs.size=s.heap.objs.size:=by rw[m5.1,m4.1,m3.1,m2.1,m1.1]
 have Z5:IsZip g5 z TI TO .ellipsis:=m5.extBut _ _ (dG sJ) (m4.extBut _ _ (dG vV) (m3.extBut _ _ (dG sJ) (m2.extBut _ _ (dG rQ) z1)));have N1:j4 t1 g5 i1 l1 (k1+1):=n2.at λo e=>m5.extBut _ _ (dG Dp) (m4.extBut _ _ Ko (m3.extBut _ _ (dG Dp) e));have N2:j4 t2 g5 i2 l2 (k2+1):=n4.at λo e=>m5.extBut _ _ (dG Bo) e;have K5:∀c o,c∉[z,TO,i1,i2]->s.heap.get? c=some o->g5.get? c=some o:=λc o hc e=>by
  simp only[bJ,gK,or_false,not_or]at hc;obtain⟨c1,c2,c3,c4⟩:=hc;exact m5.extBut _ _ c2 (m4.extBut _ _ c4 (m3.extBut _ _ c2 (m2.extBut _ _ c3 (m1.extBut _ _ c1 e))))
 have zl:z<g5.objs.size:=cW Z5;show wpAny _ _ (Builtin.SmallTypes.ownedTupleHandOut (.ref z) (.ref g5.objs.size)>>=_) _ _ _;refine wpAny_bind ?_;unfold Builtin.SmallTypes.ownedTupleHandOut;have Z6:IsZip (g5.push { cls:= .type "tuple",data:= .seq #[x,y] }) z TI TO .ellipsis:=Heap.get?_push_of_some _ Z5;refine wpAny_bind (wpAny_setField_rec Z6 (by simp) λg7 Z7 m7=>?_);replace Z7:IsZip g7 z TI TO (rawInt g5.objs.size):=Z7;refine wpAny_setField_rec Z7 (by simp) λg8 Z8 m8=>?_;replace Z8:IsZip g8 z TI TO (rawInt g5.objs.size):=Z8;have up:∀c o,c≠z->g5.get? c=some o->g8.get? c=some o:=λc o c1 e=>m8.extBut _ _ c1 (m7.extBut _ _ c1 (Heap.get?_push_of_some _ e));have T8:IsPair g8 g5.objs.size x y:=m8.extBut _ _ (KW zl) (m7.extBut _ _ (KW zl) (Heap.get?_push_size _ rfl));rw[sz]at Z8 T8;refine wpAny_pure ⟨_,rfl,?_⟩;show Q (.ref g5.objs.size) _;rw[sz];exact k g8 Z8 (up _ _ sJ O5) (N1.at λo e=>up _ o rQ e) (N2.at λo e=>up _ o vV e) T8 λc o hc e=>up c o (λq=>hc (by simp[q])) (K5 c o hc e)
def ak8{t1 t2:Bool}{z TI TO i1 i2 l1 l2:Addr}{k1 k2:Nat}{xs ys:Array Value}{a b:Value}{Q:Fin->Shared->Prop}(hh:A.handled=none)(D:Apart z TI TO i1 i2 l1 l2)
  (hz:IsZip s.heap z TI TO .none) (hI:IsPair s.heap TI (.ref i1) (.ref i2)) (hO:IsPair s.heap TO a b)
  (h1:j4 t1 s.heap i1 l1 k1) (h2:j4 t2 s.heap i2 l2 k2) (q1:jC t1 s.heap l1 xs) (q2:jC t2 s.heap l2 ys) (he:ys[k2]?=none∨xs[k1]?=none)
  (k:∀h' e,(∀c o,c∉[z,TO,i1,i2]->s.heap.get? c=some o->h'.get? c=some o)->(∃o,h'.get? e=some o/\o.cls = .type "StopIteration")->E (.ref e) { s with heap:=h' }):
  wpAny (model prog w) A (Builtin.«zip.__next__» ⟨[.ref z],[]⟩) Q E s:=by
 obtain⟨⟨DG,sJ,rQ,vV⟩,⟨NP,Ru,Mg⟩,⟨Dp,Bo,Ko⟩,⟨J7,amu,e11,e12⟩,⟨MH,Nj,Mp,e22⟩⟩:=D.ne;have far:∀{c:Addr},c∉[z,TO,i1,i2]->c≠z/\c≠TO/\c≠i1/\c≠i2:=λhc=>by simpa only[bJ,gK,or_false,not_or]using hc
 show wpAny _ _ (field (.ref z) 2>>=_) _ _ _;refine wpAny_bind (wpAny_field hz rfl (x:=Value.bool false) rfl ?_);show wpAny _ _ (field (.ref z) 3>>=_) _ _ _;refine wpAny_bind (wpAny_field hz rfl (x:=Value.ref TI) rfl ?_);refine wpAny_bind (wpAny_seqItems hI rfl (Q:=_) ?_);show wpAny _ _ (Builtin.SmallTypes.ownedTupleIsFree (.ref z)>>=_) _ _ _;refine wpAny_bind ?_;unfold Builtin.SmallTypes.ownedTupleIsFree;refine wpAny_bind (wpAny_field hz rfl (x:=Value.none) rfl (wpAny_pure (Q:=_) ?_));simp only[if_true];refine wpAny_bind (wpAny_rule (Q:=_) ?_);refine wpAny_bind (wpAny_field hz rfl (x:=Value.ref TO) rfl ?_);refine wpAny_bind (wpAny_setField_rec hz (by simp) λg1 z1 m1=>?_);replace z1:IsZip g1 z TI TO .ellipsis:=z1;refine wpAny_bind ?_;simp only[KJ,XD,Xr,Xg];refine wpAny_bind (wpAny_bind (wpAny_onRaise (Q:=_) ?_));show wpAny _ _ (Builtin.SmallTypes.nextOf (.ref i1)>>=_) _ _ _;cases hx:xs[k1]? with
 |none=>
  refine wpAny_bind (Zq hh (h1.at λo e=>m1.extBut _ _ rQ e) (q1.at λo e=>m1.extBut _ _ J7 e) hx λg2 e m2 ⟨u,hu,cu⟩=>?_);have z2:IsZip g2 z TI TO .ellipsis:=m2 _ _ (dG rQ) z1;have ez:e≠z:=λq=>by subst q;rw[z2]at hu;cases hu;simp at cu
  exact wpAny_setField_rec z2 (by simp) λg3 _ m3=>k g3 e (λc o hc q=>let⟨c1,_,c3,_⟩:=far hc;m3.extBut _ _ c1 (m2 _ _ c3 (m1.extBut _ _ c1 q))) ⟨u,m3.extBut _ _ ez hu,cu⟩
 |some x=>
  have hy:ys[k2]?=none:=he.elim id λq=>by rw[hx]at q;cases q
  refine wpAny_bind (Vk (h1.at λo e=>m1.extBut _ _ rQ e) (q1.at λo e=>m1.extBut _ _ J7 e) hx λg2 n2 m2=>wpAny_pure (Q:=_) ?_);have O2:IsPair g2 TO a b:=m2.extBut _ _ Dp (m1.extBut _ _ sJ hO);refine wpAny_bind (wpAny_seqItems O2 rfl (Q:=_) ?_);refine wpAny_bind (wpAny_updateSeq_pair O2 λg3 O3 m3=>?_);refine wpAny_bind (wpAny_letGo (wpAny_pure (Q:=_) ?_));refine wpAny_bind (wpAny_bind (wpAny_onRaise (Q:=_) ?_));show wpAny _ _ (Builtin.SmallTypes.nextOf (.ref i2)>>=_) _ _ _;refine wpAny_bind (Zq hh (h2.at λo e=>m3.extBut _ _ (dG Bo) (m2.extBut _ _ (dG Ko) (m1.extBut _ _ vV e))) (q2.at λo e=>m3.extBut _ _ Nj (m2.extBut _ _ Mp (m1.extBut _ _ MH e))) hy λg4 e m4 ⟨u,hu,cu⟩=>?_);have z4:IsZip g4 z TI TO .ellipsis:=m4 _ _ (dG vV) (m3.extBut _ _ (dG sJ) (m2.extBut _ _ (dG rQ) z1));have ez:e≠z:=λq=>by subst q;rw[z4]at hu;cases hu;simp at cu
  exact wpAny_setField_rec z4 (by simp) λg5 _ m5=>k g5 e (λc o hc q=>let⟨c1,c2,c3,c4⟩:=far hc;m5.extBut _ _ c1 (m4 _ _ c4 (m3.extBut _ _ c2 (m2.extBut _ _ c3 (m1.extBut _ _ c1 q))))) ⟨u,m5.extBut _ _ ez hu,cu⟩
structure Cr(t1 t2:Bool)(z TI TO i1 i2 l1 l2:Addr)(i:Nat)(h:Heap)(f0:Value):Prop where
 zz:IsZip h z TI TO f0
 ti:IsPair h TI (.ref i1) (.ref i2)
 to:∃a b,IsPair h TO a b
 w1:j4 t1 h i1 l1 i
 w2:j4 t2 h i2 l2 i
def an0{t1 t2:Bool}{z TI TO i1 i2 l1 l2:Addr}{i:Nat}{xs ys:Array Value}{x y:Value}{Q:Option Value->Shared->Prop}(D:Apart z TI TO i1 i2 l1 l2)(Z:Cr t1 t2 z TI TO i1 i2 l1 l2 i s.heap .none)
  (q1:jC t1 s.heap l1 xs) (q2:jC t2 s.heap l2 ys) (hx:xs[i]?=some x) (hy:ys[i]?=some y)
  (k:∀h',Cr t1 t2 z TI TO i1 i2 l1 l2 (i+1) h' (rawInt s.heap.objs.size)->IsPair h' s.heap.objs.size x y->(∀c o,c∉[z,TO,i1,i2]->s.heap.get? c=some o->h'.get? c=some o)->Q (some (.ref s.heap.objs.size)) { s with heap:=h' }):
  wpAny (model prog w) A (pyNext (.ref z)) Q E s:=by
 obtain⟨zz,ti,⟨a,b,to⟩,w1,w2⟩:=Z;have ty:s.TypeIs (.ref z) "zip" := ⟨_,zz,rfl⟩;obtain⟨⟨DG,_,_,_⟩,⟨NP,Ru,Mg⟩,_⟩:=D.ne;unfold pyNext;refine wpAny_bind (wpAny_attempt (wpAny_callSpecial?_slot (name:=Str.ofString "__next__") ty JW (wpAny_call_entry JW ty abn ?_ (afF _))));exact ayq D zz ti to w1 w2 q1 q2 hx hy λh' b1 b2 b3 b4 b5 b6=>wpAny_pure (k h' ⟨b1,b6 _ _ (by simp[DG,NP,Ru,Mg]) ti,⟨_,_,b2⟩,b3,b4⟩ b5 b6)
def ayo{t1 t2:Bool}{z TI TO i1 i2 l1 l2:Addr}{i:Nat}{xs ys:Array Value}{Q:Option Value->Shared->Prop}(hh:A.handled=none)(D:Apart z TI TO i1 i2 l1 l2)(Z:Cr t1 t2 z TI TO i1 i2 l1 l2 i s.heap .none)
  (q1:jC t1 s.heap l1 xs) (q2:jC t2 s.heap l2 ys) (he:ys[i]?=none∨xs[i]?=none)
  (k:∀h',(∀c o,c∉[z,TO,i1,i2]->s.heap.get? c=some o->h'.get? c=some o)->Q none { s with heap:=h' }):wpAny (model prog w) A (pyNext (.ref z)) Q E s:=by
 obtain⟨zz,ti,⟨a,b,to⟩,w1,w2⟩:=Z;have ty:s.TypeIs (.ref z) "zip" := ⟨_,zz,rfl⟩;unfold pyNext;refine wpAny_bind (wpAny_attempt (wpAny_callSpecial?_slot (name:=Str.ofString "__next__") ty JW (wpAny_call_entry JW ty abn ?_ (afF _))));refine ak8 hh D zz ti to w1 w2 q1 q2 he λh' e b1 ⟨u,hu,cu⟩=>?_;exact wpAny_bind (wpAny_isInstance (T:= "StopIteration") (b:=true) ⟨u,hu,cu⟩ isSubtype_stop (wpAny_pure (k _ b1)))
abbrev zA(t1:Bool)(h:Heap)(l1:Addr):Heap:=h.push { cls:= .type (if t1 then "tuple_iterator" else "list_iterator"),data:= .fields #[.ref l1,.int 0 0] }
abbrev zB(t1 t2:Bool)(h:Heap)(l1 l2:Addr):Heap:=zA t2 (zA t1 h l1) l2
abbrev zC(t1 t2:Bool)(h:Heap)(l1 l2:Addr):Heap:=(zB t1 t2 h l1 l2).push { cls:= .type "tuple",data:= .seq #[.ref h.objs.size,.ref (zA t1 h l1).objs.size] }
abbrev zD(t1 t2:Bool)(h:Heap)(l1 l2:Addr):Heap:=(zC t1 t2 h l1 l2).push { cls:= .type "tuple",data:= .seq #[.none,.none] }
abbrev zE(t1 t2:Bool)(h:Heap)(l1 l2:Addr):Heap:=(zD t1 t2 h l1 l2).push { cls:= .type "zip",data:= .fields #[.none,.bool false,.bool false,.ref (zB t1 t2 h l1 l2).objs.size,.ref (zC t1 t2 h l1 l2).objs.size] }
def aoC(l1 l2:Addr)(xs ys:Array Value):
  Meets (Builtin.«zip.__new__» ⟨[.type "zip",.ref l1,.ref l2],[]⟩) (λ_ R s=>s.heap.IsList l1 xs/\s.heap.IsList l2 ys/\
   R (.ok (.ret (.ref (zD false false s.heap l1 l2).objs.size))) { s with heap:=zE false false s.heap l1 l2 }):=
 .of_wp λprog w A R s h=>by
  obtain⟨hp,g,d,tk,os⟩:=s;obtain⟨m1,m2,h⟩:=h;have sub:=sub_zip;have c1:Hl (uE ⟨hp,g,d,tk,os⟩) l1 xs:=m1;have c2:Hl (uE ⟨hp.push { cls:= .type "list_iterator",data:= .fields #[.ref l1,.int 0 0] },g,d,tk,os⟩) l2 ys:=by
   obtain⟨o,ho,r⟩:=m2;exact⟨o,Heap.get?_push_of_some _ ho,r⟩
  wp_walk using wpAny_pyIter_list c1,wpAny_pyIter_list c2
  exact⟨_,rfl,h⟩
def apa(l1 l2:Addr)(xs ys:Array Value):
  Meets (Builtin.«zip.__new__» ⟨[.type "zip",.ref l1,.ref l2],[]⟩) (λ_ R s=>s.heap.IsList l1 xs/\s.heap.IsTuple l2 ys/\
   R (.ok (.ret (.ref (zD false true s.heap l1 l2).objs.size))) { s with heap:=zE false true s.heap l1 l2 }):=
 .of_wp λprog w A R s h=>by
  obtain⟨hp,g,d,tk,os⟩:=s;obtain⟨m1,m2,h⟩:=h;have sub:=sub_zip;have c1:Hl (uE ⟨hp,g,d,tk,os⟩) l1 xs:=m1;have c2:Ge (uE ⟨hp.push { cls:= .type "list_iterator",data:= .fields #[.ref l1,.int 0 0] },g,d,tk,os⟩) l2 ys:=by
   obtain⟨o,ho,r⟩:=m2;exact⟨o,Heap.get?_push_of_some _ ho,r⟩
  wp_walk using wpAny_pyIter_list c1,wpAny_pyIter_tuple c2
  exact⟨_,rfl,h⟩
def alI(l1 l2:Addr)(xs ys:Array Value):
  Meets (Builtin.«zip.__new__» ⟨[.type "zip",.ref l1,.ref l2],[]⟩) (λ_ R s=>s.heap.IsTuple l1 xs/\s.heap.IsList l2 ys/\
   R (.ok (.ret (.ref (zD true false s.heap l1 l2).objs.size))) { s with heap:=zE true false s.heap l1 l2 }):=
 .of_wp λprog w A R s h=>by
  obtain⟨hp,g,d,tk,os⟩:=s;obtain⟨m1,m2,h⟩:=h;have sub:=sub_zip;have c1:Ge (uE ⟨hp,g,d,tk,os⟩) l1 xs:=m1;have c2:Hl (uE ⟨hp.push { cls:= .type "tuple_iterator",data:= .fields #[.ref l1,.int 0 0] },g,d,tk,os⟩) l2 ys:=by
   obtain⟨o,ho,r⟩:=m2;exact⟨o,Heap.get?_push_of_some _ ho,r⟩
  wp_walk using wpAny_pyIter_tuple c1,wpAny_pyIter_list c2
  exact⟨_,rfl,h⟩
def aoa(l1 l2:Addr)(xs ys:Array Value):
  Meets (Builtin.«zip.__new__» ⟨[.type "zip",.ref l1,.ref l2],[]⟩) (λ_ R s=>s.heap.IsTuple l1 xs/\s.heap.IsTuple l2 ys/\
   R (.ok (.ret (.ref (zD true true s.heap l1 l2).objs.size))) { s with heap:=zE true true s.heap l1 l2 }):=
 .of_wp λprog w A R s h=>by
  obtain⟨hp,g,d,tk,os⟩:=s;obtain⟨m1,m2,h⟩:=h;have sub:=sub_zip;have c1:Ge (uE ⟨hp,g,d,tk,os⟩) l1 xs:=m1;have c2:Ge (uE ⟨hp.push { cls:= .type "tuple_iterator",data:= .fields #[.ref l1,.int 0 0] },g,d,tk,os⟩) l2 ys:=by
   obtain⟨o,ho,r⟩:=m2;exact⟨o,Heap.get?_push_of_some _ ho,r⟩
  wp_walk using wpAny_pyIter_tuple c1,wpAny_pyIter_tuple c2
  exact⟨_,rfl,h⟩
def aoD(t1 t2:Bool)(l1 l2:Addr)(xs ys:Array Value):
  Meets (Builtin.«zip.__new__» ⟨[.type "zip",.ref l1,.ref l2],[]⟩) (λ_ R s=>jC t1 s.heap l1 xs/\jC t2 s.heap l2 ys/\
   R (.ok (.ret (.ref (zD t1 t2 s.heap l1 l2).objs.size))) { s with heap:=zE t1 t2 s.heap l1 l2 }):=
 match t1,t2 with
 |false,false=>aoC l1 l2 xs ys
 |false,true=>apa l1 l2 xs ys
 |true,false=>alI l1 l2 xs ys
 |true,true=>aoa l1 l2 xs ys
def ane{t1 t2:Bool}{l1 l2:Addr}{xs ys:Array Value}{Q:Value->Shared->Prop}(m1:jC t1 s.heap l1 xs)(m2:jC t2 s.heap l2 ys)
  (k:∀h',Cr t1 t2 (s.heap.objs.size+4) (s.heap.objs.size+2) (s.heap.objs.size+3) s.heap.objs.size (s.heap.objs.size+1) l1 l2 0 h' .none->
   (∀c o,s.heap.get? c=some o->h'.get? c=some o)->Q (.ref (s.heap.objs.size+4)) { s with heap:=h' }):
  wpAny (model prog w) A (call (.type "zip") [.ref l1,.ref l2]) Q E s:=by
 refine callType_new F.called_zip ∅ (F.typeCall_zip_2 _ _) (F.newCall_zip_2 _ _) (λobj=>F.args_object_init_3 obj _ _) F.entry_zip_new (aoD t1 t2 l1 l2 xs ys) ⟨m1,m2,?_⟩;have y1:(zA t1 s.heap l1).objs.size=s.heap.objs.size+1:=E8 ..;have y2:(zB t1 t2 s.heap l1 l2).objs.size=s.heap.objs.size+2:=by rw[E8,y1]
 have y3:(zC t1 t2 s.heap l1 l2).objs.size=s.heap.objs.size+3:=by rw[E8,y2]
 have y4:(zD t1 t2 s.heap l1 l2).objs.size=s.heap.objs.size+4:=by rw[E8,y3]
 have up:∀{h:Heap} {o1:Obj} {c:Addr} {o:Obj},h.get? c=some o->(h.push o1).get? c=some o:=λe=>Heap.get?_push_of_some _ e;have o5:(zE t1 t2 s.heap l1 l2).get? (zD t1 t2 s.heap l1 l2).objs.size=some _:=Heap.get?_push_size _ rfl;have o4:(zE t1 t2 s.heap l1 l2).get? (zC t1 t2 s.heap l1 l2).objs.size=some _:=up (Heap.get?_push_size _ rfl);have o3:(zE t1 t2 s.heap l1 l2).get? (zB t1 t2 s.heap l1 l2).objs.size=some _:=up (up (Heap.get?_push_size _ rfl));have o2:(zE t1 t2 s.heap l1 l2).get? (zA t1 s.heap l1).objs.size=some _:=up (up (up (Heap.get?_push_size _ rfl)));have o1:(zE t1 t2 s.heap l1 l2).get? s.heap.objs.size=some _:=up (up (up (up (Heap.get?_push_size _ rfl))));show _/\_;rw[y2,y3,y4]at o5;rw[y3]at o4;rw[y1,y2]at o3;rw[y1]at o2;rw[y4];exact⟨⟨_,o5,rfl⟩,k _ ⟨o5,o3,⟨_,_,o4⟩,⟨_,o1,rfl,rfl⟩,⟨_,o2,rfl,rfl⟩⟩ λc o e=>up (up (up (up (up e))))⟩
end
section
variable {X:Cx} {pins:List (Addr×Obj)} {σ:St} {H:Hp} {s:Shared} {h':Heap}
def Inv.Xj{t':Nat}{ch:List Addr}(I:Inv X pins σ H s)(hf:∀b∈ch,oK X pins H b)(k:∀b o,b∉ch->s.heap.get? b=some o->h'.get? b=some o):Inv X pins σ H { s with heap:=h',toks:=t' }:=by
 have far:∀b u,H b=some u->b∉ch:=λb u e z=>by rw[(hf b z).1]at e;cases e
 refine I.step (g':=s.gens) (d':=s.drawn) (ch:=ch) (λb hb=>?_) (λb o _ _ hc e _=>k b o hc e) (λb o _ _ hc e _=>⟨o.slots,k b o hc e⟩) (λ_ _ _ _ n=>n)
  (λb o hc e=>⟨o,k b o hc e⟩) (λ_ _ e=>e) (λ_ _ _ e=>e) (λb ps e=>⟨#[],by rw[e];simp⟩) (λm hm=>?_) (λb u e=>?_) I.bare
 .obtain⟨_,f1,_,f3,f4,f5⟩:=hf b hb;exact⟨f3,f1,f4,f5⟩
 .obtain⟨o,es,ep,ho,r⟩:=hm;exact⟨o,es,ep,k _ o (λz=>(hf _ z).2.1 rfl) ho,r⟩
 .refine(I.hok b u e).stay (λc v hc q=>k c v ?_ q) (λ_ q=>q) λ_ _ q=>q;rcases hc with z|z
  .rw[z];exact far b u e
  .exact far c _ z
def Inv.adopt{p:Addr}{o:HO}(I:Inv X pins σ H s)(f:oK X pins H p)(new:dB X.prog X.w (upd H p o) s.heap p o):Inv X pins σ (upd H p o) s:=by
 obtain⟨f0,f1,_,f3,f4,f5⟩:=f;refine I.step (g':=s.gens) (d':=s.drawn) (t':=s.toks) (h':=s.heap) (ch:=[p]) (λb hb=>?_) (λb o _ _ hc e _=>e) (λb o _ _ hc e _=>⟨o.slots,e⟩) (λb _ hc _ n=>?_)
  (λb o hc e=>⟨o,e⟩) (λb xs e=>?_) (λb xs _ e=>?_) (λb ps e=>⟨#[],?_⟩) (λm hm=>hm) (λb u e=>?_) I.bare
 .have e:b=p:=by simpa using hb
  subst e;exact⟨f3,f1,f4,f5⟩
 .rw[bI λz=>hc (by simp[z])];exact n
 .rw[bI (jr e f0)];exact e
 .rw[bI (jr e f0)];exact e
 .rw[bI (jr e f0),e];simp
 .by_cases hb:b=p
  .subst hb;rw[aC]at e;cases e;exact new
  .rw[bI hb]at e;exact(I.hok b u e).stay (λc v _ q=>q) (λc q=>by rw[bI (jr q f0)];exact q) λc xs q=>by rw[bI (jr q f0)];exact q
def lD(K:aF)(t:Bool)(H:Hp)(a:Addr)(xs:List V):Prop:=match t with
 |true=>aA K H a xs
 |false=>au K H a xs
def Inv.mX{t:Bool}{a:Addr}{xs:List V}(I:Inv X pins σ H s)(q:lD X.K t H a xs):∃its:List Value,Vals xs its/\jC t s.heap a its.toArray/\xs.length<=sizeLine:=by
 cases t with
 |false=>obtain⟨its,r,p,z⟩:=I.list q;exact⟨its,r,p.isList,z⟩
 |true=>obtain⟨its,r,p,z⟩:=I.tuple q;exact⟨its,r,p,z⟩
def Inv.adG{t:Bool}{a:Addr}{xs ys:List V}(I:Inv X pins σ H s)(q:lD X.K t H a xs)(q':lD X.K t H a ys):xs=ys:=by
 cases t with
 |false=>exact I.RL q q'
 |true=>exact I.Ww q q'
def Same.mX{K:aF}{t:Bool}{H H':Hp}{a:Addr}{xs:List V}(g:Same H H')(q:lD K t H a xs):lD K t H' a xs:=by
 cases t with
 |false=>exact g.seq q
 |true=>exact g.Gq q
def Sd(K:aF)(t1 t2:Bool)(a b:Addr):It:=
 ⟨λi H=>∃xs ys x y,lD K t1 H a xs/\lD K t2 H b ys/\xs[i]?=some x/\ys[i]?=some y,
 λi H v H'=>∃p x y,v = .ref p/\H p=none/\H'=upd H p (.tup [x,y])/\(∀xs,lD K t1 H a xs->xs[i]?=some x)/\∀ys,lD K t2 H b ys->ys[i]?=some y,
 λi H=>∃xs ys,lD K t1 H a xs/\lD K t2 H b ys/\(ys.length<=i∨xs.length<=i)⟩
def as7{P:Program}{w:World}{K:aF}{es:List Expr}{x1:Nat}{pos:Pos}{t1 t2:Bool}{z TI TO i1 i2 a b:Addr}(D:Apart z TI TO i1 i2 a b):
  Turn P w K (.Tuple es x1 pos) (Sd K t1 t2 a b) [z,TI,TO,i1,i2] z (λi h=>Cr t1 t2 z TI TO i1 i2 a b i h .none) where
 mem:=by simp
 obj:=λi h Z c hc=>by
  obtain⟨zz,ti,⟨u,v,to⟩,⟨o1,h1,_,d1⟩,⟨o2,h2,_,d2⟩⟩:=Z;simp only[bJ,gK,or_false]at hc;rcases hc with rfl|rfl|rfl|rfl|rfl
  .exact⟨_,zz,λv q=>by cases q⟩
  .exact⟨_,ti,λv q=>by cases q⟩
  .exact⟨_,to,λv q=>by cases q⟩
  .exact⟨_,h1,λv q=>by rw[d1]at q;cases q⟩
  .exact⟨_,h2,λv q=>by rw[d2]at q;cases q⟩
 keep:=λi h h' Z k=>by
  obtain⟨zz,ti,⟨u,v,to⟩,w1,w2⟩:=Z;exact⟨k _ (by simp) _ zz,k _ (by simp) _ ti,⟨u,v,k _ (by simp) _ to⟩,w1.at λo e=>k _ (by simp) o e,w2.at λo e=>k _ (by simp) o e⟩
 item:=by
  intro X hP hw hK hc i pins s σ H E I hf Z hg;subst hP hw hK;obtain⟨xs,ys,x,y,hq1,hq2,hx,hy⟩:=hg;obtain⟨agD,r1,p1,_⟩:=I.mX hq1;obtain⟨its2,r2,p2,_⟩:=I.mX hq2;obtain⟨u1,hu1,ru1⟩:=r1.get hx;obtain⟨u2,hu2,ru2⟩:=r2.get hy;refine an0 D Z p1 p2 (x:=u1) (y:=u2) (by simpa using hu1) (by simpa using hu2) λg Z1 T1 k1=>⟨_,rfl,?_⟩;have zl:z≠s.heap.objs.size:=jJ (cW Z.zz);obtain⟨zz,ti,⟨v1,v2,to⟩,w1,w2⟩:=Z1;obtain⟨⟨DG,sJ,rQ,vV⟩,_⟩:=D.ne;refine wpAny_letOwnedTupleGo_zip zz λg' zz' m'=>?_;have T2:IsPair g' s.heap.objs.size u1 u2:=m'.extBut _ _ (dG zl) T1;have I1:Inv X pins σ H { s with heap:=g' }:=I.Xj (t':=s.toks) (ch:=[z,TI,TO,i1,i2]) hf λc o hc e=>
   m'.extBut _ _ (λq=>hc (by simp[q])) (k1 c o (λq=>hc (by
    simp only[bJ,gK,or_false]at q⊢;rcases q with q|q|q|q<;>simp[q])) e)
  have I2:Inv X pins σ (upd H s.heap.objs.size (.tup [x,y])) { s with heap:=g' }:=I1.adopt (I.pN (aN _) I.fresh)
   ⟨by simp[sizeLine],[u1,u2],.cons ru1 (.cons ru2 .nil),⟨_,T2,rfl,_,rfl⟩⟩
  refine⟨.ref s.heap.objs.size,_,I2,rfl,⟨_,x,y,rfl,I.fresh,rfl,λxs' q=>by rw[I.adG q hq1];exact hx,λys' q=>by rw[I.adG q hq2];exact hy⟩,
   ⟨zz',m'.extBut _ _ DG ti,⟨v1,v2,m'.extBut _ _ sJ to⟩,w1.at λo e=>m'.extBut _ _ rQ e,w2.at λo e=>m'.extBut _ _ vV e⟩,λc hc=>?_⟩
  rw[bI]
  .exact(hf c hc).1
  .intro q;obtain⟨o,ho,_⟩:∃o,s.heap.get? c=some o/\True:=by
    obtain⟨zz,ti,⟨u,v,to⟩,⟨o1,h1,_,d1⟩,⟨o2,h2,_,d2⟩⟩:=Z;simp only[bJ,gK,or_false]at hc;rcases hc with rfl|rfl|rfl|rfl|rfl
    .exact⟨_,zz,trivial⟩
    .exact⟨_,ti,trivial⟩
    .exact⟨_,to,trivial⟩
    .exact⟨_,h1,trivial⟩
    .exact⟨_,h2,trivial⟩
   exact absurd (cW ho) (by rw[q];exact lE _)
 done:=by
  intro X hP hw hK hc i pins s σ H E I hf Z hg;subst hP hw hK;obtain⟨xs,ys,hq1,hq2,hend⟩:=hg;obtain⟨agD,r1,p1,_⟩:=I.mX hq1;obtain⟨its2,r2,p2,_⟩:=I.mX hq2;have n1:=r1.length;have n2:=r2.length;refine ayo (I.ok.hd hc) D Z p1 p2 (hend.imp (λq=>by simp;omega) (λq=>by simp;omega)) λg k1=>⟨rfl,I.Xj (t':=s.toks) (ch:=[z,TI,TO,i1,i2]) hf λc o hc e=>k1 c o (λq=>hc (by
    simp only[bJ,gK,or_false]at q⊢;rcases q with q|q|q|q<;>simp[q])) e⟩
 self:=λ_ _ _ _ _ Z h=>wpAny_pyIter_zip Z.zz h
def awM(K:aF)(ta:TA):TI:=λσ H R=>ta σ H λvs H1=>∃t1 t2 a b xs ys,vs=[.ref a,.ref b]/\lD K t1 H1 a xs/\lD K t2 H1 b ys/\R (Sd K t1 t2 a b) H1
def apO(K:aF){e1 e2:Expr}{es:List Expr}{x1:Nat}{pos':Pos}{ta:TA}{p pos:Pos}(hg:Gl X "zip")(hm:X.mg "zip" = none)(ha:PA X [e1,e2] ta)(hK:X.K=K:=by rfl)
  (hs:starEach [e1,e2] X.env=[(false,eval e1 X.env),(false,eval e2 X.env)]:=by rfl) (hs2:starEach [e2] X.env=[(false,eval e2 X.env)]:=by rfl):
  PI X (.Tuple es x1 pos') (.Call (.Name "zip" p) [e1,e2] [] pos) (awM K ta):=by
 subst hK;intro pins s σ H R I h;refine Call_ (ux I hg hm boot_zip (uJ (aW (ha pos pins s σ H _ I h) λus s1 ⟨vs,H1,I1,r1,q1⟩=>?_) (by rw[hs,hs2]) (by rw[hs2];rfl)));obtain⟨t1,t2,a,b,xs,ys,e,hq1,hq2,q⟩:=q1;subst e;cases r1 with
 |cons r rr=>
  cases rr with
  |cons r' rr=>
   cases rr;cases r;cases r';obtain⟨agD,v1,p1,_⟩:=I1.mX hq1;obtain⟨its2,v2,p2,_⟩:=I1.mX hq2;refine ane p1 p2 λh' Z k=>?_;have I2:Inv X pins σ H1 { s1 with heap:=h' }:=I1.kept (t':=s1.toks) k;have lt1:a<s1.heap.objs.size:=by obtain⟨o,ho,_⟩:=p1;exact cW ho
   have lt2:b<s1.heap.objs.size:=by obtain⟨o,ho,_⟩:=p2;exact cW ho
   have D:Apart (s1.heap.objs.size+4) (s1.heap.objs.size+2) (s1.heap.objs.size+3) s1.heap.objs.size (s1.heap.objs.size+1) a b:=by
    have bad:∀{c:Addr} (n:Nat),c<s1.heap.objs.size->c≠s1.heap.objs.size+n:=λn h q=>absurd (jm h (Ca _ n)) (by rw[q];exact lE _);exact⟨by simp,by simp[bad _ lt1,show a≠s1.heap.objs.size from bad 0 lt1],by simp[bad _ lt2,show b≠s1.heap.objs.size from bad 0 lt2]⟩
   refine wpAny_pyIter_zip Z.zz ⟨_,_,_,_,H1,rfl,I2,as7 D,Z,λc hc=>?_,q⟩;have hc':s1.heap.objs.size<=c:=by
    simp only[bJ,gK,or_false]at hc;rcases hc with rfl|rfl|rfl|rfl|rfl
    .exact Ca _ _
    .exact Ca _ _
    .exact Ca _ _
    .exact aN _
    .exact Ca _ _
   exact I1.pN hc' (I1.hok.fresh hc')
def ajn{K:aF}{t1 t2:Bool}{a b:Addr}{xs ys:List V}{ix:List (Option Nat)}{te:TE}{σ:St}{H1:Hp}{Q:VK}(q1:lD K t1 H1 a xs)(q2:lD K t2 H1 b ys)(hz:xs.length<=sizeLine){rest:St}(hst:cst ix σ=none::none::rest)(F:V->V->V)
  (he:∀(H':Hp) (i:Nat) (x y:V),Same H1 H'->xs[i]?=some x->ys[i]?=some y->∀k:VK,k (F x y) H'->te (some x::some y::rest) H' k)
  (hQ:∀D H',H1 D=none->Same H1 H'->H' D=some (.lst (uR F xs ys))->Q (.ref D) H'):
  jN ix (QS K 2 (Pb (iD 0) (Pb (iD 1) ac1))) lA te σ Q (Sd K t1 t2 a b) H1:=by
 constructor;intro D hD;refine⟨λi m σ' H'=>m=xs.length-i/\i<=min xs.length ys.length/\(∃o o',σ'=o::o'::rest)/\Same H1 H'/\H' D=some (.lst ((uR F xs ys).take i)),⟨xs.length,by simp,cD _,⟨none,none,hst⟩,Same.new hD _,by rw[aC];simp⟩,?_⟩;rintro i m σ' H' ⟨rfl,hi,⟨o,o',rfl⟩,g,hl⟩;by_cases hlt:i<xs.length/\i<ys.length
 .have hx:xs[i]?=some xs[i]:=List.getElem?_eq_getElem hlt.1;have hy:ys[i]?=some ys[i]:=List.getElem?_eq_getElem hlt.2;refine .inr ⟨⟨xs,ys,_,_,g.mX q1,g.mX q2,hx,hy⟩,?_⟩;rintro v H2 ⟨p,x,y,rfl,hp,rfl,y1,y2⟩;have ex:=y1 xs (g.mX q1);have ey:=y2 ys (g.mX q2);have g2:Same H' (upd H' p (.tup [x,y])):=Same.new hp _;have pD:D≠p:=λq=>by rw[q,hp]at hl;cases hl
  refine⟨p,[x,y],rfl,.inl (.inl aC),rfl,x,[y],rfl,y,[],rfl,rfl,?_⟩;change te (some x::some y::rest) (upd H' p (.tup [x,y])) _;refine he _ i x y (g.trans g2) ex ey _ ⟨_,g2 _ _ hl,?_,xs.length-(i+1),⋯,rfl,⋯,⟨_,_,rfl⟩,?_,?_⟩
  .rw[iZ];omega
  .exact Same.upd (g.trans g2) hD _
  .rw[aC,pL];have e:(uR F xs ys)[i]?=some (F x y):=by rw[List.getElem?_zipWith,ex,ey]
   rw[e];rfl
 .refine .inl ⟨⟨xs,ys,g.mX q1,g.mX q2,⋯⟩,hQ D H' hD g ?_⟩;rw[hl,rm];rw[acW];omega
end
def dY.hu{k:Nat}{A:Around}(r:dY k A):A.units+1<cLine:=by have:=r.un;omega
def runK{α:Type}(lt:Nat->Nat->Bool):W.KasT α->α
 |.ret a=>a
 |.ask i j k=>runK lt (k (lt i j))
def Cq{α:Type}(n:Nat)(lt:Nat->Nat->Bool):W.KasT α->Bool
 |.ret _=>true
 |.ask i j k=>decide (i<n)&&decide (j<n)&&Cq n lt (k (lt i j))
theorem V4{α:Type}{n:Nat}{lt:Nat->Nat->Bool}{cmp:Nat->Nat->(Bool->Shared->Prop)->Shared->Prop}{Q:α->Shared->Prop}{s:Shared}(hc:∀i j (C:Bool->Shared->Prop),i<n->j<n->C (lt i j) s->cmp i j C s):
  ∀t:W.KasT α,Cq n lt t=true->Q (runK lt t) s->t.kasWp cmp Q s
 |.ret a,_,h=>h
 |.ask i j k,ho,h=>by
  unfold Cq at ho;simp only[rY,decide_eq_true_eq]at ho;exact hc i j _ ho.1.1 ho.1.2 (V4 hc (k (lt i j)) ho.2 h)
def Gx(n:Nat):Nat->List (List Nat)
 |0=>[[]]
 |m+1=>(Gx n m).flatMap λl=>(fj n).map (· :: l)
theorem abb{n:Nat}:∀{r:List Nat},(∀x∈r,x<n)->r∈Gx n r.length
 |[],_=>eE.mpr rfl
 |x::r,h=>QK.mpr ⟨r,abb λy hy=>h y (cZ _ hy),bY.mpr ⟨x,iT.mpr (h x (cV ..)),rfl⟩⟩
def qZ(r:List Nat)(i j:Nat):Bool:=decide (r.getD i 0<r.getD j 0)
def aah(n:Nat)(r:List Nat):Bool:=!decide r.Nodup||(Cq n (qZ r) (zc n)&&(runK (qZ r) (zc n)).toList.isPerm (fj n)&&decide ((runK (qZ r) (zc n)).toList.map (λi=>r.getD i 0)=fj n))
set_option maxRecDepth 100000 in
def aqs:∀n<5,2<=n->(Gx n n).all (aah n)=true:=by decide +kernel
def mO(xs:List Int):List Nat:=xs.map λx=>(xs.filter λy=>decide (y<x)).length
theorem Yn:∀(l:List Int) {x y:Int},x<y->(l.filter λz=>decide (z<x)).length<=(l.filter λz=>decide (z<y)).length
 |[],_,_,_=>aN _
 |z::l,x,y,h=>by
  have ih:=Yn l h;rw[ug,ug];by_cases c:z<x
  .rw[if_pos (decide_eq_true c),if_pos (decide_eq_true ⋯),iQ,iQ];omega
  .rw[if_neg (by simpa using c)];split
   .rw[iQ];omega
   .exact ih
theorem UJ:∀(l:List Int) {x y:Int},x<y->x∈l->(l.filter λz=>decide (z<x)).length<(l.filter λz=>decide (z<y)).length
 |z::l,x,y,h,hx=>by
  rw[ug,ug];rcases bJ.mp hx with e|hx
  .subst e;have:=Yn l h;rw[if_neg (by simp),if_pos (decide_eq_true h),iQ];omega
  .have ih:=UJ l h hx;by_cases c:z<x
   .rw[if_pos (decide_eq_true c),if_pos (decide_eq_true ⋯),iQ,iQ];omega
   .rw[if_neg (by simpa using c)];split
    .rw[iQ];omega
    .exact ih
def Ld{xs:List Int}{x y:Int}(hx:x∈xs)(hy:y∈xs):(xs.filter λz=>decide (z<x)).length<(xs.filter λz=>decide (z<y)).length↔x<y:=by
 constructor
 .intro h;by_cases c:x<y
  .exact c
  .by_cases e:x=y
   .subst e;omega
   .have:=UJ xs (show y<x by omega) hy;omega
 .exactλh=>UJ xs h hx
def af5{xs:List Int}{i:Nat}(h:i<xs.length):(mO xs).getD i 0=(xs.filter λz=>decide (z<xs.getD i 0)).length:=by
 unfold mO;rw[List.getD_eq_getElem?_getD,List.getElem?_map,List.getElem?_eq_getElem h,List.getD_eq_getElem?_getD,List.getElem?_eq_getElem h];rfl
def ZW{xs:List Int}{i j:Nat}(hi:i<xs.length)(hj:j<xs.length):qZ (mO xs) i j=decide (xs.getD i 0<xs.getD j 0):=by
 unfold qZ;rw[af5 hi,af5 hj];have mi:xs.getD i 0∈xs:=by rw[List.getD_eq_getElem?_getD,List.getElem?_eq_getElem hi];exact wA hi
 have mj:xs.getD j 0∈xs:=by rw[List.getD_eq_getElem?_getD,List.getElem?_eq_getElem hj];exact wA hj
 exact decide_eq_decide.mpr (Ld mi mj)
def awF{xs:List Int}(hd:xs.Nodup)(h2:2<=xs.length)(h4:xs.length<5):∃π:Array Nat,π=runK (qZ (mO xs)) (zc xs.length)/\Cq xs.length (qZ (mO xs)) (zc xs.length)=true/\π.toList.Perm (fj xs.length)/\
  (π.toList.map λi=>xs.getD i 0).Pairwise (· < ·):=by
 have hl:(mO xs).length=xs.length:=by unfold mO;rw[aB]
 have hm:mO xs∈Gx xs.length xs.length:=by
  have:=abb (n:=xs.length) (r:=mO xs) λr hr=>by
   obtain⟨x,hx,rfl⟩:=bY.mp hr;have h1:(xs.filter λy=>decide (y<x)).length<xs.length:=by
    rcases vZ (xs.filter λy=>decide (y<x)).length xs.length with c|c
    .exact c
    .have:=List.length_filter_eq_length_iff.mp (Nat.le_antisymm (Qx ..) c) x hx;simp at this
   exact h1
  rwa [hl]at this
 have hn:(mO xs).Nodup:=by
  unfold mO;refine uU.mpr (adQ (λ{a b} ha hb hab e=>?_) hd);have:=Ld ha hb;have:=Ld hb ha;omega
 have hg:=mq.mp (aqs xs.length h4 h2) _ hm;unfold aah at hg;simp only[hn,decide_true,Bool.not_true,Pq,rY,decide_eq_true_eq]at hg;obtain⟨⟨g1,g2⟩,g3⟩:=hg;have hp:=List.isPerm_iff.mp g2;refine⟨_,rfl,g1,hp,?_⟩;have h3:((runK (qZ (mO xs)) (zc xs.length)).toList.map λi=>(mO xs).getD i 0).Pairwise (· < ·):=by rw[g3];exact List.pairwise_lt_range
 refine uU.mpr (adQ (λ{a b} ha hb hab=>?_) (uU.mp h3));have ha':=iT.mp (hp.mem_iff.mp ha);have hb':=iT.mp (hp.mem_iff.mp hb);have:=ZW ha' hb';unfold qZ at this;rw[decide_eq_true hab]at this;exact of_decide_eq_true this.symm
def xO(h:Heap)(v:Value)(p:Int×Int):Prop:=∃a o n t u,v = .ref a/\h.get? a=some o/\o.cls = .type "tuple" /\ o.data = .seq #[.int p.1 t,.int p.2 u] n
def xO.keep{h h':Heap}{v:Value}{p:Int×Int}(k:∀b o,h.get? b=some o->o.cls = .type "tuple" -> h'.get? b=some o):xO h v p->xO h' v p:=λ⟨a,o,n,t,u,e,ho,hc,hd⟩=>⟨a,o,n,t,u,e,k a o ho hc,hc,hd⟩
inductive jP(h:Heap):List Value->List (Int×Int)->Prop
 |nil:jP h [] []
 |cons {v:Value} {p:Int×Int} {vs:List Value} {ps:List (Int×Int)}:xO h v p->jP h vs ps->jP h (v::vs) (p::ps)
theorem jP.keep{h h':Heap}(k:∀b o,h.get? b=some o->o.cls = .type "tuple" -> h'.get? b=some o):∀{vs:List Value} {ps:List (Int×Int)},jP h vs ps->jP h' vs ps
 |_,_,.nil=> .nil
 |_,_,.cons a r=> .cons (a.keep k) (r.keep k)
theorem jP.len{h:Heap}:∀{vs:List Value} {ps:List (Int×Int)},jP h vs ps->vs.length=ps.length
 |_,_,.nil=>rfl
 |_,_,.cons _ r=>congrArg (· + 1) r.len
theorem jP.get{h:Heap}:∀{vs:List Value} {ps:List (Int×Int)} {i:Nat},jP h vs ps->i<ps.length->xO h (vs.getD i Value.none) (ps.getD i (0,0))
 |_,_,0,.cons a _,_=>a
 |_,_,i+1,.cons _ r,h=>by simpa using jP.get (i:=i) r (by simpa using h)
theorem jP.tups{h:Heap}:∀{vs:List Value} {ps:List (Int×Int)},jP h vs ps->∃fs,W.KatTups h vs fs/\fs.length=ps.length/\∀v∈fs,∃k t,v=Value.int k t
 |_,_,.nil=>⟨[],.nil,rfl,λv hv=>absurd hv gK⟩
 |_,_,.cons ⟨a,o,n,t,u,e,ho,hc,hd⟩ r=>by
  obtain⟨fs,h1,h2,h3⟩:=r.tups;subst e;exact⟨_::fs,.cons ho hc hd rfl h1,congrArg (· + 1) h2,λv hv=>by
   rcases bJ.mp hv with rfl|hv
   .exact⟨_,_,rfl⟩
   .exact h3 v hv⟩
section
variable {prog:Program} {w:World} {A:Around} {E:Value->Shared->Prop} {s:Shared}
def ahS{v u:Value}{p q:Int×Int}{C:Bool->Shared->Prop}(hv:xO s.heap v p)(hu:xO s.heap u q)(hpq:p.1=q.1->p.2=q.2)(h:C (decide (p.1<q.1)) s):
  wpAny (model prog w) A (keyLt' (tuples' true) v u) C E s:=by
 obtain⟨a,o,n,t,t2,rfl,ho,hc,hd⟩:=hv;obtain⟨a',o',n',t',t2',rfl,ho',hc',hd'⟩:=hu;refine W.kat_lt ho hd ho' hd' ?_;show W.KatLex prog w A true _ C [(Value.int p.1 t,Value.int q.1 t'),(Value.int p.2 t2,Value.int q.2 t2')] 0 s;refine W.kat_cons (wpAny_eqBool_int ?_);by_cases c:p.1=q.1
 .rw[show(p.1==q.1)=true by simpa using c];refine W.kat_yes (W.kat_cons (wpAny_eqBool_int ?_));rw[show(p.2==q.2)=true by simpa using hpq c];refine W.kat_yes (W.kat_nil ?_);rw[decide_eq_false ⋯]at h;exact h
 .rw[show(p.1==q.1)=false by simpa using c];exact W.kat_no (oneLt_int h)
def akI{a:Addr}{vs:List Value}{ps:List (Int×Int)}{n:Nat}{P:PySem.Fin->Shared->Prop}(ho:s.heap.get? a=some (seqObj "list" vs.toArray n))(hp:jP s.heap vs ps)(hd:(ps.map (·.1)).Nodup)(h4:ps.length<5)
  (h:∀π:List Nat,π.Perm (fj ps.length)->(π.map λi=>(ps.getD i (0,0)).1).Pairwise (· < ·)->P (.done (.ret .none)) { s with heap:=sortedHeap s.heap a vs (π.map λi=>vs.getD i Value.none).toArray }):
  wpAny (model prog w) A (Builtin.«list.sort» ⟨[.ref a],[]⟩) P E s:=by
 have hl:=hp.len;have ha:a<s.heap.objs.size:=cW ho;rw[list_sort_plain];refine wpAny_bind (listItems_at ho rfl ?_);refine wpAny_bind (listUpdate_at ho rfl ?_ (by rw[eU,sizeLine_eq];omega) (cD _));obtain⟨e1,ho1⟩:∃e1,(s.heap.update a (kj λ_=>(#[]:Array Value))).get? a=some (seqObj "list" #[] e1):=⟨_,get?_update_seq ho λ_=>#[]⟩;refine wpAny_bind (seqEpoch_at ho1 rfl ?_);refine wpAny_bind (wpAny_newTuple ?_ (by show vs.length<=_;rw[sizeLine_eq];omega));refine wpAny_bind (wpAny_newList ?_ (cD _));refine wpAny_holding ?_;have ho6:(((s.heap.update a (kj λ_=>#[])).push (seqObj "tuple" vs.toArray 0)).push (seqObj "list" #[] 0)).get? a=some (seqObj "list" #[] e1):=Heap.get?_push_of_some _ (Heap.get?_push_of_some _ ho1);show wpAny (model prog w) A _ P E { s with heap:=((s.heap.update a (kj λ_=>(#[]:Array Value))).push (seqObj "tuple" vs.toArray 0)).push (seqObj "list" #[] 0) };dsimp only;by_cases h2:vs.toArray.size<2
 .rw[if_pos h2,if_pos h2];refine wpAny_bind (wpAny_pure ?_);rw[StateT.run_pure];refine wpAny_bind (wpAny_pure ?_);dsimp only;have hz:vs.length<2:=by simpa using h2
  have e0:(arrOf (SortSt.mk' general' (vs.toArray.zip vs.toArray) #[] 7 none)).map (·.2)=((fj ps.length).map λi=>vs.getD i Value.none).toArray:=by
   show(vs.toArray.zip vs.toArray).map (·.2)=_;rw[<-hl]
   match vs,hz with
   |[],_=>simp
   |[v],_=>simp[fj,List.range.loop]
  rw[e0];refine wpAny_bind (seqEpoch_at ho6 rfl ?_);refine wpAny_bind (listUpdate_at ho6 rfl ?_ (cD _) (by rw[eU,aB,mR,sizeLine_eq];omega));simp only[bne_self_eq_false,VB,if_false];refine wpAny_pure (h _ (.refl _) ?_);rw[<-hl]
  match vs,hz with
  |[],_=>exact .nil
  |[v],_=>exact .cons (λ_ h=>absurd h gK) .nil
 .rw[if_neg h2,if_neg h2];have hz:2<=vs.length:=by simpa using h2
  have hps:jP (((s.heap.update a (kj λ_=>(#[]:Array Value))).push (seqObj "tuple" vs.toArray 0)).push (seqObj "list" #[] 0)) vs ps:=hp.keep λb o e c=>by
   have hb:a≠b:=λz=>by
    subst z;rw[e]at ho;cases ho;have c':Value.type "list" = Value.type "tuple" := c;exact absurd c' ∅
   exact Heap.get?_push_of_some _ (Heap.get?_push_of_some _ ((Heap.get?_update_other _ _ hb).trans e))
  obtain⟨fs,t1,t2,t3⟩:=hps.tups;refine wpAny_bind (W.kat_kind (T:= .type "int") t1 ⋯ (λv hv=>?_) rfl ?_)
  .obtain⟨k,t,rfl⟩:=t3 v hv;exact W.Looks.of_pure rfl
  have eb:(Value.type "int" != Value.type "tuple")=true:=∅;rw[eb];obtain⟨π,eπ,hok,hpm,hpw⟩:=awF (xs:=ps.map (·.1)) hd (by rw[aB];omega) (by rw[aB];omega);rw[aB]at eπ hok hpm;refine wpAny_bind (wpAny_mono (W.kat_run (κ:=tuples' true) (ks:=vs) (Q:=λst' s'=>s'={ s with heap:=((s.heap.update a (kj λ_=>(#[]:Array Value))).push (seqObj "tuple" vs.toArray 0)).push (seqObj "list" #[] 0) }/\arrOf st'=π.map (W.kas_item (vs.toArray.zip vs.toArray))/\failedOf st'=none)
   (G:=λp s'=>p=π/\s'={ s with heap:=((s.heap.update a (kj λ_=>(#[]:Array Value))).push (seqObj "tuple" vs.toArray 0)).push (seqObj "list" #[] 0) }) rfl hz ⋯ (λp' st' s' a1 a2 a3 a4=>⟨a4.2,by rw[a2,a4.1],a3⟩) ?_) ?_ λ_ _ e=>e)
  .rw[hl];refine V4 (n:=ps.length) (lt:=qZ (mO (ps.map (·.1)))) (λi j C hi hj hC=>?_) _ hok ⟨eπ.symm,rfl⟩;unfold W.kas_ask;have gi:(ps.map (·.1)).getD i 0=(ps.getD i (0,0)).1:=by rw[List.getD_eq_getElem?_getD,List.getElem?_map,List.getD_eq_getElem?_getD,List.getElem?_eq_getElem hi];rfl
   have gj:(ps.map (·.1)).getD j 0=(ps.getD j (0,0)).1:=by rw[List.getD_eq_getElem?_getD,List.getElem?_map,List.getD_eq_getElem?_getD,List.getElem?_eq_getElem hj];rfl
   refine ahS (hps.get hi) (hps.get hj) (λe=>?_) ?_
   .have hij:i=j:=by
     rw[<-gi,<-gj]at e;rw[List.getD_eq_getElem?_getD,List.getElem?_eq_getElem (by rw[aB];exact hi),List.getD_eq_getElem?_getD,List.getElem?_eq_getElem (by rw[aB];exact hj)]at e;have aa0:=YM.mp hd;rcases Nat.lt_trichotomy i j with z|z|z
     .exact absurd e (aa0 i j (by rw[aB];exact hi) (by rw[aB];exact hj) z)
     .exact z
     .exact absurd e.symm (aa0 j i (by rw[aB];exact hj) (by rw[aB];exact hi) z)
    rw[hij]
   .rw[ZW (by rw[aB];exact hi) (by rw[aB];exact hj),gi,gj]at hC;exact hC
  rintro⟨⟨⟩,st'⟩ s' ⟨rfl,har,hf⟩;dsimp only;have hout:=W.kat_snds rfl har;rw[hout];refine wpAny_bind (seqEpoch_at ho6 rfl ?_);refine wpAny_bind (listUpdate_at ho6 rfl ?_ (cD _) (by rw[eU,aB,hpm.length_eq,mR,sizeLine_eq];omega));rw[hf];simp only[bne_self_eq_false,VB,if_false];refine wpAny_pure (h π.toList hpm ?_);have e2:(π.toList.map λi=>(ps.map (·.1)).getD i 0)=π.toList.map λi=>(ps.getD i (0,0)).1:=lJ λi hi=>by
   have:=iT.mp (hpm.mem_iff.mp hi);rw[List.getD_eq_getElem?_getD,List.getElem?_map,List.getD_eq_getElem?_getD,List.getElem?_eq_getElem this];rfl
  rw[<-e2];exact hpw
def ahZ{l:Addr}{vs:List Value}{ps:List (Int×Int)}{Q:Value->Shared->Prop}(hl:s.heap.IsList l vs.toArray)(hp:jP s.heap vs ps)(hd:(ps.map (·.1)).Nodup)(h4:ps.length<5)
  (h:∀π:List Nat,π.Perm (fj ps.length)->(π.map λi=>(ps.getD i (0,0)).1).Pairwise (· < ·)->Q (.ref (s.heap.objs.size+1)) { s with heap:=sortedAll s.heap vs (π.map λi=>vs.getD i Value.none).toArray }):
  wpAny (model prog w) A (call (.builtin "sorted") [.ref l]) Q E s:=by
 have hlen:=hp.len;refine agt kind_sorted plain_sorted entry_sorted (args_sorted1 _) ?_;unfold Builtin.«sorted»;refine wpAny_bind (m:=checkCount "sorted" 1 1 _) (wpAny_pure ?_);refine wpAny_bind (collect_list hl ?_ (by rw[sizeLine_eq];omega));refine wpAny_bind (wpAny_newList ?_ (by rw[sizeLine_eq];omega));have hsz:((s.heap.push (seqObj "list" #[] 0)).update s.heap.objs.size (kj (·++vs.toArray))).objs.size=s.heap.objs.size+1:=by
  rw[Heap.size_update,size_push']
 have hoL:(((s.heap.push (seqObj "list" #[] 0)).update s.heap.objs.size (kj (·++vs.toArray))).push (seqObj "list" vs.toArray 0)).get? (s.heap.objs.size+1)=some (seqObj "list" vs.toArray 0):=by
  rw[<-hsz];exact Heap.get?_push_size _ rfl
 show wpAny _ _ _ _ _ { s with heap:=((s.heap.push (seqObj "list" #[] 0)).update s.heap.objs.size (kj (·++vs.toArray))).push (seqObj "list" vs.toArray 0) };rw[hsz];refine wpAny_bind (wpAny_holding (wpAny_call_entry slot_list_sort ⟨_,hoL,rfl⟩ entry_list_sort (akI hoL (hp.keep λb o e _=>?_) hd h4 λπ a1 a2=>⟨_,rfl,?_⟩) (args_list_sort _)))
 .have hb:=cW e;exact Heap.get?_push_of_some _ ((Heap.get?_update_other _ _ (dG (jJ hb))).trans (Heap.get?_push_of_some _ e))
 .exact wpAny_pure ⟨_,rfl,h π a1 a2⟩
end
section
variable {X:Cx}
inductive uF(H:Hp):List V->List (Int×Int)->Prop
 |nil:uF H [] []
 |cons {t:Addr} {p:Int×Int} {xs:List V} {ps:List (Int×Int)}:H t=some (.tup [.int p.1,.int p.2])->uF H xs ps->uF H (.ref t::xs) (p::ps)
theorem uF.len{H:Hp}:∀{xs:List V} {ps:List (Int×Int)},uF H xs ps->xs.length=ps.length
 |_,_,.nil=>rfl
 |_,_,.cons _ r=>congrArg (· + 1) r.len
def av7:jU X (.builtin "sorted") (λvs H Q=>∃(l:Addr) (xs:List V) (ps:List (Int×Int)),vs=[.ref l]/\H l=some (.lst xs)/\uF H xs ps/\(ps.map (·.1)).Nodup/\ps.length<5/\
  ∀(l':Addr) (π:List Nat),π.Perm (fj ps.length)->(π.map λi=>(ps.getD i (0,0)).1).Pairwise (· < ·)->H l'=none->Q (.ref l') (upd H l' (.lst (π.map λi=>xs.getD i V.non)))):=by
 intro pins s σ H vs us Q I r h;obtain⟨l,xs,ps,rfl,hl,hp,hd,h4,q⟩:=h;obtain⟨u,rfl,ru⟩:=r.one;cases ru;obtain⟨z,its,nn,rv,hlen,eo⟩:=I.uy hl;have hil:s.heap.IsList l its.toArray:=⟨_,eo,rfl,_,rfl⟩;have hps:∀{xs:List V} {ps:List (Int×Int)} {its:List Value},uF H xs ps->Vals xs its->jP s.heap its ps:=by
  intro xs ps its hp;induction hp generalizing its with
  |nil=>intro rv;cases rv;exact .nil
  |cons ht _ ih=>
   intro rv;cases rv with
   |cons r rr=>
    cases r;obtain⟨azA,trv,⟨o,e,c,n,d⟩,_⟩:=I.tuple (aA.of ht);refine .cons ?_ (ih rr);cases trv with
    |cons r1 rr1=>
     obtain⟨t1,rfl⟩:=r1;cases rr1 with
     |cons r2 rr2=>
      obtain⟨t2,rfl⟩:=r2;cases rr2;exact⟨_,o,n,t1,t2,rfl,e,c,d⟩
 refine ahZ hil (hps hp rv) hd h4 λπ a1 a2=>?_;obtain⟨e,he⟩:=sortedAll_at s.heap its (π.map λi=>its.getD i Value.none).toArray;have hlx:=hp.len;have hli:=rv.length;have hin:∀i∈π,i<ps.length:=λi hi=>iT.mp (a1.mem_iff.mp hi);have hv:Vals (π.map λi=>xs.getD i V.non) (π.map λi=>its.getD i Value.none):=by
  clear he e a1 a2;induction π with
  |nil=>exact .nil
  |cons i π ih=>
   have hi:=hin i (cV ..);have ex:xs[i]?=some (xs.getD i V.non):=by rw[List.getD_eq_getElem?_getD,List.getElem?_eq_getElem ⋯];rfl
   obtain⟨u,hu,ru⟩:=rv.get ex;refine .cons ?_ (ih λj hj=>hin j (cZ _ hj));have eu:its.getD i Value.none=u:=by rw[List.getD_eq_getElem?_getD,hu];rfl
   show RelV (xs.getD i V.non) (its.getD i Value.none);rw[eu];exact ru
 have hz:(π.map λi=>xs.getD i V.non).length<=sizeLine:=by rw[aB,a1.length_eq,mR,sizeLine_eq];omega
 exact⟨.ref _,_,I.laid (t':=s.toks) (λb o e=>sortedAll_old e) (Nat.le_succ _) (show dB X.prog X.w _ _ _ (.lst (π.map λi=>xs.getD i V.non))from⟨hz,_,e,hv,he⟩),rfl,q _ π a1 a2 (I.hok.fresh (Nat.le_succ _))⟩
def ab2:bootBuiltins "sorted" = some (.builtin "sorted"):=by decide +kernel
end
section
variable {X:Cx} {pins:List (Addr×Obj)} {σ:St} {H:Hp} {s:Shared}
def Inv.swap{a:Addr}{u u':HO}(I:Inv X pins σ H s)(e:H a=some u)(h1:∀xs,u≠ .tup xs)(h2:∀x,u≠ .own x)(h3:∀ps,u≠ .rH ps)(hx:∀o v,X.H₀ a≠some (.dw o v))(new:dB X.prog X.w (upd H a u') s.heap a u'):Inv X pins σ (upd H a u') s:=by
 have IW:∀b,H b=none->(upd H a u') b=none:=λb n=>by rw[bI λz=>by rw[z,e]at n;cases n];exact n
 have Yy:∀b xs,H b=some (.tup xs)->(upd H a u') b=some (.tup xs):=λb xs q=>by rw[bI λz=>by rw[z,e]at q;cases q;exact h1 _ rfl];exact q
 refine⟨I.ok,I.os,I.bare,⟨I.base.keep,I.base.slot,λb o q n hb=>IW b (I.base.free b o q n hb),I.base.there,λb xs q=>Yy b xs (I.base.tups b xs q),λb o v q=>?_,λb ps q=>?_⟩,I.loc,I.cell,IW _ I.free,λx c q=>IW _ (I.qN x c q),λp hp=>?_,λb v q=>?_,I.len⟩
 .rw[bI λz=>hx o v (by rw[<-z];exact q)];exact I.base.j9 b o v q
 .obtain⟨more,q'⟩:=I.base.nU b ps q;exact⟨more,by rw[bI λz=>by rw[z,e]at q';cases q';exact h3 _ rfl];exact q'⟩
 .obtain⟨p1,p2,p3⟩:=I.pin p hp;exact⟨p1,IW _ p2,p3⟩
 .by_cases z:b=a
  .subst z;rw[aC]at q;cases q;exact new
  .rw[bI z]at q;exact(I.hok b v q).stay (λ_ _ _ r=>r) (λc r=>by rw[bI λz=>by rw[z,e]at r;cases r;exact h2 _ rfl];exact r) Yy
def dB.afi{P:Program}{w:World}{H':Hp}{h:Heap}{a:Addr}{kvs:List (Key×V)}(x:dB P w H h a (.dK kvs)):dB P w H' h a (.dK kvs):=x
def tFz(t:TE):TE:=λσ H Q=>∃(a:Addr) (kvs:List (Key×V)),H a=some (.dK kvs)/\∀o,t σ (upd H a (.dw o (.dK kvs))) λv H2=>H2 a=some (.dw o (.dK kvs))/\Q v (upd H2 a (.dK kvs))
def Zc{e:Expr}{t:TE}(h:PE X e t):PE X e (tFz t):=by
 intro pins s σ H Q I q;obtain⟨a,kvs,hA,q⟩:=q;obtain⟨z,y,vs,rel,o,es,ep,ho,rest⟩:=(show dB X.prog X.w H s.heap a (.dK kvs)from I.hok a _ hA);have nf:∀o v,X.H₀ a≠some (.dw o v):=λo v c=>by
  have:=I.base.j9 a o v c;rw[hA]at this;cases this
 have I1:Inv X pins σ (upd H a (.dw o (.dK kvs))) s:=I.swap hA (λ_ c=>by cases c) (λ_ c=>by cases c) (λ_ c=>by cases c) nf ⟨ho,z,y,vs,rel,o,es,ep,ho,rest⟩;refine wpAny_mono (h pins s σ _ _ I1 (q o)) (λu s' hs=>?_) λ_ _ x=>x;obtain⟨v,H2,I2,r,hf,q2⟩:=hs;obtain⟨_,o2⟩:=(show dB X.prog X.w H2 s'.heap a (.dw o (.dK kvs))from I2.hok a _ hf);exact⟨v,_,I2.swap hf (λ_ c=>by cases c) (λ_ c=>by cases c) (λ_ c=>by cases c) nf (dB.afi o2),r,q2⟩
def RZ(a:Addr)(o:Obj)(kvs:List (Key×V)):It:=
 ⟨λi H=>H a=some (.dw o (.dK kvs))/\i<kvs.length,λi H x H'=>H'=H/\(kvs[i]?.map λkv=>kV kv.1)=some x,λi H=>H a=some (.dw o (.dK kvs))/\kvs.length<=i⟩
def abI{P:Program}{w:World}{k:Key}{v:Value}(h:(gW P w).is k v=true):RelV (kV k) v:=by
 rcases rO h with⟨i,t,rfl,rfl⟩|⟨x,t,rfl,rfl⟩
 .exact⟨t,rfl⟩
 .exact⟨t,rfl⟩
theorem ad1:∀{kvs:List (Key×V)} {vs:List (Key×Value)} {i:Nat} {p:Key×V} {q:Key×Value},KV kvs vs->kvs[i]?=some p->vs[i]?=some q->p.1=q.1
 |_,_,0,_,_,.cons r _,h1,h2=>by cases h1;cases h2;exact r.1
 |_,_,i+1,_,_,.cons _ r,h1,h2=>ad1 (i:=i) r (by simpa using h1) (by simpa using h2)
def ahX{P:Program}{w:World}{K:aF}{tg:Expr}(a it:Addr)(o:Obj)(kvs:List (Key×V)){es:Array DictEntry}{ep:Nat}(hd:o.data = .dict es ep):Turn P w K tg (RZ a o kvs) [it] it (λi h=>i<=kvs.length/\h.IsKeyIter it a i kvs.length ep) where
 mem:=by simp
 obj:=λi h st b hb=>by
  have e:b=it:=by simpa using hb
  subst e;obtain⟨_,o,e,c,d⟩:=st;exact⟨o,e,λv z=>by rw[d]at z;cases z⟩
 keep:=λi h h' st k=>by
  obtain⟨hi,o,e,c,d⟩:=st;exact⟨hi,o,k it (by simp) o e,c,d⟩
 item:=by
  intro X hP hw hK hc i pins s σ H E I hf st hg;subst hP hw hK;obtain⟨hA,hi⟩:=hg;obtain⟨ho,z,y,vs,rel,o',es',ep',ho',hex,hd',hk,hp,hn⟩:=(show dB X.prog X.w H s.heap a (.dw o (.dK kvs))from I.hok a _ hA);rw[ho]at ho';cases ho';rw[hd]at hd';cases hd';have hl:kvs.length=vs.length:=rel.length;obtain⟨f0,f1,f2,f3,f4,f5⟩:=hf it (by simp);have hx:vs[i]?=some (vs[i]'⋯):=List.getElem?_eq_getElem _;have hkx:kvs[i]?=some kvs[i]:=List.getElem?_eq_getElem hi;obtain⟨_,stI⟩:=st;rw[hl]at stI;refine wpAny_pyNext_dict_item (knd:=gW X.prog X.w) stI ⟨o,es,ho,hex,hd,hk,hp,hn⟩ hx λkey h' hkey st' sb=>?_;have I1:Inv X pins σ H { s with heap:=h' }:=I.turned (t':=s.toks) (λb o hb e=>(sb.2 b hb).trans e) f0 f1 f3 f4 f5;obtain⟨oo,e,c,d⟩:=id st';have ek:kvs[i].1=(vs[i]'⋯).1:=ad1 rel hkx hx;exact⟨key,rfl,zW (s:={ s with heap:=h' }) e c d ∅ ⟨kV kvs[i].1,H,I1,by rw[ek];exact abI hkey,⟨rfl,by rw[hkx];rfl⟩,⟨hi,by rw[hl];exact st'⟩,λb hb=>(hf b hb).1⟩⟩
 done:=by
  intro X hP hw hK hc i pins s σ H E I hf st hg;subst hP hw hK;obtain⟨hA,hi⟩:=hg;obtain⟨ho,z,y,vs,rel,o',es',ep',ho',hex,hd',hk,hp,hn⟩:=(show dB X.prog X.w H s.heap a (.dw o (.dK kvs))from I.hok a _ hA);rw[ho]at ho';cases ho';rw[hd]at hd';cases hd';have hl:kvs.length=vs.length:=rel.length;obtain⟨f0,f1,f2,f3,f4,f5⟩:=hf it (by simp);obtain⟨_,stI⟩:=st;rw[hl]at stI;exact wpAny_pyNext_dict_end (knd:=gW X.prog X.w) (I.ok.hd hc) stI ⟨o,es,ho,hex,hd,hk,hp,hn⟩ (List.getElem?_eq_none ⋯) λh' eb=>⟨rfl,I.turned (t':=s.toks) (λb o hb e=>eb b o hb e) f0 f1 f3 f4 f5⟩
 self:=λ_ _ _ _ _ st h=>wpAny_pyIter_keyiter st.2 h
def aur(tl:TE):TI:=λσ H R=>tl σ H λx H1=>∃(a:Addr) (o:Obj) (kvs:List (Key×V)),x = .ref a/\H1 a=some (.dw o (.dK kvs))/\R (RZ a o kvs) H1
def Lj{tg l:Expr}{tl:TE}(hl:PE X l tl):PI X tg l (aur tl):=by
 intro pins s σ H R I h;refine wpAny_mono (hl pins s σ H _ I h) (λu s1 hs=>?_) λ_ _ x=>x;obtain⟨v,H1,I1,r,a,o,kvs,rfl,hA,q⟩:=hs;cases r;obtain⟨ho,z,y,vs,rel,o',es,ep,ho',hex,hd,hk,hp,hn⟩:=(show dB X.prog X.w H1 s1.heap a (.dw o (.dK kvs))from I1.hok a _ hA);rw[ho]at ho';cases ho';have hlen:kvs.length=vs.length:=rel.length;refine wpAny_pyIter_dict (knd:=gW X.prog X.w) y ⟨o,es,ho,hex,hd,hk,hp,hn⟩ ?_;have I2:Inv X pins σ H1 { s1 with heap:=s1.heap.push { cls:= .type "dict_keyiterator",data:= .fields #[.ref a,.int 0 0,.int vs.length 0,.int ep 0] } }:=I1.kept (t':=s1.toks) λb o e=>Heap.get?_push_of_some _ e;refine⟨_,[s1.heap.objs.size],_,_,H1,rfl,I2,ahX a _ o kvs hd,⟨cD _,_,Heap.get?_push_size _ rfl,rfl,by rw[hlen];rfl⟩,λc hc=>?_,q⟩;have e:c=s1.heap.objs.size:=by simpa using hc
 subst e;exact I1.pN (aN _) (I1.hok.fresh (aN _))
def VG{a:Addr}{o:Obj}{kvs:List (Key×V)}{H1:Hp}(h:H1 a=some (.dw o (.dK kvs))):qC (RZ a o kvs) (kvs.map λkv=>kV kv.1) H1:=by
 refine⟨λi H' g hi=>?_,λi H' x H2 g y=>⟨y.1,λhi=>?_⟩,λi H' g hi=>?_⟩
 .rw[aB]at hi;exact⟨g _ _ h,hi⟩
 .rw[List.getElem?_map];exact y.2
 .rw[aB]at hi;exact⟨g _ _ h,hi⟩
end
section
variable {X:Cx}
def sFz(t:TS):TS:=λD σ H=>∃(a:Addr) (kvs:List (Key×V)),H a=some (.dK kvs)/\∀o,t { nx:=λσ' H2=>H2 a=some (.dw o (.dK kvs))/\D.nx σ' (upd H2 a (.dK kvs)),rt:=λ_ _=>False } σ (upd H a (.dw o (.dK kvs)))
def arT{st:Stmt}{t:TS}(h:PS X st t):PS X st (sFz t):=by
 intro pins s σ H D I q;obtain⟨a,kvs,hA,q⟩:=q;obtain⟨z,y,vs,rel,o,es,ep,ho,rest⟩:=(show dB X.prog X.w H s.heap a (.dK kvs)from I.hok a _ hA);have nf:∀o v,X.H₀ a≠some (.dw o v):=λo v c=>by
  have:=I.base.j9 a o v c;rw[hA]at this;cases this
 have I1:Inv X pins σ (upd H a (.dw o (.dK kvs))) s:=I.swap hA (λ_ c=>by cases c) (λ_ c=>by cases c) (λ_ c=>by cases c) nf ⟨ho,z,y,vs,rel,o,es,ep,ho,rest⟩;refine wpAny_mono (h pins s σ _ _ I1 (q o)) (λf s' hs=>?_) λ_ _ x=>x;cases f with
 |next=>
  obtain⟨σ2,H2,I2,hf,q2⟩:=hs;obtain⟨_,o2⟩:=(show dB X.prog X.w H2 s'.heap a (.dw o (.dK kvs))from I2.hok a _ hf);exact⟨σ2,_,I2.swap hf (λ_ c=>by cases c) (λ_ c=>by cases c) (λ_ c=>by cases c) nf (dB.afi o2),q2⟩
 |cont=>obtain⟨_,_,_,z⟩:=hs;exact z.elim
 |brk=>obtain⟨_,_,_,z⟩:=hs;exact z.elim
 |ret v=>obtain⟨_,_,_,_,_,z⟩:=hs;exact z.elim
theorem afx:∀{ns:List Int} {kvs:List (Key×V)} {vs:List (Key×Value)},kvs.map (·.1)=ns.map nA->KV kvs vs->vs.map (·.1)=ns.map nA
 |_,_,_,e,.nil=>e
 |[],_,_,e,.cons _ _=>by cases e
 |n::ns,_,_,e,.cons r rr=>by
  rw[bG,bG]at e;injection e with e1 e2;rw[bG,bG,afx e2 rr,<-r.1,e1]
def ints_of{ns:List Int}{acc:List Value}(hl:acc.length=ns.length)(h:∀(j:Nat) (v:Value),acc[j]?=some v->∃n t,ns[j]?=some n/\v = .int n t):IntsAre acc ns:=by
 induction acc generalizing ns with
 |nil=>cases ns with|nil=>exact .nil|cons _ _=>cases hl
 |cons v acc ih=>
  cases ns with
  |nil=>cases hl
  |cons n ns=>
   obtain⟨m,t,e,rfl⟩:=h 0 v rfl;cases e;exact .cons _ t (ih (by simpa using hl) λj u hj=>h (j+1) u hj)
def apj(hc:X.calm=true):jU X (.builtin "sorted") (λvs H Q=>∃(a:Addr) (kvs:List (Key×V)) (ns:List Int),vs=[.ref a]/\H a=some (.dK kvs)/\kvs.map (·.1)=ns.map nA/\ns.length<64/\
  ∀(l':Addr) (ns':List Int),ns'.Perm ns->ns'.Pairwise (·<=·)->H l'=none->Q (.ref l') (upd H l' (.lst (ns'.map V.int)))):=by
 intro pins s σ H vs us Q I r h;obtain⟨a,kvs,ns,rfl,ha,hk,h64,q⟩:=h;obtain⟨u,rfl,ru⟩:=r.one;cases ru;obtain⟨z,y,ws,rel,o,es,ep,ho,hex,hd,hks,hps,hnd⟩:=(show dB X.prog X.w H s.heap a (.dK kvs)from I.hok a _ ha);have ew:=afx hk rel;have lw:ws.length=ns.length:=by have:=congrArg tH ew;simpa using this
 refine agt kind_sorted plain_sorted entry_sorted (args_sorted1 _) ?_;unfold Builtin.«sorted»;refine wpAny_bind (m:=checkCount "sorted" 1 1 _) (wpAny_pure ?_);refine wpAny_bind (W.kdu_collect (W.kdl_dict (knd:=gW X.prog X.w) (kvs:=ws) (ep:=ep) y) (by simpa using I.ok.hd hc) ⟨o,es,ho,hex,hd,hks,hps,hnd⟩ (by rw[sizeLine_eq];omega) λh1 tk acc keep hI=>?_);have hacc:IntsAre acc.toList ns:=ints_of (by rw[<-lw];simpa using hI.1) λj v hj=>by
  obtain⟨k,x,e1,e2⟩:=hI.2 j v (by simpa using hj);have e3:(ws.map (·.1))[j]?=some k:=by rw[List.getElem?_map,e1];rfl
  rw[ew,List.getElem?_map]at e3;cases e4:ns[j]? with
  |none=>rw[e4]at e3;cases e3
  |some n=>
   rw[e4]at e3;cases e3;obtain⟨t,rfl⟩:=(show RelV (.int n) v from abI (k:= .inl n) e2);exact⟨n,t,rfl,rfl⟩
 have hal:acc.toList.length=ns.length:=by rw[<-lw];simpa using hI.1
 have I1:Inv X pins σ H { s with heap:=h1,toks:=tk }:=I.kept (t':=tk) keep;refine wpAny_bind (wpAny_newList ?_ (by rw[sizeLine_eq];simp at hal ⊢;omega));have hoL:(h1.push (seqObj "list" acc.toList.toArray 0)).get? h1.objs.size=some (seqObj "list" acc.toList.toArray 0):=Heap.get?_push_size _ rfl;refine wpAny_bind (wpAny_holding (wpAny_call_entry slot_list_sort ⟨_,hoL,rfl⟩ entry_list_sort (list_sort_tree hoL hacc ⋯ λout ns' a1 a2 a3=>⟨_,rfl,?_⟩) (args_list_sort _)));obtain⟨e,he⟩:=sortedHeap_at (out:=out) hoL;have hz:(ns'.map V.int).length<=sizeLine:=by rw[aB,a2.length_eq,sizeLine_eq];omega
 have vi:∀{vs:List Value} {ns:List Int},IntsAre vs ns->Vals (ns.map V.int) vs:=λh=>by
  induction h with
  |nil=>exact .nil
  |cons n t _ ih=>exact .cons ⟨t,rfl⟩ ih
 exact wpAny_pure ⟨_,rfl,.ref _,_,I1.laid (t':=tk) (λb o q=>by
  have hb:=cW q;rw[sortedHeap_old (jJ hb) (by rw[size_push'];exact ZC hb)];exact Heap.get?_push_of_some _ q) (aN _) (show dB X.prog X.w _ _ _ (.lst (ns'.map V.int))from⟨hz,out.toList,e,vi a1,by simpa using he⟩),rfl,q _ ns' a2 a3 (I1.hok.fresh (aN _))⟩
end
section
variable {X:Cx}
def tFn(mg:Str->Option Value)(x:Str):TE:=λ_ H Q=>∀g,mg x=some (.ref g)->Q (.ref g) H
def arq{x:Str}{k:Nat}{ps:List Str}{sp:Sp}{pos:Pos}(C:iU X.prog X.w X.K X.mg X.base x k ps sp)(hg:Gl X x)(hd:(x==("__debug__" : Str))=false:=by decide):PE X (.Name x pos) (tFn X.mg x):=by
 obtain⟨g,gd,hm,_,_,_⟩:=C.ex;intro pins s σ H Q I h;exact VR (v:= .ref g) hg hm rfl hd pins s σ H Q I (h g hm)
def auV(mg:Str->Option Value)(x:Str)(sp:Sp)(tv:TE)(t:TA):TE:=λσ H Q=>tv σ H λv H1=>(∃g,mg x=some (.ref g)/\v = .ref g)/\t σ H1 λvs H2=>sp vs H2 Q E0
def ai4{mg:Str->Option Value}{x y:Str}{k k':Nat}{ps:List Str}{sp:Sp}{p pos:Pos}{e:Expr}{es:List Expr}{tv:TE}{t:TA}(C:iU X.prog X.w X.K mg X.base x k ps sp)(hr:dY k' X.A)(hv:PE X (.Name y p) tv)(ha:PA X (e::es) t)
  (hmg:X.mg=mg:=by rfl) (hk:k<=k':=by decide) (he:starEach (e::es) X.env=(false,eval e X.env)::starEach es X.env:=by rfl) (hpl:(backTo pos (starEach es X.env)).any (·.1)=false:=by rfl):PE X (.Call (.Name y p) (e::es) [] pos) (auV mg x sp tv t):=by
 subst hmg;obtain⟨g,gd,hm,hkp,hb,F⟩:=C.ex;intro pins s σ H Q I h;refine wpAny_Call_Name_kw (aW (hv pins s σ H _ I h) λu s1 ⟨v,H1,I1,r,⟨g',hm',ev⟩,q⟩=>?_);subst ev;obtain rfl:u=Value.ref g':=r;rw[hm]at hm';cases hm';refine W.callWith_K (h₀:=X.base) I1.ok.mod.Fi hkp (aW (ha pos pins s1 σ H1 _ I1 q) λus s2 ⟨vs,H2,I2,r2,q2⟩=>⟨I2.xW,?_⟩) he hpl;refine abr F (hr.mono hk) hb .nil ad6 I2 r2 ?_;rw[xu];exact q2
end
end L2
namespace Rm
def tk(b n:Int):Int:=if b=0 then n else n%b
def aY(n:Int):tk 0 n=n:=if_pos rfl
def jZ{b:Int}(h:b≠0)(n:Int):tk b n=n%b:=if_neg h
def gR(b n:Int):tk b (tk b n)=tk b n:=by
 unfold tk;split
 .rfl
 .exact nR _ (nZ b)
def jD(b x y:Int):tk b (tk b x+y)=tk b (x+y):=by
 unfold tk;split
 .rfl
 .exact Int.emod_add_emod ..
def wM(b x y:Int):tk b (x+tk b y)=tk b (x+y):=by
 rw[oJ,jD,oJ]
def dR(b x y:Int):tk b (x*tk b y)=tk b (x*y):=by
 unfold tk;split
 .rfl
 .rw[mU,nR _ (nZ b),<-mU]
def jH(b x y:Int):tk b (tk b x*y)=tk b (x*y):=by
 rw[cC,dR,cC]
def jx{b x x' y y':Int}(h:tk b x=tk b x')(h':tk b y=tk b y'):tk b (x+y)=tk b (x'+y'):=by
 rw[<-jD,<-wM,h,h',wM,jD]
def S(rule:List Int)(f:Nat->Int)(n:Nat):Nat->Int
 |0=>0
 |m+1=>S rule f n m+rule.getD m 0*f (n-1-m)
theorem Ve{rule:List Int}{f g:Nat->Int}{n:Nat}:∀{m:Nat},(∀k,k<m->f (n-1-k)=g (n-1-k))->S rule f n m=S rule g n m
 |0,_=>rfl
 |m+1,h=>by
  unfold S;rw[Ve λk hk=>h k ⋯,h m ⋯]
theorem getD_map{f:Int->Int}(h0:f 0=0):∀(l:List Int) (k:Nat),(l.map f).getD k 0=f (l.getD k 0)
 |[],k=>by simp[h0]
 |x::r,0=>by simp
 |x::r,k+1=>by
  have:=getD_map h0 r k;simpa using this
def row(b:Int)(rule starts:List Int):Nat->List Int
 |0=>[]
 |n+1=>row b rule starts n++[if n<starts.length then starts.getD n 0 else tk b (S rule (λi=>(row b rule starts n).getD i 0) n rule.length)]
theorem ud(b:Int)(rule starts:List Int):∀n,(row b rule starts n).length=n
 |0=>rfl
 |n+1=>by simp[row,ud b rule starts n]
def at_(b:Int)(rule starts:List Int)(n:Nat):Int:=(row b rule starts (n+1)).getD n 0
theorem abt(b:Int)(rule starts:List Int):∀{n i:Nat},i<n->(row b rule starts n).getD i 0=at_ b rule starts i
 |n+1,i,h=>by
  by_cases e:i=n
  .subst e;rfl
  .have hi:i<n:=⋯;have hl:=ud b rule starts n;have:=abt b rule starts (n:=n) (i:=i) hi;rw[<-this];show(row b rule starts n++_).getD i 0=_;rw[List.getD_eq_getElem?_getD,List.getElem?_append_left ⋯,<-List.getD_eq_getElem?_getD]
def FP(b:Int)(rule starts:List Int)(n:Nat):at_ b rule starts n=if n<starts.length then starts.getD n 0 else tk b (S rule (λi=>(row b rule starts n).getD i 0) n rule.length):=by
 unfold at_;have hl:=ud b rule starts n;show(row b rule starts n++_).getD n 0=_;rw[List.getD_eq_getElem?_getD,List.getElem?_append_right ⋯,hl];simp
def sS{b:Int}{rule starts:List Int}{n:Nat}(h:n<starts.length):at_ b rule starts n=starts.getD n 0:=by
 rw[FP,if_pos h]
def HZ{b:Int}{rule starts:List Int}{n:Nat}(hl:rule.length=starts.length)(h:starts.length<=n):at_ b rule starts n=tk b (S rule (at_ b rule starts) n rule.length):=by
 rw[FP,if_neg ⋯];congr 1;refine Ve λk hk=>abt b rule starts ⋯
theorem U5(b:Int)(rule starts:List Int):∀n,row b rule starts n=(fj n).map (at_ b rule starts)
 |0=>rfl
 |n+1=>by
  rw[Oj,fZ,<-U5 b rule starts n];show _++[_]=_++[at_ b rule starts n];rw[FP]
def ahh(b:Int)(rule starts:List Int)(n:Nat):row b rule starts (n+1)=row b rule starts n++[at_ b rule starts n]:=by
 rw[FP];rfl
def afp{b:Int}{rule starts:List Int}(hl:rule.length=starts.length){g:Nat->Int}(h1:∀i,i<starts.length->g i=starts.getD i 0)
  (h2:∀i,starts.length<=i->g i=tk b (S rule g i rule.length)):∀n,at_ b rule starts n=g n:=by
 intro n;induction n using rM with
 |ind n ih=>
  by_cases h:n<starts.length
  .rw[sS h,h1 n h]
  .rw[HZ hl ⋯,h2 n ⋯];congr 1;exact Ve λk hk=>ih _ ⋯
theorem Vs{b:Int}{rule starts:List Int}:∀{n:Nat},n<=starts.length->row b rule starts n=starts.take n
 |0,_=>by simp[row]
 |n+1,h=>by
  rw[ahh,Vs ⋯,sS ⋯,pL,List.getD_eq_getElem?_getD,List.getElem?_eq_getElem ⋯];rfl
def Bd(n:Nat)(x:Int):Prop:=x.natAbs<2^n
def Bd.mono{m n:Nat}{x:Int}(h:Bd m x)(hmn:m<=n):Bd n x:=jm h (wJ ∅ hmn)
def Bd.mul{m n:Nat}{x y:Int}(h:Bd m x)(h':Bd n y):Bd (m+n) (x*y):=by
 unfold Bd at *;rw[jX,Nat.pow_add];exact Nat.mul_lt_mul'' h h'
def Bd.add{n:Nat}{x y:Int}(h:Bd n x)(h':Bd n y):Bd (n+1) (x+y):=by
 unfold Bd at *;have:=Int.natAbs_add_le x y;rw[xV];omega
def Bd.zero(n:Nat):Bd n 0:=Nat.pow_pos ∅
def Bd.of{n:Nat}{x:Int}(h1:-(2^n)<x)(h2:x<2^n):Bd n x:=by
 unfold Bd;have e:((2^n:Nat):Int)=(2:Int)^n:=by simp
 omega
def Bd.emod{n:Nat}{x b:Int}(hb:0<b)(h:Bd n b):Bd n (x%b):=by
 unfold Bd at *;have:=qW x (show b≠0 by omega);have:=qR x hb;omega
theorem Bd.S{rule:List Int}{f:Nat->Int}{n a c:Nat}(hr:∀k,Bd a (rule.getD k 0)):∀m:Nat,(∀k,k<m->Bd c (f (n-1-k)))->Bd (a+c+m) (Rm.S rule f n m)
 |0,_=>Bd.zero _
 |m+1,h=>by
  unfold Rm.S;refine Bd.add (n:=a+c+m) (Bd.S hr m λk hk=>h k ⋯) (((hr m).mul (h m ⋯)).mono ⋯)
def anL(l:List Int)(k:Nat):l.getD k 0=0∨l.getD k 0∈l:=by
 by_cases h:k<l.length
 .right;rw[List.getD_eq_getElem?_getD,List.getElem?_eq_getElem h];exact wA h
 .left;rw[List.getD_eq_getElem?_getD,List.getElem?_eq_none ⋯];rfl
theorem Bd.getD{l:List Int}{n:Nat}(h:∀x∈l,Bd n x)(k:Nat):Bd n (l.getD k 0):=by
 rcases anL l k with e|e
 .rw[e];exact .zero n
 .exact h _ e
def pJ{b x:Int}{n:Nat}(hb:0<=b)(hb':Bd n b)(h:Bd n x):Bd n (tk b x):=by
 unfold tk;split
 .exact h
 .exact Bd.emod ⋯ hb'
def ac9{b:Int}{rule starts:List Int}{a c:Nat}(hl:rule.length=starts.length)(hb:0<=b)(hb':Bd c b)(hr:∀x∈rule,Bd a x)(hs:∀x∈starts,Bd c x):
  ∀n,Bd (c+n*(a+rule.length)) (at_ b rule starts n):=by
 intro n;induction n using rM with
 |ind n ih=>
  by_cases h:n<starts.length
  .rw[sS h];exact(Bd.getD hs n).mono ⋯
  .rw[HZ hl ⋯];by_cases h0:rule.length=0
   .rw[h0];exact pJ hb (hb'.mono ⋯) (.zero _)
   .have hn:0<n:=⋯;have q:=Bd.S (rule:=rule) (f:=at_ b rule starts) (n:=n) (a:=a) (c:=c+(n-1)*(a+rule.length)) (λk=>Bd.getD hr k) rule.length λk hk=>by
     refine(ih (n-1-k) ⋯).mono ?_;have:(n-1-k)*(a+rule.length)<=(n-1)*(a+rule.length):=qd _ ⋯;omega
    have e:n*(a+rule.length)=(n-1)*(a+rule.length)+(a+rule.length):=by
     obtain⟨m,rfl⟩:∃m,n=m+1:=⟨n-1,⋯⟩;rw[fR,sV]
    exact pJ hb (hb'.mono ⋯) (q.mono ⋯)
end Rm
namespace Om
def nj:List Nat:=[2,3,5,7,11,13,17,19,23,29,31,37,41,43,47,53,59,61,67,71,73,79,83,89,97,101,103,107,109,113,127,131,137,139,149,151,157,163,167,173,179,181,191,193,197,199,211,223,227,229,233,239,241,251,257,263,269,271,277,281,283,293,307,311,313,317,331,337,347,349,353,359,367,373,379,383,389,397,401,409,419,421,431,433,439,443,449,457,461,463,467,479,487,491,499,503,509,521,523,541,547,557,563,569,571,577,587,593,599,601,607,613,617,619,631,641,643,647,653,659,661,673,677,683,691,701,709,719,727,733,739,743,751,757,761,769,773,787,797,809,811,821,823,827,829,839,853,857,859,863,877,881,883,887,907,911,919,929,937,941,947,953,967,971,977,983,991,997]
def IL(p:Nat):Nat->Bool
 |0=>true
 |a+1=>(EG a 0||EG ((Nat.pow a (p-1))%p) 1)&&IL p a
set_option maxRecDepth 100000 in
def ax2:(nj.all λp=>IL p p)=true:=by decide +kernel
theorem XO{p:Nat}:∀{n:Nat},IL p n=true->∀a,a<n->a≠0->a^(p-1)%p=1
 |n+1,h,a,ha,h0=>by
  unfold IL at h;rw[rY]at h;by_cases e:a=n
  .subst e;have h1:=h.1;rw[uD]at h1;rcases h1 with h1|h1
   .exact absurd (R0 h1) h0
   .exact R0 h1
  .exact XO h.2 a ⋯ h0
def aiu{p a:Nat}(hp:p∈nj)(h0:a≠0)(h:a<p):a^(p-1)%p=1:=
 XO (mq.mp ax2 p hp) a h h0
def Df{p a:Int}{P:Nat}(hP:p=(P:Int))(hp:P∈nj)(h0:0<a)(h:a<p):a^(P-1)%p=1:=by
 obtain⟨n,rfl⟩:∃n:Nat,a=(n:Int):=⟨a.toNat,⋯⟩;subst hP;have:=aiu hp (a:=n) ⋯ ⋯;have e:((n:Int)^(P-1))=((n^(P-1):Nat):Int):=by simp
 rw[e,<-Br,this];rfl
def mod_mul{x y x' y' p:Int}(h:x%p=x'%p)(h':y%p=y'%p):(x*y)%p=(x'*y')%p:=by
 rw[mU,h,h',<-mU]
theorem QD{x x' p:Int}(h:x%p=x'%p):∀n:Nat,(x^n)%p=(x'^n)%p
 |0=>by simp
 |n+1=>by rw[jf,jf];exact mod_mul (QD h n) h
def Keeps(p a:Int)(e:Nat)(power square:Int)(left:Nat):Prop:=(power*square^left)%p=(a^e)%p
def ap0(p a:Int)(e:Nat):Keeps p a e 1 a e:=by unfold Keeps;rw[iG]
theorem Rq(x:Int):∀n:Nat,(x*x)^n=x^(2*n)
 |0=>by simp
 |n+1=>by
  rw[jf,Rq x n,show 2*(n+1)=2*n+1+1 by omega,jf,jf,bU]
def amV{p a:Int}{e:Nat}{power square:Int}{left:Nat}(h:Keeps p a e power square left)(ho:left%2=1):Keeps p a e (power*square%p) (square*square%p) (left/2):=by
 unfold Keeps at *;have h1:(power*square%p)%p=(power*square)%p:=nR _ (nZ p);have h2:=QD (p:=p) (x:=square*square%p) (x':=square*square) (nR _ (nZ p)) (left/2);rw[mod_mul h1 h2,<-h,Rq,bU];have e2:left=2*(left/2)+1:=⋯
 conv=>rhs;rw[e2,jf]
 rw[cC square]
def awR{p a:Int}{e:Nat}{power square:Int}{left:Nat}(h:Keeps p a e power square left)(ho:¬left%2=1):Keeps p a e power (square*square%p) (left/2):=by
 unfold Keeps at *;have h2:=QD (p:=p) (x:=square*square%p) (x':=square*square) (nR _ (nZ p)) (left/2);rw[mod_mul rfl h2,<-h,Rq];have e2:left=2*(left/2):=⋯
 conv=>rhs;rw[e2]
def ahC{p a:Int}{e:Nat}{power square:Int}(h:Keeps p a e power square 0):power%p=a^e%p:=by
 unfold Keeps at h
 rwa [sG,ju]at h
end Om
namespace Pm
open Rm
def sm:Nat->(Nat->Int)->Int
 |0,_=>0
 |n+1,f=>sm n f+f n
theorem aR{f g:Nat->Int}:∀{n:Nat},(∀k,k<n->f k=g k)->sm n f=sm n g
 |0,_=>rfl
 |n+1,h=>by rw[sm,sm,aR λk hk=>h k ⋯,h n ⋯]
theorem vK:∀n:Nat,sm n (λ_=>0)=0
 |0=>rfl
 |n+1=>by rw[sm,vK n];rfl
def jl{f:Nat->Int}{n:Nat}(h:∀k,k<n->f k=0):sm n f=0:=by rw[aR h,vK]
theorem oN(f:Nat->Int):∀n:Nat,sm (n+1) f=f 0+sm n (λi=>f (i+1))
 |0=>by simp[sm]
 |n+1=>by
  rw[sm,oN f n,sm,JK]
theorem iJ(f g:Nat->Int):∀n:Nat,sm n (λk=>f k+g k)=sm n f+sm n g
 |0=>rfl
 |n+1=>by rw[sm,sm,sm,iJ f g n];omega
theorem dF(c:Int)(f:Nat->Int):∀n:Nat,sm n (λk=>c*f k)=c*sm n f
 |0=>by simp[sm]
 |n+1=>by rw[sm,sm,dF c f n,gq]
theorem mK{f:Nat->Int}{m:Nat}:∀{n:Nat},m<=n->(∀k,m<=k->k<n->f k=0)->sm n f=sm m f
 |0,h,_=>by rw[show m=0 by omega]
 |n+1,h,h0=>by
  by_cases e:m=n+1
  .rw[e]
  .rw[sm,mK (n:=n) ⋯ (λk h1 h2=>h0 k h1 ⋯),h0 n ⋯ ⋯,dj]
def tk0(b:Int):tk b 0=0:=by unfold tk;split<;>simp
theorem iR{b:Int}{f g:Nat->Int}:∀{n:Nat},(∀k,k<n->tk b (f k)=tk b (g k))->tk b (sm n f)=tk b (sm n g)
 |0,_=>rfl
 |n+1,h=>by
  rw[sm,sm];exact jx (iR λk hk=>h k ⋯) (h n ⋯)
theorem acK(f:Nat->Int):∀n:Nat,((fj n).map f).sum=sm n f
 |0=>rfl
 |n+1=>by rw[Oj,fZ,CZ,acK f n];simp[sm]
def cv:(Nat->Int)->(Nat->Int)->Nat->Int
 |f,g,0=>f 0*g 0
 |f,g,k+1=>f 0*g (k+1)+cv (λi=>f (i+1)) g k
theorem fV:∀(f g:Nat->Int) (k:Nat),cv f g k=sm (k+1) (λj=>f j*g (k-j))
 |f,g,0=>by simp[cv,sm]
 |f,g,k+1=>by
  rw[cv,fV _ g k,oN (λj=>f j*g (k+1-j))];refine congrArg (_ + ·) (aR λj hj=>?_);rw[show k+1-(j+1)=k-j by omega]
theorem Rh:∀(f g:Nat->Int) (k:Nat),cv f g (k+1)=cv f (λi=>g (i+1)) k+f (k+1)*g 0
 |f,g,0=>rfl
 |f,g,k+1=>by
  rw[cv,Rh (λi=>f (i+1)) g k,cv,JK]
theorem jt:∀(f g:Nat->Int) (k:Nat),cv f g k=cv g f k
 |f,g,0=>cC _ _
 |f,g,k+1=>by
  rw[cv,Rh,jt (λi=>f (i+1)) g k,oJ,cC]
def qj{f f' g g':Nat->Int}{k:Nat}(h:∀i,i<=k->f i=f' i)(h':∀i,i<=k->g i=g' i):cv f g k=cv f' g' k:=by
 rw[fV,fV];exact aR λj hj=>by rw[h j ⋯,h' _ ⋯]
def iM{b:Int}{f f' g g':Nat->Int}{k:Nat}(h:∀i,i<=k->tk b (f i)=tk b (f' i))(h':∀i,i<=k->tk b (g i)=tk b (g' i)):tk b (cv f g k)=tk b (cv f' g' k):=by
 rw[fV,fV];exact iR λj hj=>by rw[<-jH,<-dR,h j ⋯,h' _ ⋯,dR,jH]
def mC(f f' g:Nat->Int)(k:Nat):cv (λi=>f i+f' i) g k=cv f g k+cv f' g k:=by
 rw[fV,fV,fV,<-iJ];exact aR λj _=>tU ..
def Vn(f g g':Nat->Int)(k:Nat):cv f (λi=>g i+g' i) k=cv f g k+cv f g' k:=by
 rw[jt,mC,jt,jt g']
def nO(c:Int)(f g:Nat->Int)(k:Nat):cv (λi=>c*f i) g k=c*cv f g k:=by
 rw[fV,fV,<-dF];exact aR λj _=>bU ..
theorem gP:∀(f g h:Nat->Int) (k:Nat),cv (cv f g) h k=cv f (cv g h) k
 |f,g,h,0=>by simp[cv,bU]
 |f,g,h,k+1=>by
  have e:(λi=>cv f g (i+1))=λi=>f 0*(λi=>g (i+1)) i+cv (λi=>f (i+1)) g i:=rfl;rw[cv,e,mC (λi=>f 0*(λi=>g (i+1)) i),nO,gP (λi=>f (i+1)) g h k,cv,cv,cv];rw[gq,bU];omega
def jR{f g:Nat->Int}{k:Nat}(h:∀i,i<=k->f i=0∨g (k-i)=0):cv f g k=0:=by
 rw[fV];exact jl λj hj=>by rcases h j ⋯ with e|e<;>rw[e]<;>simp
def co(p:List Int)(k:Nat):Int:=p.getD k 0
def fW(k:Nat):co [] k=0:=by simp[co]
def fQ(x:Int)(r:List Int):co (x::r) 0=x:=by simp[co]
def jE(x:Int)(r:List Int)(k:Nat):co (x::r) (k+1)=co r k:=by simp[co]
def aX{p:List Int}{k:Nat}(h:p.length<=k):co p k=0:=by
 rw[co,List.getD_eq_getElem?_getD,List.getElem?_eq_none h];rfl
def jo{p:List Int}{k:Nat}(h:k<p.length):co p k=p[k]:=by
 rw[co,List.getD_eq_getElem?_getD,List.getElem?_eq_getElem h];rfl
def tE{p:List Int}{k:Nat}(h:k<p.length):co p k∈p:=by rw[jo h];exact wA h
def aM(n:Nat)(f:Nat->Int):List Int:=(fj n).map f
def cA(n:Nat)(f:Nat->Int):(aM n f).length=n:=by simp[aM]
def cX(n:Nat)(f:Nat->Int)(k:Nat):co (aM n f) k=if k<n then f k else 0:=by
 by_cases h:k<n
 .rw[if_pos h,co,aM,List.getD_eq_getElem?_getD,List.getElem?_map,List.getElem?_range h];rfl
 .rw[if_neg h,aX (by rw[cA];omega)]
def Ux(n:Nat)(f:Nat->Int):aM (n+1) f=aM n f++[f n]:=by
 rw[aM,Oj,fZ];rfl
def KY(p:List Int):aM p.length (co p)=p:=by
 apply Wg (by rw[cA]);intro i h1 h2;simp only[aM,List.getElem_map,List.getElem_range];exact jo h2
def uQ{p q:List Int}(hl:p.length=q.length)(h:∀k,co p k=co q k):p=q:=by
 rw[<-KY p,<-KY q,hl];exact lJ λk _=>h k
def xg(p:List Int)(i:Nat)(x:Int)(k:Nat)(hi:i<p.length):co (p.set i x) k=if k=i then x else co p k:=by
 unfold co;rw[List.getD_eq_getElem?_getD,List.getElem?_set,List.getD_eq_getElem?_getD];by_cases e:i=k
 .subst e;simp[hi]
 .rw[if_neg e,if_neg (λz=>e z.symm)]
def lZ{f:Int->Int}(h:f 0=0)(p:List Int)(k:Nat):co (p.map f) k=f (co p k):=getD_map h p k
def oA(p q:List Int)(k:Nat):co (p++q) k=if k<p.length then co p k else co q (k-p.length):=by
 unfold co;by_cases h:k<p.length
 .rw[if_pos h,List.getD_eq_getElem?_getD,List.getElem?_append_left h,<-List.getD_eq_getElem?_getD]
 .rw[if_neg h,List.getD_eq_getElem?_getD,List.getElem?_append_right ⋯,<-List.getD_eq_getElem?_getD]
def trim:List Int->List Int
 |[]=>[]
 |x::r=>if x=0/\trim r=[]then[]else x::trim r
theorem j5:∀(p:List Int) (k:Nat),co (trim p) k=co p k
 |[],k=>rfl
 |x::r,k=>by
  rw[trim];have ih:=j5 r;by_cases h:x=0/\trim r=[]
  .rw[if_pos h];rw[h.2]at ih;cases k with
   |zero=>rw[fW,fQ,h.1]
   |succ k=>rw[jE,<-ih k,fW,fW]
  .rw[if_neg h];cases k with
   |zero=>rw[fQ,fQ]
   |succ k=>rw[jE,jE,ih k]
def KN{p:List Int}:trim p=[]↔∀k,co p k=0:=by
 constructor
 .intro h k;rw[<-j5,h,fW]
 .intro h;induction p with
  |nil=>rfl
  |cons x r ih=>
   rw[trim,if_pos ⟨by have:=h 0;rwa [fQ]at this,ih λk=>by have:=h (k+1);rwa [jE]at this⟩]
theorem wR:∀{p q:List Int},(∀k,co p k=co q k)->trim p=trim q
 |[],q,h=>by rw[show trim q=[]from KN.mpr λk=>by rw[<-h k,fW]];rfl
 |x::r,[],h=>by rw[show trim (x::r)=[]from KN.mpr λk=>by rw[h k,fW]];rfl
 |x::r,y::s,h=>by
  have e1:=h 0;rw[fQ,fQ]at e1;have e2:trim r=trim s:=wR λk=>by have:=h (k+1);rwa [jE,jE]at this
  rw[trim,trim,e1,e2]
def Lf(p:List Int):trim (trim p)=trim p:=wR (j5 p)
theorem uz:∀p:List Int,(trim p).length<=p.length
 |[]=>aN _
 |x::r=>by
  have:=uz r;rw[trim];split
  .simp
  .simp;omega
theorem Mu:∀{p:List Int} {n:Nat},(∀k,n<=k->co p k=0)->(trim p).length<=n
 |[],n,_=>cD _
 |x::r,0,h=>by rw[KN.mpr λk=>h k (cD _)];exact aN 0
 |x::r,n+1,h=>by
  have:=Mu (p:=r) (n:=n) λk hk=>by have:=h (k+1) ⋯;rwa [jE]at this
  rw[trim];split
  .simp
  .simp;omega
def YG(p:List Int):trim (p++[0])=trim p:=wR λk=>by
 rw[oA];by_cases h:k<p.length
 .rw[if_pos h]
 .rw[if_neg h,aX (p:=p) ⋯];cases k-p.length with
  |zero=>rfl
  |succ j=>rw[jE,fW]
theorem UU:∀(p:List Int) {x:Int},x≠0->trim (p++[x])=p++[x]
 |[],x,h=>by simp[trim,h]
 |y::r,x,h=>by
  show trim (y::(r++[x]))=_;rw[trim,UU r h,if_neg (by simp)];rfl
def MS{p:List Int}{x:Int}(h:x∈trim p):x∈p:=by
 induction p with
 |nil=>exact h
 |cons y r ih=>
  rw[trim]at h;split at h
  .cases h
  .rcases bJ.mp h with rfl|h
   .exact cV
   .exact cZ _ (ih h)
structure Py(b:Int)(p:List Int):Prop where
 tr:trim p=p
 nu:∀x∈p,tk b x=x
theorem Py.co{b:Int}{p:List Int}(h:Py b p)(k:Nat):tk b (co p k)=co p k:=by
 by_cases hk:k<p.length
 .exact h.nu _ (tE hk)
 .rw[aX ⋯,tk0]
def Py.ext{b:Int}{p q:List Int}(h:Py b p)(h':Py b q)(e:∀k,tk b (Pm.co p k)=tk b (Pm.co q k)):p=q:=by
 rw[<-h.tr,<-h'.tr];exact wR λk=>by rw[<-h.co k,<-h'.co k];exact e k
def Py.of{b:Int}{p:List Int}(h:∀x∈p,tk b x=x):Py b (trim p):=⟨Lf p,λx hx=>h x (MS hx)⟩
def Py.nil(b:Int):Py b []:=⟨rfl,λ_ h=>nomatch h⟩
def vU{n:Nat}{f:Nat->Int}{x:Int}(h:x∈aM n f):∃k,k<n/\x=f k:=by
 obtain⟨k,hk,e⟩:=bY.mp h;exact⟨k,iT.mp hk,e.symm⟩
theorem Py.aM(b:Int)(n:Nat)(f:Nat->Int):Py b (trim (Pm.aM n λk=>tk b (f k))):=Py.of λx hx=>by
 obtain⟨k,_,rfl⟩:=vU hx;exact gR ..
def add(b:Int)(p q:List Int):List Int:=trim (aM (max p.length q.length) λk=>tk b (co p k+co q k))
def mul(b:Int)(p q:List Int):List Int:=trim (aM (p.length+q.length) λk=>tk b (cv (co p) (co q) k))
def FD(b:Int)(p q:List Int):Py b (add b p q):=Py.aM ..
def qm(b:Int)(p q:List Int):Py b (mul b p q):=Py.aM ..
def yc(b:Int)(p q:List Int)(k:Nat):co (add b p q) k=tk b (co p k+co q k):=by
 rw[add,j5,cX];split
 .rfl
 .rw[aX (p:=p) ⋯,aX (p:=q) ⋯,dj,tk0]
def jL(b:Int)(p q:List Int)(k:Nat):co (mul b p q) k=tk b (cv (co p) (co q) k):=by
 rw[mul,j5,cX];split
 .rfl
 .rw[jR,tk0];intro i hi;by_cases h:i<p.length
  .exact .inr (aX ⋯)
  .exact .inl (aX ⋯)
theorem add_comm(b:Int)(p q:List Int):add b p q=add b q p:=(FD ..).ext (FD ..) λk=>by rw[yc,yc,oJ]
def mul_comm(b:Int)(p q:List Int):mul b p q=mul b q p:=(qm ..).ext (qm ..) λk=>by rw[jL,jL,jt]
def mul_one{b:Int}{p:List Int}(h:Py b p):mul b p [1]=p:=(qm ..).ext h λk=>by
 rw[jL,gR];congr 1;rw[jt,fV,mK (m:=1) ⋯ λj h1 _=>by
  rw[show co [1] j=0 from aX (by simpa using h1),gb]]
 simp[sm,fQ]
def nil_add{b:Int}{p:List Int}(h:Py b p):add b [] p=p:=(FD ..).ext h λk=>by
 rw[yc,fW,gY,gR]
def W(f g:Nat->Int)(i k c:Nat):Int:=sm i (λj=>if j<=c then f j*g (c-j)else 0)+(if i<=c/\c-i<k then f i*g (c-i)else 0)
def ab6(f g:Nat->Int)(c:Nat):W f g 0 0 c=0:=by simp[W,sm]
def aas{f g:Nat->Int}{i k c:Nat}:W f g i (k+1) c=W f g i k c+(if c=i+k then f i*g k else 0):=by
 unfold W;by_cases h:c=i+k
 .rw[if_pos h,if_pos ⋯,if_neg ⋯,show c-i=k by omega];omega
 .rw[if_neg h];by_cases h2:i<=c/\c-i<k
  .rw[if_pos h2,if_pos ⋯];omega
  .rw[if_neg h2,if_neg ⋯];omega
def aeY{f g:Nat->Int}{i n c:Nat}(hg:∀k,n<=k->g k=0):W f g i n c=W f g (i+1) 0 c:=by
 unfold W;rw[sm,if_neg (show ¬(i+1<=c/\c-(i+1)<0)by omega)];by_cases h:i<=c
 .rw[if_pos h];by_cases h2:c-i<n
  .rw[if_pos ⟨h,h2⟩];omega
  .rw[if_neg ⋯,hg _ ⋯,aP];omega
 .rw[if_neg ⋯,if_neg h];omega
def Jo{f g:Nat->Int}{m c:Nat}(hf:∀k,m<=k->f k=0):W f g m 0 c=cv f g c:=by
 unfold W;rw[if_neg ⋯,dj,fV];by_cases h:m<=c+1
 .rw[mK (n:=c+1) h λk h1 _=>by rw[hf k h1,gb]];exact aR λj hj=>if_pos ⋯
 .rw[mK (m:=c+1) (n:=m) ⋯ λk h1 _=>if_neg ⋯];exact aR λj hj=>if_pos ⋯
end Pm
namespace Pm
open Rm
theorem Di(F:Nat->Nat->Int)(m:Nat):∀n:Nat,sm m (λk=>sm n (λj=>F k j))=sm n (λj=>sm m (λk=>F k j))
 |0=>by simp only[sm];exact vK m
 |n+1=>by
  simp only[sm];rw[iJ,Di F m n]
theorem zV(rule:List Int)(f:Nat->Int)(n:Nat):∀m:Nat,S rule f n m=sm m (λk=>co rule k*f (n-1-k))
 |0=>rfl
 |m+1=>by rw[S,sm,zV rule f n m];rfl
def ks(p:List Int)(a:Nat->Int)(n:Nat):Int:=sm p.length (λk=>co p k*a (n+k))
def aoT{b:Int}{rule p:List Int}{a:Nat->Int}(ha:∀n,rule.length<=n->tk b (a n)=tk b (S rule a n rule.length)){n:Nat}(hn:rule.length<=n):
  tk b (ks p a n)=tk b (S rule (ks p a) n rule.length):=by
 have e1:tk b (ks p a n)=tk b (sm p.length (λk=>co p k*sm rule.length (λj=>co rule j*a (n+k-1-j)))):=by
  refine iR λk _=>?_;rw[<-dR,ha (n+k) ⋯,dR,zV]
 rw[e1,zV];congr 1;have e2:(λk=>co p k*sm rule.length (λj=>co rule j*a (n+k-1-j)))=λk=>sm rule.length (λj=>co rule j*(co p k*a (n+k-1-j))):=by
  funext k
  rw[<-dF];exact aR λj _=>eZ ..
 rw[e2,Di];refine aR λj hj=>?_;rw[dF];congr 1;refine aR λk _=>?_;rw[show n-1-j+k=n+k-1-j by omega]
def LR{b:Int}{rule p:List Int}{a:Nat->Int}(ha:∀n,rule.length<=n->tk b (a n)=tk b (S rule a n rule.length))(h0:∀n,n<rule.length->tk b (ks p a n)=0):
  ∀n,tk b (ks p a n)=0:=by
 intro n;induction n using rM with
 |ind n ih=>
  by_cases h:n<rule.length
  .exact h0 n h
  .rw[aoT ha ⋯,zV];have:tk b (sm rule.length λk=>co rule k*ks p a (n-1-k))=tk b (sm rule.length λ_=>0):=iR λk hk=>by
    rw[<-dR,ih (n-1-k) ⋯,aP]
   rw[this,vK,tk0]
def aV(b:Int)(c:List Int):List Int:=aM c.length (λk=>tk b (0-co c (c.length-1-k)))++[1]
def fO(b:Int)(p:List Int):List Int:=aM (p.length-1) (λk=>tk b (0-co p (p.length-1-1-k)))
def kI(b:Int)(c:List Int):(aV b c).length=c.length+1:=by simp[aV,cA]
def XY(b x:Int):tk b (0-tk b (0-x))=tk b x:=by
 have h:tk b (tk b (0-x)+(0-tk b (0-x)))=tk b ((0-x)+(0-tk b (0-x))):=jD ..;have e1:tk b (0-x)+(0-tk b (0-x))=0:=⋯;rw[e1]at h;have h2:tk b (tk b (0-tk b (0-x))+(0-x))=tk b 0:=by rw[jD,oJ];exact h.symm
 have h3:tk b (tk b (0-tk b (0-x)))=tk b x:=by
  have:=jx h2 (rfl:tk b x=tk b x);rw[show tk b (0-tk b (0-x))+(0-x)+x=tk b (0-tk b (0-x))by omega,gY]at this;exact this
 rwa [gR]at h3
def PD{b:Int}{rule starts:List Int}(hl:rule.length=starts.length):∀n,rule.length<=n->tk b (at_ b rule starts n)=tk b (S rule (at_ b rule starts) n rule.length):=λn hn=>by
 rw[HZ hl ⋯,gR]
theorem zQ{f:Nat->Int}{c:Nat}:∀n:Nat,(∀k,k<n->Bd c (f k))->Bd (c+n) (sm n f)
 |0,_=>Bd.zero _
 |n+1,h=>by
  rw[sm];exact Bd.add (n:=c+n) (zQ n λk hk=>h k ⋯) ((h n ⋯).mono ⋯)
def jA{p:List Int}{u:Nat}(h:∀x∈p,Bd u x)(k:Nat):Bd u (co p k):=Bd.getD h k
def avx{p q:List Int}{u v:Nat}(h:∀x∈p,Bd u x)(h':∀x∈q,Bd v x)(k:Nat):Bd (u+v+p.length) (cv (co p) (co q) k):=by
 rw[<-Jo (m:=p.length) λj hj=>aX hj,W,if_neg ⋯,dj];refine zQ _ λj _=>?_;split
 .exact(jA h j).mul (jA h' _)
 .exact Bd.zero _
def awq{b:Int}{p q:List Int}{u v:Nat}(hb:0<=b)(hb1:b<1000)(hu:10<=u)(h:∀x∈p,Bd u x)(h':∀x∈q,Bd v x):∀x∈mul b p q,Bd (u+v+p.length) x:=by
 intro x hx;obtain⟨k,_,rfl⟩:=vU (MS hx);refine pJ hb ?_ (avx h h' k);exact(Bd.of (n:=10) ⋯ ⋯).mono ⋯
def aaT{b:Int}{c:List Int}{u:Nat}(hb:0<=b)(hb1:b<1000)(hu:10<=u)(h:∀x∈c,Bd u x):∀x∈aV b c,Bd u x:=by
 intro x hx;rcases fP.mp hx with hx|hx
 .obtain⟨k,_,rfl⟩:=vU hx;refine pJ hb ((Bd.of (n:=10) ⋯ ⋯).mono ⋯) ?_;have:=jA h (c.length-1-k);unfold Bd at this⊢;rw[lY,yD];exact this
 .rw[eE.mp hx];exact(Bd.of (n:=10) ∅ ∅).mono hu
end Pm
namespace Pm
open Rm
theorem lV(x:Int)(j:Nat):∀n:Nat,sm n (λi=>if i=j then x else 0)=if j<n then x else 0
 |0=>by simp[sm]
 |n+1=>by
  rw[sm,lV x j n];by_cases h:n=j
  .rw[if_pos h,if_neg ⋯,if_pos ⋯];omega
  .rw[if_neg h];by_cases h2:j<n
   .rw[if_pos h2,if_pos ⋯];omega
   .rw[if_neg h2,if_neg ⋯];omega
def mW{b x y:Int}:tk b (x-y)=0↔tk b x=tk b y:=by
 constructor
 .intro h;have:=jx (b:=b) (x:=x-y) (x':=0) (y:=y) (y':=y) (by rw[h,tk0]) rfl
  rwa [show x-y+y=x by omega,gY]at this
 .intro h;have:=jx (b:=b) (x:=x) (x':=y) (y:=-y) (y':=-y) h rfl;rw[show x + -y=x-y by omega,show y + -y=0 by omega,tk0]at this;exact this
def BL(f:Int)(s:Nat)(g:Nat->Int)(k:Nat):cv (λi=>if i=s then f else 0) g k=if s<=k then f*g (k-s)else 0:=by
 rw[fV];have e:sm (k+1) (λj=>(if j=s then f else 0)*g (k-j))=sm (k+1) (λj=>if j=s then f*g (k-s)else 0):=aR λj _=>by
  by_cases h:j=s
  .rw[if_pos h,if_pos h,h]
  .rw[if_neg h,if_neg h,gb]
 rw[e,lV];by_cases h:s<=k
 .rw[if_pos h,if_pos ⋯]
 .rw[if_neg h,if_neg ⋯]
structure Mon(m:List Int):Prop where
 pos:0<m.length
 one:co m (m.length-1)=1
structure Div(b:Int)(p m q r:List Int):Prop where
 qy:Py b q
 ry:Py b r
 short:r.length<m.length
 eq:∀k,tk b (cv (co q) (co m) k+co r k)=tk b (co p k)
def Div.uniq{b:Int}{p m q r q' r':List Int}(hm:Mon m)(h:Div b p m q r)(h':Div b p m q' r'):q=q'/\r=r':=by
 have hp:=hm.pos;have e1:∀k,tk b (cv (λi=>co q i-co q' i) (co m) k+(co r k-co r' k))=0:=by
  intro k;have e2:cv (λi=>co q i-co q' i) (co m) k=cv (co q) (co m) k-cv (co q') (co m) k:=by
   have:=mC (co q) (λi=>-1*co q' i) (co m) k;rw[nO]at this;have e3:(λi=>co q i + -1*co q' i)=λi=>co q i-co q' i:=by funext i;omega
   rw[e3]at this;omega
  rw[e2,show cv (co q) (co m) k-cv (co q') (co m) k+(co r k-co r' k)=(cv (co q) (co m) k+co r k)-(cv (co q') (co m) k+co r' k)by omega,mW,h.eq,h'.eq]
 have e4:∀d j,q.length+q'.length<=j+d->tk b (co q j-co q' j)=0:=by
  intro d;induction d with
  |zero=>intro j hj;rw[aX ⋯,aX ⋯];exact tk0 b
  |succ d ih=>
   intro j hj;have e5:=e1 (j+(m.length-1));have hs:=h.short;have hs':=h'.short;rw[aX (p:=r) ⋯,aX (p:=r') ⋯,DX,dj,fV]at e5;rw[<-e5];have e6:tk b (sm (j+(m.length-1)+1) λi=>(co q i-co q' i)*co m (j+(m.length-1)-i))=tk b (sm (j+(m.length-1)+1) λi=>if i=j then co q j-co q' j else 0):=iR λi hi=>by
    by_cases c:i=j
    .rw[if_pos c,c,show j+(m.length-1)-j=m.length-1 by omega,hm.one,ju]
    .rw[if_neg c];by_cases c2:i<j
     .rw[aX (p:=m) ⋯,aP]
     .rw[<-jH,ih i ⋯,gb]
   rw[e6,lV,if_pos ⋯]
 have eq:q=q':=h.qy.ext h'.qy λk=>mW.mp (e4 (q.length+q'.length) k ⋯);refine⟨eq,h.ry.ext h'.ry λk=>?_⟩;have e7:=e1 k;rw[eq]at e7;have e8:(λi=>co q' i-co q' i)=λ_=>0:=by funext i;omega
 rw[e8,jR (λ_ _=> .inl rfl),gY]at e7;exact mW.mp e7
def Div.back{b:Int}{p m q r:List Int}(hp:Py b p)(h:Div b p m q r):add b (mul b q m) r=p:=(FD ..).ext hp λk=>by
 rw[yc,jL,gR,jD];exact h.eq k
structure pZ(b:Int)(p m:List Int)(s:Nat)(o l:List Int):Prop where
 eq:∀k,tk b (cv (co o) (co m) k+co l k)=tk b (co p k)
 zero:∀k,s+(m.length-1)<=k->co l k=0
 low:∀k,k<s->co o k=0
 ol:o.length=p.length-(m.length-1)
 ll:l.length=p.length
 on:∀k,tk b (co o k)=co o k
 ln:∀k,tk b (co l k)=co l k
def pZ.start{b:Int}{p m:List Int}(hp:∀k,tk b (co p k)=co p k):pZ b p m (p.length-(m.length-1)) (aM (p.length-(m.length-1)) λ_=>0) p:=by
 have z:∀k,co (aM (p.length-(m.length-1)) λ_=>0) k=0:=λk=>by rw[cX];split<;>rfl
 exact⟨λk=>by rw[jR λi _=> .inl (z i),gY],λk hk=>aX ⋯,λk _=>z k,cA _ _,rfl,λk=>by rw[z,tk0],hp⟩
def lf(b f:Int)(s t:Nat)(l m:List Int)(k:Nat):Int:=if s<=k/\k<s+t then tk b (co l k-f*co m (k-s))else co l k
def aiH(b f:Int)(s:Nat)(l m:List Int)(k:Nat):lf b f s 0 l m k=co l k:=if_neg ⋯
def akX(b f:Int)(s t:Nat)(l m:List Int)(k:Nat):lf b f s (t+1) l m k=if k=s+t then tk b (lf b f s t l m k-f*co m t)else lf b f s t l m k:=by
 unfold lf;by_cases h:k=s+t
 .rw[if_pos h,if_pos ⋯,if_neg ⋯,show k-s=t by omega]
 .rw[if_neg h];by_cases h2:s<=k/\k<s+t
  .rw[if_pos h2,if_pos ⋯]
  .rw[if_neg h2,if_neg ⋯]
def atH{b f:Int}{s:Nat}{l m:List Int}(hl:∀k,tk b (co l k)=co l k)(k:Nat):lf b f s m.length l m k=tk b (co l k-(if s<=k then f*co m (k-s)else 0)):=by
 unfold lf;by_cases h:s<=k
 .rw[if_pos h];by_cases h2:k<s+m.length
  .rw[if_pos ⟨h,h2⟩]
  .rw[if_neg ⋯,aX (p:=m) ⋯,aP,DX,hl]
 .rw[if_neg ⋯,if_neg h,DX,hl]
def pZ.step{b:Int}{p m o l l':List Int}{s:Nat}(hm:Mon m)(h:pZ b p m (s+1) o l)(hs:s<p.length-(m.length-1))(hl:l'.length=l.length)(e:∀k,co l' k=lf b (co l (s+(m.length-1))) s m.length l m k):
  pZ b p m s (o.set s (co l (s+(m.length-1)))) l':=by
 have hp:=hm.pos;have ho:=h.ol;have eo:co (o.set s (co l (s+(m.length-1))))=λk=>co o k+(if k=s then co l (s+(m.length-1))else 0):=by
  funext k
  rw[xg _ _ _ _ ⋯];by_cases c:k=s
  .rw[if_pos c,if_pos c,c,h.low s ⋯,gY]
  .rw[if_neg c,if_neg c,dj]
 have el:∀k,co l' k=tk b (co l k-(if s<=k then co l (s+(m.length-1))*co m (k-s)else 0)):=λk=>by rw[e,atH h.ln]
 refine⟨λk=>?_,λk hk=>?_,λk hk=>?_,by rw[nW,ho],by rw[hl,h.ll],λk=>?_,λk=>by rw[el,gR]⟩
 .rw[eo,mC (co o),BL,el,wM,<-h.eq k];congr 1;omega
 .rw[el,if_pos ⋯];by_cases c:k=s+(m.length-1)
  .rw[c,show s+(m.length-1)-s=m.length-1 by omega,hm.one,ju,W3,tk0]
  .rw[h.zero k ⋯,aX (p:=m) ⋯,aP,DX,tk0]
 .rw[eo];simp only;rw[h.low k ⋯,if_neg ⋯,dj]
 .rw[xg _ _ _ _ ⋯];split
  .exact h.ln _
  .exact h.on _
def pZ.stop{b:Int}{p m o l:List Int}(hm:Mon m)(h:pZ b p m 0 o l):Div b p m (trim o) (trim l):=by
 have hp:=hm.pos;have y:∀{x:List Int},(∀k,tk b (co x k)=co x k)->Py b (trim x):=λhx=>Py.of λz hz=>by
  obtain⟨k,hk,e⟩:=jq.mp hz;rw[<-e,<-jo hk];exact hx k
 refine⟨y h.on,y h.ln,?_,λk=>?_⟩
 .have:=Mu (p:=l) (n:=m.length-1) λk hk=>h.zero k ⋯;omega
 .rw[j5,<-h.eq k];congr 2;exact qj (λi _=>j5 _ _) (λ_ _=>rfl)
end Pm
namespace Pm
open Rm
theorem Y7(g:Nat->Int)(j:Nat):∀m:Nat,sm (j+m) (λk=>if j<=k then g (k-j)else 0)=sm m g
 |0=>by
  rw[NW];exact jl λk hk=>if_neg ⋯
 |m+1=>by
  rw[<-acD,sm,sm,Y7 g j m,if_pos ⋯,CV]
def vP(p:List Int)(a:Nat->Int)(n:Nat){N:Nat}(h:p.length<=N):sm N (λk=>co p k*a (n+k))=ks p a n:=
 mK h λk h1 _=>by rw[aX h1,gb]
def VL{b:Int}{p q:List Int}{a:Nat->Int}(h:∀k,tk b (co p k)=tk b (co q k))(n:Nat):tk b (ks p a n)=tk b (ks q a n):=by
 rw[<-vP p a n (acj p.length q.length),<-vP q a n (Yb p.length q.length)];exact iR λk _=>by rw[<-jH,h k,jH]
def aqb{b:Int}(p q:List Int)(a:Nat->Int)(n:Nat):tk b (ks (add b p q) a n)=tk b (ks p a n+ks q a n):=by
 have hl:(add b p q).length<=max p.length q.length:=by
  have:=uz (aM (max p.length q.length) λk=>tk b (co p k+co q k))
  rwa [cA]at this
 rw[<-vP _ a n hl,<-vP p a n (acj p.length q.length),<-vP q a n (Yb p.length q.length),<-iJ];exact iR λk _=>by rw[yc,jH,tU]
def aev{b:Int}(p q:List Int)(a:Nat->Int)(n:Nat):tk b (ks (mul b p q) a n)=tk b (ks p (ks q a) n):=by
 have hl:(mul b p q).length<=p.length+q.length:=by
  have:=uz (aM (p.length+q.length) λk=>tk b (cv (co p) (co q) k))
  rwa [cA]at this
 rw[<-vP _ a n hl];have e1:tk b (sm (p.length+q.length) λk=>co (mul b p q) k*a (n+k))=tk b (sm (p.length+q.length) λk=>sm p.length λj=>co p j*(if j<=k then co q (k-j)*a (n+k)else 0)):=iR λk _=>by
  rw[jL,jH,<-Jo (m:=p.length) λj hj=>aX hj,W,if_neg ⋯,dj,cC,<-dF];congr 1;refine aR λj _=>?_;by_cases h:j<=k
  .rw[if_pos h,if_pos h,cC,bU]
  .rw[if_neg h,if_neg h,aP,aP]
 rw[e1,Di];congr 1;refine aR λj hj=>?_;rw[dF];congr 1;have e2:(λk=>if j<=k then co q (k-j)*a (n+k)else 0)=λk=>if j<=k then(λi=>co q i*a (n+j+i)) (k-j)else 0:=by
  funext k
  by_cases h:j<=k
  .rw[if_pos h,if_pos h];show _=co q (k-j)*a (n+j+(k-j));rw[show n+j+(k-j)=n+k by omega]
  .rw[if_neg h,if_neg h]
 rw[e2,show p.length+q.length=j+(p.length-j+q.length)by omega];refine(Y7 (λi=>co q i*a (n+j+i)) j _).trans ?_;exact vP q a (n+j) ⋯
def ax1{b:Int}{p:List Int}{a:Nat->Int}(h:∀n,tk b (a n)=0)(n:Nat):tk b (ks p a n)=0:=by
 have:tk b (ks p a n)=tk b (sm p.length λ_=>0):=iR λk _=>by rw[<-dR,h,aP]
 rw[this,vK,tk0]
def Kp(b:Int)(p:List Int)(a:Nat->Int):Prop:=∀n,tk b (ks p a n)=0
def Kp.Ho{b:Int}{q:List Int}{a:Nat->Int}(h:Kp b q a)(p:List Int):Kp b (mul b p q) a:=λn=>by rw[aev];exact ax1 h n
def Kp.ayH{b:Int}{q:List Int}{a:Nat->Int}(h:Kp b q a)(p:List Int):Kp b (mul b q p) a:=by rw[mul_comm];exact h.Ho p
def Kp.congr{b:Int}{p q:List Int}{a:Nat->Int}(e:∀k,tk b (co p k)=tk b (co q k))(h:Kp b p a):Kp b q a:=λn=>by rw[<-VL e];exact h n
theorem Kp.aV{b:Int}{rule:List Int}{a:Nat->Int}(ha:∀n,rule.length<=n->tk b (a n)=tk b (S rule a n rule.length)):Kp b (aV b rule) a:=λn=>by
 unfold ks;rw[kI,sm];have e1:co (Pm.aV b rule) rule.length=1:=by
  rw[Pm.aV,oA,cA,if_neg ⋯,rT];rfl
 have e2:tk b (sm rule.length λk=>co (Pm.aV b rule) k*a (n+k))=tk b (sm rule.length λk=>-1*(co rule (rule.length-1-k)*a (n+k))):=iR λk hk=>by
  rw[Pm.aV,oA,cA,if_pos hk,cX,if_pos hk,jH,lY,gO,zF]
 have e3:S rule a (n+rule.length) rule.length=sm rule.length λk=>co rule (rule.length-1-k)*a (n+k):=by
  rw[zV];have rev:∀(m:Nat) (f:Nat->Int),sm m f=sm m λk=>f (m-1-k):=by
   intro m;induction m with
   |zero=>intro f;rfl
   |succ m ih=>
    intro f;rw[oN,sm,ih λi=>f (i+1),oJ];have:m+1-1-m=0:=⋯;rw[this];congr 1;exact aR λk hk=>by rw[show m-1-k+1=m+1-1-k by omega]
  rw[rev];exact aR λk hk=>by rw[show n+rule.length-1-(rule.length-1-k)=n+k by omega]
 rw[e1,iG,<-jD,e2,jD,dF,<-e3,<-wM,ha (n+rule.length) ⋯,wM,zF,Int.add_left_neg,tk0]
def Div.kp{b:Int}{p m q r:List Int}{a:Nat->Int}(h:Div b p m q r)(hm:Kp b m a):Kp b p a↔Kp b r a:=by
 have e:∀n,tk b (ks p a n)=tk b (ks r a n):=λn=>by
  have e1:∀k,tk b (co (Pm.add b (mul b q m) r) k)=tk b (co p k):=λk=>by rw[yc,jL,gR,jD];exact h.eq k
  rw[<-VL e1,aqb,<-jD,hm.Ho q n,gY]
 exact⟨λz n=>by rw[<-e];exact z n,λz n=>by rw[e];exact z n⟩
def dO(b:Int)(p q x:List Int):Prop:=∃u v,∀k,tk b (co x k)=tk b (cv (co u) (co p) k+cv (co v) (co q) k)
def axI(p q:List Int)(k:Nat):co (add 0 p q) k=co p k+co q k:=by rw[yc,aY]
def Jt(p q:List Int)(k:Nat):co (mul 0 p q) k=cv (co p) (co q) k:=by rw[jL,aY]
def dO.left(b:Int)(p q:List Int):dO b p q p:=⟨[1],[],λk=>by
 rw[jR (f:=co []) λi _=> .inl (fW _),dj,fV,mK (m:=1) ⋯ λj h1 _=>by rw[show co [1] j=0 from aX (by simpa using h1),gb]];simp[sm,fQ]⟩
def dO.swap{b:Int}{p q x:List Int}(h:dO b p q x):dO b q p x:=by
 obtain⟨u,v,e⟩:=h;exact⟨v,u,λk=>by rw[e,oJ]⟩
def dO.trans{b:Int}{p q g s x:List Int}(hg:dO b p q g)(hs:dO b p q s)(h:dO b g s x):dO b p q x:=by
 obtain⟨a,c,eg⟩:=hg;obtain⟨a',c',es⟩:=hs;obtain⟨u,v,e⟩:=h;refine⟨add 0 (mul 0 u a) (mul 0 v a'),add 0 (mul 0 u c) (mul 0 v c'),λk=>?_⟩;have e1:tk b (cv (co u) (co g) k)=tk b (cv (co u) (λi=>cv (co a) (co p) i+cv (co c) (co q) i) k):=iM (λ_ _=>rfl) λi _=>eg i;have e2:tk b (cv (co v) (co s) k)=tk b (cv (co v) (λi=>cv (co a') (co p) i+cv (co c') (co q) i) k):=iM (λ_ _=>rfl) λi _=>es i;rw[e,jx e1 e2];congr 1;have f1:∀y z:List Int,co (add 0 (mul 0 u y) (mul 0 v z))=λi=>cv (co u) (co y) i+cv (co v) (co z) i:=λy z=>by
  funext i;rw[axI,Jt,Jt]
 rw[f1,f1,mC (cv (co u) (co a)),mC (cv (co u) (co c)),Vn,Vn,gP,gP,gP,gP];omega
def Div.in1{b:Int}{p m q r:List Int}(h:Div b p m q r):dO b m r p:=by
 refine⟨q,[1],λk=>?_⟩;obtain⟨u,v,e⟩:=dO.left b r [];rw[<-h.eq k];have:cv (co [1]) (co r) k=co r k:=by
  rw[fV,mK (m:=1) ⋯ λj h1 _=>by rw[show co [1] j=0 from aX (by simpa using h1),gb]];simp[sm,fQ]
 rw[this]
def Div.in2{b:Int}{p m q r:List Int}(h:Div b p m q r):dO b p m r:=by
 refine⟨[1],q.map (-1 * ·),λk=>?_⟩;have e1:cv (co [1]) (co p) k=co p k:=by
  rw[fV,mK (m:=1) ⋯ λj h1 _=>by rw[show co [1] j=0 from aX (by simpa using h1),gb]];simp[sm,fQ]
 have e2:co (q.map (-1 * ·))=λi=>-1*co q i:=by funext i;rw[lZ (by simp)]
 rw[e1,e2,nO];have:=jx (h.eq k) (rfl:tk b (-1*cv (co q) (co m) k)=tk b (-1*cv (co q) (co m) k));rw[<-this];congr 1;omega
structure Gcd(b:Int)(p q g:List Int):Prop where
 py:Py b g
 mon:Mon g
 sum:dO b p q g
 one:dO b g [] p
 two:dO b g [] q
def dO.dv{b:Int}{g p:List Int}(h:dO b g [] p):∃u,∀k,tk b (co p k)=tk b (cv (co u) (co g) k):=by
 obtain⟨u,v,e⟩:=h;exact⟨u,λk=>by rw[e,jR (g:=co []) λi _=> .inr (fW _),dj]⟩
end Pm
namespace Pm
open Rm
def Le{p:List Int}(h:p≠[]):p=p.dropLast++[co p (p.length-1)]:=by
 have hp:0<p.length:=AF.mpr h
 conv=>lhs;rw[<-List.dropLast_concat_getLast h]
 congr 2;rw[jo ⋯,List.getLast_eq_getElem]
def vR{p:List Int}(h:p≠[])(h0:co p (p.length-1)≠0):trim p=p:=by
 have e:=Le h;rw[e,UU _ h0]
def rW{p:List Int}(h:p≠[])(ht:trim p=p):co p (p.length-1)≠0:=by
 intro z;have e:=Le h;rw[z]at e;have e2:trim p=trim p.dropLast:=by
  conv=>lhs;rw[e]
  exact YG _
 have:=uz p.dropLast;rw[<-e2,ht,vB]at this;have hp:0<p.length:=AF.mpr h;omega
structure uH(b:Int)(p m:List Int):Prop where
 py:Py b m
 len:m.length=p.length
 mon:p≠[]->Mon m
 to:∃c,∀k,tk b (co m k)=tk b (c*co p k)
 of:∃c,∀k,tk b (co p k)=tk b (c*co m k)
def dO.scale{b:Int}{p m:List Int}(h:∃c,∀k,tk b (co m k)=tk b (c*co p k))(q:List Int):dO b p q m:=by
 obtain⟨c,e⟩:=h;refine⟨[c],[],λk=>?_⟩;rw[jR (f:=co []) λi _=> .inl (fW _),dj,e,fV,mK (m:=1) ⋯ λj h1 _=>by rw[show co [c] j=0 from aX (by simpa using h1),gb]];simp[sm,fQ]
theorem uH.nil(b:Int):uH b [] []:=⟨Py.nil b,rfl,λh=>absurd rfl h,⟨0,λk=>by rw[fW,gb]⟩,⟨0,λk=>by rw[fW,gb]⟩⟩
def tV(P:Nat)(p:List Int):List Int:=p.map λx=>x*(co p (p.length-1))^(P-2)%(P:Int)
structure ur(b:Int)(p q g s:List Int):Prop where
 gy:Py b g
 sy:Py b s
 gm:g≠[]->Mon g
 Wv:s≠[]->Mon s
 some:s=[]->g≠[]
 gi:dO b p q g
 si:dO b p q s
 pi:dO b g s p
 qi:dO b g s q
def ur.start{b:Int}{p q g s:List Int}(hg:uH b p g)(hs:uH b q s)(h:q=[]->p≠[]):ur b p q g s:=by
 have lg:=hg.len;have ls:=hs.len;have pn:g≠[]->p≠[]:=λz e=>z (sU (by rw[lg,e];rfl));have qn:s≠[]->q≠[]:=λz e=>z (sU (by rw[ls,e];rfl));refine⟨hg.py,hs.py,λz=>hg.mon (pn z),λz=>hs.mon (qn z),λz e=>?_,dO.scale hg.to q,(dO.scale hs.to p).swap,dO.scale hg.of s,(dO.scale hs.of g).swap⟩;have q0:q=[]:=sU (by rw[<-ls,z];rfl);exact h q0 (sU (by rw[<-lg,e];rfl))
def ur.step{b:Int}{p q g s o l m:List Int}(h:ur b p q g s)(hs:s≠[])(d:Div b g s o l)(hm:uH b l m):ur b p q s m:=by
 have lm:=hm.len;have ln:m≠[]->l≠[]:=λz e=>z (sU (by rw[lm,e];rfl));have li:dO b p q l:=h.gi.trans h.si d.in2;have gs:dO b s m g:=(dO.left b s m).trans (dO.scale hm.of s).swap d.in1;refine⟨h.sy,hm.py,h.Wv,λz=>hm.mon (ln z),λ_=>hs,h.si,li.trans li (dO.scale hm.to l),?_,?_⟩
 .exact gs.trans (dO.left b s m) h.pi
 .exact gs.trans (dO.left b s m) h.qi
def ur.stop{b:Int}{p q g s:List Int}(h:ur b p q g s)(hs:s=[]):Gcd b p q g:=by
 subst hs;exact⟨h.gy,h.gm (h.some rfl),h.gi,h.pi,h.qi⟩
end Pm
namespace Pm
open Rm
def ahe{p:List Int}{k:Nat}(h:co p k≠0):k<p.length:=by
 by_cases c:k<p.length
 .exact c
 .exact absurd (aX ⋯) h
def Kv{b:Int}(hb:tk b 1=1){p q:List Int}(hp:Mon p)(hq:Mon q):Mon (mul b p q)/\(mul b p q).length=p.length+q.length-1:=by
 have h1:=hp.pos;have h2:=hq.pos;have e:co (mul b p q) (p.length+q.length-2)=1:=by
  rw[jL,fV];have:sm (p.length+q.length-2+1) (λj=>co p j*co q (p.length+q.length-2-j))=sm (p.length+q.length-2+1) (λj=>if j=p.length-1 then 1 else 0):=aR λj hj=>by
   by_cases c:j=p.length-1
   .rw[if_pos c,c,hp.one,show p.length+q.length-2-(p.length-1)=q.length-1 by omega,hq.one];rfl
   .rw[if_neg c];by_cases c2:j<p.length-1
    .rw[aX (p:=q) ⋯,aP]
    .rw[aX (p:=p) ⋯,gb]
  rw[this,lV,if_pos ⋯,hb]
 have l1:=ahe (p:=mul b p q) (k:=p.length+q.length-2) (by rw[e];decide);have l2:(mul b p q).length<=p.length+q.length-1:=by
  refine Mu λk hk=>?_;rw[cX];split
  .rw[jR λi hi=>?_,tk0];by_cases c:i<p.length
   .exact .inr (aX ⋯)
   .exact .inl (aX ⋯)
  .rfl
 have l3:(mul b p q).length=p.length+q.length-1:=⋯;exact⟨⟨⋯,by rw[l3,show p.length+q.length-1-1=p.length+q.length-2 by omega];exact e⟩,l3⟩
def C6(b:Int)(c:List Int):Mon (aV b c):=⟨by rw[kI];omega,by
 rw[kI,aV,oA,cA,if_neg ⋯,show c.length+1-1-c.length=0 by omega];rfl⟩
def nF(b:Int)(p:List Int):(fO b p).length=p.length-1:=by rw[fO,cA]
def BP{b:Int}{w:List Int}(hw:∀k,tk b (co w k)=co w k)(hm:Mon w):aV b (fO b w)=w:=by
 have hp:=hm.pos;refine uQ (by rw[kI,nF];omega) λk=>?_;rw[aV,oA,cA,nF];by_cases h:k<w.length-1
 .rw[if_pos h,cX,if_pos h,fO,cX,if_pos ⋯,XY,show w.length-1-1-(w.length-1-1-k)=k by omega,hw]
 .rw[if_neg h];by_cases c:k=w.length-1
  .rw[c,rT,hm.one];rfl
  .rw[aX (p:=w) ⋯,aX];simp;omega
def ajM{b:Int}{rule:List Int}{a:Nat->Int}(n:Nat):tk b (ks (aV b rule) a n)=tk b (a (n+rule.length)-S rule a (n+rule.length) rule.length):=by
 unfold ks;rw[kI,sm];have e1:co (aV b rule) rule.length=1:=by
  rw[aV,oA,cA,if_neg ⋯,rT];rfl
 have e2:tk b (sm rule.length λk=>co (aV b rule) k*a (n+k))=tk b (sm rule.length λk=>-1*(co rule (rule.length-1-k)*a (n+k))):=iR λk hk=>by
  rw[aV,oA,cA,if_pos hk,cX,if_pos hk,jH,lY,gO,zF]
 have e3:S rule a (n+rule.length) rule.length=sm rule.length λk=>co rule (rule.length-1-k)*a (n+k):=by
  rw[zV];have rev:∀(m:Nat) (f:Nat->Int),sm m f=sm m λk=>f (m-1-k):=by
   intro m;induction m with
   |zero=>intro f;rfl
   |succ m ih=>
    intro f;rw[oN,sm,ih λi=>f (i+1),oJ];have:m+1-1-m=0:=⋯;rw[this];congr 1;exact aR λk hk=>by rw[show m-1-k+1=m+1-1-k by omega]
  rw[rev];exact aR λk hk=>by rw[show n+rule.length-1-(rule.length-1-k)=n+k by omega]
 rw[e1,iG,<-jD,e2,jD,dF,<-e3];congr 1;omega
def Kp.rec{b:Int}{rule:List Int}{a:Nat->Int}(h:Kp b (Pm.aV b rule) a):∀n,rule.length<=n->tk b (a n)=tk b (S rule a n rule.length):=λn hn=>by
 have:=h (n-rule.length);rw[ajM,show n-rule.length+rule.length=n by omega]at this;exact mW.mp this
def ZL{b:Int}{w:List Int}{a:Nat->Int}(hw:∀k,tk b (co w k)=co w k)(hm:Mon w)(hk:Kp b w a)(ha:∀n,tk b (a n)=a n){starts:List Int}(hl:starts.length=w.length-1)(hs:∀i,i<starts.length->starts.getD i 0=a i)(n:Nat):
  at_ b (fO b w) starts n=a n:=by
 have lr:=nF b w;rw[<-BP hw hm]at hk;refine afp ⋯ (g:=a) (λi hi=>(hs i hi).symm) (λi hi=>?_) n;rw[<-ha i];exact hk.rec i ⋯
end Pm
namespace Dm
open Pm
def sg(m:Nat):Int:=if m%2=0 then 1 else -1
def yK(m:Nat):sg (m+1)=-sg m:=by
 unfold sg;by_cases h:m%2=0
 .rw[if_pos h,if_neg ⋯]
 .rw[if_neg h,if_pos ⋯];rfl
def EV(m n:Nat):sg (m+n)=sg m*sg n:=by
 induction n with
 |zero=>simp[sg]
 |succ n ih=>rw[<-acD,yK,yK,ih,qH]
def MK(m:Nat):sg m*sg m=1:=by
 unfold sg;split<;>rfl
def sk(c k:Nat):Nat:=if k<c then k else k+1
def auh(c k:Nat):sk c k≠c:=by unfold sk;split<;>omega
def det:Nat->(Nat->Nat->Int)->Int
 |0,_=>1
 |n+1,f=>sm (n+1) λc=>sg (n+c)*f n c*det n λi k=>f i (sk c k)
theorem jF:∀{n:Nat} {f g:Nat->Nat->Int},(∀i k,i<n->k<n->f i k=g i k)->det n f=det n g
 |0,_,_,_=>rfl
 |n+1,f,g,h=>by
  unfold det;refine aR λc hc=>?_;rw[h n c ⋯ hc,jF λi k hi hk=>h i (sk c k) ⋯ (by unfold sk;split<;>omega)]
def cL(f:Nat->Nat->Int)(j:Nat)(u:Nat->Int):Nat->Nat->Int:=λi k=>if k=j then u i else f i k
def fJ(f:Nat->Nat->Int)(j:Nat)(u:Nat->Int):Nat->Nat->Int:=λi k=>if i=j then u k else f i k
def nT(f:Nat->Nat->Int)(j:Nat)(u:Nat->Int)(i:Nat):cL f j u i j=u i:=if_pos rfl
def nG{f:Nat->Nat->Int}{j k:Nat}{u:Nat->Int}{i:Nat}(h:k≠j):cL f j u i k=f i k:=if_neg h
def arM{c j:Nat}(h:c≠j):∃j',sk c j'=j/\(∀k,sk c k=j->k=j'):=by
 refine⟨if j<c then j else j-1,?_,λk hk=>?_⟩
 .unfold sk;split<;>(try split)<;>omega
 .unfold sk at hk;split at hk<;>split<;>omega
def am4{n c j:Nat}(f:Nat->Nat->Int)(u:Nat->Int)(h:c≠j)(hc:c<n+1)(hj:j<n+1):∃j',j'<n/\∀u,(λi k=>cL f j u i (sk c k))=cL (λi k=>f i (sk c k)) j' u:=by
 obtain⟨j',e1,e2⟩:=arM h;refine⟨j',?_,λu=>?_⟩
 .unfold sk at e1;split at e1<;>omega
 .funext i k
  unfold cL;by_cases z:k=j'
  .rw[if_pos z,if_pos (by rw[z,e1])]
  .rw[if_neg z,if_neg λw=>z (e2 k w)]
theorem vX:∀{n:Nat} (f:Nat->Nat->Int) {j:Nat} (_:j<n) (a:Int) (u v:Nat->Int),det n (cL f j λi=>a*u i+v i)=a*det n (cL f j u)+det n (cL f j v)
 |0,_,_,h,_,_,_=>absurd h (mH _)
 |n+1,f,j,hj,a,u,v=>by
  unfold det;rw[<-dF,<-iJ];refine aR λc hc=>?_;by_cases e:c=j
  .subst e;have m:∀w,(λi k=>cL f c w i (sk c k))=λi k=>f i (sk c k):=λw=>by funext i k;exact nG (auh c k)
   rw[m,m,m,nT,nT,nT];rw[gq,tU];congr 1;rw[show sg (n+c)*(a*u n)=a*(sg (n+c)*u n)from eZ ..,bU a]
  .obtain⟨j',hj',m⟩:=am4 f u e hc hj;rw[m,m,m,vX _ hj',nG e,nG e,nG e,gq];congr 1;exact eZ ..
theorem Es:∀{n:Nat} {f:Nat->Nat->Int} {j:Nat},j+1<n->(∀i,i<n->f i j=f i (j+1))->det n f=0
 |0,_,_,h,_=>absurd h (mH _)
 |n+1,f,j,hj,h=>by
  unfold det;have e:sm (n+1) (λc=>sg (n+c)*f n c*det n λi k=>f i (sk c k))=sm (n+1) (λc=>(if c=j then sg (n+j)*f n j*det n (λi k=>f i (sk j k))else 0)+(if c=j+1 then -(sg (n+j)*f n j*det n (λi k=>f i (sk j k)))else 0)):=aR λc hc=>by
   by_cases e1:c=j
   .rw[if_pos e1,if_neg ⋯,e1,dj]
   .by_cases e2:c=j+1
    .rw[if_neg e1,if_pos e2,e2,gY,<-h n ⋯,show n+(j+1)=n+j+1 by omega,yK];have:det n (λi k=>f i (sk (j+1) k))=det n (λi k=>f i (sk j k)):=jF λi k hi hk=>by
      by_cases z:k=j
      .subst z;rw[show sk (k+1) k=k by unfold sk;rw[if_pos ⋯],show sk k k=k+1 by unfold sk;rw[if_neg ⋯],h i ⋯]
      .rw[show sk (j+1) k=sk j k by unfold sk;split<;>split<;>omega]
     rw[this,gO,gO]
    .rw[if_neg e1,if_neg e2,dj];have:det n (λi k=>f i (sk c k))=0:=by
      by_cases z:j+1<c
      .exact Es (j:=j) ⋯ λi hi=>by rw[show sk c j=j by unfold sk;rw[if_pos ⋯],show sk c (j+1)=j+1 by unfold sk;rw[if_pos ⋯]];exact h i ⋯
      .exact Es (j:=j-1) ⋯ λi hi=>by rw[show sk c (j-1)=j by unfold sk;rw[if_neg ⋯];omega,show sk c (j-1+1)=j+1 by unfold sk;rw[if_neg ⋯];omega];exact h i ⋯
     rw[this,aP]
  rw[e,iJ];have s1:∀(x:Int) (t N:Nat),t<N->sm N (λc=>if c=t then x else 0)=x:=λx t N ht=>by rw[lV,if_pos ht]
  rw[s1 _ _ _ ⋯,s1 _ _ _ hj];omega
def sw(j i:Nat):Nat:=if i=j then j+1 else if i=j+1 then j else i
def za(f:Nat->Nat->Int)(j:Nat):cL f j (λi=>f i j)=f:=by
 funext i k;unfold cL;split
 .rename_i h;rw[h]
 .rfl
def aqz{n:Nat}(f:Nat->Nat->Int){j:Nat}(hj:j+1<n):det n (λi k=>f i (sw j k))=-det n f:=by
 let D:=λ(x y:Nat->Int)=>det n (cL (cL f j x) (j+1) y)
 have z:∀x,D x x=0:=λx=>Es hj λi _=>by
  rw[nG ⋯,nT,nT]
 have l2:∀x y y',D x (λi=>1*y i+y' i)=1*D x y+D x y':=λx y y'=>vX _ hj 1 y y';have cm:∀x y,cL (cL f j x) (j+1) y=cL (cL f (j+1) y) j x:=λx y=>by
  funext i k;unfold cL;split<;>(try split)<;>first|rfl|omega
 have l1:∀x x' y,D (λi=>1*x i+x' i) y=1*D x y+D x' y:=λx x' y=>by
  show det n _=1*det n _+det n _;rw[cm,cm,cm];exact vX _ ⋯ 1 x x'
 have a:=z λi=>1*f i j+f i (j+1);rw[l1,l2,l2,z,z]at a;have e1:D (λi=>f i j) (λi=>f i (j+1))=det n f:=by
  show det n _=_;rw[za f j,za]
 have e2:D (λi=>f i (j+1)) (λi=>f i j)=det n (λi k=>f i (sw j k)):=jF λi k _ _=>by
  unfold cL sw;by_cases c1:k=j+1
  .rw[if_pos c1,if_neg ⋯,if_pos c1]
  .rw[if_neg c1];by_cases c2:k=j
   .rw[if_pos c2,if_pos c2]
   .rw[if_neg c2,if_neg c2,if_neg c1]
 rw[e1,e2]at a;omega
def mv(h m k:Nat):Nat:=if k<h then k else if k<m then k+1 else if k=m then h else k
def Wy{h m:Nat}(hm:h<m)(k:Nat):mv h m k=sw h (mv (h+1) m k):=by
 unfold mv sw
 repeat' split
 all_goals omega
theorem Sq{n:Nat}:∀(d:Nat) (f:Nat->Nat->Int) {h m:Nat},m=h+d->m<n->det n (λi k=>f i (mv h m k))=sg d*det n f
 |0,f,h,m,e,hm=>by
  have:det n (λi k=>f i (mv h m k))=det n f:=jF λi k _ _=>by
   rw[show mv h m k=k by unfold mv;split<;>(try split)<;>(try split)<;>omega]
  rw[this];simp[sg]
 |d+1,f,h,m,e,hm=>by
  have e1:(λi k=>f i (mv h m k))=λi k=>(λi k=>f i (sw h k)) i (mv (h+1) m k):=by
   funext i k;rw[Wy ⋯]
  rw[e1,Sq d (λi k=>f i (sw h k)) ⋯ hm,aqz f ⋯,yK,qH,gO]
def su{n:Nat}{f:Nat->Nat->Int}{a b:Nat}(hab:a<b)(hb:b<n)(h:∀i,i<n->f i a=f i b):det n f=0:=by
 have e:=Sq (n:=n) (b-1-a) f (h:=a) (m:=b-1) ⋯ ⋯;have z:det n (λi k=>f i (mv a (b-1) k))=0:=Es (j:=b-1) ⋯ λi hi=>by
  rw[show mv a (b-1) (b-1)=a by unfold mv;rw[if_neg ⋯,if_neg ⋯,if_pos rfl],show mv a (b-1) (b-1+1)=b by unfold mv;rw[if_neg ⋯,if_neg ⋯,if_neg ⋯];omega];exact h i hi
 rw[z]at e;have s:=MK (b-1-a);have:sg (b-1-a)*(sg (b-1-a)*det n f)=det n f:=by rw[<-bU,s,iG]
 rw[<-e,aP]at this;exact this.symm
theorem B5:∀{n:Nat} (f:Nat->Nat->Int) {j:Nat} (_:j<n) (a:Int) (u v:Nat->Int),det n (fJ f j λi=>a*u i+v i)=a*det n (fJ f j u)+det n (fJ f j v)
 |0,_,_,h,_,_,_=>absurd h (mH _)
 |n+1,f,j,hj,a,u,v=>by
  unfold det;rw[<-dF,<-iJ];refine aR λc hc=>?_;by_cases e:j=n
  .subst e;have m:∀w,det j (λi k=>fJ f j w i (sk c k))=det j (λi k=>f i (sk c k)):=λw=>jF λi k hi _=>if_neg ⋯;rw[m,m,m];show sg (j+c)*(if j=j then _ else _)*_=a*(sg (j+c)*(if j=j then _ else _)*_)+sg (j+c)*(if j=j then _ else _)*_;rw[if_pos rfl,if_pos rfl,if_pos rfl,gq,tU];congr 1;rw[show sg (j+c)*(a*u c)=a*(sg (j+c)*u c)from eZ ..,bU a]
  .have m:∀w:Nat->Int,(λi k=>fJ f j w i (sk c k))=fJ (λi k=>f i (sk c k)) j λk=>w (sk c k):=λw=>by funext i k;rfl
   have r:∀w:Nat->Int,fJ f j w n c=f n c:=λw=>if_neg (λz=>e z.symm);rw[m,m,m,r,r,r,B5 (λi k=>f i (sk c k)) ⋯ a (λk=>u (sk c k)) (λk=>v (sk c k)),gq];congr 1;exact eZ ..
theorem tri(T:Nat->Nat->Int):∀N:Nat,sm (N+1) (λc=>sm N (λc'=>T c c'))=sm (N+1) (λb=>sm b (λa=>T b a+T a (b-1)))
 |0=>by simp[sm]
 |N+1=>by
  have ih:=tri T N;rw[sm,show(λc=>sm (N+1) λc'=>T c c')=λc=>sm N (λc'=>T c c')+T c N from rfl,iJ,ih]
  conv=>rhs;rw[sm]
  rw[iJ,fR];have e:(λc'=>T (N+1) c')=T (N+1):=rfl;rw[e];omega
def alK{a b:Nat}(h:a<b)(k:Nat):sk b (sk a k)=sk a (sk (b-1) k):=by
 unfold sk
 repeat' split
 all_goals omega
theorem Ma:∀{n:Nat} {f:Nat->Nat->Int} {j:Nat},j+1<n->(∀k,k<n->f j k=f (j+1) k)->det n f=0
 |0,_,_,h,_=>absurd h (mH _)
 |1,_,_,h,_=>absurd h ⋯
 |n+2,f,j,hj,h=>by
  by_cases e:j=n
  .subst e;have e1:det (j+2) f=sm (j+1+1) λc=>sm (j+1) λc'=>sg (j+1+c)*f (j+1) c*(sg (j+c')*f j (sk c c')*det j λi k=>f i (sk c (sk c' k))):=by
    show sm (j+1+1) _=_;refine aR λc _=>?_;rw[show det (j+1) (λi k=>f i (sk c k))=sm (j+1) λc'=>sg (j+c')*f j (sk c c')*det j λi k=>f i (sk c (sk c' k))from rfl,<-dF]
   rw[e1,tri];refine jl λb hb=>jl λa ha=>?_;have f1:sk b a=a:=by unfold sk;rw[if_pos ha]
   have f2:sk a (b-1)=b:=by unfold sk;rw[if_neg ⋯];omega
   have f3:(λi k=>f i (sk b (sk a k)))=λi k=>f i (sk a (sk (b-1) k)):=by funext i k;rw[alK ha]
   rw[f1,f2,f3,<-h b ⋯,<-h a ⋯];have s1:sg (j+1+b)*sg (j+a)=-(sg (j+1+a)*sg (j+(b-1))):=by
    rw[<-EV,<-EV,<-yK];unfold sg;rw[show(j+1+b+(j+a))%2=(j+1+a+(j+(b-1))+1)%2 by omega]
   generalize det j (λi k=>f i (sk a (sk (b-1) k)))=M;have t1:sg (j+1+b)*f j b*(sg (j+a)*f j a*M)=(sg (j+1+b)*sg (j+a))*(f j b*f j a*M):=by
    simp only[bU,eZ]
   have t2:sg (j+1+a)*f j a*(sg (j+(b-1))*f j b*M)=(sg (j+1+a)*sg (j+(b-1)))*(f j b*f j a*M):=by
    simp only[bU,eZ]
   rw[t1,t2,s1,gO];omega
  .unfold det;refine jl λc hc=>?_;rw[Ma (n:=n+1) (j:=j) ⋯ λk hk=>h (sk c k) (by unfold sk;split<;>omega),aP]
def GP(f:Nat->Nat->Int)(j:Nat):fJ f j (f j)=f:=by
 funext i k;unfold fJ;split
 .rename_i h;rw[h]
 .rfl
def anQ{n:Nat}(f:Nat->Nat->Int){j:Nat}(hj:j+1<n):det n (λi k=>f (sw j i) k)=-det n f:=by
 let D:=λ(x y:Nat->Int)=>det n (fJ (fJ f j x) (j+1) y)
 have z:∀x,D x x=0:=λx=>Ma hj λk _=>by
  show(if j=j+1 then x k else if j=j then x k else f j k)=(if j+1=j+1 then x k else _);rw[if_neg ⋯,if_pos rfl,if_pos rfl]
 have l2:∀x y y',D x (λi=>1*y i+y' i)=1*D x y+D x y':=λx y y'=>B5 _ hj 1 y y';have cm:∀x y,fJ (fJ f j x) (j+1) y=fJ (fJ f (j+1) y) j x:=λx y=>by
  funext i k;unfold fJ;split<;>(try split)<;>first|rfl|omega
 have l1:∀x x' y,D (λi=>1*x i+x' i) y=1*D x y+D x' y:=λx x' y=>by
  show det n _=1*det n _+det n _;rw[cm,cm,cm];exact B5 _ ⋯ 1 x x'
 have a:=z λi=>1*f j i+f (j+1) i;rw[l1,l2,l2,z,z]at a;have e1:D (λi=>f j i) (λi=>f (j+1) i)=det n f:=by
  show det n _=_;rw[GP f j,GP]
 have e2:D (λi=>f (j+1) i) (λi=>f j i)=det n (λi k=>f (sw j i) k):=jF λi k _ _=>by
  unfold fJ sw;by_cases c1:i=j+1
  .rw[if_pos c1,if_neg ⋯,if_pos c1]
  .rw[if_neg c1];by_cases c2:i=j
   .rw[if_pos c2,if_pos c2]
   .rw[if_neg c2,if_neg c2,if_neg c1]
 rw[e1,e2]at a;omega
theorem Li{n:Nat}:∀(d:Nat) (f:Nat->Nat->Int) {h m:Nat},m=h+d->m<n->det n (λi k=>f (mv h m i) k)=sg d*det n f
 |0,f,h,m,e,hm=>by
  have:det n (λi k=>f (mv h m i) k)=det n f:=jF λi k _ _=>by
   rw[show mv h m i=i by unfold mv;split<;>(try split)<;>(try split)<;>omega]
  rw[this];simp[sg]
 |d+1,f,h,m,e,hm=>by
  have e1:(λi k=>f (mv h m i) k)=λi k=>(λi k=>f (sw h i) k) (mv (h+1) m i) k:=by
   funext i k;rw[Wy ⋯]
  rw[e1,Li d (λi k=>f (sw h i) k) ⋯ hm,anQ f ⋯,yK,qH,gO]
def aaj{n:Nat}{f:Nat->Nat->Int}{a b:Nat}(hab:a<b)(hb:b<n)(h:∀k,k<n->f a k=f b k):det n f=0:=by
 have e:=Li (n:=n) (b-1-a) f (h:=a) (m:=b-1) ⋯ ⋯;have z:det n (λi k=>f (mv a (b-1) i) k)=0:=Ma (j:=b-1) ⋯ λk hk=>by
  rw[show mv a (b-1) (b-1)=a by unfold mv;rw[if_neg ⋯,if_neg ⋯,if_pos rfl],show mv a (b-1) (b-1+1)=b by unfold mv;rw[if_neg ⋯,if_neg ⋯,if_neg ⋯];omega];exact h k hk
 rw[z]at e;have s:=MK (b-1-a);have:sg (b-1-a)*(sg (b-1-a)*det n f)=det n f:=by rw[<-bU,s,iG]
 rw[<-e,aP]at this;exact this.symm
def ayP(n:Nat)(f:Nat->Nat->Int):det (n+1) f=sm (n+1) λc=>sg c*f 0 c*det n λi k=>f (i+1) (sk c k):=by
 have e:=Li (n:=n+1) n f (h:=0) (m:=n) ⋯ ⋯;have e1:det (n+1) (λi k=>f (mv 0 n i) k)=sg n*sm (n+1) λc=>sg c*f 0 c*det n λi k=>f (i+1) (sk c k):=by
  rw[<-dF];show sm (n+1) _=_;refine aR λc _=>?_;have m:det n (λi k=>f (mv 0 n i) (sk c k))=det n λi k=>f (i+1) (sk c k):=jF λi k hi _=>by
   rw[show mv 0 n i=i+1 by unfold mv;rw[if_neg ⋯,if_pos hi]]
  have z0:mv 0 n n=0:=by unfold mv;rw[if_neg ⋯,if_neg ⋯,if_pos rfl]
  show sg (n+c)*f (mv 0 n n) c*det n (λi k=>f (mv 0 n i) (sk c k))=_;rw[m,z0,EV];simp only[bU]
 have s:=MK n;have:sg n*(sg n*det (n+1) f)=det (n+1) f:=by rw[<-bU,s,iG]
 rw[<-e,e1,<-bU,s,iG]at this;exact this.symm
def aay{n:Nat}(f:Nat->Nat->Int){a b:Nat}(hab:a<b)(hb:b<n):det n (fJ (fJ f a (f b)) b λk=>-1*f a k+0)=det n f:=by
 let D:=λ(x y:Nat->Int)=>det n (fJ (fJ f a x) b y)
 have z:∀x,D x x=0:=λx=>aaj hab hb λk _=>by
  show(if a=b then x k else if a=a then x k else f a k)=(if b=b then x k else _);rw[if_neg ⋯,if_pos rfl,if_pos rfl]
 have l2:∀(c:Int) x y y',D x (λi=>c*y i+y' i)=c*D x y+D x y':=λc x y y'=>B5 _ hb c y y';have cm:∀x y,fJ (fJ f a x) b y=fJ (fJ f b y) a x:=λx y=>by
  funext i k;unfold fJ;split<;>(try split)<;>first|rfl|omega
 have l1:∀x x' y,D (λi=>1*x i+x' i) y=1*D x y+D x' y:=λx x' y=>by
  show det n _=1*det n _+det n _;rw[cm,cm,cm];exact B5 _ ⋯ 1 x x'
 have q:=z λi=>1*f a i+f b i;rw[l1,l2,l2,z,z]at q;have e1:D (f a) (f b)=det n f:=by
  show det n _=_;rw[GP f a,GP]
 have e3:D (f b) (λk=>-1*f a k+0)=-1*D (f b) (f a)+D (f b) (λ_=>0):=l2 (-1) (f b) (f a) (λ_=>0);have e4:D (f b) (λ_=>0)=0:=by
  have:=l2 0 (f b) (λ_=>0) (λ_=>0);have e5:=l2 (-1) (f b) (λ_=>0) (λ_=>0);simp only[aP,dj]at e5;omega
 show D (f b) (λk=>-1*f a k+0)=_;rw[e3,e4];have e6:D (λi=>f a i) (λi=>f b i)=det n f:=e1;have e7:D (λi=>f b i) (λi=>f a i)=D (f b) (f a):=rfl;rw[e6,e7]at q;omega
end Dm
namespace Dm
open Pm
def DB{n:Nat}(f:Nat->Nat->Int){j:Nat}(hj:j<n):det n (cL f j λ_=>0)=0:=by
 have e:=vX f hj (-1) (λ_=>0) (λ_=>0);simp only[aP,dj]at e;omega
theorem Du{n:Nat}(f:Nat->Nat->Int){j:Nat}(hj:j<n)(x:Nat->Int)(u:Nat->Nat->Int):∀m:Nat,det n (cL f j λi=>sm m λh=>x h*u h i)=sm m λh=>x h*det n (cL f j (u h))
 |0=>DB f hj
 |m+1=>by
  rw[sm,<-Du f hj x u m];have e:=vX f hj (x m) (u m) (λi=>sm m λh=>x h*u h i);rw[oJ,<-e];congr 2
  funext i
  rw[sm,oJ]
def arN{n:Nat}{f:Nat->Nat->Int}{x:Nat->Int}(h:∀i,i<n->sm n (λk=>f i k*x k)=0){j:Nat}(hj:j<n):x j*det n f=0:=by
 have e1:det n (cL f j λi=>sm n λk=>x k*f i k)=0:=by
  rw[<-DB f hj];refine jF λi k hi _=>?_;unfold cL;split
  .rw[<-h i hi];exact aR λk _=>cC ..
  .rfl
 rw[Du f hj x (λk i=>f i k)]at e1;have e2:sm n (λk=>x k*det n (cL f j λi=>f i k))=sm n (λk=>if k=j then x j*det n f else 0):=aR λk hk=>by
  by_cases c:k=j
  .rw[if_pos c,c,za]
  .rw[if_neg c];have z:det n (cL f j λi=>f i k)=0:=by
    rcases Kq c with l|l
    .exact su l hj λi _=>by rw[nT,nG ⋯]
    .exact su l hk λi _=>by rw[nT,nG ⋯]
   rw[z,aP]
 rw[e2,lV,if_pos hj]at e1;exact e1
def Bk(A:Nat->Nat->Int)(hd:Nat->Nat):Nat->Nat->Int:=λi h=>A i (hd h)
def dt(A:Nat->Nat->Int)(hd:Nat->Nat)(r:Nat):Int:=det r (Bk A hd)
def cr(A:Nat->Nat->Int)(hd:Nat->Nat)(r h k:Nat):Int:=det r (cL (Bk A hd) h λi=>A i k)
def bd(A:Nat->Nat->Int)(hd:Nat->Nat)(r i k:Nat):Int:=det (r+1) λi' k'=>A (if i'=r then i else i') (if k'=r then k else hd k')
def sO(A:Nat->Nat->Int)(hd:Nat->Nat)(r i k:Nat):bd A hd r i k=A i k*dt A hd r-sm r λh=>A i (hd h)*cr A hd r h k:=by
 unfold bd;rw[det,sm];have e1:sg (r+r)*A (if r=r then i else r) (if r=r then k else hd r)*det r (λi' k'=>A (if i'=r then i else i') (if sk r k'=r then k else hd (sk r k')))=A i k*dt A hd r:=by
  rw[if_pos rfl,if_pos rfl,show sg (r+r)=1 by unfold sg;rw[if_pos ⋯],iG];congr 1;exact jF λi' k' hi hk=>by
   rw[if_neg ⋯,show sk r k'=k' by unfold sk;rw[if_pos hk],if_neg ⋯];rfl
 rw[e1];have e2:sm r (λc=>sg (r+c)*A (if r=r then i else r) (if c=r then k else hd c)*det r (λi' k'=>A (if i'=r then i else i') (if sk c k'=r then k else hd (sk c k'))))=sm r λh=>-1*(A i (hd h)*cr A hd r h k):=aR λc hc=>by
  rw[if_pos rfl,if_neg ⋯];have m:det r (λi' k'=>A (if i'=r then i else i') (if sk c k'=r then k else hd (sk c k')))=sg (r-1-c)*cr A hd r c k:=by
   rw[cr,<-Sq (n:=r) (r-1-c) (cL (Bk A hd) c λi=>A i k) (h:=c) (m:=r-1) ⋯ ⋯];refine jF λi' k' hi hk=>?_;rw[if_neg ⋯];unfold sk mv cL Bk;by_cases c1:k'<c
   .rw[if_pos c1,if_pos c1,if_neg ⋯,if_neg ⋯]
   .rw[if_neg c1,if_neg c1];by_cases c2:k'<r-1
    .rw[if_pos c2,if_neg ⋯,if_neg ⋯]
    .rw[if_neg c2,if_pos (show k'+1=r by omega),if_pos (show k'=r-1 by omega),if_pos rfl]
  rw[m];have s:sg (r+c)*sg (r-1-c)=-1:=by
   rw[<-EV];unfold sg;rw[if_neg ⋯]
  have t:sg (r+c)*A i (hd c)*(sg (r-1-c)*cr A hd r c k)=(sg (r+c)*sg (r-1-c))*(A i (hd c)*cr A hd r c k):=by simp only[bU,eZ]
  rw[t,s]
 rw[e2,dF];omega
def Ny{A:Nat->Nat->Int}{hd:Nat->Nat}{r i:Nat}(k:Nat)(h:i<r):bd A hd r i k=0:=aaj h (CM r) λk' _=>by
 rw[if_neg ⋯,if_pos rfl]
def YX{A:Nat->Nat->Int}{hd:Nat->Nat}{r i:Nat}(k:Nat)(h:i<r):sm r (λh=>A i (hd h)*cr A hd r h k)=A i k*dt A hd r:=by
 have:=sO A hd r i k;rw[Ny k h]at this;omega
def MX(A:Nat->Nat->Int)(hd:Nat->Nat)(r i k:Nat):sm r (λh=>A i (hd h)*cr A hd r h k)=A i k*dt A hd r-bd A hd r i k:=by
 have:=sO A hd r i k;omega
def more(hd:Nat->Nat)(r c:Nat):Nat->Nat:=λh=>if h=r then c else hd h
def J1(A:Nat->Nat->Int)(hd:Nat->Nat)(r c:Nat):dt A (more hd r c) (r+1)=bd A hd r r c:=jF λi k _ _=>by
 unfold Bk more;by_cases h:i=r
 .rw[if_pos h,h]
 .rw[if_neg h]
def ad3(A:Nat->Nat->Int)(hd:Nat->Nat)(r c k:Nat):cr A (more hd r c) (r+1) r k=bd A hd r r k:=jF λi k' _ _=>by
 unfold cL Bk more;by_cases h:i=r
 .rw[if_pos h,h];by_cases h2:k'=r
  .rw[if_pos h2,if_pos h2]
  .rw[if_neg h2,if_neg h2,if_neg h2]
 .rw[if_neg h];by_cases h2:k'=r
  .rw[if_pos h2,if_pos h2]
  .rw[if_neg h2,if_neg h2,if_neg h2]
def agI(A:Nat->Nat->Int)(hd:Nat->Nat)(r c i k:Nat):
  sm r (λh=>A i (hd h)*(bd A hd r r c*cr A hd r h k-cr A hd r h c*bd A hd r r k))+A i c*(dt A hd r*bd A hd r r k)=bd A hd r r c*(A i k*dt A hd r-bd A hd r i k)+bd A hd r r k*bd A hd r i c:=by
 have e1:sm r (λh=>A i (hd h)*(bd A hd r r c*cr A hd r h k-cr A hd r h c*bd A hd r r k))=bd A hd r r c*sm r (λh=>A i (hd h)*cr A hd r h k) + -(bd A hd r r k)*sm r (λh=>A i (hd h)*cr A hd r h c):=by
  rw[<-dF,<-dF,<-iJ];refine aR λh _=>?_;rw[iH,gO,eZ,<-bU (A i (hd h)),cC (A i (hd h)*cr A hd r h c)];omega
 rw[e1,MX,MX,iH (-bd A hd r r k),gO,gO];have e2:A i c*(dt A hd r*bd A hd r r k)=bd A hd r r k*(A i c*dt A hd r):=by simp only[bU,eZ,cC]
 rw[e2];omega
def Yq{A:Nat->Nat->Int}{hd:Nat->Nat}{r c:Nat}(hp:bd A hd r r c≠0){h:Nat}(hh:h<r)(k:Nat):dt A hd r*cr A (more hd r c) (r+1) h k=bd A hd r r c*cr A hd r h k-cr A hd r h c*bd A hd r r k:=by
 let x:=λh=>dt A hd r*cr A (more hd r c) (r+1) h k-(if h=r then dt A hd r*bd A hd r r k else bd A hd r r c*cr A hd r h k-cr A hd r h c*bd A hd r r k)
 have key:=arN (n:=r+1) (f:=Bk A (more hd r c)) (x:=x) (λi hi=>?_) (j:=h) ⋯
 .have e:det (r+1) (Bk A (more hd r c))=bd A hd r r c:=J1 A hd r c;rw[e]at key;rcases lH.mp key with z|z
  .have z':dt A hd r*cr A (more hd r c) (r+1) h k-(if h=r then dt A hd r*bd A hd r r k else bd A hd r r c*cr A hd r h k-cr A hd r h c*bd A hd r r k)=0:=z;rw[if_neg ⋯]at z';omega
  .exact absurd z hp
 .have e1:sm (r+1) (λh=>Bk A (more hd r c) i h*x h)=dt A hd r*sm (r+1) (λh=>A i (more hd r c h)*cr A (more hd r c) (r+1) h k) + -1*sm (r+1) (λh=>A i (more hd r c h)*(if h=r then dt A hd r*bd A hd r r k else bd A hd r r c*cr A hd r h k-cr A hd r h c*bd A hd r r k)):=by
   rw[<-dF,<-dF,<-iJ];refine aR λh _=>?_;show A i (more hd r c h)*(dt A hd r*cr A (more hd r c) (r+1) h k-_)=_;rw[iH,eZ];omega
  rw[e1,YX k hi,J1,sm,if_pos rfl,show more hd r c r=c from if_pos rfl];have e2:sm r (λh=>A i (more hd r c h)*(if h=r then dt A hd r*bd A hd r r k else bd A hd r r c*cr A hd r h k-cr A hd r h c*bd A hd r r k))=sm r (λh=>A i (hd h)*(bd A hd r r c*cr A hd r h k-cr A hd r h c*bd A hd r r k)):=aR λh hh=>by
   rw[if_neg ⋯,show more hd r c h=hd h from if_neg ⋯]
  rw[e2,agI];have e3:dt A hd r*(A i k*bd A hd r r c)=bd A hd r r c*(A i k*dt A hd r):=by simp only[bU,eZ,cC]
  rw[e3,iH];have e4:bd A hd r r c*bd A hd r i k=bd A hd r r k*bd A hd r i c:=by
   by_cases z:i<r
   .rw[Ny k z,Ny c z,aP,aP]
   .rw[show i=r by omega,cC]
  rw[e4];omega
def arj{A:Nat->Nat->Int}{hd:Nat->Nat}{r c:Nat}(hp:bd A hd r r c≠0)(i k:Nat):dt A hd r*bd A (more hd r c) (r+1) i k=bd A hd r r c*bd A hd r i k-bd A hd r i c*bd A hd r r k:=by
 rw[sO A (more hd r c) (r+1),J1,iH,<-dF,sm,ad3,show more hd r c r=c from if_pos rfl];have e2:sm r (λh=>dt A hd r*(A i (more hd r c h)*cr A (more hd r c) (r+1) h k))=sm r (λh=>A i (hd h)*(bd A hd r r c*cr A hd r h k-cr A hd r h c*bd A hd r r k)):=aR λh hh=>by
  rw[eZ,Yq hp hh,show more hd r c h=hd h from if_neg ⋯]
 have e5:=agI A hd r c i k;rw[e2,show dt A hd r*(A i c*bd A hd r r k)=A i c*(dt A hd r*bd A hd r r k)from eZ ..,e5,iH];have e3:dt A hd r*(A i k*bd A hd r r c)=bd A hd r r c*(A i k*dt A hd r):=by simp only[bU,eZ,cC]
 rw[e3,cC (bd A hd r i c)];omega
def En(A:Nat->Nat->Int)(hd:Nat->Nat)(r i k:Nat):Int:=if i<r then cr A hd r i k else bd A hd r i k
def aia(A:Nat->Nat->Int)(hd:Nat->Nat)(i k:Nat):En A hd 0 i k=A i k:=by
 unfold En;rw[if_neg ⋯,sO];simp[sm,dt,det]
def Bl{A:Nat->Nat->Int}{hd:Nat->Nat}{r c:Nat}(hp:En A hd r r c≠0){i:Nat}(hi:i≠r)(k:Nat):dt A hd r*En A (more hd r c) (r+1) i k=En A hd r r c*En A hd r i k-En A hd r i c*En A hd r r k:=by
 have er:∀k,En A hd r r k=bd A hd r r k:=λk=>if_neg ⋯;rw[er]at hp⊢;rw[er];unfold En;by_cases h:i<r
 .rw[if_pos ⋯,if_pos h,if_pos h];exact Yq hp h k
 .rw[if_neg ⋯,if_neg h,if_neg h];exact arj hp i k
def VZ(A:Nat->Nat->Int)(hd:Nat->Nat)(r c k:Nat):En A (more hd r c) (r+1) r k=En A hd r r k:=by
 unfold En;rw[if_pos ⋯,if_neg ⋯];exact ad3 A hd r c k
def Tz(A:Nat->Nat->Int)(hd:Nat->Nat)(r c:Nat):dt A (more hd r c) (r+1)=En A hd r r c:=by
 rw[J1];exact(if_neg ⋯).symm
def Vl(A:Nat->Nat->Int)(hd:Nat->Nat):dt A hd 0=1:=rfl
def aoP{A:Nat->Nat->Int}{hd:Nat->Nat}{r i h:Nat}(hh:h<r):En A hd r i (hd h)=if i=h then dt A hd r else 0:=by
 unfold En;by_cases c:i<r
 .rw[if_pos c];by_cases e:i=h
  .rw[if_pos e,e];show det r (cL (Bk A hd) h λi=>Bk A hd i h)=_;rw[za];rfl
  .rw[if_neg e];show det r (cL (Bk A hd) i λi'=>A i' (hd h))=0;rcases Kq e with l|l
   .exact su l hh λi' _=>by rw[nT,nG ⋯];rfl
   .exact su l c λi' _=>by rw[nT,nG ⋯];rfl
 .rw[if_neg c,if_neg ⋯];exact su (a:=h) (b:=r) hh (CM r) λi' _=>by rw[if_neg (show ¬h=r by omega),if_pos (show r=r from rfl)]
def adk(A:Nat->Nat->Int)(hd:Nat->Nat)(r i k:Nat):A i k*dt A hd r=sm r (λh=>A i (hd h)*En A hd r h k)+(if i<r then 0 else En A hd r i k):=by
 have e:sm r (λh=>A i (hd h)*En A hd r h k)=sm r (λh=>A i (hd h)*cr A hd r h k):=aR λh hh=>by
  unfold En;rw[if_pos hh]
 rw[e];by_cases c:i<r
 .rw[if_pos c,YX k c,dj]
 .rw[if_neg c,MX];unfold En;rw[if_neg c];omega
def at3{A:Nat->Nat->Int}{hd:Nat->Nat}{n r c:Nat}{p:Int}(hc:c<n)(hn:∀h,h<r->hd h<n/\hd h≠c)(hz:∀i,r<=i->i<n->∃e,En A hd r i c=p*e):∃e,dt A hd r*det n A=p*e:=by
 have hz':∀i,i<n->∃e,(if i<r then 0 else En A hd r i c)=p*e:=λi hi=>by
  by_cases z:i<r
  .exact⟨0,by rw[if_pos z,aP]⟩
  .obtain⟨e,he⟩:=hz i ⋯ hi;exact⟨e,by rw[if_neg z,he]⟩
 let y:=λi=>if h:i<n then Wr (hz' i h)else 0
 have hy:∀i,i<n->(if i<r then 0 else En A hd r i c)=p*y i:=λi hi=>by
  show _=p*(if h:i<n then Wr (hz' i h)else 0);rw[dif_pos hi];exact Classical.choose_spec (hz' i hi)
 refine⟨det n (cL A c y),?_⟩;have e1:dt A hd r*det n A=det n (cL A c λi=>dt A hd r*A i c+0):=by
  have:=vX A hc (dt A hd r) (λi=>A i c) (λ_=>0);rw[za,DB A hc,dj]at this;exact this.symm
 have e2:det n (cL A c λi=>dt A hd r*A i c+0)=det n (cL A c λi=>p*y i+sm r λh=>En A hd r h c*A i (hd h)):=jF λi k hi _=>by
  unfold cL;split
  .have:=adk A hd r i c;rw[hy i hi]at this;have e3:sm r (λh=>A i (hd h)*En A hd r h c)=sm r (λh=>En A hd r h c*A i (hd h)):=aR λh _=>cC ..;rw[e3]at this;show dt A hd r*A i c+0=p*y i+sm r λh=>En A hd r h c*A i (hd h);rw[cC (dt A hd r),this];omega
  .rfl
 rw[e1,e2,vX A hc p y,Du A hc (λh=>En A hd r h c) (λh i=>A i (hd h))];have e4:sm r (λh=>En A hd r h c*det n (cL A c λi=>A i (hd h)))=0:=jl λh hh=>by
  obtain⟨h1,h2⟩:=hn h hh;have z:det n (cL A c λi=>A i (hd h))=0:=by
   rcases Kq h2 with l|l
   .exact su l hc λi _=>by rw[nT,nG ⋯]
   .exact su l h1 λi _=>by rw[nT,nG ⋯]
  rw[z,aP]
 rw[e4,dj]
end Dm
namespace Dm
open Pm Rm
def Dom(b:Int):Prop:=∀x y,tk b x≠0->tk b (x*y)=0->tk b y=0
def Dom.zero:Dom 0:=λx y hx h=>by
 rw[aY]at *;rcases lH.mp h with z|z
 .exact absurd z hx
 .exact z
def Dom.prime{P:Nat}(hP:P∈Om.nj)(h2:2<=P):Dom (P:Int):=λx y hx h=>by
 have vo:(P:Int)≠0:=⋯;have jj:∀n,tk (P:Int) n=n%(P:Int):=λn=>jZ vo n;rw[jj]at *;have r0:=qW x vo;have r1:=qR x (show(0:Int)<P by omega);have hinv:((x%P)^(P-2)*(x%P))%(P:Int)=1:=by
  rw[<-jf,show(P-2).succ=P-1 by omega];exact Om.Df rfl hP ⋯ r1
 have e1:((x%P)^(P-2)*(x*y))%(P:Int)=0:=by rw[mU,h,aP];exact UL _
 have e2:((x%P)^(P-2)*(x*y))%(P:Int)=y%(P:Int):=by
  have e3:((x%P)^(P-2)*x)%(P:Int)=1:=by rw[mU,<-hinv,mU ((x%P)^(P-2)) (x%P),nR _ (nZ _)]
  rw[<-bU,mU,e3,iG,nR _ (nZ _)]
 rw[<-e2,e1]
def rZ{b x:Int}:tk b x=0↔∃e,x=b*e:=by
 unfold tk;split
 .rename_i h
  constructor
  .intro z;exact⟨0,by rw[z,aP]⟩
  .rintro⟨e,he⟩;rw[he,h,gb]
 .constructor
  .intro z;exact⟨x/b,(Nk (Bv z)).symm⟩
  .rintro⟨e,he⟩;rw[he];exact Int.mul_emod_right b e
def turn(A:Nat->Nat->Int)(a c:Nat):Nat->Nat->Int:=fJ (fJ A a (A c)) c λk=>-1*A a k+0
inductive tY(n:Nat)(A0:Nat->Nat->Int):(Nat->Nat->Int)->Prop
 |refl:tY n A0 A0
 |step {A:Nat->Nat->Int} {a c:Nat}:tY n A0 A->a<c->c<n->tY n A0 (turn A a c)
theorem tY.det{n:Nat}{A0 A:Nat->Nat->Int}(h:tY n A0 A):Dm.det n A=Dm.det n A0:=by
 induction h with
 |refl=>rfl
 |step _ h1 h2 ih=>rw[<-ih];exact aay _ h1 h2
def vY{A:Nat->Nat->Int}{a c i:Nat}(h1:i≠a)(h2:i≠c)(k:Nat):turn A a c i k=A i k:=by
 unfold turn fJ;rw[if_neg h2,if_neg h1]
def C0{A:Nat->Nat->Int}{a c:Nat}(h:a≠c)(k:Nat):turn A a c a k=A c k:=by
 unfold turn fJ;rw[if_neg h,if_pos rfl]
def yd(A:Nat->Nat->Int)(a c k:Nat):turn A a c c k=-A a k:=by
 unfold turn fJ;rw[if_pos rfl];show -1*A a k+0=-A a k;omega
def Jy{A:Nat->Nat->Int}{hd:Nat->Nat}{r a c:Nat}(ha:r<=a)(hc:r<=c):dt (turn A a c) hd r=dt A hd r:=jF λi k hi _=>vY ⋯ ⋯ _
def YF{A:Nat->Nat->Int}{hd:Nat->Nat}{r a c:Nat}(ha:r<=a)(hc:r<=c)(h k:Nat):cr (turn A a c) hd r h k=cr A hd r h k:=jF λi k' hi _=>by
 show(if k'=h then turn A a c i k else turn A a c i (hd k'))=if k'=h then A i k else A i (hd k');rw[vY ⋯ ⋯,vY ⋯ ⋯]
def Bq{A:Nat->Nat->Int}{hd:Nat->Nat}{r a c:Nat}(ha:r<=a)(hac:a<c)(i k:Nat):En (turn A a c) hd r i k=if i=a then En A hd r c k else if i=c then -En A hd r a k else En A hd r i k:=by
 have hc:r<=c:=⋯;unfold En;by_cases h:i<r
 .rw[if_pos h,if_neg ⋯,if_neg ⋯,if_pos h];exact YF ha hc i k
 .rw[if_neg h,sO,Jy ha hc];have e:∀j,sm r (λh=>turn A a c j (hd h)*cr (turn A a c) hd r h k)=sm r (λh=>turn A a c j (hd h)*cr A hd r h k):=λj=>aR λh _=>by rw[YF ha hc]
  rw[e];by_cases h1:i=a
  .rw[if_pos h1,if_neg ⋯,sO,h1,C0 ⋯];congr 1;exact aR λh _=>by rw[C0 ⋯]
  .rw[if_neg h1];by_cases h2:i=c
   .rw[if_pos h2,if_neg ⋯,sO,h2,yd];have:sm r (λh=>turn A a c c (hd h)*cr A hd r h k)=-1*sm r (λh=>A a (hd h)*cr A hd r h k):=by
     rw[<-dF];exact aR λh _=>by rw[yd,gO];omega
    rw[this,gO];omega
   .rw[if_neg h2,if_neg h,sO,vY h1 h2];congr 1;exact aR λh _=>by rw[vY h1 h2]
def ln(L:List (List Int))(i:Nat):List Int:=L.getD i []
structure dD(b:Int)(n W u:Nat)(A0:Nat->Nat->Int)(c:Nat)(A:Nat->Nat->Int)(hd:Nat->Nat)(r:Nat)(L:List (List Int))(last:Int):Prop where
 sw:tY n A0 A
 len:L.length=n
 wd:∀i,i<n->(ln L i).length=W
 en:∀i k,i<n->k<W->co (ln L i) k=tk b (En A hd r i k)
 la:last=tk b (dt A hd r)
 nz:tk b (dt A hd r)≠0
 rn:r<=n
 hc:∀h,h<r->hd h<c
 up:∀h h',h<h'->h'<r->hd h<hd h'
 zero:∀k,k<c->(∀h,h<r->hd h≠k)->∀i,r<=i->i<n->tk b (En A hd r i k)=0
 full:c<=n->(r=c/\∀h,h<r->hd h=h)∨tk b (det n A)=0
 sZ:∀i k,Bd u (A i k)
 ge:∀h,h<r->∀k,k<hd h->(∀h',h'<r->hd h'≠k)->tk b (En A hd r h k)=0
def dD.start{b:Int}{W u:Nat}{L:List (List Int)}(hb:tk b 1=1)(hw:∀i,i<L.length->(ln L i).length=W)(hn:∀i k,tk b (co (ln L i) k)=co (ln L i) k)(hu:∀i k,Bd u (co (ln L i) k)):
  dD b L.length W u (λi k=>co (ln L i) k) 0 (λi k=>co (ln L i) k) (λ_=>0) 0 L 1:=
 ⟨.refl,rfl,hw,λi k _ _=>by rw[aia,hn],by rw[Vl,hb],by rw[Vl,hb];decide,cD _,λh hh=>absurd hh (mH _),λ_ _ _ h=>absurd h (mH _),λk hk=>absurd hk (mH _),λ_=> .inl ⟨rfl,λh hh=>absurd hh (mH _)⟩,hu,λh hh=>absurd hh (mH _)⟩
def dD.skip{b:Int}{n W u:Nat}{A0:Nat->Nat->Int}{c:Nat}{A:Nat->Nat->Int}{hd:Nat->Nat}{r:Nat}{L:List (List Int)}{last:Int}(h:dD b n W u A0 c A hd r L last)(hD:Dom b)(mL:c<W)
  (hz:∀i,r<=i->i<n->co (ln L i) c=0):dD b n W u A0 (c+1) A hd r L last:=by
 have hz':∀i,r<=i->i<n->tk b (En A hd r i c)=0:=λi h1 h2=>by rw[<-h.en i c h2 mL];exact hz i h1 h2
 refine⟨h.sw,h.len,h.wd,h.en,h.la,h.nz,h.rn,λk hk=>by have:=h.hc k hk;omega,h.up,λk hk hn i h1 h2=>?_,λhcn=> .inr ?_,h.sZ,h.ge⟩
 .by_cases e:k=c
  .rw[e];exact hz' i h1 h2
  .exact h.zero k ⋯ hn i h1 h2
 .obtain⟨e,he⟩:=at3 (A:=A) (hd:=hd) (n:=n) (r:=r) (c:=c) (p:=b) ⋯ (λk hk=>by have:=h.hc k hk;omega) λi h1 h2=>rZ.mp (hz' i h1 h2);exact hD _ _ h.nz (rZ.mpr ⟨e,he⟩)
def dD.bring{b:Int}{n W u:Nat}{A0:Nat->Nat->Int}{c:Nat}{A:Nat->Nat->Int}{hd:Nat->Nat}{r:Nat}{L L':List (List Int)}{last:Int}(h:dD b n W u A0 c A hd r L last){a:Nat}(hra:r<a)(han:a<n)
  (hl:L'.length=n) (e1:ln L' r=ln L a) (e2:ln L' a=(ln L r).map λx=>tk b (0-x)) (e3:∀i,i≠r->i≠a->ln L' i=ln L i):dD b n W u A0 c (turn A r a) hd r L' last:=by
 have hrn:r<n:=⋯;refine⟨.step h.sw hra han,hl,λi hi=>?_,λi k hi hk=>?_,by rw[Jy (aN _) ⋯];exact h.la,by rw[Jy (aN _) ⋯];exact h.nz,h.rn,h.hc,h.up,λk hk hn i h1 h2=>?_,λhcn=>?_,λi k=>?_,λj hj k hk hn=>by rw[Bq (aN _) hra,if_neg ⋯,if_neg ⋯];exact h.ge j hj k hk hn⟩
 .by_cases c1:i=r
  .rw[c1,e1];exact h.wd a han
  .by_cases c2:i=a
   .rw[c2,e2,aB];exact h.wd r hrn
   .rw[e3 i c1 c2];exact h.wd i hi
 .rw[Bq (aN _) hra];by_cases c1:i=r
  .rw[if_pos c1,c1,e1];exact h.en a k han hk
  .rw[if_neg c1];by_cases c2:i=a
   .rw[if_pos c2,c2,e2,lZ (by simp[tk0]),h.en r k hrn hk];rw[show 0-tk b (En A hd r r k)=-1*tk b (En A hd r r k)by omega,dR];congr 1;omega
   .rw[if_neg c2,e3 i c1 c2];exact h.en i k hi hk
 .rw[Bq (aN _) hra];by_cases c1:i=r
  .rw[if_pos c1];exact h.zero k hk hn a ⋯ han
  .rw[if_neg c1];by_cases c2:i=a
   .rw[if_pos c2];have:=h.zero k hk hn r (aN _) hrn;rw[<-zF,<-dR,this,aP];exact tk0 b
   .rw[if_neg c2];exact h.zero k hk hn i h1 h2
 .have e:det n (turn A r a)=det n A:=aay A hra han;rw[e];exact h.full hcn
 .by_cases c2:i=a
  .rw[c2,yd];have:=h.sZ r k;unfold Bd at this⊢;rw[yD];exact this
  .by_cases c1:i=r
   .rw[c1,C0 ⋯];exact h.sZ a k
   .rw[vY c1 c2];exact h.sZ i k
def dD.free{b:Int}{n W u:Nat}{A0:Nat->Nat->Int}{c:Nat}{A:Nat->Nat->Int}{hd:Nat->Nat}{r:Nat}{L L':List (List Int)}{last:Int}(h:dD b n W u A0 c A hd r L last)(hD:Dom b)(mL:c<W)(hrn:r<n)
  (hp:co (ln L r) c≠0) (hl:L'.length=n) (e1:ln L' r=ln L r) (e2:∀i,i<n->i≠r->(ln L' i).length=W/\∀k,k<W->co (ln L' i) k=tk b (co (ln L' i) k)/\tk b (last*co (ln L' i) k)=tk b (co (ln L r) c*co (ln L i) k-co (ln L i) c*co (ln L r) k)):
  dD b n W u A0 (c+1) A (more hd r c) (r+1) L' (co (ln L r) c):=by
 have hpe:tk b (En A hd r r c)≠0:=by rw[<-h.en r c hrn mL];exact hp
 have hpi:En A hd r r c≠0:=λz=>hpe (by rw[z];exact tk0 b);have hen:∀i k,i<n->k<W->co (ln L' i) k=tk b (En A (more hd r c) (r+1) i k):=λi k hi hk=>by
  by_cases c1:i=r
  .rw[c1,e1,VZ];exact h.en r k hrn hk
  .obtain⟨_,q⟩:=e2 i hi c1;obtain⟨q1,q2⟩:=q k hk;have s:=Bl hpi c1 k;have e3:tk b (dt A hd r*co (ln L' i) k)=tk b (dt A hd r*En A (more hd r c) (r+1) i k):=by
    rw[s,<-jH,<-h.la,q2,h.en r c hrn mL,h.en i k hi hk,h.en i c hi mL,h.en r k hrn hk];have t1:tk b (tk b (En A hd r r c)*tk b (En A hd r i k))=tk b (En A hd r r c*En A hd r i k):=by rw[jH,dR]
    have t2:tk b (-1*(tk b (En A hd r i c)*tk b (En A hd r r k)))=tk b (-1*(En A hd r i c*En A hd r r k)):=by rw[<-dR,jH,dR b (En A hd r i c),dR]
    have:=jx t1 t2;rw[show tk b (En A hd r r c)*tk b (En A hd r i k)-tk b (En A hd r i c)*tk b (En A hd r r k)=tk b (En A hd r r c)*tk b (En A hd r i k) + -1*(tk b (En A hd r i c)*tk b (En A hd r r k))by omega,this];congr 1;omega
   have e4:tk b (dt A hd r*(co (ln L' i) k-En A (more hd r c) (r+1) i k))=0:=by
    rw[iH];exact mW.mpr e3
   have e5:=mW.mp (hD _ _ h.nz e4);rw[q1];exact e5
 refine⟨h.sw,hl,λi hi=>?_,hen,?_,?_,⋯,λk hk=>?_,λk k' h1 h2=>?_,λk hk hn i h1 h2=>?_,λhcn=>?_,h.sZ,λj hj k hk hn=>?_⟩
 .by_cases c1:i=r
  .rw[c1,e1];exact h.wd r hrn
  .exact(e2 i hi c1).1
 .rw[Tz];exact h.en r c hrn mL
 .rw[Tz];exact hpe
 .unfold more;split
  .omega
  .have:=h.hc k ⋯;omega
 .unfold more;rw[if_neg ⋯];split
  .exact h.hc k ⋯
  .exact h.up k k' h1 ⋯
 ·-- columns without a head stay nought
  by_cases e:k=c
  .exact absurd (show more hd r c r=k by unfold more;rw[if_pos rfl,e]) (hn r ⋯)
  .have hn':∀h',h'<r->hd h'≠k:=λh' hh=>by
    have:=hn h' ⋯;unfold more at this
    rwa [if_neg ⋯]at this
   have z1:=h.zero k ⋯ hn' i ⋯ h2;have z2:=h.zero k ⋯ hn' r (aN _) hrn;have s:=Bl hpi (show i≠r by omega) k;refine hD _ _ h.nz ?_;rw[s];refine mW.mpr ?_;rw[<-dR,z1,aP,<-dR b (En A hd r i c),z2,aP]
 .rcases h.full ⋯ with⟨f1,f2⟩|f
  .refine .inl ⟨⋯,λk hk=>?_⟩;unfold more;split
   .omega
   .exact f2 k ⋯
  .exact .inr f
 ·-- ahead of a line's head there is nothing but heads
  have hn':∀h',h'<r->hd h'≠k:=λh' hh=>by
   have:=hn h' ⋯;unfold more at this
   rwa [if_neg ⋯]at this
  have hkc:k<c:=by
   unfold more at hk;split at hk
   .exact hk
   .have:=h.hc j ⋯;omega
  have z2:=h.zero k hkc hn' r (aN _) hrn;by_cases e:j=r
  .rw[e,VZ];exact z2
  .have hk':k<hd j:=by unfold more at hk;rwa [if_neg e]at hk
   have z1:=h.ge j ⋯ k hk' hn';have s:=Bl hpi e k;refine hD _ _ h.nz ?_;rw[s];refine mW.mpr ?_;rw[<-dR,z1,aP,<-dR b (En A hd r j c),z2,aP]
theorem AH{u:Nat}:∀{n:Nat} {f:Nat->Nat->Int},(∀i k,i<n->k<n->Bd u (f i k))->Bd (n*(u+n)+1) (det n f)
 |0,_,_=>by
  show Bd (0*(u+0)+1) 1;rw[Ub];exact Bd.of ∅ ∅
 |n+1,f,h=>by
  unfold det;have e:Bd (u+(n*(u+n)+1)+(n+1)) (sm (n+1) λc=>sg (n+c)*f n c*det n λi k=>f i (sk c k)):=zQ _ λc hc=>by
   have b1:=h n c ⋯ hc;have b2:=AH (u:=u) (n:=n) (f:=λi k=>f i (sk c k)) λi k hi hk=>h i (sk c k) ⋯ (by unfold sk;split<;>omega);have b3:=b1.mul b2;unfold Bd at b3⊢;rw[bU,jX];have:(sg (n+c)).natAbs=1:=by unfold sg;split<;>rfl
   rw[this,nJ];exact b3
  refine e.mono ?_;have:(n+1)*(u+(n+1))=n*(u+n)+n+u+(n+1):=by
   rw[sV,show u+(n+1)=u+n+1 by omega,yO n (u+n) 1];omega
  omega
def dD.bdE{b:Int}{n W u:Nat}{A0:Nat->Nat->Int}{c:Nat}{A:Nat->Nat->Int}{hd:Nat->Nat}{r:Nat}{L:List (List Int)}{last:Int}(h:dD b n W u A0 c A hd r L last)(i k:Nat):Bd ((r+1)*(u+(r+1))+1) (En A hd r i k):=by
 unfold En;split
 .refine(AH (u:=u) λi' k' _ _=>?_).mono ?_
  .unfold cL Bk;split<;>exact h.sZ _ _
  .have:r*(u+r)<=(r+1)*(u+(r+1)):=ig ⋯ ⋯;omega
 .exact AH (u:=u) λi' k' _ _=>h.sZ _ _
end Dm
namespace Dm
open Rm Pm
def xP{b x:Int}(h:tk b x=0):tk b (-x)=0:=by
 have:=dR b (-1) x;rw[h,aP,tk0]at this;rw[show -x=-1*x by omega,<-this]
def Eb{b x:Int}(y:Int)(h:tk b x=0):tk b (y*x)=0:=by rw[<-dR,h,aP,tk0]
def axV{b x y:Int}(h:tk b x=0)(h':tk b y=0):tk b (x+y)=0:=by rw[<-jD,h,gY,h']
def agp{b x y:Int}(h:tk b x=0)(h':tk b y=0):tk b (x-y)=0:=by rw[Oi];exact axV h (xP h')
def afw(f:Nat->Int)(n:Nat):sm n (λk=>-f k)=-sm n f:=by
 have e:(λk=>-f k)=λk=>-1*f k:=funext λk=>⋯;rw[e,dF];omega
def ag2(f g:Nat->Int)(n:Nat):sm n (λk=>f k-g k)=sm n f-sm n g:=by
 have e:(λk=>f k-g k)=λk=>f k + -g k:=funext λk=>⋯;rw[e,iJ,afw];omega
def agv{b:Int}{f:Nat->Int}{n:Nat}(h:∀k,k<n->tk b (f k)=0):tk b (sm n f)=0:=by
 have:=iR (b:=b) (f:=f) (g:=λ_=>0) (n:=n) λk hk=>by rw[h k hk,tk0]
 rw[this,vK,tk0]
def Rel(b:Int)(n m:Nat)(A:Nat->Nat->Int)(x:Nat->Int):Prop:=∀i,i<n->tk b (sm m λk=>A i k*x k)=0
def afy(A:Nat->Nat->Int)(x:Nat->Int)(i m:Nat):sm m (λk=>-A i k*x k)=-sm m λk=>A i k*x k:=by
 rw[<-afw];exact aR λk _=>gO ..
theorem Rel.turn{b:Int}{n m:Nat}{A:Nat->Nat->Int}{x:Nat->Int}{a c:Nat}(hac:a<c)(hc:c<n):Rel b n m A x↔Rel b n m (turn A a c) x:=by
 have ha:a<n:=⋯;constructor
 .intro h i hi;by_cases c1:i=c
  .rw[c1,aR (g:=λk=>-A a k*x k) λk _=>by rw[yd],afy];exact xP (h a ha)
  .by_cases c2:i=a
   .rw[c2,aR (g:=λk=>A c k*x k) λk _=>by rw[C0 ⋯]];exact h c hc
   .rw[aR (g:=λk=>A i k*x k) λk _=>by rw[vY c2 c1]];exact h i hi
 .intro h i hi;by_cases c1:i=c
  .have:=h a ha;rw[aR (g:=λk=>A c k*x k) λk _=>by rw[C0 ⋯]]at this;rw[c1];exact this
  .by_cases c2:i=a
   .have:=h c hc;rw[aR (g:=λk=>-A a k*x k) λk _=>by rw[yd],afy]at this;rw[c2];have:=xP this
    rwa [xK]at this
   .have:=h i hi;rw[aR (g:=λk=>A i k*x k) λk _=>by rw[vY c2 c1]]at this;exact this
def tY.rel{b:Int}{n m:Nat}{A0 A:Nat->Nat->Int}{x:Nat->Int}(h:tY n A0 A):Rel b n m A0 x↔Rel b n m A x:=by
 induction h with
 |refl=>exact Iff.rfl
 |step _ h1 h2 ih=>exact ih.trans (Rel.turn h1 h2)
theorem aar{b:Int}:∀{n:Nat} {f g:Nat->Nat->Int},(∀i k,i<n->k<n->tk b (f i k)=tk b (g i k))->tk b (det n f)=tk b (det n g)
 |0,_,_,_=>rfl
 |n+1,f,g,h=>by
  unfold det;refine iR λc hc=>?_;have e1:tk b (det n λi k=>f i (sk c k))=tk b (det n λi k=>g i (sk c k)):=aar λi k hi hk=>h i _ ⋯ (by unfold sk;split<;>omega);rw[<-dR,e1,dR,bU,<-dR,<-jH b (f n c),h n c ⋯ hc,jH,dR,bU]
def Rel.en{b:Int}{n m:Nat}{A:Nat->Nat->Int}{x:Nat->Int}(hx:Rel b n m A x)(hd:Nat->Nat){r:Nat}(hr:r<=n):Rel b n m (En A hd r) x:=by
 have low:∀i,i<r->tk b (sm m λk=>cr A hd r i k*x k)=0:=λi hi=>by
  have e:=Du (n:=r) (Bk A hd) hi x (λk i'=>A i' k) m;have e2:sm m (λk=>cr A hd r i k*x k)=sm m λk=>x k*det r (cL (Bk A hd) i λi'=>A i' k):=aR λk _=>cC ..;rw[e2,<-e,aar (g:=cL (Bk A hd) i λ_=>0) (λi' k' hi' _=>?_),DB _ hi,tk0];unfold cL;split
  .have:=hx i' ⋯;rw[tk0,<-this];exact congrArg (tk b) (aR λk _=>cC ..)
  .rfl
 intro i hi;by_cases c:i<r
 .rw[aR (g:=λk=>cr A hd r i k*x k) λk _=>by unfold En;rw[if_pos c]];exact low i c
 .have e:sm m (λk=>En A hd r i k*x k)=dt A hd r*sm m (λk=>A i k*x k)-sm r λh=>A i (hd h)*sm m λk=>cr A hd r h k*x k:=by
   rw[<-dF];have e2:sm r (λh=>A i (hd h)*sm m λk=>cr A hd r h k*x k)=sm m λk=>sm r λh=>A i (hd h)*(cr A hd r h k*x k):=by
    rw[Di];exact aR λh _=>(dF ..).symm
   rw[e2,<-ag2];refine aR λk _=>?_;unfold En;rw[if_neg c,sO,yh];congr 1
   .rw[cC (A i k),bU]
   .rw[cC,<-dF];exact aR λh _=>by rw[cC,bU]
  rw[e];exact agp (Eb _ (hx i hi)) (agv λh hh=>Eb _ (low h hh))
def sH(b:Int)(n m:Nat)(A:Nat->Nat->Int):Prop:=∀x,Rel b n m A x->∀k,k<m->tk b (x k)=0
def K3{A:Nat->Nat->Int}{hd:Nat->Nat}{r m k:Nat}{b:Int}{n:Nat}(hm:∀h,h<r->hd h<m)(hk:k<m)(hz:∀i,r<=i->i<n->tk b (En A hd r i k)=0):
  Rel b n m A λj=>sm r (λh=>if j=hd h then En A hd r h k else 0)-if j=k then dt A hd r else 0:=λi hi=>by
 have e:sm m (λj=>A i j*(sm r (λh=>if j=hd h then En A hd r h k else 0)-if j=k then dt A hd r else 0))=sm r (λh=>A i (hd h)*En A hd r h k)-A i k*dt A hd r:=by
  rw[aR (g:=λj=>sm r (λh=>if j=hd h then A i (hd h)*En A hd r h k else 0)-if j=k then A i k*dt A hd r else 0) λj _=>?_,ag2,lV,if_pos hk,Di]
  .congr 1;exact aR λh hh=>by rw[lV,if_pos (hm h hh)]
  .rw[iH,<-dF];congr 1
   .refine aR λh _=>?_;by_cases c:j=hd h
    .rw[if_pos c,if_pos c,c]
    .rw[if_neg c,if_neg c,aP]
   .by_cases c:j=k
    .rw[if_pos c,if_pos c,c]
    .rw[if_neg c,if_neg c,aP]
 rw[e];have q:=adk A hd r i k;by_cases c:i<r
 .rw[if_pos c,dj]at q;rw[q,W3,tk0]
 .rw[if_neg c]at q;rw[q,show sm r (λh=>A i (hd h)*En A hd r h k)-(sm r (λh=>A i (hd h)*En A hd r h k)+En A hd r i k)=-En A hd r i k by omega];exact xP (hz i ⋯ hi)
def dD.auA{b:Int}{n W u m:Nat}{A0 A:Nat->Nat->Int}{hd:Nat->Nat}{r:Nat}{L:List (List Int)}{last:Int}(h:dD b n W u A0 m A hd r L last):∀j,j<r->j<=hd j:=λj=>by
 induction j with
 |zero=>intro _;exact cD _
 |succ j ih=>
  intro hj;have:=ih ⋯;have:=h.up j (j+1) ⋯ hj;omega
def dD.avK{b:Int}{n W u m:Nat}{A0 A:Nat->Nat->Int}{hd:Nat->Nat}{r:Nat}{L:List (List Int)}{last:Int}(h:dD b n W u A0 m A hd r L last)(RJ:∀k,k<m->∃j,j<r/\hd j=k):r=m/\∀k,k<m->hd k=k:=by
 have ge:=h.auA;have all:∀k,k<m->k<r/\hd k=k:=λk=>by
  induction k using rM with
  |ind k ih=>
   intro hk;obtain⟨j,hj,e⟩:=RJ k hk;have g:=ge j hj;by_cases c:j=k
   .rw[<-c];exact⟨hj,by rw[e,c]⟩
   .have:=(ih j ⋯ ⋯).2;omega
 refine⟨?_,λk hk=>(all k hk).2⟩;by_cases c:r<=m
 .by_cases c2:r=m
  .exact c2
  .have:=(all r ⋯).1;omega
 .have:=h.hc m ⋯;have:=ge m ⋯;omega
def dD.aiW{b:Int}{n W u m:Nat}{A0 A:Nat->Nat->Int}{hd:Nat->Nat}{r:Nat}{L:List (List Int)}{last:Int}(h:dD b n W u A0 m A hd r L last)(hI:sH b n m A0):r=m/\∀k,k<m->hd k=k:=by
 refine h.avK λk hk=>?_;by_cases c:∃j,j<r/\hd j=k
 .exact c
 .exfalso
  have hn:∀j,j<r->hd j≠k:=λj hj e=>c ⟨j,hj,e⟩;have R:=K3 (A:=A) (hd:=hd) (r:=r) (m:=m) (k:=k) (b:=b) (n:=n) h.hc hk (h.zero k hk hn);have z:=hI _ (h.sw.rel.mpr R) k hk;rw[if_pos rfl,jl (λj hj=>by rw[if_neg (λe=>hn j hj e.symm)]),lY]at z;have:=xP z;rw[xK]at this;exact h.nz this
def gZ(b:Int)(n m:Nat)(A:Nat->Nat->Int)(x:Nat->Int)(bot:Int):Prop:=∀i,i<n->tk b (sm m λk=>A i k*x k)=tk b (bot*A i m)
def gZ.rel{b:Int}{n m:Nat}{A:Nat->Nat->Int}{x:Nat->Int}{bot:Int}:gZ b n m A x bot↔Rel b n (m+1) A λk=>if k=m then -bot else x k:=by
 have e:∀i,sm (m+1) (λk=>A i k*if k=m then -bot else x k)=sm m (λk=>A i k*x k)-bot*A i m:=λi=>by
  rw[sm,if_pos rfl,aR (g:=λk=>A i k*x k) λk hk=>by rw[if_neg ⋯],qH,cC bot];omega
 constructor
 .intro h i hi;show tk b (sm (m+1) λk=>A i k*if k=m then -bot else x k)=0;rw[e];exact mW.mpr (h i hi)
 .intro h i hi;have q:tk b (sm (m+1) λk=>A i k*if k=m then -bot else x k)=0:=h i hi;rw[e]at q;exact mW.mp q
def dD.sums{b:Int}{n W u m:Nat}{A0 A:Nat->Nat->Int}{hd:Nat->Nat}{r:Nat}{L:List (List Int)}{last:Int}(h:dD b n W u A0 m A hd r L last){x:Nat->Int}{bot:Int}(hx:gZ b n m A0 x bot):gZ b n m (En A hd r) x bot:=
 gZ.rel.mpr ((h.sw.rel.mp (gZ.rel.mp hx)).en hd h.rn)
def dD.axP{b:Int}{n W u m:Nat}{A0 A:Nat->Nat->Int}{hd:Nat->Nat}{r:Nat}{L:List (List Int)}{last:Int}(h:dD b n W u A0 m A hd r L last){x:Nat->Int}{bot:Int}(hD:Dom b)(hb:tk b bot≠0)(hx:gZ b n m A0 x bot):
  ∀i,r<=i->i<n->tk b (En A hd r i m)=0:=λi h1 h2=>by
 have q:=h.sums hx i h2;refine hD bot _ hb ?_;rw[<-q];refine agv λk hk=>?_;rw[cC];refine Eb _ ?_;by_cases c:∃j,j<r/\hd j=k
 .obtain⟨j,hj,e⟩:=c;rw[<-e,aoP hj,if_neg ⋯,tk0]
 .exact h.zero k hk (λj hj e=>c ⟨j,hj,e⟩) i h1 h2
def pG(b:Int)(L:List (List Int))(ws:List Int):List (List Int):=(fj L.length).map λi=>(ln L i++[co ws i]).map (tk b)
def yr(b:Int)(L:List (List Int))(ws:List Int):(pG b L ws).length=L.length:=by rw[pG,aB,mR]
def Ci{b:Int}{L:List (List Int)}{ws:List Int}{i:Nat}(hi:i<L.length):ln (pG b L ws) i=(ln L i++[co ws i]).map (tk b):=by
 show(pG b L ws).getD i []=_;rw[pG,List.getD_eq_getElem?_getD,List.getElem?_map,List.getElem?_range hi];rfl
def aug(b:Int)(L:List (List Int))(ws:List Int):Nat->Nat->Int:=λi k=>co (ln (pG b L ws) i) k
def axn{b:Int}{L:List (List Int)}{ws:List Int}{i k m:Nat}(hi:i<L.length)(hm:(ln L i).length=m)(hk:k<m):aug b L ws i k=tk b (co (ln L i) k):=by
 unfold aug;rw[Ci hi,lZ (tk0 b),oA,if_pos ⋯]
def ajj{b:Int}{L:List (List Int)}{ws:List Int}{i m:Nat}(hi:i<L.length)(hm:(ln L i).length=m):aug b L ws i m=tk b (co ws i):=by
 unfold aug;rw[Ci hi,lZ (tk0 b),oA,if_neg ⋯,hm,rT,fQ]
def amZ{b:Int}{L:List (List Int)}{ws:List Int}(i k:Nat):tk b (aug b L ws i k)=aug b L ws i k:=by
 unfold aug;by_cases hi:i<L.length
 .rw[Ci hi,lZ (tk0 b),gR]
 .have e:ln (pG b L ws) i=[]:=by
   unfold ln;rw[List.getD_eq_getElem?_getD,List.getElem?_eq_none (by rw[yr];omega)];rfl
  rw[e,fW,tk0]
def qI(E:Nat->Int)(hd:Nat->Nat)(wide i:Nat):List Int:=aM wide λk=>sm i λh=>if k=hd h then E h else 0
def zH(E:Nat->Int)(hd:Nat->Nat)(wide i:Nat):(qI E hd wide i).length=wide:=cA ..
def alQ(E:Nat->Int)(hd:Nat->Nat)(wide:Nat):qI E hd wide 0=aM wide λ_=>0:=rfl
def akt{E:Nat->Int}{hd:Nat->Nat}{wide i:Nat}(hi:hd i<wide)(hu:∀h,h<i->hd h≠hd i):(qI E hd wide i).set (hd i) (E i)=qI E hd wide (i+1):=by
 refine uQ (by rw[nW,zH,zH]) λk=>?_;rw[xg _ _ _ _ (by rw[zH];exact hi),qI,qI,cX,cX];by_cases hk:k<wide
 .rw[if_pos hk,if_pos hk,sm];by_cases c:k=hd i
  .rw[if_pos c,if_pos c,c,jl λh hh=>if_neg λe=>hu h hh e.symm,gY]
  .rw[if_neg c,if_neg c,dj]
 .rw[if_neg hk,if_neg hk,if_neg ⋯]
end Dm
namespace Pm
open Rm
def Fs(f:Nat->Int)(n:Nat):Prop:=∀k,n<=k->f k=0
theorem Fs.co(p:List Int):Fs (co p) p.length:=λ_ h=>aX h
def Fs.mono{f:Nat->Int}{m n:Nat}(h:Fs f m)(hmn:m<=n):Fs f n:=λk hk=>h k ⋯
def Fs.add{f g:Nat->Int}{n:Nat}(h:Fs f n)(h':Fs g n):Fs (λk=>f k+g k) n:=λk hk=>by show f k+g k=0;rw[h k hk,h' k hk];rfl
def Fs.mul{f:Nat->Int}{n:Nat}(c:Int)(h:Fs f n):Fs (λk=>c*f k) n:=λk hk=>by show c*f k=0;rw[h k hk,aP]
theorem Fs.cv{f g:Nat->Int}{m n:Nat}(h:Fs f m)(h':Fs g n):Fs (Pm.cv f g) (m+n):=λk hk=>jR λi _=>by
 by_cases c:m<=i
 .exact .inl (h i c)
 .exact .inr (h' _ ⋯)
def Ii{b x:Int}(y:Int)(h:tk b x=0):tk b (y*x)=0:=by rw[<-dR,h,aP,tk0]
def Hs{b:Int}{m:List Int}(hm:Mon m){f:Nat->Int}{n:Nat}(hf:Fs f n)(h:∀k,m.length-1<=k->tk b (cv f (co m) k)=0):∀k,tk b (f k)=0:=by
 have q:∀d j,n<=j+d->tk b (f j)=0:=λd=>by
  induction d with
  |zero=>intro j hj;rw[hf j hj,tk0]
  |succ d ih=>
   intro j hj;have e:=h (j+(m.length-1)) ⋯;rw[fV]at e;have e2:tk b (sm (j+(m.length-1)+1) λi=>f i*co m (j+(m.length-1)-i))=tk b (sm (j+(m.length-1)+1) λi=>if i=j then f j else 0):=iR λi hi=>by
    by_cases c:i=j
    .rw[if_pos c,c,CV,hm.one,ju]
    .rw[if_neg c,tk0];by_cases d2:i<j
     .rw[aX (by have:=hm.pos;omega),aP,tk0]
     .rw[cC];exact Ii _ (ih i ⋯)
   rw[e2,lV,if_pos ⋯]at e;exact e
 exactλk=>q n k ⋯
def Dv(b:Int)(m:List Int)(f:Nat->Int):Prop:=∃s n,Fs s n/\∀k,tk b (f k)=tk b (cv s (co m) k)
def Dv.congr{b:Int}{m:List Int}{f g:Nat->Int}(e:∀k,tk b (f k)=tk b (g k))(h:Dv b m f):Dv b m g:=by
 obtain⟨s,n,hs,h⟩:=h;exact⟨s,n,hs,λk=>by rw[<-e,h]⟩
def Dv.zero(b:Int)(m:List Int):Dv b m λ_=>0:=⟨λ_=>0,0,λ_ _=>rfl,λk=>by rw[jR λi _=> .inl rfl]⟩
theorem Dv.add{b:Int}{m:List Int}{f g:Nat->Int}(h:Dv b m f)(h':Dv b m g):Dv b m λk=>f k+g k:=by
 obtain⟨s,n,hs,h⟩:=h;obtain⟨s',n',hs',h'⟩:=h';exact⟨λk=>s k+s' k,n+n',(hs.mono ⋯).add (hs'.mono ⋯),λk=>by rw[mC];exact jx (h k) (h' k)⟩
def Dv.smul{b:Int}{m:List Int}{f:Nat->Int}(c:Int)(h:Dv b m f):Dv b m λk=>c*f k:=by
 obtain⟨s,n,hs,h⟩:=h;exact⟨λk=>c*s k,n,hs.mul c,λk=>by rw[nO,<-dR,h,dR]⟩
def Dv.sub{b:Int}{m:List Int}{f g:Nat->Int}(h:Dv b m f)(h':Dv b m g):Dv b m λk=>f k-g k:=
 (h.add (h'.smul (-1))).congr λk=>by rw[show f k + -1*g k=f k-g k by omega]
def Dv.mul{b:Int}{m:List Int}{f g:Nat->Int}{n:Nat}(hg:Fs g n)(h:Dv b m f):Dv b m (cv g f):=by
 obtain⟨s,n',hs,h⟩:=h;exact⟨cv g s,n+n',hg.cv hs,λk=>by rw[gP];exact iM (λi _=>rfl) λi _=>h i⟩
def Dv.self{b:Int}{m:List Int}{g:Nat->Int}{n:Nat}(hg:Fs g n):Dv b m (cv g (co m)):=⟨g,n,hg,λ_=>rfl⟩
def Dv.short{b:Int}{m:List Int}(hm:Mon m){f:Nat->Int}(hf:Fs f (m.length-1))(h:Dv b m f):∀k,tk b (f k)=0:=by
 obtain⟨s,n,hs,h⟩:=h;have z:=Hs (b:=b) hm hs λk hk=>by rw[<-h,hf k hk,tk0]
 intro k;rw[h,<-tk0 b,<-jR (f:=λ_=>(0:Int)) (g:=co m) (k:=k) λi _=> .inl rfl];exact iM (λi _=>by rw[z,tk0]) λi _=>rfl
def tp(P:List Int)(a:Nat->Int)(k:Nat):Int:=sm (P.length-1-k) λi=>co P (k+1+i)*a i
def yM(P:List Int)(a:Nat->Int):Fs (tp P a) (P.length-1):=λk hk=>by unfold tp;rw[show P.length-1-k=0 by omega];rfl
def YL{b:Int}{P:List Int}{a a':Nat->Int}(h:∀n,tk b (a n)=tk b (a' n))(k:Nat):tk b (tp P a k)=tk b (tp P a' k):=iR λi _=>by rw[<-dR,h,dR]
def aqQ(P:List Int)(c:Int)(a a':Nat->Int)(k:Nat):tp P (λn=>c*a n+a' n) k=c*tp P a k+tp P a' k:=by
 unfold tp;rw[<-dF,<-iJ];refine aR λi _=>?_;rw[gq,eZ]
def aoW{b:Int}{P:List Int}(hP:0<P.length){a:Nat->Int}(h0:tk b (ks P a 0)=0)(k:Nat):tk b (if k=0 then 0 else tp P a (k-1))=tk b (tp P (λn=>a (n+1)) k+a 0*co P k):=by
 by_cases c:k=0
 .rw[if_pos c,c,tk0,<-h0];refine congrArg (tk b) ?_;unfold ks tp;obtain⟨N,hN⟩:∃N,P.length=N+1:=⟨P.length-1,⋯⟩;rw[hN,oN,fR,vm,oJ,cC (co P 0)];congr 1;exact aR λi _=>by rw[GV,GV,aea 1 i]
 .rw[if_neg c];by_cases d:k<P.length
  .refine congrArg (tk b) ?_;unfold tp;rw[show P.length-1-(k-1)=(P.length-1-k)+1 by omega,oN,oJ];congr 1
   .exact aR λi _=>by rw[show k-1+1+(i+1)=k+1+i by omega]
   .rw[show k-1+1+0=k by omega,cC]
  .rw[yM P a (k-1) ⋯,yM P _ k ⋯,aX ⋯,aP];rfl
def acv(x:Int)(q:List Int)(f:Nat->Int)(k:Nat):cv (co (x::q)) f k=x*f k+(if k=0 then 0 else cv (co q) f (k-1)):=by
 cases k with
 |zero=>rw[cv,fQ,if_pos rfl,dj]
 |succ k=>
  rw[cv,fQ,if_neg ⋯,fR];congr 1
def axo(q f:Nat->Int)(k:Nat):(if k=0 then 0 else cv q f (k-1))=cv q (λi=>if i=0 then 0 else f (i-1)) k:=by
 cases k with
 |zero=>rw[if_pos rfl,cv,if_pos rfl,aP]
 |succ k=>rw[if_neg ⋯,fR,Rh,if_pos rfl,aP,dj];rfl
def aqV(x:Int)(q:List Int)(a:Nat->Int)(n:Nat):ks (x::q) a n=x*a n+ks q (λn=>a (n+1)) n:=by
 unfold ks;rw[iQ,oN,fQ,NW];congr 1
theorem Qe{b:Int}{P:List Int}(hP:0<P.length):∀(q:List Int) {a:Nat->Int},Kp b P a->Dv b P λk=>cv (co q) (tp P a) k-tp P (ks q a) k
 |[],a,_=>(Dv.zero b P).congr λk=>by
  rw[jR λi _=> .inl (fW i)];have:tp P (ks [] a) k=0:=jl λi _=>by show co P (k+1+i)*0=0;exact aP _
  rw[this];rfl
 |x::q,a,h=>by
  have h1:Kp b P λn=>a (n+1):=λn=>by
   have e:ks P (λn=>a (n+1)) n=ks P a (n+1):=aR λk _=>by show _*a (n+k+1)=_*a (n+1+k);rw[show n+k+1=n+1+k by omega]
   rw[e];exact h (n+1)
  have ih:=Qe hP q h1;have d:=Dv.self (b:=b) (m:=P) ((Fs.co q).mul (a 0));refine(ih.add d).congr λk=>?_;have e1:tk b (if k=0 then 0 else cv (co q) (tp P a) (k-1))=tk b (cv (co q) (tp P λn=>a (n+1)) k+a 0*cv (co q) (co P) k):=by
   rw[axo,<-nO,iM (λi _=>rfl) λi _=>aoW hP (h 0) i,Vn];congr 2;rw[jt,nO,nO,jt]
  have e2:tp P (ks (x::q) a) k=x*tp P a k+tp P (ks q λn=>a (n+1)) k:=by
   rw[<-aqQ];unfold tp;exact aR λi _=>by rw[aqV]
  rw[acv,e2,nO];have e3:=jx e1 (rfl:tk b (-(tp P (ks q λn=>a (n+1)) k))=_);rw[show x*tp P a k+(if k=0 then 0 else cv (co q) (tp P a) (k-1))-(x*tp P a k+tp P (ks q λn=>a (n+1)) k)=(if k=0 then 0 else cv (co q) (tp P a) (k-1)) + -(tp P (ks q λn=>a (n+1)) k)by omega,e3];refine congrArg (tk b) ?_;omega
def XC{b:Int}{P:List Int}(hm:Mon P){e:Nat->Int}(h:∀k,tk b (tp P e k)=0):∀n,n<P.length-1->tk b (e n)=0:=λn=>by
 induction n using rM with
 |ind n ih=>
  intro hn;have q:=h (P.length-1-1-n);unfold tp at q;rw[show P.length-1-(P.length-1-1-n)=n+1 by omega,sm]at q;have z:tk b (sm n λi=>co P (P.length-1-1-n+1+i)*e i)=0:=by
   have:=iR (b:=b) (n:=n) (f:=λi=>co P (P.length-1-1-n+1+i)*e i) (g:=λ_=>0) λi hi=>by rw[tk0];exact Ii _ (ih i hi ⋯)
   rw[this,vK,tk0]
  rw[<-jD,z,gY,show P.length-1-1-n+1+n=P.length-1 by omega,hm.one,iG]at q;exact q
def aqd{b:Int}{rule:List Int}{a:Nat->Int}(ha:∀n,rule.length<=n->tk b (a n)=tk b (S rule a n rule.length))(q:List Int):
  Kp b q a↔Dv b (aV b rule) (cv (co q) (tp (aV b rule) a)):=by
 have hm:=C6 b rule;have hK:Kp b (aV b rule) a:=Kp.aV ha;have A:=Qe hm.pos q hK;constructor
 .intro h;have z:Dv b (aV b rule) (tp (aV b rule) (ks q a)):=(Dv.zero b _).congr λk=>by
   have:=YL (b:=b) (P:=aV b rule) (a:=ks q a) (a':=λ_=>0) (λn=>by rw[h n,tk0]) k;rw[this];exact(congrArg (tk b) (show tp (aV b rule) (λ_=>0) k=0 from jl λi _=>aP _)).symm
  exact(A.add z).congr λk=>by rw[acJ]
 .intro h;have z:Dv b (aV b rule) (tp (aV b rule) (ks q a)):=(h.sub A).congr λk=>by
   rw[show cv (co q) (tp (aV b rule) a) k-(cv (co q) (tp (aV b rule) a) k-tp (aV b rule) (ks q a) k)=tp (aV b rule) (ks q a) k by omega]
  have n0:=XC hm (z.short hm (yM _ _));rw[kI,fR]at n0;exact LR ha n0
structure OL(b:Int)(p:List Int)(t:Nat->Int)(g:List Int):Prop where
 mon:Mon g
 one:Dv b g (co p)
 two:Dv b g t
 sum:∃(N:Int) (u v:Nat->Int) (n:Nat),tk b N≠0/\Fs u n/\Fs v n/\∀k,tk b (N*co g k)=tk b (cv u (co p) k+cv v t k)
def aeZ{b:Int}{m:List Int}(hm:Mon m){p:List Int}(hp:∀k,tk b (co p k)=co p k):∃q r,Div b p m q r:=by
 have go:∀d,d<=p.length-(m.length-1)->∃o l,pZ b p m (p.length-(m.length-1)-d) o l:=λd=>by
  induction d with
  |zero=>intro _;exact⟨_,_,pZ.start hp⟩
  |succ d ih=>
   intro hd;obtain⟨o,l,I⟩:=ih ⋯;obtain⟨s,hs⟩:∃s,p.length-(m.length-1)-d=s+1:=⟨p.length-(m.length-1)-d-1,⋯⟩;rw[hs]at I;refine⟨o.set s (co l (s+(m.length-1))),aM l.length λk=>lf b (co l (s+(m.length-1))) s m.length l m k,?_⟩;rw[show p.length-(m.length-1)-(d+1)=s by omega];refine I.step hm ⋯ (cA ..) λk=>?_;rw[cX];by_cases c:k<l.length
   .rw[if_pos c]
   .rw[if_neg c];have hl:=I.ll;have hmp:=hm.pos;unfold lf;rw[if_neg ⋯,aX ⋯]
 obtain⟨o,l,I⟩:=go _ (aN _);rw[rT]at I;exact⟨_,_,I.stop hm⟩
def aym{b:Int}(hD:∀x y,tk b x≠0->tk b (x*y)=0->tk b y=0){L:List Int}(hL:Mon L){N:Int}(hN:tk b N≠0){f:Nat->Int}{n:Nat}(hf:Fs f n)(h:Dv b L λk=>N*f k):Dv b L f:=by
 obtain⟨o,r,D⟩:=aeZ (b:=b) hL (p:=aM n λk=>tk b (f k)) λk=>by
  rw[cX];split
  .exact gR ..
  .exact tk0 b
 have ef:∀k,tk b (co (aM n λk=>tk b (f k)) k)=tk b (f k):=λk=>by
  rw[cX];by_cases c:k<n
  .rw[if_pos c,gR]
  .rw[if_neg c,hf k ⋯]
 have e:∀k,tk b (f k)=tk b (cv (co o) (co L) k+co r k):=λk=>by rw[D.eq,ef]
 have z:Dv b L λk=>N*co r k:=(h.sub ((Dv.self (b:=b) (m:=L) (Fs.co o)).smul N)).congr λk=>by
  rw[show N*f k-N*cv (co o) (co L) k=N*(f k-cv (co o) (co L) k)by rw[iH],<-dR,<-dR b N (co r k)];congr 2;have:=e k;have q:=jx this (rfl:tk b (-cv (co o) (co L) k)=_);rw[show f k-cv (co o) (co L) k=f k + -cv (co o) (co L) k by omega,q];exact congrArg (tk b) ⋯
 have hr:Fs (λk=>N*co r k) (L.length-1):=((Fs.co r).mono (by have:=D.short;omega)).mul N;have z0:=z.short hL hr;refine⟨co o,o.length,Fs.co o,λk=>?_⟩;rw[e,<-wM,hD N _ hN (z0 k),dj]
def OL.keeps{b:Int}(hD:∀x y,tk b x≠0->tk b (x*y)=0->tk b y=0){rule:List Int}{a:Nat->Int}(ha:∀n,rule.length<=n->tk b (a n)=tk b (S rule a n rule.length)){g L:List Int}(h:OL b (aV b rule) (tp (aV b rule) a) g)(hL:Mon L)
  (hP:∀k,tk b (co (aV b rule) k)=tk b (cv (co L) (co g) k)) (q:List Int):Kp b q a↔Dv b L (co q):=by
 rw[aqd ha q];generalize aV b rule=P at h hP;obtain⟨t,nt,ht,hT⟩:=h.two;obtain⟨N,u,v,n,hN,hu,hv,hs⟩:=h.sum;generalize tp P a=T at h hT hs;have bez:∀k,tk b ((if k=0 then N else 0)-(cv u (co L) k+cv v t k))=0:=by
  refine Hs (b:=b) h.mon (n:=1+(n+L.length)+(n+nt)) (λk hk=>?_) λk _=>?_
  .show(if k=0 then N else 0)-(cv u (co L) k+cv v t k)=0;rw[if_neg ⋯,hu.cv (Fs.co L) k ⋯,hv.cv ht k ⋯];rfl
  .have e:cv (λk=>(if k=0 then N else 0)-(cv u (co L) k+cv v t k)) (co g) k=N*co g k + -1*(cv u (cv (co L) (co g)) k+cv v (cv t (co g)) k):=by
    rw[<-gP,<-gP,<-mC,<-nO];have e2:N*co g k=cv (λk=>if k=0 then N else 0) (co g) k:=by rw[BL,if_pos (cD _),vm]
    rw[e2,<-mC];refine qj (λi _=>?_) λi _=>rfl;omega
   rw[e,<-jD,hs,jD];have e3:tk b (cv u (co P) k+cv v T k)=tk b (cv u (cv (co L) (co g)) k+cv v (cv t (co g)) k):=jx (iM (λi _=>rfl) λi _=>hP i) (iM (λi _=>rfl) λi _=>hT i);have e4:=jx e3 (rfl:tk b (-1*(cv u (cv (co L) (co g)) k+cv v (cv t (co g)) k))=_);rw[e4,show ∀x:Int,x + -1*x=0 fromλx=>⋯,tk0]
 constructor
 .rintro⟨s,ns,hs',e⟩;have qt:∀k,tk b (cv (co q) t k-cv s (co L) k)=0:=by
   refine Hs (b:=b) h.mon (n:=(q.length+nt)+(ns+L.length)) (λk hk=>?_) λk _=>?_
   .show cv (co q) t k-cv s (co L) k=0;rw[(Fs.co q).cv ht k ⋯,hs'.cv (Fs.co L) k ⋯];rfl
   .have e1:cv (λk=>cv (co q) t k-cv s (co L) k) (co g) k=cv (co q) (cv t (co g)) k + -1*cv s (cv (co L) (co g)) k:=by
     rw[<-gP,<-gP,<-nO,<-mC];exact qj (λi _=>⋯) λi _=>rfl
    have e2:tk b (cv (co q) (cv t (co g)) k)=tk b (cv s (cv (co L) (co g)) k):=by
     rw[<-iM (λi _=>rfl) (λi _=>hT i),e,iM (λi _=>rfl) λi _=>hP i]
    have e3:=jx e2 (rfl:tk b (-1*cv s (cv (co L) (co g)) k)=_);rw[e1,e3,show ∀x:Int,x + -1*x=0 fromλx=>⋯,tk0]
  refine aym hD hL hN (Fs.co q) ?_;refine⟨λk=>cv (co q) u k+cv v s k,(q.length+n)+(n+ns),((((Fs.co q).cv hu)).mono ⋯).add ((hv.cv hs').mono ⋯),λk=>?_⟩;have e1:tk b (N*co q k)=tk b (cv (λk=>cv u (co L) k+cv v t k) (co q) k):=by
   have e2:N*co q k=cv (λk=>if k=0 then N else 0) (co q) k:=by rw[BL,if_pos (cD _),vm]
   rw[e2];exact iM (λi _=>mW.mp (bez i)) λi _=>rfl
  rw[e1,mC,mC];refine jx ?_ ?_
  .exact congrArg (tk b) ((jt ..).trans (gP ..).symm)
  .rw[gP,gP];refine iM (λi _=>rfl) λi _=>?_;rw[jt];exact mW.mp (qt i)
 .rintro⟨s,ns,hs',e⟩;refine⟨cv s t,ns+nt,hs'.cv ht,λk=>?_⟩;rw[iM (λi _=>e i) (λi _=>hT i),iM (f:=cv s t) (λi _=>rfl) (λi _=>hP i)];refine congrArg (tk b) ?_;rw[gP,gP];refine qj (λi _=>rfl) λi _=>?_;rw[<-gP,<-gP];exact qj (λj _=>jt ..) λj _=>rfl
end Pm
namespace Om
def cG(p:Nat):Prop:=2<=p/\∀d,d∣p->d=1∨d=p
def cG.cop{p x:Nat}(h:cG p)(hx:¬p∣x):Nat.Coprime p x:=by
 rcases h.2 _ (Nt p x)with e|e
 .exact e
 .exact absurd (e▸Sg p x) hx
def cG.dvd{p x y:Nat}(h:cG p)(hd:p∣x*y):p∣x∨p∣y:=by
 by_cases c:p∣x
 .exact .inl c
 .exact .inr ((h.cop c).dvd_of_dvd_mul_left hd)
def ch:Nat->Nat->Nat
 |_,0=>1
 |0,_+1=>0
 |n+1,k+1=>ch n k+ch n (k+1)
def C5(n:Nat):ch n 0=1:=by cases n<;>rfl
theorem Ba:∀(n k:Nat),n<k->ch n k=0
 |0,k+1,_=>rfl
 |n+1,k+1,h=>by rw[ch,Ba n k ⋯,Ba n (k+1) ⋯]
theorem W6:∀n,ch n n=1
 |0=>rfl
 |n+1=>by rw[ch,W6 n,Ba n (n+1) ⋯]
theorem Jr:∀n k:Nat,(k+1)*ch (n+1) (k+1)=(n+1)*ch n k
 |0,0=>rfl
 |0,k+1=>by
  have e:ch (0+1) (k+1+1)=ch 0 (k+1)+ch 0 (k+1+1):=rfl;rw[e,Ba 0 (k+1) ⋯,Ba 0 (k+1+1) ⋯];simp
 |n+1,0=>by
  have:=Jr n 0;have e:ch (n+1+1) (0+1)=ch (n+1) 0+ch (n+1) (0+1):=rfl;simp only[C5]at e⊢;rw[e];rw[C5]at this;omega
 |n+1,k+1=>by
  have h1:=Jr n k;have h2:=Jr n (k+1);rw[ch,yO];have e1:(k+1+1)*ch (n+1) (k+1)=(n+1)*ch n k+ch (n+1) (k+1):=by rw[sV,h1]
  rw[e1,h2];have e2:ch (n+1) (k+1)=ch n k+ch n (k+1):=rfl;rw[e2,sV (n+1),yO];omega
def cG.dch{p k:Nat}(h:cG p)(h0:0<k)(hk:k<p):p∣ch p k:=by
 obtain⟨n,rfl⟩:∃n,p=n+1:=⟨p-1,by have:=h.1;omega⟩;obtain⟨j,rfl⟩:∃j,k=j+1:=⟨k-1,⋯⟩;have e:=Jr n j;rcases h.dvd (x:=j+1) (y:=Om.ch (n+1) (j+1)) (by rw[e];exact abW ..)with d|d
 .exact absurd (pH ⋯ d) ⋯
 .exact d
def sN(f:Nat->Nat):Nat->Nat
 |0=>0
 |n+1=>sN f n+f n
theorem ab4{f g:Nat->Nat}:∀{n:Nat},(∀k,k<n->f k=g k)->sN f n=sN g n
 |0,_=>rfl
 |n+1,h=>by rw[sN,sN,ab4 λk hk=>h k ⋯,h n ⋯]
theorem afY(f g:Nat->Nat):∀n,sN (λk=>f k+g k) n=sN f n+sN g n
 |0=>rfl
 |n+1=>by rw[sN,sN,sN,afY f g n];omega
theorem adU(c:Nat)(f:Nat->Nat):∀n,sN (λk=>c*f k) n=c*sN f n
 |0=>rfl
 |n+1=>by rw[sN,sN,adU c f n,yO]
theorem GK(f:Nat->Nat):∀n,sN f (n+1)=f 0+sN (λk=>f (k+1)) n
 |0=>by rw[sN,sN,sN];omega
 |n+1=>by rw[sN,GK f n,sN];omega
theorem adl{p:Nat}{f:Nat->Nat}:∀{n:Nat},(∀k,k<n->p∣f k)->p∣sN f n
 |0,_=>Nat.dvd_zero _
 |n+1,h=>Nat.dvd_add (adl λk hk=>h k ⋯) (h n ⋯)
theorem aa4(a:Nat):∀n,(a+1)^n=sN (λk=>ch n k*a^k) (n+1)
 |0=>by simp[sN,ch]
 |n+1=>by
  rw[xV,aa4 a n,GK (λk=>ch (n+1) k*a^k) (n+1)];have e1:sN (λk=>ch (n+1) (k+1)*a^(k+1)) (n+1)=sN (λk=>a*(ch n k*a^k)) (n+1)+sN (λk=>ch n (k+1)*a^(k+1)) (n+1):=by
   rw[<-afY];refine ab4 λk _=>?_;rw[ch,yu,xV];congr 1;rw[qF a,Il]
  have e2:sN (λk=>ch n k*a^k) (n+1)=1+sN (λk=>ch n (k+1)*a^(k+1)) (n+1):=by
   have e3:sN (λk=>ch n k*a^k) (n+1+1)=sN (λk=>ch n k*a^k) (n+1):=by rw[sN,Ba n (n+1) ⋯,Ub,NW]
   rw[<-e3,GK];rw[C5,EB]
  rw[e1,adU,C5,EB,yO,Cm,qF];omega
theorem cG.pow{p:Nat}(h:cG p):∀a:Nat,a^p%p=a%p
 |0=>by rw[Nat.zero_pow (by have:=h.1;omega)]
 |a+1=>by
  obtain⟨n,rfl⟩:∃n,p=n+1:=⟨p-1,by have:=h.1;omega⟩;have e:(a+1)^(n+1)=1+sN (λk=>ch (n+1) (k+1)*a^(k+1)) n+a^(n+1):=by
   rw[aa4,sN,GK,C5,EB,W6,nJ,nJ]
  obtain⟨c,hc⟩:(n+1)∣sN (λk=>ch (n+1) (k+1)*a^(k+1)) n:=adl λk hk=>B6 (h.dch ⋯ ⋯) (abW ..);rw[e,hc,show 1+(n+1)*c+a^(n+1)=(a^(n+1)+1)+(n+1)*c by omega,ade,Nat.add_mod,cG.pow h a,<-Nat.add_mod]
def cG.awz{p a:Nat}(h:cG p)(h0:a≠0)(ha:a<p):a^(p-1)%p=1:=by
 have hp:=h.1;have e:=h.pow a;obtain⟨n,rfl⟩:∃n,p=n+1:=⟨p-1,⋯⟩;rw[fR];have one:1<=a^n:=Nat.pow_pos ⋯;have d:(n+1)∣a*(a^n-1):=by
  have e2:a*(a^n-1)=a^(n+1)-a:=by rw[Nat.mul_sub,Cm,xV,qF]
  rw[e2];exact Wa (Nat.sub_mod_eq_zero_of_mod_eq e)
 rcases h.dvd d with d|⟨c,hc⟩
 .exact absurd (pH ⋯ d) ⋯
 .rw[show a^n=1+(n+1)*c by omega,ade];exact Nat.mod_eq_of_lt ⋯
end Om
namespace Pm
open Rm
def Kf(f:Nat->Int)(n:Nat)(a:Nat->Int):Prop:=∀m,sm n (λk=>f k*a (m+k))=0
def Kf.less{f:Nat->Int}{n m:Nat}{a:Nat->Int}(h:Kf f m a)(hf:Fs f n)(hm:n<=m):Kf f n a:=λi=>by
 rw[<-mK (n:=m) hm λk h1 _=>by rw[hf k h1,gb]];exact h i
def Kf.lin{f g:Nat->Int}{n:Nat}{a:Nat->Int}(c d:Int)(h:Kf f n a)(h':Kf g n a):Kf (λk=>c*f k+d*g k) n a:=λi=>by
 have e:sm n (λk=>(c*f k+d*g k)*a (i+k))=c*sm n (λk=>f k*a (i+k))+d*sm n (λk=>g k*a (i+k)):=by
  rw[<-dF,<-dF,<-iJ];exact aR λk _=>by rw[tU,bU,bU]
 rw[e,h i,h' i];simp
def Kf.shift{f:Nat->Int}{n:Nat}{a:Nat->Int}(s:Nat)(h:Kf f n a):Kf (λk=>if s<=k then f (k-s)else 0) (s+n) a:=λi=>by
 have e:∀s,sm (s+n) (λk=>(if s<=k then f (k-s)else 0)*a (i+k))=sm n (λk=>f k*a (i+s+k)):=λs=>by
  induction s generalizing i with
  |zero=>rw[GV];exact aR λk _=>by rw[if_pos (cD _)];rfl
  |succ s ih=>
   rw[show s+1+n=(s+n)+1 by omega,oN,if_neg ⋯,gb,gY];rw[show i+(s+1)=(i+1)+s by omega,<-ih (i+1)];refine aR λk _=>?_;rw[show i+(k+1)=i+1+k by omega];by_cases c:s<=k
   .rw[if_pos c,if_pos ⋯,show k+1-(s+1)=k-s by omega]
   .rw[if_neg c,if_neg ⋯]
 rw[e];exact h _
def Kf.div{f:Nat->Int}{n:Nat}{a:Nat->Int}{c:Int}(hc:c≠0)(h:Kf (λk=>c*f k) n a):Kf f n a:=λi=>by
 have e:=h i;rw[show(λk=>c*f k*a (i+k))=λk=>c*(f k*a (i+k))from funext λk=>bU ..,dF]at e;exact(lH.mp e).resolve_left hc
def Kf.of{p:List Int}{a:Nat->Int}(h:Kp 0 p a):Kf (co p) p.length a:=λi=>by
 have:=h i;rw[aY]at this;exact this
def alP:∀n:Nat,2<=n->∃p,Om.cG p/\p∣n:=λn=>by
 induction n using rM with
 |ind n ih=>
  intro hn;by_cases h:∀d,d∣n->d=1∨d=n
  .exact⟨n,⟨hn,h⟩,aek n⟩
  .obtain⟨d,hd⟩:=CT.mp h;obtain⟨hd,hn1⟩:=R6.mp hd;have h0:d≠0:=λe=>by rw[e]at hd;have:=Nat.eq_zero_of_zero_dvd hd;omega
   have hl:=pH ⋯ hd;have h1:d≠1:=λe=>hn1 (.inl e);have h2:d≠n:=λe=>hn1 (.inr e);obtain⟨p,hp,hq⟩:=ih d ⋯ ⋯;exact⟨p,hp,B6 hq hd⟩
def least_of{Q:Nat->Prop}(h:∃n,Q n):∃n,Q n/\∀m,Q m->n<=m:=by
 obtain⟨n,hn⟩:=h;induction n using rM with
 |ind n ih=>
  by_cases c:∃m,m<n/\Q m
  .obtain⟨m,h1,h2⟩:=c;exact ih m h1 h2
  .exact⟨n,hn,λm hm=>by
    by_cases d:m<n
    .exact absurd ⟨m,d,hm⟩ c
    .omega⟩
def CN{p:Nat}{x:Int}:(p:Int)∣x↔p∣x.natAbs:=Qv
def Ew{p:Nat}(hp:Om.cG p){x y:Int}(h:(p:Int)∣x*y):(p:Int)∣x∨(p:Int)∣y:=by
 rw[CN,jX]at h;rcases hp.dvd h with h|h
 .exact .inl (CN.mpr h)
 .exact .inr (CN.mpr h)
theorem WD{d:Int}{f:Nat->Int}:∀{n:Nat},(∀k,k<n->d∣f k)->d∣sm n f
 |0,_=>⟨0,by rw[aP];rfl⟩
 |n+1,h=>tK (WD λk hk=>h k ⋯) (h n ⋯)
def ark{d:Int}{f:Nat->Int}{n j:Nat}(hj:j<n)(h:d∣sm n f)(ho:∀k,k<n->k≠j->d∣f k):d∣f j:=by
 have e:sm n f=sm n (λk=>if k=j then f j else 0)+sm n (λk=>if k=j then 0 else f k):=by
  rw[<-iJ];refine aR λk _=>?_;by_cases c:k=j
  .rw[if_pos c,if_pos c,c,dj]
  .rw[if_neg c,if_neg c,gY]
 rw[lV,if_pos hj]at e;have h2:d∣sm n (λk=>if k=j then 0 else f k):=WD λk hk=>by
  by_cases c:k=j
  .rw[if_pos c];exact⟨0,by rw[aP]⟩
  .rw[if_neg c];exact ho k hk c
 have:f j=sm n f-sm n (λk=>if k=j then 0 else f k):=⋯;rw[this];exact Int.dvd_sub h h2
def auy{p:Nat}(hp:Om.cG p){f g:Nat->Int}(h:∀k,(p:Int)∣cv f g k):(∀k,(p:Int)∣f k)∨∀k,(p:Int)∣g k:=by
 by_cases hf:∀k,(p:Int)∣f k
 .exact .inl hf
 by_cases hg:∀k,(p:Int)∣g k
 .exact .inr hg
 obtain⟨i,hi,hi'⟩:=least_of (CT.mp hf);obtain⟨j,hj,hj'⟩:=least_of (CT.mp hg);have e:=h (i+j);rw[fV]at e;have t:=ark (j:=i) ⋯ e λk hk hne=>by
  by_cases c:k<i
  .have:(p:Int)∣f k:=uX λz=>by have:=hi' k z;omega
   exact CW this (Bs ..)
  .have:(p:Int)∣g (i+j-k):=uX λz=>by have:=hj' _ z;omega
   exact CW this (WK ..)
 rw[CV]at t;rcases Ew hp t with t|t
 .exact absurd t hi
 .exact absurd t hj
theorem Fs.top{f:Nat->Int}:∀{n:Nat},Fs f n->(∀k,f k=0)∨∃d,d<n/\f d≠0/\Fs f (d+1)
 |0,h=> .inl λk=>h k (cD _)
 |n+1,h=>by
  by_cases c:f n=0
  .have h':Fs f n:=λk hk=>by
    by_cases e:k=n
    .rw[e];exact c
    .exact h k ⋯
   rcases Fs.top h' with z|⟨d,h1,h2,h3⟩
   .exact .inl z
   .exact .inr ⟨d,⋯,h2,h3⟩
  .exact .inr ⟨n,⋯,c,h⟩
structure Lk(a:Nat->Int)(d:Nat)(f:Nat->Int):Prop where
 fs:Fs f (d+1)
 ne:f d≠0
 kf:Kf f (d+1) a
def axy{a f:Nat->Int}{d:Nat}(hf:Lk a d f)(hd:∀e g,Lk a e g->d<=e):∀(n:Nat) (q:Nat->Int),Fs q n->Kf q n a->∃(m:Int) (G:Nat->Int) (N:Nat),m≠0/\Fs G N/\∀k,m*q k=cv G f k:=λn=>by
 induction n using rM with
 |ind n ih=>
  intro q hq hk;rcases hq.top with z|⟨e,hen,hne,hfe⟩
  .exact⟨1,λ_=>0,0,∅,λ_ _=>rfl,λk=>by rw[z k,jR λi _=> .inl rfl];rfl⟩
  .have hke:Kf q (e+1) a:=hk.less hfe ⋯;have hde:=hd e q ⟨hfe,hne,hke⟩;have ks:=hf.kf.shift (e-d);rw[show e-d+(d+1)=e+1 by omega]at ks;have kl:=hke.lin (f d) (-(q e)) ks;have fl:Fs (λk=>f d*q k + -(q e)*(if e-d<=k then f (k-(e-d))else 0)) e:=λk hk=>by
    show f d*q k + -(q e)*(if e-d<=k then f (k-(e-d))else 0)=0;rw[if_pos ⋯];by_cases c:k=e
    .rw[c,show e-(e-d)=d by omega,gO,cC (q e),Int.add_right_neg]
    .rw[hfe k ⋯,hf.fs (k-(e-d)) ⋯,aP,aP];rfl
   obtain⟨m,G,N,hm,hG,hE⟩:=ih e hen _ fl (kl.less fl ⋯);refine⟨m*f d,λk=>G k+m*q e*(if k=e-d then 1 else 0),N+(e-d+1),V9 hm hf.ne,λk hk=>?_,λk=>?_⟩
   .show G k+m*q e*(if k=e-d then 1 else 0)=0;rw[hG k ⋯,if_neg ⋯,aP];rfl
   .rw[mC,nO,BL,<-hE k];by_cases c:e-d<=k
    .rw[if_pos c,if_pos c,gq,iG,gO,qH,bU,bU,Int.neg_add_cancel_right]
    .rw[if_neg c,if_neg c,gq];simp[bU]
def avq{a:Nat->Int}{P:List Int}(hP:Mon P)(hk:Kp 0 P a):∃L,Mon L/\Py 0 L/\Kp 0 L a/\L.length<=P.length/\(∀q,Kp 0 q a->Dv 0 L (co q))/\∀e g,Lk a e g->L.length-1<=e:=by
 have hp:=hP.pos;have p0:Lk a (P.length-1) (co P):=⟨by rw[show P.length-1+1=P.length by omega];exact Fs.co P,by rw[hP.one];decide,by rw[show P.length-1+1=P.length by omega];exact Kf.of hk⟩;obtain⟨d,⟨f0,hf0⟩,hd⟩:=least_of (Q:=λd=>∃f,Lk a d f) ⟨_,_,p0⟩;have hd':∀e g,Lk a e g->d<=e:=λe g h=>hd e ⟨g,h⟩;obtain⟨c,⟨f,hf,hc⟩,hc'⟩:=least_of (Q:=λc=>∃f,Lk a d f/\(f d).natAbs=c) ⟨_,f0,hf0,rfl⟩;obtain⟨m0,G0,N0,hm0,hG0,hE0⟩:=axy hf hd' P.length (co P) (Fs.co P) (Kf.of hk);obtain⟨n,⟨m,G,N,hm,hG,hE,hn⟩,hn'⟩:=least_of (Q:=λn=>∃(m:Int) (G:Nat->Int) (N:Nat),m≠0/\Fs G N/\(∀k,m*co P k=cv G f k)/\m.natAbs=n) ⟨_,m0,G0,N0,hm0,hG0,hE0,rfl⟩;have h1:m.natAbs=1:=by
  by_cases c2:m.natAbs=1
  .exact c2
  .have h0:m.natAbs≠0:=⋯;obtain⟨p,hp,hd⟩:=alP m.natAbs ⋯;have hpp:=hp.1;have hp0:(p:Int)≠0:=⋯;obtain⟨m',em⟩:=CN.mpr hd;have hm':m'≠0:=λz=>hm (by rw[em,z,aP]);rcases auy hp (f:=G) (g:=f) λk=>by rw[<-hE k,em,bU];exact Bs .. with z|z
   .exfalso
    obtain⟨G',hg⟩:=LK.mp z;refine absurd (hn' m'.natAbs ⟨m',G',N,hm',λk hk=>?_,λk=>?_,rfl⟩) ?_
    .have:=hg k;rw[hG k hk]at this;exact(lH.mp this.symm).resolve_left hp0
    .refine HS hp0 ?_;rw[<-nO,<-bU,<-em,hE k];exact qj (λi _=>hg i) λ_ _=>rfl
    .rw[<-hn,em,jX,uM];have:0<m'.natAbs:=⋯;have:2*m'.natAbs<=p*m'.natAbs:=qd _ hpp;omega
   .exfalso
    obtain⟨f',hg⟩:=LK.mp z;have e:f=λk=>p*f' k:=funext λk=>hg k;have q:Lk a d f':=⟨λk hk=>by
     have:=hg k;rw[hf.fs k hk]at this;exact(lH.mp this.symm).resolve_left hp0,λz=>hf.ne (by rw[hg d,z,aP]),by
     have:=hf.kf;rw[e]at this;exact this.div hp0⟩
    refine absurd (hc' _ ⟨_,q,rfl⟩) ?_;have e2:=congrArg Dd (hg d);rw[jX,uM,hc]at e2;have hne:=q.ne;have:0<(f' d).natAbs:=⋯;have:2*(f' d).natAbs<=p*(f' d).natAbs:=qd _ hpp;rw[e2];show ¬p*(f' d).natAbs<=(f' d).natAbs;omega
 have hu:(f d).natAbs=1:=by
  rcases hG.top with z|⟨e,_,hne,hfe⟩
  .exfalso
   have:=hE (P.length-1);rw[hP.one,ju,jR λi _=> .inl (z i)]at this;exact hm this
  .have t:cv G f (e+d)=G e*f d:=by
    rw[fV,aR (g:=λi=>if i=e then G e*f d else 0) λi _=>by
     by_cases c3:i=e
     .rw[if_pos c3,c3,CV]
     .rw[if_neg c3];by_cases c4:i<e
      .rw[hf.fs _ ⋯,aP]
      .rw[hfe i ⋯,gb],lV,if_pos ⋯]
   have hx:G e*f d≠0:=V9 hne hf.ne;have e1:=hE (e+d);rw[t]at e1;have hl:e+d=P.length-1:=by
    by_cases c3:P.length<=e+d
    .rw[aX c3,aP]at e1;exact absurd e1.symm hx
    .by_cases c4:e+d=P.length-1
     .exact c4
     .exfalso
      have e2:=hE (P.length-1);rw[hP.one,ju,jR λi hi=>by
       by_cases c5:e+1<=i
       .exact .inl (hfe i c5)
       .exact .inr (hf.fs _ ⋯)]at e2
      exact hm e2
   rw[hl,hP.one,ju]at e1;have e3:=congrArg Dd e1;rw[jX,h1]at e3;exact Nat.eq_one_of_mul_eq_one_left e3.symm
 have hs:f d*f d=1:=by
  rcases Int.natAbs_eq (f d)with h|h<;>rw[h,hu]<;>rfl
 have hLc:∀k,co (aM (d+1) λk=>f d*f k) k=f d*f k:=λk=>by
  rw[cX];by_cases c3:k<d+1
  .rw[if_pos c3]
  .rw[if_neg c3,hf.fs k ⋯,aP]
 have hM:Mon (aM (d+1) λk=>f d*f k):=⟨by rw[cA];omega,by rw[cA,fR,hLc,hs]⟩;have hK:Kp 0 (aM (d+1) λk=>f d*f k) a:=λi=>by
  rw[aY];unfold ks;rw[cA,aR (g:=λk=>f d*(f k*a (i+k))) λk _=>by rw[hLc,bU],dF,hf.kf i,aP]
 refine⟨aM (d+1) λk=>f d*f k,hM,⟨?_,λx _=>aY x⟩,hK,?_,λq hq=>?_,λe g h=>by rw[cA];exact hd' e g h⟩
 .refine vR (λz=>?_) (by rw[hM.one];decide);have:=hM.pos;rw[z]at this;exact absurd this ∅
 .rw[cA];have:=hd' _ _ p0;omega
 .obtain⟨o,r,D⟩:=aeZ (b:=0) hM (p:=q) λk=>aY _;have kr:=(D.kp hK).mp hq;have rn:r=[]:=by
   by_cases c3:r=[]
   .exact c3
   .exfalso
    have hl:0<r.length:=AF.mpr c3;have hne:=rW c3 D.ry.tr;have:=hd' (r.length-1) (co r) ⟨by rw[show r.length-1+1=r.length by omega];exact Fs.co r,hne,by rw[show r.length-1+1=r.length by omega];exact Kf.of kr⟩;have hsh:=D.short;rw[cA]at hsh;omega
  refine⟨co o,o.length,Fs.co o,λk=>?_⟩;rw[<-D.eq k,rn,fW,dj]
end Pm
namespace Dm
open Pm Rm
def amw{n:Nat}(f:Nat->Nat->Int)(x:Nat->Int){j:Nat}(hj:j<n):det n (cL f j λi=>sm n λk=>f i k*x k)=x j*det n f:=by
 have e0:(λi=>sm n λk=>f i k*x k)=λi=>sm n λk=>x k*f i k:=funext λi=>aR λk _=>cC ..;rw[e0,Du f hj x (λk i=>f i k)];have e2:sm n (λk=>x k*det n (cL f j λi=>f i k))=sm n (λk=>if k=j then x j*det n f else 0):=aR λk hk=>by
  by_cases c:k=j
  .rw[if_pos c,c,za]
  .rw[if_neg c];have z:det n (cL f j λi=>f i k)=0:=by
    rcases Kq c with l|l
    .exact su l hj λi _=>by rw[nT,nG ⋯]
    .exact su l hk λi _=>by rw[nT,nG ⋯]
   rw[z,aP]
 rw[e2,lV,if_pos hj]
def awN{b:Int}{n:Nat}{f:Nat->Nat->Int}{x:Nat->Int}(h:Rel b n n f x){j:Nat}(hj:j<n):tk b (x j*det n f)=0:=by
 have hx:∀i,∃e,i<n->(sm n λk=>f i k*x k)=b*e:=λi=>by
  by_cases c:i<n
  .obtain⟨e,he⟩:=rZ.mp (h i c);exact⟨e,λ_=>he⟩
  .exact⟨0,λz=>absurd z c⟩
 obtain⟨e,he⟩:=LK.mp hx;rw[<-amw f x hj];have e1:det n (cL f j λi=>sm n λk=>f i k*x k)=det n (cL f j λi=>b*e i+0):=jF λi k hi _=>by
  unfold cL;split
  .show(sm n λk=>f i k*x k)=b*e i+0;rw[he i hi,dj]
  .rfl
 rw[e1,vX f hj b e (λ_=>0),DB f hj,dj];exact rZ.mpr ⟨_,rfl⟩
def axM{b:Int}{n:Nat}{f:Nat->Nat->Int}(hD:Dom b)(h:tk b (det n f)≠0):sH b n n f:=λx hx k hk=>
 hD (det n f) (x k) h (by rw[cC];exact awN hx hk)
structure Cp(b:Int)(n:Nat)(A0:Nat->Nat->Int)(c:Nat)(A:Nat->Nat->Int)(hd:Nat->Nat)(r:Nat):Prop where
 sw:tY n A0 A
 nz:tk b (dt A hd r)≠0
 rn:r<=n
 hc:∀h,h<r->hd h<c
 up:∀h h',h<h'->h'<r->hd h<hd h'
 zero:∀k,k<c->(∀h,h<r->hd h≠k)->∀i,r<=i->i<n->tk b (En A hd r i k)=0
def Cp.bring{b:Int}{n:Nat}{A0:Nat->Nat->Int}{c:Nat}{A:Nat->Nat->Int}{hd:Nat->Nat}{r:Nat}(h:Cp b n A0 c A hd r){a:Nat}(hra:r<a)(han:a<n):Cp b n A0 c (turn A r a) hd r:=
 ⟨.step h.sw hra han,by rw[Jy (aN _) ⋯];exact h.nz,h.rn,h.hc,h.up,λk hk hn i h1 h2=>by
  rw[Bq (aN _) hra];split
  .exact h.zero k hk hn a ⋯ han
  .split
   .exact xP (h.zero k hk hn r (aN _) ⋯)
   .exact h.zero k hk hn i h1 h2⟩
def Cp.free{b:Int}{n:Nat}{A0:Nat->Nat->Int}{c:Nat}{A:Nat->Nat->Int}{hd:Nat->Nat}{r:Nat}(h:Cp b n A0 c A hd r)(hD:Dom b)(hrn:r<n)(hp:tk b (En A hd r r c)≠0):Cp b n A0 (c+1) A (more hd r c) (r+1):=by
 have hpi:En A hd r r c≠0:=λz=>hp (by rw[z];exact tk0 b);have ml:∀j,j<r->more hd r c j=hd j:=λj hj=>if_neg ⋯;have me:more hd r c r=c:=if_pos rfl;refine⟨h.sw,by rw[Tz];exact hp,⋯,λj hj=>?_,λj j' h1 h2=>?_,λk hk hn i h1 h2=>?_⟩
 .by_cases e:j=r
  .rw[e,me];omega
  .rw[ml j ⋯];have:=h.hc j ⋯;omega
 .by_cases e:j'=r
  .rw[e,me,ml j ⋯];exact h.hc j ⋯
  .rw[ml j' ⋯,ml j ⋯];exact h.up j j' h1 ⋯
 .have hkc:k≠c:=λe=>hn r ⋯ (by rw[me,e]);have hn':∀j,j<r->hd j≠k:=λj hj=>by rw[<-ml j hj];exact hn j ⋯
  refine hD _ _ h.nz ?_;rw[Bl hpi ⋯];exact agp (Eb _ (h.zero k ⋯ hn' i ⋯ h2)) (Eb _ (h.zero k ⋯ hn' r (aN _) hrn))
def Cp.step{b:Int}{n:Nat}{A0:Nat->Nat->Int}{c:Nat}{A:Nat->Nat->Int}{hd:Nat->Nat}{r:Nat}(h:Cp b n A0 c A hd r)(hD:Dom b):∃A hd r,Cp b n A0 (c+1) A hd r:=by
 by_cases z:∀i,r<=i->i<n->tk b (En A hd r i c)=0
 .refine⟨A,hd,r,h.sw,h.nz,h.rn,λj hj=>by have:=h.hc j hj;omega,h.up,λk hk hn i h1 h2=>?_⟩;by_cases e:k=c
  .rw[e];exact z i h1 h2
  .exact h.zero k ⋯ hn i h1 h2
 .obtain⟨i,hi⟩:=CT.mp z;obtain⟨h1,hi⟩:=R6.mp hi;obtain⟨h2,hi⟩:=R6.mp hi;by_cases e:i=r
  .rw[e]at hi;exact⟨_,_,_,h.free hD ⋯ hi⟩
  .refine⟨_,_,_,(h.bring (a:=i) ⋯ h2).free hD ⋯ ?_⟩;rw[Bq (aN _) ⋯,if_pos rfl];exact hi
theorem Cp.ex{b:Int}(hD:Dom b)(h1:tk b 1≠0)(n:Nat)(A0:Nat->Nat->Int):∀c,∃A hd r,Cp b n A0 c A hd r
 |0=>⟨A0,λ_=>0,0,.refl,by rw[Vl];exact h1,cD _,λh hh=>absurd hh (mH _),λ_ _ _ h=>absurd h (mH _),λk hk=>absurd hk (mH _)⟩
 |c+1=>by
  obtain⟨A,hd,r,h⟩:=Cp.ex hD h1 n A0 c;exact h.step hD
def alg{hd:Nat->Nat}{r m:Nat}(hc:∀h,h<r->hd h<m)(up:∀h h',h<h'->h'<r->hd h<hd h')(RJ:∀k,k<m->∃j,j<r/\hd j=k):r=m/\∀k,k<m->hd k=k:=by
 have ge:∀j,j<r->j<=hd j:=λj=>by
  induction j with
  |zero=>intro _;exact cD _
  |succ j ih=>
   intro hj;have:=ih ⋯;have:=up j (j+1) ⋯ hj;omega
 have all:∀k,k<m->k<r/\hd k=k:=λk=>by
  induction k using rM with
  |ind k ih=>
   intro hk;obtain⟨j,hj,e⟩:=RJ k hk;have g:=ge j hj;by_cases c:j=k
   .rw[<-c];exact⟨hj,by rw[e,c]⟩
   .have:=(ih j ⋯ ⋯).2;omega
 refine⟨?_,λk hk=>(all k hk).2⟩;by_cases c:r<=m
 .by_cases c2:r=m
  .exact c2
  .have:=(all r ⋯).1;omega
 .have:=hc m ⋯;have:=ge m ⋯;omega
def abV{b:Int}{n:Nat}{A0:Nat->Nat->Int}(hD:Dom b)(h1:tk b 1≠0)(hI:sH b n n A0):tk b (det n A0)≠0:=by
 obtain⟨A,hd,r,h⟩:=Cp.ex hD h1 n A0 n;have H:=alg h.hc h.up λk hk=>by
  by_cases c:∃j,j<r/\hd j=k
  .exact c
  .exfalso
   have hn:∀j,j<r->hd j≠k:=λj hj e=>c ⟨j,hj,e⟩;have R:=K3 (A:=A) (hd:=hd) (r:=r) (m:=n) (k:=k) (b:=b) (n:=n) h.hc hk (h.zero k hk hn);have z:=hI _ (h.sw.rel.mpr R) k hk;rw[if_pos rfl,jl (λj hj=>by rw[if_neg (λe=>hn j hj e.symm)]),lY]at z;have:=xP z;rw[xK]at this;exact h.nz this
 obtain⟨e,H⟩:=H;subst e;rw[<-h.sw.det];have:=h.nz;have q:dt A hd r=det r A:=jF λi k _ hk=>by unfold Bk;rw[H k hk]
 rwa [q]at this
end Dm
namespace Dm
open Pm Rm
def hk(a:Nat->Int):Nat->Nat->Int:=λi j=>a (i+j)
def Yc(x a:Nat->Int)(l i:Nat):sm l (λk=>hk a i k*x k)=ks (aM l x) a i:=by
 unfold ks;rw[cA];refine aR λk hk'=>?_;rw[cX,if_pos hk',cC];rfl
def aw9{b:Int}(hD:Dom b)(h1:tk b 1≠0){L:List Int}{a:Nat->Int}(hL:Mon L)(hw:∀k,tk b (co L k)=co L k)(hK:Kp b L a)(hm:∀q,Kp b q a->Dv b L (co q)):tk b (det (L.length-1) (hk a))≠0:=by
 refine abV hD h1 λx hx k hk'=>?_;have e:=BP hw hL;have ha:∀n,(fO b L).length<=n->tk b (a n)=tk b (S (fO b L) a n (fO b L).length):=Kp.rec (by rw[e];exact hK);have hq:Kp b (aM (L.length-1) x) a:=LR ha λn hn=>by
  rw[nF]at hn;rw[<-Yc];exact hx n hn
 have z:=(hm _ hq).short hL (by have:=Fs.co (aM (L.length-1) x);rwa [cA]at this) k
 rwa [cX,if_pos hk']at z
def ah9{b:Int}(hD:Dom b){l:Nat}{a:Nat->Int}(h:tk b (det l (hk a))≠0){q:List Int}(hq:q.length<=l)(hK:Kp b q a):∀k,tk b (co q k)=0:=λk=>by
 have hI:=axM hD h (co q) λi hi=>by
  rw[Yc];have e:ks (aM l (co q)) a i=ks q a i:=by
   rw[<-vP q a i hq];unfold ks;rw[cA];exact aR λk hk'=>by rw[cX,if_pos hk']
  rw[e];exact hK i
 by_cases c:k<l
 .exact hI k c
 .rw[aX ⋯,tk0]
def Dom.pr{p:Nat}(hp:Om.cG p):Dom (p:Int):=λx y hx h=>by
 have h2:=hp.1;obtain⟨e,he⟩:=rZ.mp h;rcases Ew hp (x:=x) (y:=y) ⟨e,he⟩with⟨z,hz⟩|⟨z,hz⟩
 .exact absurd (rZ.mpr ⟨z,hz⟩) hx
 .exact rZ.mpr ⟨z,hz⟩
end Dm
namespace Pm
open Rm Dm
structure vq(P:List Int)(T:Nat->Int)(g:List Int)(N:Int):Prop where
 mon:Mon g
 py:Py 0 g
 ne:N≠0
 one:Dv 0 g (co P)
 two:Dv 0 g T
 all:∀h:List Int,Mon h->Dv 0 h (co P)->Dv 0 h T->Dv 0 h (co g)
 good:∀(p:Nat) (s:List Int),Om.cG p->¬(p:Int)∣N->Mon s->Dv p s (co P)->Dv p s T->s.length<=g.length
theorem Dv.by{b:Int}{m:List Int}{f:Nat->Int}(h:Dv 0 m f):Dv b m f:=by
 obtain⟨s,n,hs,h⟩:=h;exact⟨s,n,hs,λk=>by have:=h k;rw[aY,aY]at this;rw[this]⟩
def Dv.len{b:Int}(h1:tk b 1=1){m p:List Int}(hm:Mon m)(hp:Mon p)(h:Dv b m (co p)):m.length<=p.length:=by
 by_cases c:m.length<=p.length
 .exact c
 .exfalso
  have:=h.short hm ((Fs.co p).mono ⋯) (p.length-1);rw[hp.one,h1]at this;exact absurd this ∅
def yG{b:Int}(h1:tk b 1=1){P g:List Int}(hP:Mon P)(hg:Mon g)(h:Dv b g (co P)):∃L:List Int,Mon L/\(∀k,tk b (co L k)=co L k)/\L.length+g.length=P.length+1/\∀k,tk b (co P k)=tk b (cv (co L) (co g) k):=by
 have hl:=h.len h1 hg hP;have hp:=hP.pos;have hgp:=hg.pos;obtain⟨s,n,hs,h⟩:=h;have key:∀d j,n<=j+d->P.length-g.length<j->tk b (s j)=0:=λd=>by
  induction d with
  |zero=>intro j hj _;rw[hs j hj,tk0]
  |succ d ih=>
   intro j hj hj2;have e:=h (j+(g.length-1));rw[aX ⋯,tk0,fV]at e;have e2:tk b (sm (j+(g.length-1)+1) λi=>s i*co g (j+(g.length-1)-i))=tk b (sm (j+(g.length-1)+1) λi=>if i=j then s j else 0):=iR λi hi=>by
    by_cases c:i=j
    .rw[if_pos c,c,CV,hg.one,ju]
    .rw[if_neg c,tk0];by_cases d2:i<j
     .rw[aX ⋯,aP,tk0]
     .rw[cC];exact Ii _ (ih i ⋯ ⋯)
   rw[e2,lV,if_pos ⋯]at e;exact e.symm
 have z:∀k,P.length-g.length<k->tk b (s k)=0:=λk hk=>key n k ⋯ hk;have t1:tk b (s (P.length-g.length))=1:=by
  have e:=h (P.length-1);rw[hP.one,h1,fV]at e;have e2:tk b (sm (P.length-1+1) λi=>s i*co g (P.length-1-i))=tk b (sm (P.length-1+1) λi=>if i=P.length-g.length then s (P.length-g.length)else 0):=iR λi hi=>by
   by_cases c:i=P.length-g.length
   .rw[if_pos c,c,show P.length-1-(P.length-g.length)=g.length-1 by omega,hg.one,ju]
   .rw[if_neg c,tk0];by_cases d2:i<P.length-g.length
    .rw[aX ⋯,aP,tk0]
    .rw[cC];exact Ii _ (z i ⋯)
  rw[e2,lV,if_pos ⋯]at e;exact e.symm
 have hc:∀k,co (aM (P.length-g.length+1) λk=>tk b (s k)) k=tk b (s k):=λk=>by
  rw[cX];by_cases c:k<P.length-g.length+1
  .rw[if_pos c]
  .rw[if_neg c,z k ⋯]
 refine⟨aM (P.length-g.length+1) λk=>tk b (s k),⟨by rw[cA];omega,?_⟩,λk=>?_,by rw[cA];omega,λk=>?_⟩
 .rw[cA,fR,hc,t1]
 .rw[hc,gR]
 .rw[h k];exact iM (λi _=>by rw[hc,gR]) λi _=>rfl
def aqe{b:Int}{P:List Int}(hP:Mon P)(k:Nat):tk b (co P k)=tk b (co (aV b (fO b P)) k):=by
 have hp:=hP.pos;rw[aV,oA,cA,nF];by_cases c:k<P.length-1
 .rw[if_pos c,cX,if_pos c,fO,cX,if_pos ⋯,XY,gR];rw[show P.length-1-1-(P.length-1-1-k)=k by omega]
 .rw[if_neg c];by_cases d:k=P.length-1
  .rw[d,hP.one,rT];rfl
  .rw[aX ⋯,aX (by simp;omega)]
def keepsP{b:Int}{P:List Int}{a:Nat->Int}(hm:Mon P)(hK:Kp b P a)(q:List Int):Kp b q a↔Dv b P (cv (co q) (tp P a)):=by
 have A:=Qe hm.pos q hK;constructor
 .intro h;have z:Dv b P (tp P (ks q a)):=(Dv.zero b _).congr λk=>by
   have:=YL (b:=b) (P:=P) (a:=ks q a) (a':=λ_=>0) (λn=>by rw[h n,tk0]) k;rw[this];exact(congrArg (tk b) (show tp P (λ_=>0) k=0 from jl λi _=>aP _)).symm
  exact(A.add z).congr λk=>by rw[acJ]
 .intro h;have z:Dv b P (tp P (ks q a)):=(h.sub A).congr λk=>by
   rw[show cv (co q) (tp P a) k-(cv (co q) (tp P a) k-tp P (ks q a) k)=tp P (ks q a) k by omega]
  have n0:=XC hm (z.short hm (yM _ _));have ha:∀n,(fO b P).length<=n->tk b (a n)=tk b (S (fO b P) a n (fO b P).length):=Kp.rec (hK.congr (aqe hm));exact LR ha λn hn=>n0 n (by rw[nF]at hn;exact hn)
def abJ{b:Int}{m:List Int}(hm:Mon m){f g:Nat->Int}{n n':Nat}(hf:Fs f n)(hg:Fs g n')(h:∀k,tk b (cv f (co m) k)=tk b (cv g (co m) k)):∀k,tk b (f k)=tk b (g k):=λk=>by
 refine mW.mp (Hs (b:=b) hm (f:=λk=>f k-g k) (n:=n+n') (λk hk=>?_) (λk _=>?_) k)
 .show f k-g k=0;rw[hf k ⋯,hg k ⋯];rfl
 .have e:cv (λk=>f k-g k) (co m) k=cv f (co m) k + -1*cv g (co m) k:=by
   rw[<-nO,<-mC];exact qj (λi _=>⋯) λi _=>rfl
  rw[e,jx (h k) rfl,show ∀x:Int,x + -1*x=0 fromλx=>⋯,tk0]
def atf{P:List Int}{a:Nat->Int}(hP:Mon P)(hK:Kp 0 P a):∃g L,Mon L/\Py 0 L/\Kp 0 L a/\(∀q,Kp 0 q a->Dv 0 L (co q))/\L.length+g.length=P.length+1/\(∀k,co P k=cv (co L) (co g) k)/\vq P (tp P a) g (det (L.length-1) (hk a)):=by
 obtain⟨L,hL,C8,hKL,hLP,hall,_⟩:=avq hP hK;obtain⟨g,hg,hgy,hlen,hE⟩:=yG (b:=0) rfl hP hL (hall P hK);have hE':∀k,co P k=cv (co g) (co L) k:=λk=>by have:=hE k;rwa [aY,aY]at this
 have hgP:Py 0 g:=⟨vR (λz=>by have:=hg.pos;rw[z]at this;exact absurd this ∅) (by rw[hg.one];decide),λx _=>aY x⟩;have MZ:=hL.pos;have hgp:=hg.pos;refine⟨g,L,hL,C8,hKL,hall,⋯,λk=>by rw[hE',jt],hg,hgP,?_,⟨co L,L.length,Fs.co L,λk=>by rw[hE',jt]⟩,?_,λh hh h1 h2=>?_,λp s hp hN hs h1 h2=>?_⟩
 .have:=aw9 Dom.zero ∅ hL (λk=>aY _) hKL hall
  rwa [aY]at this
 .obtain⟨s,n,hs,e⟩:=(keepsP hP hK L).mp hKL;refine⟨s,n,hs,abJ hL (yM P a) (hs.cv (Fs.co g)) λk=>?_⟩;rw[jt,e k,gP];exact congrArg (tk 0) (qj (λ_ _=>rfl) λi _=>hE' i)
 .obtain⟨A,hA,hAy,hAl,JL⟩:=yG (b:=0) rfl hP hh h1;obtain⟨B,nB,hB,LZ⟩:=h2;have SG:Kp 0 A a:=(keepsP hP hK A).mpr ⟨B,nB,hB,λk=>by
   have e1:tk 0 (cv (co A) (tp P a) k)=tk 0 (cv (co A) (cv B (co h)) k):=iM (λ_ _=>rfl) λi _=>LZ i;have e2:tk 0 (cv B (co P) k)=tk 0 (cv B (cv (co A) (co h)) k):=iM (λ_ _=>rfl) λi _=>JL i;rw[e1,e2,<-gP,<-gP];exact congrArg (tk 0) (qj (λi _=>jt ..) λ_ _=>rfl)⟩
  obtain⟨C,nC,hC,hCe⟩:=hall A SG;refine⟨C,nC,hC,abJ hL (Fs.co g) (hC.cv (Fs.co h)) λk=>?_⟩;rw[<-hE',JL k,iM (λi _=>hCe i) λ_ _=>rfl,gP,gP];exact congrArg (tk 0) (qj (λ_ _=>rfl) λi _=>jt ..)
 .have hp2:=hp.1;have hp1:tk (p:Int) 1=1:=by rw[jZ ⋯];exact Cv ∅ ⋯
  obtain⟨A,hA,hAy,hAl,JL⟩:=yG (b:=p) hp1 hP hs h1;obtain⟨B,nB,hB,LZ⟩:=h2;have hKp:Kp p P a:=λn=>by have:=hK n;rw[aY]at this;rw[this,tk0]
  have SG:Kp p A a:=(keepsP hP hKp A).mpr ⟨B,nB,hB,λk=>by
   have e1:tk p (cv (co A) (tp P a) k)=tk p (cv (co A) (cv B (co s)) k):=iM (λ_ _=>rfl) λi _=>LZ i;have e2:tk p (cv B (co P) k)=tk p (cv B (cv (co A) (co s)) k):=iM (λ_ _=>rfl) λi _=>JL i;rw[e1,e2,<-gP,<-gP];exact congrArg (tk p) (qj (λi _=>jt ..) λ_ _=>rfl)⟩
  by_cases c:A.length<=L.length-1
  .exfalso
   have z:=ah9 (Dom.pr hp) (λz=>hN (rZ.mp z)) c SG (A.length-1);rw[hA.one,hp1]at z;exact absurd z ∅
  .omega
end Pm
namespace Dm
open Rm Pm
end Dm
namespace Pm
open Rm Dm
def ahb{p:Int}(hp:p≠0){x y:Int}:tk p x=tk p y↔p∣x-y:=by
 rw[<-mW,rZ];exact⟨λ⟨e,h⟩=>⟨e,h⟩,λ⟨e,h⟩=>⟨e,h⟩⟩
def Lz{p:Nat}(hp:Om.cG p):tk (p:Int) 1=1:=by
 have:=hp.1;rw[jZ ⋯];exact Cv ∅ ⋯
def Dv.same{b:Int}(h1:tk b 1=1){m p:List Int}(hm:Mon m)(hp:Mon p)(h:Dv b m (co p))(hl:m.length=p.length)(k:Nat):tk b (co p k)=tk b (co m k):=by
 obtain⟨L,hL,_,hlen,e⟩:=yG h1 hp hm h;have hm0:=hm.pos;have h2:L.length=1:=⋯;have e0:co L 0=1:=by have:=hL.one;rwa [h2]at this
 rw[e k];refine congrArg (tk b) ?_;rw[fV,mK (m:=1) ⋯ λj h3 _=>by rw[aX (p:=L) ⋯,gb]];simp[sm,e0]
structure Seen(g:List Int)(N:Int)(p:Nat)(s:List Int):Prop where
 mon:Mon s
 nu:∀k,tk (p:Int) (co s k)=co s k
 ge:g.length<=s.length
 eq:s.length=g.length->∀k,(p:Int)∣co s k-co g k
 good:¬(p:Int)∣N->s.length=g.length
def dO.to{b:Int}{g p q:List Int}(h:dO b g [] p)(e:∀k,tk b (co p k)=tk b (co q k)):Dv b g (co q):=by
 obtain⟨u,h⟩:=h.dv;exact⟨co u,u.length,Fs.co u,λk=>by rw[<-e,h]⟩
def vq.seen{P t g:List Int}{N:Int}(h:vq P (co t) g N){p:Nat}(hp:Om.cG p){P' t' s:List Int}(eP:∀k,tk (p:Int) (co P' k)=tk p (co P k))(et:∀k,tk (p:Int) (co t' k)=tk p (co t k))(hs:Gcd p P' t' s):Seen g N p s:=by
 have h2:=hp.1;have h1:=Lz hp;have d1:Dv p s (co P):=hs.one.to eP;have d2:Dv p s (co t):=hs.two.to et;have d3:Dv p g (co s):=by
  obtain⟨u,v,e⟩:=hs.sum;refine((((h.one.by (b:=p))).mul (Fs.co u)).add ((h.two.by (b:=p)).mul (Fs.co v))).congr λk=>?_;rw[e];exact jx (iM (λ_ _=>rfl) λi _=>(eP i).symm) (iM (λ_ _=>rfl) λi _=>(et i).symm)
 have hge:=d3.len h1 h.mon hs.mon;exact⟨hs.mon,hs.py.co,hge,λe k=>(ahb ⋯).mp (d3.same h1 h.mon hs.mon e.symm k),λz=>by
  have:=h.good p s hp z hs.mon d1 d2;omega⟩
def vq.told{P t g h:List Int}{N:Int}(H:vq P (co t) g N)(hh:Mon h)(h1:Dv 0 h (co P))(h2:Dv 0 h (co t))(hl:g.length<=h.length):h=g:=by
 have d:=H.all h hh h1 h2;have:=d.len rfl hh H.mon;exact uQ ⋯ λk=>by have:=d.same rfl hh H.mon ⋯ k;rw[aY,aY]at this;exact this.symm
def nr(M x:Int):Int:=if 2*(x%M)>M then x%M-M else x%M
def Nr(M x:Int):Prop:=-M<2*x/\2*x<=M
def Fp(M x:Int):M∣nr M x-x:=by
 have e:=Int.emod_add_mul_ediv x M;unfold nr;split
 .exact⟨-(x/M)-1,by rw[iH,qH];omega⟩
 .exact⟨-(x/M),by rw[qH];omega⟩
def SY{M:Int}(hM:0<M)(x:Int):Nr M (nr M x):=by
 have h0:=qW x (show M≠0 by omega);have h1:=qR x hM;unfold nr Nr;split<;>omega
def Nr.eq{M x y:Int}(hM:0<M)(hx:Nr M x)(hy:Nr M y)(h:M∣x-y):x=y:=by
 obtain⟨c,hc⟩:=h;unfold Nr at hx hy;by_cases c0:c=0
 .rw[c0,aP]at hc;omega
 .exfalso
  rcases Int.lt_or_gt_of_ne c0 with l|l
  .have:M*c<=M*(-1):=JB ⋯ ⋯;omega
  .have:M*1<=M*c:=JB ⋯ ⋯;omega
def aiC{M:Int}(hM:2<=M){x:Int}(h:M∣x-1):nr M x=1:=Nr.eq (M:=M) ⋯ (SY ⋯ x) (by unfold Nr;omega) (by
 have:=tK (Fp M x) h
 rwa [show nr M x-x+(x-1)=nr M x-1 by omega]at this)
def LQ{M:Int}{p:Nat}(hp:Om.cG p)(hM:¬(p:Int)∣M){x:Int}(h1:M∣x)(h2:(p:Int)∣x):M*p∣x:=by
 obtain⟨y,rfl⟩:=h1;rcases Ew hp h2 with z|⟨e,he⟩
 .exact absurd z hM
 .exact⟨e,by rw[he,bU]⟩
structure j8(P g:List Int)(N:Int)(told:List Int)(M:Int)(prime:Nat)(ripe:Bool)(bad good:Nat):Prop where
 mon:Mon told
 ge:g.length<=told.length
 le:told.length<=P.length
 pos:0<M
 div:∀q:Nat,Om.cG q->(q:Int)∣M->q<=prime
 RT:told.length=g.length->∀k,M∣co told k-co g k
 near:M≠1->∀k,Nr M (co told k)
 Bc:∃X:Nat,(X:Int)∣N/\2^(19*bad)<=X/\∀q:Nat,Om.cG q->q∣X->q<=prime
 D6:0<good->told.length=g.length/\2^(19*good)<=M
 aeH:2<=good->(∀k,2*(co g k).natAbs<2^(19*(good-1)))->ripe=true/\told=g
 hi:M<=2^(21*(bad+good))
 first:M=1->told=P
def j8.start{P g:List Int}{N:Int}(hP:Mon P)(hl:g.length<=P.length)(prime:Nat):j8 P g N P 1 prime true 0 0:=
 ⟨hP,hl,aN _,∅,λq hq h=>by
  have:=hq.1;have h3:=Int.le_of_dvd ∅ h;omega,λ_ k=>⟨_,(iG _).symm⟩,λh=>absurd rfl h,⟨1,⟨N,(iG N).symm⟩,∅,λq hq h=>by
  have:=hq.1;have h3:=pH ∅ h;omega⟩,λh=>absurd h ∅,λh=>absurd h ∅,∅,λ_=>rfl⟩
def VD{N:Int}{prime p bad:Nat}(hp:Om.cG p)(hlt:prime<p)(hbig:2^19<=p)(hN:(p:Int)∣N)(h:∃X:Nat,(X:Int)∣N/\2^(19*bad)<=X/\∀q:Nat,Om.cG q->q∣X->q<=prime):
  ∃X:Nat,(X:Int)∣N/\2^(19*(bad+1))<=X/\∀q:Nat,Om.cG q->q∣X->q<=p:=by
 obtain⟨X,h1,h2,h3⟩:=h;refine⟨X*p,?_,?_,λq hq hd=>?_⟩
 .have:=LQ (M:=(X:Int)) hp (λz=>by have:=h3 p hp (Ck.mp z);omega) h1 hN
  rwa [adY]
 .rw[yO,Nat.pow_add];exact ig h2 hbig
 .rcases hq.dvd hd with z|z
  .have:=h3 q hq z;omega
  .exact pH ⋯ z
def j8.stay{P g told s:List Int}{N M:Int}{prime p bad good:Nat}{ripe:Bool}(h:j8 P g N told M prime ripe bad good)(hp:Om.cG p)(hlt:prime<p)(hbig:2^19<=p)(hs:Seen g N p s)(hl:told.length<s.length):j8 P g N told M p ripe (bad+1) good:=by
 have hN:(p:Int)∣N:=uX λz=>by have:=hs.good z;have:=h.ge;omega
 exact⟨h.mon,h.ge,h.le,h.pos,λq hq hd=>by have:=h.div q hq hd;omega,h.RT,h.near,VD hp hlt hbig hN h.Bc,h.D6,h.aeH,Wn h.hi (by
  have:(2:Nat)^(21*(bad+good))<=2^(21*(bad+1+good)):=wJ ∅ ⋯
  exact_mod_cast this),h.first⟩
def j8.anew{P g told s:List Int}{N M:Int}{prime p bad good:Nat}{ripe:Bool}(h:j8 P g N told M prime ripe bad good)(hp:Om.cG p)(hlt:prime<p)(hbig:2^19<=p)(hhi:p<=2^21)(hs:Seen g N p s)(hl:s.length<told.length):
  ∃qJ qg,qJ+qg=bad+good+1/\j8 P g N (s.map (nr p)) p p true qJ qg:=by
 have hp2:=hp.1;have hg0:good=0:=by
  by_cases c:good=0
  .exact c
  .have:=(h.D6 ⋯).1;have:=hs.ge;omega
 have hle:=h.le;have hsp:=hs.mon.pos;have hpp:(2:Int)<=p:=⋯;have hc:∀k,co (s.map (nr p)) k=nr p (co s k):=λk=>lZ (by unfold nr;rw[UL];split<;>omega) s k;have hm:Mon (s.map (nr p)):=⟨by rw[aB];exact hsp,by rw[aB,hc,hs.mon.one];exact aiC hpp ⟨0,by rw[aP];rfl⟩⟩;have AX:(s.map (nr p)).length=g.length->∀k,(p:Int)∣co (s.map (nr p)) k-co g k:=λe k=>by
  rw[hc];have:=tK (Fp p (co s k)) (hs.eq (by rwa [aB]at e) k)
  rwa [show nr p (co s k)-co s k+(co s k-co g k)=nr p (co s k)-co g k by omega]at this
 have hnear:(p:Int)≠1->∀k,Nr p (co (s.map (nr p)) k):=λ_ k=>by rw[hc];exact SY ⋯ _
 have hdiv:∀q:Nat,Om.cG q->(q:Int)∣p->q<=p:=λq _ hd=>pH ⋯ (Ck.mp hd);by_cases c:s.length=g.length
 .refine⟨bad,1,⋯,hm,by rw[aB];exact hs.ge,by rw[aB];omega,⋯,hdiv,AX,hnear,?_,λ_=>⟨by rw[aB];exact c,by exact_mod_cast hbig⟩,λz=>absurd z ∅,?_,λz=>⋯⟩
  .obtain⟨X,h1,h2,h3⟩:=h.Bc;exact⟨X,h1,h2,λq hq hd=>by have:=h3 q hq hd;omega⟩
  .have:(2:Nat)^21<=2^(21*(bad+1)):=wJ ∅ ⋯
   exact_mod_cast fX hhi this
 .have hN:(p:Int)∣N:=uX λz=>c (hs.good z);refine⟨bad+1,0,⋯,hm,by rw[aB];exact hs.ge,by rw[aB];omega,⋯,hdiv,AX,hnear,VD hp hlt hbig hN h.Bc,λz=>absurd z ∅,λz=>absurd z ∅,?_,λz=>⋯⟩;have:(2:Nat)^21<=2^(21*(bad+1+0)):=wJ ∅ ⋯
  exact_mod_cast fX hhi this
def j8.join{P g told s jG:List Int}{N M:Int}{prime p bad good:Nat}{ripe Rk:Bool}(h:j8 P g N told M prime ripe bad good)(hp:Om.cG p)(hlt:prime<p)(hbig:2^19<=p)(hhi:p<=2^21)(hs:Seen g N p s)(hl:s.length=told.length)
  (hl':jG.length=told.length) (ht:∀k,k<told.length->∃w:Int,(p:Int)∣M*w-(co s k-co told k)/\co jG k=nr (M*p) (co told k+M*w)) (hr:Rk=true↔jG=told):
  ∃qJ qg,qJ+qg=bad+good+1/\j8 P g N jG (M*p) p Rk qJ qg:=by
 have hp2:=hp.1;have hM:=h.pos;have wC:¬(p:Int)∣M:=λz=>by have:=h.div p hp z;omega
 have hpp:(2:Int)<=p:=⋯;have hMp:(2:Int)<=M*p:=by
  have:1*(2:Int)<=M*p:=Ke ⋯ hpp ∅ ⋯;omega
 have hle:=h.le;have hge:=h.ge;have htp:=h.mon.pos;have a1:∀k,M∣co jG k-co told k:=λk=>by
  by_cases c:k<told.length
  .obtain⟨w,_,e⟩:=ht k c;rw[e];have e1:M∣nr (M*p) (co told k+M*w)-(co told k+M*w):=CW (Bs M p) (Fp _ _);have e2:M∣M*w:=Bs ..;have:=tK e1 e2
   rwa [show nr (M * ↑p) (co told k+M*w)-(co told k+M*w)+M*w=nr (M * ↑p) (co told k+M*w)-co told k by omega]at this
  .rw[aX ⋯,aX ⋯];exact⟨0,by rw[aP];rfl⟩
 have a2:∀k,(p:Int)∣co jG k-co s k:=λk=>by
  by_cases c:k<told.length
  .obtain⟨w,h1,e⟩:=ht k c;rw[e];have e1:(p:Int)∣nr (M*p) (co told k+M*w)-(co told k+M*w):=CW (WK M p) (Fp _ _);have:=tK e1 h1
   rwa [show nr (M * ↑p) (co told k+M*w)-(co told k+M*w)+(M*w-(co s k-co told k))=nr (M * ↑p) (co told k+M*w)-co s k by omega]at this
  .rw[aX ⋯,aX ⋯];exact⟨0,by rw[aP];rfl⟩
 have hnear:M*p≠1->∀k,Nr (M*p) (co jG k):=λ_ k=>by
  by_cases c:k<told.length
  .obtain⟨w,_,e⟩:=ht k c;rw[e];exact SY ⋯ _
  .rw[aX ⋯];unfold Nr;omega
 have alS:co jG (jG.length-1)=1:=by
  rw[hl'];refine Nr.eq (M:=M*p) ⋯ (hnear ⋯ _) (by unfold Nr;omega) (LQ hp wC ?_ ?_)
  .have:=a1 (told.length-1)
   rwa [h.mon.one]at this
  .have:=a2 (told.length-1);have e:=hs.mon.one;rw[hl]at e
   rwa [e]at this
 have hm:Mon jG:=⟨⋯,alS⟩;have hdiv:∀q:Nat,Om.cG q->(q:Int)∣M*p->q<=p:=λq hq hd=>by
  rcases Ew hq hd with z|z
  .have:=h.div q hq z;omega
  .exact pH ⋯ (Ck.mp z)
 have AX:jG.length=g.length->∀k,M*p∣co jG k-co g k:=λe k=>by
  refine LQ hp wC ?_ ?_
  .have:=tK (a1 k) (h.RT ⋯ k)
   rwa [show co jG k-co told k+(co told k-co g k)=co jG k-co g k by omega]at this
  .have:=tK (a2 k) (hs.eq ⋯ k)
   rwa [show co jG k-co s k+(co s k-co g k)=co jG k-co g k by omega]at this
 have hhi':∀x,x=bad+good+1->M*p<=2^(21*x):=λx hx=>by
  rw[hx,show 21*(bad+good+1)=21*(bad+good)+21 by omega,Hg];exact Ke h.hi (by exact_mod_cast hhi) ⋯ (Int.le_of_lt (Int.pow_pos ∅))
 by_cases c:s.length=g.length
 .refine⟨bad,good+1,⋯,hm,⋯,⋯,⋯,hdiv,AX,hnear,?_,λ_=>⟨⋯,?_⟩,λh2 hb=>?_,hhi' _ ⋯,λz=>⋯⟩
  .obtain⟨X,h1,h2,h3⟩:=h.Bc;exact⟨X,h1,h2,λq hq hd=>by have:=h3 q hq hd;omega⟩
  .rw[show 19*(good+1)=19*good+19 by omega,Hg];refine Ke ?_ (by exact_mod_cast hbig) ∅ ⋯;by_cases c0:good=0
   .rw[c0];show(1:Int)<=M;omega
   .exact(h.D6 ⋯).2
  .rw[fR]at hb;have hgo:=h.D6 ⋯;have Nm:M≠1:=λz=>by
    rw[z]at hgo;have h3:=hgo.2;have:(2:Int)^(19*1)<=2^(19*good):=by exact_mod_cast wJ (n:=2) ∅ (show 19*1<=19*good by omega)
    have:(2:Int)^(19*1)=524288:=∅;omega
   have gn:∀k,Nr M (co g k):=λk=>by
    have h3:=hb k;have h4:=hgo.2;have h5:((2*(co g k).natAbs:Nat):Int)<M:=Int.lt_of_lt_of_le (by exact_mod_cast h3) h4;unfold Nr;omega
   have et:told=g:=uQ hgo.1 λk=>(h.near Nm k).eq hM (gn k) (h.RT hgo.1 k);have gn':∀k,Nr (M*p) (co g k):=λk=>by
    have h3:=gn k;unfold Nr at h3⊢;have:M*1<=M*p:=JB ⋯ ⋯;omega
   have et':jG=g:=uQ ⋯ λk=>(hnear ⋯ k).eq ⋯ (gn' k) (AX ⋯ k);exact⟨hr.mpr (by rw[et',et]),et'⟩
 .have hN:(p:Int)∣N:=uX λz=>c (hs.good z);have hg0:good=0:=by
   by_cases c0:good=0
   .exact c0
   .have:=(h.D6 ⋯).1;omega
  subst hg0;exact⟨bad+1,0,⋯,hm,⋯,⋯,⋯,hdiv,AX,hnear,VD hp hlt hbig hN h.Bc,λz=>absurd z ∅,λz=>absurd z ∅,hhi' _ ⋯,λz=>⋯⟩
def j8.few{P g told:List Int}{N M:Int}{prime bad good U V:Nat}{ripe:Bool}(h:j8 P g N told M prime ripe bad good)(hN:N≠0)(hV:Bd V N)(hU:∀k,Bd U (co g k))(hne:¬(ripe=true/\told=g)):19*(bad+good)<=V+U+38:=by
 obtain⟨X,h1,h2,_⟩:=h.Bc;have b1:19*bad<=V:=by
  have h3:=pH ⋯ (CN.mp h1);have h4:2^(19*bad)<2^V:=qp (fX h2 h3) hV;have:=(agA (∅:1<2)).mp h4;omega
 have b2:19*good<=U+38:=by
  by_cases c:2<=good
  .by_cases d:∀k,2*(co g k).natAbs<2^(19*(good-1))
   .exact absurd (h.aeH c d) hne
   .obtain⟨k,hk⟩:=CT.mp d;have h3:(co g k).natAbs<2^U:=hU k;have h4:2^(19*(good-1))<2^(U+1):=by rw[xV];omega
    have:=(agA (∅:1<2)).mp h4;omega
  .omega
 omega
end Pm
namespace Om
def KR{n:Nat}(h2:2<=n)(h:∀d,2<=d->d*d<=n->¬d∣n):cG n:=⟨h2,λd hd=>by
 by_cases c1:d=1
 .exact .inl c1
 by_cases c2:d=n
 .exact .inr c2
 exfalso
 obtain⟨e,he⟩:=hd;have d0:d≠0:=λz=>by rw[z,Ub]at he;omega
 have e0:e≠0:=λz=>by rw[z,VJ]at he;omega
 have e1:e≠1:=λz=>by rw[z,Cm]at he;omega
 by_cases c:d<=e
 .exact h d ⋯ (by rw[he];exact uZ d c) ⟨e,he⟩
 .exact h e ⋯ (by rw[he];exact qd e ⋯) ⟨d,by rw[he,qF]⟩⟩
def ais{n d:Nat}(h2:2<=d)(h:d*d<=n)(hd:d∣n):¬cG n:=λhp=>by
 have:d*2<=d*d:=uZ d h2;rcases hp.2 d hd with e|e<;>omega
def PR:Nat:=43571519119201362812999826845982751305620981793717429470673603275936152927709399635933610669671466973821241878720715105717436485894379942430461626673440299163796924436746229228614460476842261843714753967609841797025310982960825865753598345091694825344721438391478216968398650913464229700972723456395252658036295111351718208197542229884535562911430701228833268752819967566938433518416018400115565501955319083147587583881953995536441781216694995306260888155507575210
def atJ:∀d,d<1100->2<=d->j6 d PR≠1:=by decide +kernel
def alH{n:Nat}(h2:2<=n)(hn:n<1210000)(h:j6 n PR=1):cG n:=KR h2 λd hd hdd hdv=>by
 by_cases c:d<1100
 .refine atJ d c hd ?_;have:j6 d PR∣j6 n PR:=Nat.dvd_gcd (B6 (Nt ..) hdv) (Sg ..);rw[h]at this;exact Nat.dvd_one.mp this
 .have:1100*1100<=d*d:=ig ⋯ ⋯;omega
def Ui:Nat->Nat->List Nat
 |0,_=>[]
 |k+1,n=>2*(n%64)::Ui k (n/64)
def steps:List Nat:=3::([0x20750130318504818904528504f0c23d908c0421c30c218714c28518120a0892411830c218610918224954108f,0x4908d14c10620a1460431880ca08114418618f24b0c70870cf2070810c63870831c2244093141189381141252,0x4504205514d0811431d224b0432c61051030861903830423030c42e41051810c21d42853421c528510e0c90c6,0xc24c528804b0d50460870c32040c204f0841851c204818904308f3433024831083420c31050c31c50c90cc348,0x811441532c13c81030830c40892476020c11441940cd1530cf2031c818108114118f2060c72540436842c10c3,0x9892460420c74850c11410da40314714d24320408418e3c45031c50c40d41865432822413861c308a0e00c7189,0x2413063811473051871490451c22490461491c228324e0450c310320d24504c0cb0c12c41850c32830875c310f,0x4c0c51810812c10812c61c21020c604c0860c10c50421c540230d2070872462c32413990c37855442c1207083].flatMap (Ui 60)++Ui 19 0x708a08a0cc1821890c72c10cb114)
def Gv:Nat->List Nat->Bool
 |_,[]=>true
 |c,d::r=>match decide (0<d)&&(decide (c+d<1210000)&&EG (j6 (c+d) PR) 1)with
  |true=>Gv (c+d) r
  |false=>false
def aor:Gv 1000000 steps=true:=by decide +kernel
def aws:steps.length=500:=by decide +kernel
inductive Many:Nat->Nat->Prop
 |none (c:Nat):Many 0 c
 |more {k c q:Nat}:cG q->c<q->q<1210000->Many k q->Many (k+1) c
theorem agq:∀(l:List Nat) (c:Nat),2<=c->Gv c l=true->Many l.length c
 |[],c,_,_=> .none c
 |d::r,c,h2,h=>by
  rw[Gv]at h;split at h
  .rename_i e
   obtain⟨e1,e2⟩:=KD.mp e;obtain⟨e2,e3⟩:=KD.mp e2;have h1:=of_decide_eq_true e1;have h3:=of_decide_eq_true e2;exact .more (alH ⋯ h3 (R0 e3)) ⋯ h3 (agq r (c+d) ⋯ h)
  .exact absurd h ∅
def many:Many 500 1000000:=by
 have:=agq steps 1000000 ∅ aor
 rwa [aws]at this
def Many.down{k c c':Nat}(h:Many k c)(hc:c'<=c):Many k c':=by
 cases h with
 |none=>exact .none _
 |more h1 h2 h3 h4=>exact .more h1 ⋯ h3 h4
def Many.next{k c:Nat}(h:Many (k+1) c):∃q,cG q/\c<q/\q<1210000/\∀p,p<=q->Many k p:=by
 cases h with
 |more h1 h2 h3 h4=>exact⟨_,h1,h2,h3,λp hp=>h4.down hp⟩
def cG.Df{p:Nat}{a:Int}(h:cG p)(h0:0<a)(ha:a<(p:Int)):a^(p-1)%(p:Int)=1:=by
 obtain⟨n,rfl⟩:∃n:Nat,a=(n:Int):=⟨a.toNat,⋯⟩;have:=h.awz (a:=n) ⋯ ⋯;have e:((n^(p-1)%p:Nat):Int)=((1:Nat):Int):=by rw[this]
 rw[Br,Zn]at e;exact e
end Om
namespace Pm
open Rm
def anN{P:Nat}(hP:Om.cG P){p:List Int}(hp:Py P p)(hn:p≠[]):uH P p (tV P p):=by
 have h2:=hP.1;have hpos:0<p.length:=AF.mpr hn;have vo:(P:Int)≠0:=⋯;have jj:∀n,tk (P:Int) n=n%(P:Int):=λn=>jZ vo n;have l0:=rW hn hp.tr;have l1:=hp.co (p.length-1);rw[jj]at l1;have r0:0<=co p (p.length-1):=by rw[<-l1];exact qW _ vo
 have r1:co p (p.length-1)<(P:Int):=by rw[<-l1];exact qR _ ⋯
 generalize hl:co p (p.length-1)=a at l0 r0 r1;have hinv:(a^(P-2)*a)%(P:Int)=1:=by
  rw[<-jf,show(P-2).succ=P-1 by omega];exact hP.Df ⋯ r1
 have e:∀k,co (tV P p) k=co p k*a^(P-2)%(P:Int):=λk=>by
  rw[tV,lZ (by simp),hl]
 have len:(tV P p).length=p.length:=by rw[tV,aB]
 have top:co (tV P p) ((tV P p).length-1)=1:=by
  rw[len,e,hl,cC];exact hinv
 have hm:tV P p≠[]:=λz=>by rw[z]at len;simp at len;omega
 refine⟨⟨vR hm (by rw[top];decide),λx hx=>?_⟩,len,λ_=>⟨⋯,top⟩,⟨a^(P-2),λk=>?_⟩,⟨a,λk=>?_⟩⟩
 .obtain⟨y,_,rfl⟩:=bY.mp hx;rw[jj];exact nR _ (nZ _)
 .rw[e,jj,jj,nR _ (nZ _),cC]
 .rw[e,jj,jj,mU a,nR _ (nZ _),<-mU,eZ a,cC a,mU,hinv];rw[ju,nR _ (nZ _)]
def ahJ{P:Nat}(hP:Om.cG P){one other:Int}(h0:0<other)(h:other<(P:Int)):(P:Int)∣other*(one*other^(P-2)%(P:Int))-one:=by
 have h2:=hP.1;have hinv:(other^(P-2)*other)%(P:Int)=1:=by
  rw[<-jf,show(P-2).succ=P-1 by omega];exact hP.Df h0 h
 have h1:(1:Int)%(P:Int)=1:=Cv ∅ ⋯;refine Bv (Int.emod_eq_emod_iff_emod_sub_eq_zero.mp ?_);rw[mU,nR _ (nZ _),<-mU,eZ,cC other,mU,hinv,ju,nR _ (nZ _)]
def av3{b f:Int}{s t:Nat}{l m:List Int}{u v:Nat}(hb:0<=b)(hb1:b<2097152)(hu:21<=u)(hf:Bd u f)(hl:∀k,Bd u (co l k))(hm:∀x∈m,Bd v x)(k:Nat):Bd (u+v+1) (lf b f s t l m k):=by
 unfold lf;split
 .refine pJ hb ((Bd.of (n:=21) ⋯ ⋯).mono ⋯) ?_;rw[Oi];refine Bd.add ((hl k).mono ⋯) ?_;have:=hf.mul (jA hm (k-s));unfold Bd at this⊢;rw[yD];exact this
 .exact(hl k).mono ⋯
def jw(M t:Int)(p:Nat)(s:Int):Int:=(tk p (s-t))*(tk p M)^(p-2)%(p:Int)
def jn(M t:Int)(p:Nat)(s:Int):Int:=nr (M*p) (t+M*jw M t p s)
def arH{M t s:Int}{p:Nat}(hp:Om.cG p)(hM:¬(p:Int)∣M):(p:Int)∣M*jw M t p s-(s-t):=by
 have h2:=hp.1;have hp0:(p:Int)≠0:=⋯;have r0:=qW M hp0;have r1:=qR M (show(0:Int)<p by omega);have rn:M%(p:Int)≠0:=λz=>hM (Bv z);have h:=ahJ hp (one:=tk p (s-t)) (other:=M%(p:Int)) ⋯ r1;unfold jw;rw[jZ hp0 M];generalize tk (p:Int) (s-t)*(M%(p:Int))^(p-2)%(p:Int)=w at h;rw[jZ hp0]at h;have e1:(p:Int)∣M*w-M%(p:Int)*w:=by
  rw[<-yh];exact CW (aaf) (Bs ..)
 have e2:(p:Int)∣(s-t)%(p:Int)-(s-t):=by
  have:(p:Int)∣(s-t)-(s-t)%(p:Int):=aaf;have:=Int.dvd_neg.mpr this
  rwa [Int.neg_sub]at this
 have:=tK (tK e1 h) e2
 rwa [show M*w-M%(p:Int)*w+(M%(p:Int)*w-(s-t)%(p:Int))+((s-t)%(p:Int)-(s-t))=M*w-(s-t)by omega]at this
def alk{M t s:Int}{p:Nat}(hp:Om.cG p):0<=jw M t p s/\jw M t p s<p:=by
 have h2:=hp.1;exact⟨qW _ ⋯,qR _ ⋯⟩
def Div.dv{b:Int}{P M q r:List Int}(h:Div b P M q r)(hM:Mon M):r=[]↔Dv b M (co P):=by
 constructor
 .rintro rfl;exact⟨co q,q.length,Fs.co q,λk=>by rw[<-h.eq k,fW,dj]⟩
 .intro d;have e:Dv b M (co r):=(d.sub (Dv.self (b:=b) (m:=M) (Fs.co q))).congr λk=>by
   have e1:tk b (co P k + -cv (co q) (co M) k)=tk b ((cv (co q) (co M) k+co r k) + -cv (co q) (co M) k):=jx (h.eq k).symm rfl;rw[show co P k-cv (co q) (co M) k=co P k + -cv (co q) (co M) k by omega,e1];exact congrArg (tk b) ⋯
  have z:=e.short hM ((Fs.co r).mono (by have:=h.short;omega));rw[<-h.ry.tr];exact KN.mpr λk=>by rw[<-h.ry.co k];exact z k
end Pm
namespace Pm
open Rm Dm
def abw{n:Nat}{x:Int}(h:Bd n x):Bd n (-x):=by unfold Bd at h ⊢;rw[yD];exact h
def asi{P L g:List Int}(hL:Mon L)(e:∀k,co P k=cv (co L) (co g) k){u B:Nat}(hu:∀k,Bd u (co P k))(hB:∀k,Bd B (co L k)):∀d j,g.length<=j+d->Bd (u+d*(B+L.length+1)) (co g j):=λd=>by
 have hp:=hL.pos;induction d with
 |zero=>intro j hj;rw[aX ⋯];exact Bd.zero _
 |succ d ih=>
  intro j hj;obtain⟨l,hl⟩:∃l,L.length=l+1:=⟨L.length-1,⋯⟩;have h1:=hL.one;rw[hl,fR]at h1;have q:=e (j+l);rw[fV,mK (m:=l+1) ⋯ λi h2 _=>by rw[aX (p:=L) ⋯,gb],sm,h1,iG,fR]at q;have q2:co g j=co P (j+l) + -(sm l λi=>co L i*co g (j+l-i)):=⋯;rw[q2];have b1:Bd (B+(u+d*(B+L.length+1))+l) (sm l λi=>co L i*co g (j+l-i)):=zQ l λi hi=>(hB i).mul (ih (j+l-i) ⋯);have hx:(d+1)*(B+L.length+1)=d*(B+L.length+1)+(B+L.length+1):=sV ..;refine(Bd.add (n:=B+(u+d*(B+L.length+1))+l) ((hu _).mono ⋯) (abw b1)).mono ⋯
end Pm
namespace Pm
open Rm Dm
def awY{f:Nat->Int}{n:Nat}(h:Fs f n):∃S:List Int,∀k,co S k=f k:=⟨aM n f,λk=>by
 rw[cX];by_cases c:k<n
 .rw[if_pos c]
 .rw[if_neg c,h k ⋯]⟩
end Pm
namespace Pm
open Rm
def ev(p:List Int)(x:Int):Int:=sm p.length λk=>co p k*x^k
def kO{p:List Int}{n:Nat}(h:p.length<=n)(x:Int):sm n (λk=>co p k*x^k)=ev p x:=
 mK h λk h1 _=>by rw[aX h1,gb]
def afo(x:Int):ev [] x=0:=rfl
def ac5(c x:Int):ev [c] x=c:=by
 show 0+co [c] 0*x^0=c;rw[fQ,sG,ju,gY]
abbrev lin(r:Int):List Int:=[0-r,1]
def Vp(r:Int):Mon (lin r):=⟨by show 0<2;decide,rfl⟩
def UG(f:Nat->Int)(r:Int):∀k,cv f (co (lin r)) k=(if k=0 then 0 else f (k-1))-r*f k:=λk=>by
 rw[fV];cases k with
 |zero=>
  show 0+f 0*co (lin r) 0=_;rw[if_pos rfl,fQ,gY,iH,aP,cC]
 |succ k=>
  rw[if_neg (Xy _),fR];rw[sm,rT,sm,show k+1-k=1 by omega];rw[jl λj hj=>by rw[aX (p:=lin r) (show 2<=k+1-j by omega),aP]];rw[fQ,jE,fQ,ju,gY,iH,aP,lY,cC (f (k+1))];rfl
def afm(f:Nat->Int)(x:Int):∀n,sm (n+1) (λk=>(if k=0 then 0 else f (k-1))*x^k)=x*sm n λk=>f k*x^k:=λn=>by
 rw[oN,if_pos rfl,gb,gY,<-dF];refine aR λk _=>?_;rw[if_neg (Xy _),fR,jf,cC (x^k) x,<-bU,<-bU,cC (f k) x]
theorem Div.ev{p q l:List Int}{r:Int}(h:Div 0 p (lin r) q l)(x:Int):Pm.ev p x=(x-r)*Pm.ev q x+Pm.ev l x:=by
 obtain⟨n,h1,h2,h3⟩:∃n,p.length<=n+1/\q.length<=n/\l.length<=n+1:=⟨p.length+q.length+l.length,⋯,⋯,⋯⟩;rw[<-kO h1 x,<-kO h2 x,<-kO h3 x];have e:∀k,co p k=(if k=0 then 0 else co q (k-1))-r*co q k+co l k:=λk=>by
  have:=h.eq k;rw[aY,aY,UG]at this;exact this.symm
 rw[aR (g:=λk=>(if k=0 then 0 else co q (k-1))*x^k+(-r*(co q k*x^k)+co l k*x^k)) λk _=>?_,iJ,iJ,afm,dF]
 .have e2:sm (n+1) (λk=>co q k*x^k)=sm n λk=>co q k*x^k:=by
   rw[sm,aX h2,gb,dj]
  rw[e2,yh,gO];omega
 .rw[e k,tU,yh,gO,bU];omega
def asK{p:List Int}{r:Int}{j:Nat}(hj:∀k,k<j->co p k=0)(h:ev p r=0)(hr:r≠0):r∣co p j:=by
 by_cases c:j<p.length
 .obtain⟨d,hd⟩:∃d,p.length=j+1+d:=⟨p.length-(j+1),⋯⟩;have split:∀d,sm (j+1+d) (λk=>co p k*r^k)=r^j*(co p j+r*sm d λi=>co p (j+1+i)*r^i):=λd=>by
   induction d with
   |zero=>
    have z:sm j (λk=>co p k*r^k)=0:=jl λk hk=>by rw[hj k hk,gb]
    show sm j (λk=>co p k*r^k)+co p j*r^j=r^j*(co p j+r*0);rw[z,gY,aP,dj,cC]
   |succ d ih=>
    show sm (j+1+d) _+co p (j+1+d)*r^(j+1+d)=_;rw[ih,sm,show j+1+d=j+(1+d)by omega,Hg,Hg,Int.pow_one];simp only[gq,bU,cC,eZ,JK]
  unfold ev at h;rw[hd,split d]at h;rcases lH.mp h with z|z
  .exact absurd z (Int.pow_ne_zero hr)
  .exact⟨-(sm d λi=>co p (j+1+i)*r^i),by rw[qH];omega⟩
 .rw[aX ⋯];exact acY r
inductive Rep(r:Int):Nat->List Int->List Int->Prop
 |zero (q:List Int):Rep r 0 q q
 |succ {m:Nat} {p p' q:List Int}:Div 0 p (lin r) p' []->Rep r m p' q->Rep r (m+1) p q
theorem Rep.ev{r:Int}{m:Nat}{p q:List Int}(h:Rep r m p q)(x:Int):Pm.ev p x=(x-r)^m*Pm.ev q x:=by
 induction h with
 |zero q=>rw[sG,iG]
 |succ d _ ih=>
  rw[d.ev x,ih,afo,dj,jf,cC ((x-r)^_) (x-r),bU]
def cY(r:Int):Nat->List Int->List Int
 |0,q=>q
 |m+1,q=>mul 0 (cY r m q) (lin r)
def RP:List (Int×Nat)->List Int->List Int
 |[],R=>R
 |(r,m)::t,R=>cY r m (RP t R)
def adW{r:Int}{q:List Int}(h:Py 0 q):∀m,Py 0 (cY r m q)
 |0=>h
 |_+1=>qm ..
theorem ae4{R:List Int}(h:Py 0 R):∀l,Py 0 (RP l R)
 |[]=>h
 |(_,m)::t=>adW (ae4 h t) m
theorem Div.lin{q:List Int}(r:Int)(hq:Py 0 q):Div 0 (mul 0 q (Pm.lin r)) (Pm.lin r) q []:=
 ⟨hq,Py.nil 0,by show 0<2;decide,λk=>by rw[fW,dj,jL,aY,aY]⟩
theorem aey{r:Int}{q:List Int}(h:Py 0 q):∀m,Rep r m (cY r m q) q
 |0=> .zero q
 |m+1=> .succ (Div.lin r (adW h m)) (aey h m)
inductive Scan:List Int->List Int->List (Int×Nat)->List Int->Prop
 |nil (p:List Int):Scan [] p [] p
 |hit {c:Int} {cs p q:List Int} {m:Nat} {l:List (Int×Nat)} {R:List Int}:Rep c (m+1) p q->ev q c≠0->Scan cs q l R->Scan (c::cs) p ((c,m+1)::l) R
 |miss {c:Int} {cs p:List Int} {l:List (Int×Nat)} {R:List Int}:ev p c≠0->Scan cs p l R->Scan (c::cs) p l R
theorem Rep.back{r:Int}{m:Nat}{p q:List Int}(h:Rep r m p q)(hp:Py 0 p):p=cY r m q/\Py 0 q:=by
 induction h with
 |zero q=>exact⟨rfl,hp⟩
 |@succ m p p' q d _ ih=>
  obtain⟨e1,e2⟩:=ih d.qy;refine⟨?_,e2⟩;have b:=d.back hp;rw[add_comm,nil_add (qm ..)]at b;rw[<-b,e1];rfl
theorem Ip{R:List Int}(h:Py 0 R){x:Int}(e:ev R x=0):∀l,ev (RP l R) x=0
 |[]=>e
 |(r,m)::t=>by
  have q:=(aey (r:=r) (ae4 h t) m).ev x;rw[Ip h e t,aP]at q;exact q
theorem Scan.back{cs p:List Int}{l:List (Int×Nat)}{R:List Int}(h:Scan cs p l R):Py 0 p->p=RP l R/\Py 0 R/\(∀c∈cs,ev R c≠0)/\(l.map (·.1)).Sublist cs/\∀x∈l,0<x.2:=by
 induction h with
 |nil p=>intro hp;exact⟨rfl,hp,(λc hc=>(by cases hc)),ait,(λx hx=>(by cases hx))⟩
 |@hit c cs p q m l R hr hq _ ih=>
  intro hp;obtain⟨e1,e2⟩:=hr.back hp;obtain⟨i1,i2,i3,i4,i5⟩:=ih e2;refine⟨by rw[e1,i1];rfl,i2,λd hd=>?_,i4.cons_cons c,λx hx=>?_⟩
  .rcases bJ.mp hd with rfl|hd
   .intro z;exact hq (by rw[i1];exact Ip i2 z l)
   .exact i3 d hd
  .rcases bJ.mp hx with rfl|hx
   .exact Nat.succ_pos _
   .exact i5 x hx
 |@miss c cs p l R hn _ ih=>
  intro hp;obtain⟨i1,i2,i3,i4,i5⟩:=ih hp;refine⟨i1,i2,λd hd=>?_,i4.cons c,i5⟩;rcases bJ.mp hd with rfl|hd
  .intro z;exact hn (by rw[i1];exact Ip i2 z l)
  .exact i3 d hd
end Pm
namespace Pm
open Rm
def SN(a:Int)(p:List Int)(x:Int):ev (a::p) x=a+x*ev p x:=by
 rw[<-kO (p:=a::p) (n:=p.length+1) (aN _) x,oN,fQ,sG,ju,<-kO (p:=p) (aN _) x,<-dF];congr 1;refine aR λk _=>?_;rw[jE,jf,cC (x^k) x,<-bU,<-bU,cC (co p k) x]
theorem agM(x:Int)(g:List Int):∀(L P:List Int),(∀k,co P k=cv (co L) (co g) k)->ev P x=ev L x*ev g x
 |[],P,h=>by
  rw[afo,gb];unfold ev;exact jl λk _=>by rw[h,jR (λi _=> .inl (fW i)),gb]
 |a::L,P,h=>by
  obtain⟨Q,hQ⟩:∃Q:List Int,∀k,co Q k=cv (co L) (co g) k:=awY ((Fs.co L).cv (Fs.co g));have ih:=agM x g L Q hQ;obtain⟨n,h1,h2,h3⟩:∃n,P.length<=n+1/\Q.length<=n/\g.length<=n+1:=⟨P.length+Q.length+g.length,⋯,⋯,⋯⟩;have e:∀k,co P k=a*co g k+(if k=0 then 0 else co Q (k-1)):=λk=>by
   rw[h,acv];split
   .rfl
   .rw[hQ]
  rw[SN,<-kO h1 x,aR (g:=λk=>a*(co g k*x^k)+(if k=0 then 0 else co Q (k-1))*x^k) λk _=>by rw[e k,tU,bU],iJ,dF,afm,kO h3,kO h2,ih,tU,bU]
def aqh{P:List Int}{a:Nat->Int}(hP:Mon P)(hK:Kp 0 P a){d u ua B U:Nat}(hS:∃Q0,Mon Q0/\Kp 0 Q0 a/\Q0.length<=d+1)(ha:∀n,n<=2*d->Bd ua (a n))(hu:∀k,Bd u (co P k))
  (hB:∀L,Mon L->Kp 0 L a->(∀q,Kp 0 q a->Dv 0 L (co q))->∀k,Bd B (co L k)) (hU:u+P.length*(B+d+2)<=U):
  ∃g L N,Mon L/\Py 0 L/\Kp 0 L a/\(∀q,Kp 0 q a->Dv 0 L (co q))/\L.length+g.length=P.length+1/\(∀k,co P k=cv (co L) (co g) k)/\vq P (tp P a) g N/\Bd (d*(ua+d)+1) N/\∀k,Bd U (co g k):=by
 obtain⟨g,L,hL,C8,hKL,hall,hlen,hE,G⟩:=atf hP hK;obtain⟨Q0,hQ,hKQ,hQl⟩:=hS;have MZ:=hL.pos;have hl:L.length<=d+1:=fX ((hall Q0 hKQ).len rfl hL hQ) hQl;have hm:(L.length-1)*(ua+(L.length-1))+1<=d*(ua+d)+1:=by
  have:=ig (show L.length-1<=d by omega) (show ua+(L.length-1)<=ua+d by omega);omega
 refine⟨g,L,_,hL,C8,hKL,hall,hlen,hE,G,?_,λk=>?_⟩
 .exact(Dm.AH (u:=ua) λi j hi hj=>ha _ ⋯).mono hm
 .refine(asi hL hE hu (hB L hL hKL hall) g.length k ⋯).mono (fX ?_ hU);have:=ig (show g.length<=P.length by omega) (show B+L.length+1<=B+d+2 by omega);omega
end Pm
namespace Lm
def dg(g:Nat):List Int->Nat
 |[]=>g
 |t::ts=>dg (j6 g t.natAbs) ts
def ZF(g:Nat)(ts:List Int)(t:Int):dg g (ts++[t])=j6 (dg g ts) t.natAbs:=by
 induction ts generalizing g with
 |nil=>rfl
 |cons s ts ih=>exact ih _
def zp(g:Nat)(ts:List Int):dg g ts∣g:=by
 induction ts generalizing g with
 |nil=>exact aek _
 |cons s ts ih=>exact B6 (ih _) (Nt ..)
def MJ(g:Nat)(ts:List Int):∀t∈ts,(dg g ts:Int)∣t:=by
 induction ts generalizing g with
 |nil=>intro t h;cases h
 |cons s ts ih=>
  intro t h;rcases bJ.mp h with rfl|h
  .exact Qv.mpr (B6 (zp _ ts) (Sg ..))
  .exact ih _ t h
def GB{g:Nat}(h:0<g)(ts:List Int):0<dg g ts:=Nat.pos_of_dvd_of_pos (zp g ts) h
def Jx(c g:Nat)(ts:List Int):dg (c*g) (ts.map λt=>(c:Int)*t)=c*dg g ts:=by
 induction ts generalizing g with
 |nil=>rfl
 |cons s ts ih=>
  show dg (j6 (c*g) ((c:Int)*s).natAbs) _=_;rw[jX,uM,Nat.gcd_mul_left];exact ih _
def aqW{ts ts':List Int}(g:Nat)(h:ts.map Dd=ts'.map Dd):dg g ts=dg g ts':=by
 induction ts generalizing g ts' with
 |nil=>cases ts' with
  |nil=>rfl
  |cons s r=>cases h
 |cons s ts ih=>cases ts' with
  |nil=>cases h
  |cons s' r=>
   rw[bG,bG]at h;injection h with h1 h2;show dg (j6 g s.natAbs) ts=dg (j6 g s'.natAbs) r;rw[h1];exact ih _ h2
def low(a:Int)(ts:List Int):Int:=if a<0 then 0-(dg a.natAbs ts:Int)else(dg a.natAbs ts:Int)
def low_ne{a:Int}(h:a≠0)(ts:List Int):low a ts≠0:=by
 have:=GB (g:=a.natAbs) ⋯ ts;unfold low;split<;>omega
def abG(a:Int)(ts:List Int):low a ts∣a:=by
 have h:(dg a.natAbs ts:Int)∣a:=Qv.mpr (zp _ ts);unfold low;split
 .rw[lY];exact Int.neg_dvd.mpr h
 .exact h
def ahz(a:Int)(ts:List Int):∀t∈ts,low a ts∣t:=λt ht=>by
 have h:=MJ a.natAbs ts t ht;unfold low;split
 .rw[lY];exact Int.neg_dvd.mpr h
 .exact h
def ati(a:Int)(h:a≠0)(ts:List Int):∃e,0<e/\a=low a ts*e:=by
 obtain⟨e,he⟩:=abG a ts;refine⟨e,?_,he⟩;have g:=GB (g:=a.natAbs) ⋯ ts;by_cases c:a<0
 .have el:low a ts=0-(dg a.natAbs ts:Int):=if_pos c;rw[el]at he;by_cases p:0<e
  .exact p
  .exfalso
   have:0<=(0-(dg a.natAbs ts:Int))*e:=Int.mul_nonneg_of_nonpos_of_nonpos ⋯ ⋯;omega
 .have el:low a ts=(dg a.natAbs ts:Int):=if_neg c;rw[el]at he;by_cases p:0<e
  .exact p
  .exfalso
   have:(dg a.natAbs ts:Int)*e<=0:=Int.mul_nonpos_of_nonneg_of_nonpos ⋯ ⋯;omega
end Lm
namespace Lm
end Lm
namespace Dm
open Rm Pm
def Rel.cut{b:Int}{n m:Nat}{A:Nat->Nat->Int}{x y:Nat->Int}{d:Int}(hD:Dom b)(hd:tk b d≠0)(e:∀k,k<m->tk b (y k*d)=tk b (x k))(h:Rel b n m A x):Rel b n m A y:=λi hi=>by
 refine hD d _ hd ?_;rw[<-dF];have q:tk b (sm m λk=>A i k*x k)=0:=h i hi;rw[<-q];refine iR λk hk=>?_;rw[show d*(A i k*y k)=A i k*(y k*d)by rw[eZ,cC d],<-dR,e k hk,dR]
end Dm
namespace Dm
open Rm Pm
def Fv:∀P∈Om.nj,2<=P:=by decide +kernel
abbrev By(b:Int):Prop:=b=0∨∃P:Nat,P∈Om.nj/\b=(P:Int)
def By.dom{b:Int}(h:By b):Dom b:=by
 rcases h with rfl|⟨P,hP,rfl⟩
 .exact Dom.zero
 .exact Dom.prime hP (Fv P hP)
structure Low(b bt:Int)(ts:List Int)(bot:Int)(us:List Int):Prop where
 pr:∀P:Nat,b=(P:Int)->P∈Om.nj->bot=1/\us=ts.map λt=>t*bt^(P-2)%(P:Int)
 ze:b=0->bot=bt.fdiv (Lm.low bt ts)/\us=ts.map λt=>t.fdiv (Lm.low bt ts)
 len:us.length=ts.length
def ayX{P:Nat}(hP:P∈Om.nj){a:Int}(h0:a≠0)(ht:tk (P:Int) a=a):tk (P:Int) (a^(P-2)*a)=1:=by
 have h2:=Fv P hP;have jj:∀n,tk (P:Int) n=n%(P:Int):=λn=>jZ ⋯ n;have h1:=qW a (show(P:Int)≠0 by omega);have h3:=qR a (show(0:Int)<(P:Int)by omega);rw[jj]at ht⊢;rw[<-jf,show(P-2).succ=P-1 by omega];exact Om.Df rfl hP ⋯ ⋯
def arl(a:Int)(ts:List Int):(Lm.low a ts).natAbs=Lm.dg a.natAbs ts:=by
 unfold Lm.low;split<;>omega
def Low.told{b bt:Int}{ts:List Int}{bot:Int}{us:List Int}(hB:By b)(h0:bt≠0)(ht:tk b bt=bt)(h:Low b bt ts bot us):
  ∃d,tk b d≠0/\(∀k,tk b (co us k*d)=tk b (co ts k))/\tk b (bot*d)=tk b bt/\(∀x∈us,tk b x=x)/\1<=bot/\(b≠0->bot=1)/\(b=0->Lm.dg bot.natAbs us=1):=by
 rcases hB with rfl|⟨P,hP,rfl⟩
 .obtain⟨e1,e2⟩:=h.ze rfl;have n0:=Lm.low_ne h0 ts;obtain⟨e,he,hf⟩:=Lm.ati bt h0 ts;have eb:bot=e:=by
   rw[e1]
   conv=>lhs;arg 1;rw[hf]
   exact QG _ n0
  have eu:∀k,co us k*Lm.low bt ts=co ts k:=λk=>by
   rw[e2,lZ (f:=λt=>t.fdiv (Lm.low bt ts)) (by simp)];by_cases c:k<ts.length
   .obtain⟨x,hx⟩:=Lm.ahz bt ts (co ts k) (by rw[jo c];exact wA c);rw[hx,QG _ n0,cC]
   .rw[aX ⋯];simp
  refine⟨Lm.low bt ts,by rw[aY];exact n0,λk=>by rw[aY,aY,eu k],by rw[aY,aY,eb,cC,<-hf],λx _=>aY x,⋯,λz=>absurd rfl z,λ_=>?_⟩;have g1:=arl bt ts;have m1:=Lm.Jx (Lm.low bt ts).natAbs bot.natAbs us;have e3:(Lm.low bt ts).natAbs*bot.natAbs=bt.natAbs:=by rw[eb,<-jX,<-hf]
  have e4:Lm.dg bt.natAbs (us.map λt=>((Lm.low bt ts).natAbs:Int)*t)=Lm.dg bt.natAbs ts:=by
   refine Lm.aqW _ ?_;refine Wg (by simp[h.len]) λk h1 h2=>?_;simp only[aB]at h1 h2;have q:=congrArg Dd (eu k);rw[jo h1,jo h2,jX]at q;simp[jX];rw[qF];exact q
  rw[e3,e4,<-g1]at m1;have:0<(Lm.low bt ts).natAbs:=⋯;exact(Y5 this (by rw[Cm];exact m1)).symm
 .obtain⟨e1,e2⟩:=h.pr P rfl hP;have h2:=Fv P hP;have jj:∀n,tk (P:Int) n=n%(P:Int):=λn=>jZ ⋯ n;have inv:=ayX hP h0 ht;refine⟨bt,by rw[ht];exact h0,λk=>?_,by rw[e1,iG],λx hx=>?_,⋯,λ_=>e1,λz=>⋯⟩
  .rw[e2,lZ (f:=λt=>t*bt^(P-2)%(P:Int)) (by rw[gb];exact UL _),<-jj,jH,bU,<-dR,inv,ju]
  .rw[e2]at hx;obtain⟨t,_,rfl⟩:=bY.mp hx;rw[<-jj,gR]
section
variable {b:Int} {n W u m:Nat} {A0 A A':Nat->Nat->Int} {hd hd':Nat->Nat} {r r':Nat} {L L':List (List Int)} {last azp:Int}
def gZ.congr{x y:Nat->Int}{bt bt':Int}(e:∀k,k<m->tk b (x k)=tk b (y k))(eb:tk b bt=tk b bt')(h:gZ b n m A0 x bt):gZ b n m A0 y bt':=λi hi=>by
 have q:=h i hi;rw[<-jH,<-eb,jH,<-q];exact iR λk hk=>by rw[<-dR,<-e k hk,dR]
def dD.awP(h:dD b n W u A0 m A hd r L last)(hz:∀i,r<=i->i<n->tk b (En A hd r i m)=0):gZ b n m A0 (co (qI (λh=>tk b (En A hd r h m)) hd m r)) last:=by
 have R:=K3 (A:=A) (hd:=hd) (r:=r) (m:=m+1) (k:=m) (b:=b) (n:=n) (λj hj=>by have:=h.hc j hj;omega) (CM _) hz;have S:gZ b n m A0 (λj=>sm r λh=>if j=hd h then En A hd r h m else 0) (dt A hd r):=by
  refine gZ.rel.mpr (h.sw.rel.mpr ?_);intro i hi;refine Eq.trans ?_ (R i hi);refine congrArg (Rm.tk b) (aR λk hk=>?_);congr 1;dsimp only;by_cases c:k=m
  .rw[if_pos c,if_pos c,jl (λj hj=>by rw[if_neg (by have:=h.hc j hj;omega)]),lY]
  .rw[if_neg c,if_neg c,DX]
 refine S.congr (λk hk=>?_) (by rw[h.la,gR]);rw[qI,cX,if_pos hk];refine iR λj _=>?_;by_cases e:k=hd j
 .rw[if_pos e,if_pos e,gR]
 .rw[if_neg e,if_neg e]
def dD.rW(h:dD b n W u A0 m A hd r L last):last≠0/\tk b last=last:=⟨by rw[h.la];exact h.nz,by rw[h.la,gR]⟩
end
structure Ax(n u:Nat):Prop where
 lo:10<=u
 hi:(n+1)*(u+(n+1))+n+1<=2400
def wZ(u:Nat)(b:Int)(n m:Nat)(A0:Nat->Nat->Int)(bot:Int)(us:List Int):Prop:=
 ∃A hd r L last,dD b n (m+1) u A0 m A hd r L last/\(∀i,r<=i->i<n->tk b (En A hd r i m)=0)/\Low b last (qI (λh=>tk b (En A hd r h m)) hd m r) bot us
def gZ.aqg{b:Int}{n m:Nat}{A:Nat->Nat->Int}{x y:Nat->Int}{bt bot d:Int}(hD:Dom b)(hd:tk b d≠0)(e:∀k,k<m->tk b (y k*d)=tk b (x k))(eb:tk b (bot*d)=tk b bt)(h:gZ b n m A x bt):gZ b n m A y bot:=
 gZ.rel.mpr (Rel.cut hD hd (λk hk=>by
  by_cases c:k=m
  .rw[if_pos c,if_pos c,gO,<-zF,<-dR,eb,dR,zF]
  .rw[if_neg c,if_neg c];exact e k ⋯) (gZ.rel.mp h))
structure ajk(b:Int)(n m:Nat)(A0:Nat->Nat->Int)(bot:Int)(us:List Int):Prop where
 len:us.length=m
 tk:∀x∈us,Rm.tk b x=x
 pos:1<=bot
 pr:b≠0->bot=1
 ze:b=0->Lm.dg bot.natAbs us=1
 sums:gZ b n m A0 (co us) bot
def wZ.ok{u:Nat}{b:Int}{n m:Nat}{A0:Nat->Nat->Int}{bot:Int}{us:List Int}(hB:By b)(h:wZ u b n m A0 bot us):ajk b n m A0 bot us:=by
 obtain⟨A,hd,r,L,last,I,hz,lo⟩:=h;obtain⟨d,d0,d1,d2,d3,d4,d5,d6⟩:=lo.told hB I.rW.1 I.rW.2;exact⟨by rw[lo.len,zH],d3,d4,d5,d6,gZ.aqg hB.dom d0 (λk _=>d1 k) d2 (I.awP hz)⟩
end Dm
namespace Dm
open Rm Pm
end Dm
namespace Dm
open Rm Pm
def QC:∀P∈Om.nj,P<1000:=by decide +kernel
def Bd.agg{u:Nat}{x d:Int}(hd:d≠0)(h:Bd u (x*d)):Bd u x:=by
 unfold Bd at h⊢;rw[jX]at h;have:x.natAbs*1<=x.natAbs*d.natAbs:=uZ _ ⋯;omega
def Low.bd{b bt:Int}{ts:List Int}{bot:Int}{us:List Int}{u:Nat}(hB:By b)(hu:10<=u)(h0:bt≠0)(ht:tk b bt=bt)(h:Low b bt ts bot us)(h1:Bd u bt)(h2:∀x∈ts,Bd u x):Bd u bot/\∀x∈us,Bd u x:=by
 obtain⟨d,d0,d1,d2,d3,d4,d5,d6⟩:=h.told hB h0 ht;rcases hB with rfl|⟨P,hP,rfl⟩
 .simp only[aY]at d0 d1 d2;refine⟨Bd.agg d0 (by rw[d2];exact h1),λx hx=>?_⟩;obtain⟨k,hk,e⟩:=jq.mp hx;have e':co us k=x:=by rw[jo hk];exact e
  rw[<-e'];exact Bd.agg d0 (by rw[d1 k];exact jA h2 k)
 .have p2:=Fv P hP;have p1:=QC P hP;refine⟨by rw[d5 ⋯];exact(Bd.of (n:=1) ∅ ∅).mono ⋯,λx hx=>?_⟩;rw[<-d3 x hx,jZ ⋯];exact(Bd.emod (n:=10) ⋯ (Bd.of ⋯ ⋯)).mono hu
theorem Ax.n{n u:Nat}(h:Ax n u):n<=100:=by
 have h:=h.hi;refine aap λz=>?_;have:102*102<=(n+1)*(u+(n+1)):=ig ⋯ ⋯;omega
def dD.bdL{b:Int}{n W u m:Nat}{A0 A:Nat->Nat->Int}{hd:Nat->Nat}{r:Nat}{L:List (List Int)}{last:Int}(hB:By b)(h:dD b n W u A0 m A hd r L last)(hn:Ax n u)(i k:Nat):Bd (2400-n) (tk b (En A hd r i k)):=by
 have hb:0<=b/\Bd 10 b:=by
  rcases hB with rfl|⟨P,hP,rfl⟩
  .exact⟨∅,Bd.zero _⟩
  .have p1:=QC P hP;exact⟨⋯,Bd.of ⋯ ⋯⟩
 have:=h.rn;have hn':=hn.n;have hn2:=hn.hi;refine pJ hb.1 (hb.2.mono ⋯) ((h.bdE i k).mono ?_);have:(r+1)*(u+(r+1))<=(n+1)*(u+(n+1)):=ig ⋯ ⋯;omega
def dD.ajD{b:Int}{n W u m:Nat}{A0 A:Nat->Nat->Int}{hd:Nat->Nat}{r:Nat}{L:List (List Int)}{last:Int}(hB:By b)(h:dD b n W u A0 m A hd r L last)(hn:Ax n u):Bd (2400-n) last:=by
 have hb:0<=b/\Bd 10 b:=by
  rcases hB with rfl|⟨P,hP,rfl⟩
  .exact⟨∅,Bd.zero _⟩
  .have p1:=QC P hP;exact⟨⋯,Bd.of ⋯ ⋯⟩
 have:=h.rn;have hn':=hn.n;have hn2:=hn.hi;rw[h.la];refine pJ hb.1 (hb.2.mono ⋯) ((AH (u:=u) λi k _ _=>h.sZ _ _).mono ?_);have:r*(u+r)<=(n+1)*(u+(n+1)):=ig ⋯ ⋯;omega
theorem wZ.bd{u:Nat}{b:Int}{n m:Nat}{A0:Nat->Nat->Int}{bot:Int}{us:List Int}(hB:By b)(hn:Ax n u)(h:wZ u b n m A0 bot us):Bd 2400 bot/\∀x∈us,Bd 2400 x:=by
 obtain⟨A,hd,r,L,last,I,hz,lo⟩:=h;have hr:=I.rn;have hn':=hn.n;refine lo.bd hB ∅ I.rW.1 I.rW.2 ((I.ajD hB hn).mono ⋯) λx hx=>?_;obtain⟨k,_,rfl⟩:=vU hx;refine(zQ (c:=2400-n) r λh _=>?_).mono ⋯;split
 .exact I.bdL hB hn _ _
 .exact Bd.zero _
end Dm
namespace Dm
open Rm Pm
end Dm
namespace Dm
open Rm Pm
end Dm
namespace Dm
open Rm Pm
def axm{b:Int}(hD:Dom b)(h1:tk b 1≠0)(n:Nat)(A:Nat->Nat->Int):∃x:Nat->Int,(∃k,k<n+1/\tk b (x k)≠0)/\Rel b n (n+1) A x:=by
 refine uX λhno=>?_;have hI:sH b (n+1) (n+1) (λi k=>if i=0 then 0 else A (i-1) k):=λx hx k hk=>by
  refine uX λhk0=>hno ⟨x,⟨k,hk,hk0⟩,λi hi=>?_⟩;have:=hx (i+1) ⋯;refine Eq.trans (congrArg (tk b) (aR λk _=>?_)) this;show A i k*x k=(if i+1=0 then 0 else A (i+1-1) k)*x k;rw[if_neg ⋯];rfl
 refine abV hD h1 hI ?_;rw[ayP,jl λc _=>by rw[if_pos rfl,aP,gb],tk0]
def ajL{b:Int}(hD:Dom b)(h1:tk b 1≠0){n m:Nat}(h:n<m)(A:Nat->Nat->Int):¬sH b n m A:=λhI=>by
 obtain⟨x,⟨k,hk,hne⟩,hx⟩:=axm hD h1 n A;refine hne ?_;have q:=hI (λj=>if j<n+1 then x j else 0) (λi hi=>?_) k ⋯
 .rw[if_pos hk]at q;exact q
 .show tk b (sm m λj=>A i j*if j<n+1 then x j else 0)=0;rw[mK (m:=n+1) ⋯ λj h2 _=>by rw[if_neg ⋯,aP]];rw[aR (g:=λj=>A i j*x j) λj hj=>by rw[if_pos hj]];exact hx i hi
end Dm
namespace Pm
open Rm
def syn:List Int->Int->List Int×Int
 |[],_=>([],0)
 |a::t,r=>((syn t r).2::(syn t r).1,a+r*(syn t r).2)
theorem Yi:∀(p:List Int) (r:Int),(syn p r).1.length=p.length
 |[],_=>rfl
 |a::t,r=>by show(_::(syn t r).1).length=_;rw[iQ,Yi t r,iQ]
theorem JG:∀(p:List Int) (r:Int) (k:Nat),co p k=(if k=0 then(syn p r).2 else co (syn p r).1 (k-1))-r*co (syn p r).1 k
 |[],r,k=>by
  show co [] k=(if k=0 then(0:Int)else co [] (k-1))-r*co [] k;rw[fW,fW];split<;>omega
 |a::t,r,0=>by
  show co (a::t) 0=(a+r*(syn t r).2)-r*co ((syn t r).2::_) 0;rw[fQ,fQ];omega
 |a::t,r,k+1=>by
  rw[if_neg ⋯,fR,jE,JG t r k];show _=co ((syn t r).2::(syn t r).1) k-r*co ((syn t r).2::(syn t r).1) (k+1);rw[jE];cases k with
  |zero=>rw[if_pos rfl,fQ]
  |succ k=>rw[if_neg ⋯,fR,jE]
def iz(p:List Int)(r:Int):List Int:=trim (syn p r).1
def oV(p:List Int)(r:Int):Int:=(syn p r).2
def avr(f:Nat->Int)(r:Int)(k:Nat):cv f (co [0-r,1]) k=(if k=0 then 0 else f (k-1))-r*f k:=by
 have g0:co [0-r,1] 0=0-r:=rfl;have g1:co [0-r,1] 1=1:=rfl;have g2:∀j,2<=j->co [0-r,1] j=0:=λj hj=>aX (by show 2<=j;exact hj);rw[fV,sm,rT,g0];cases k with
 |zero=>rw[if_pos rfl,sm,iH,aP,cC];omega
 |succ k=>
  rw[if_neg ⋯,sm,show k+1-k=1 by omega,g1,ju,fR];have z:sm k (λi=>f i*co [0-r,1] (k+1-i))=0:=by
   rw[aR (g:=λ_=>0) λi hi=>by rw[g2 _ ⋯,aP]];exact vK k
  rw[z,iH,aP,cC];omega
def aaF(p:List Int):Py 0 (trim p):=⟨Lf p,λx _=>aY x⟩
def Vt(p:List Int)(r:Int):Div 0 p [0-r,1] (iz p r) (trim [oV p r]):=by
 refine⟨aaF _,aaF _,?_,λk=>?_⟩
 .have:=uz [oV p r];exact qp this (by show 1<2;decide)
 .have ec:co (iz p r)=co (syn p r).1:=funext λj=>j5 ..;rw[ec,avr,j5,JG p r k];congr 1;cases k with
  |zero=>rw[if_pos rfl,if_pos rfl,fQ];show _+(syn p r).2=_;omega
  |succ k=>rw[if_neg ⋯,if_neg ⋯,jE,fW];omega
def G7{p:List Int}{r:Int}(h:Mon p)(h2:2<=p.length):Mon (iz p r)/\(iz p r).length=p.length-1:=by
 have l:=Yi p r;have z1:co (syn p r).1 (p.length-1)=0:=by
  have e:=JG p r p.length;rw[aX (aN _),if_neg ⋯,aX (k:=p.length) ⋯]at e;omega
 have z2:co (syn p r).1 (p.length-2)=1:=by
  have e:=JG p r (p.length-1);rw[h.one,if_neg ⋯,z1,show p.length-1-1=p.length-2 by omega]at e;omega
 have e:iz p r=aM (p.length-1) (co (syn p r).1):=by
  have e1:trim (aM (p.length-1) (co (syn p r).1))=aM (p.length-1) (co (syn p r).1):=vR (λz=>by have:=congrArg tH z;rw[cA]at this;simp at this;omega) (by
   rw[cA,cX,if_pos ⋯,show p.length-1-1=p.length-2 by omega,z2];decide)
  rw[<-e1];refine wR λk=>?_;rw[cX];split
  .rfl
  .by_cases c:k=p.length-1
   .rw[c,z1]
   .exact aX ⋯
 have le:(iz p r).length=p.length-1:=by rw[e,cA]
 refine⟨⟨⋯,?_⟩,le⟩;rw[le,e,cX,if_pos ⋯,show p.length-1-1=p.length-2 by omega,z2]
def outF:Nat->List Int->Int->Nat×List Int
 |0,p,_=>(0,p)
 |n+1,p,r=>if oV p r=0 then((outF n (iz p r) r).1+1,(outF n (iz p r) r).2)else(0,p)
def pO(n:Nat):Nat->Nat->List Int->List Int->List Int
 |0,_,s,g=>s++g.reverse
 |f+1,t,s,g=>if t*t<=n then(if n%t=0 then(if t*t<n then pO n f (t+1) (s++[(t:Int)]) (g++[((n/t:Nat):Int)])else pO n f (t+1) (s++[(t:Int)]) g)else pO n f (t+1) s g)else s++g.reverse
def divs(n:Nat):List Int:=pO n (n+1) 1 [] []
def iW(p:List Int):Int:=(p.filter λx=>decide (x≠0)).headD 0
def cands(p:List Int):List Int:=((divs (iW p).natAbs).reverse.map λx=>0-x)++[0]++divs (iW p).natAbs
def oW:List Int->List (List Int)->List Int->List (List Int)×List Int
 |[],rs,l=>(rs,l)
 |c::cs,rs,l=>if 0<(outF l.length l c).1 then oW cs (rs++[[c,((outF l.length l c).1:Int)]]) (outF l.length l c).2 else oW cs rs l
def wr(p:List Int):List (List Int)×List Int:=oW (cands p) [] p
def tu(p q:List Int):List Int:=aM (p.length+q.length-1) (cv (co p) (co q))
end Pm
namespace Pm
open Rm
theorem ab5{r:Int}{u v:Nat}(hr:Bd v r):∀{p:List Int},(∀x∈p,Bd u x)->(∀x∈(syn p r).1,Bd (u+p.length*(v+1)) x)/\Bd (u+p.length*(v+1)) (syn p r).2
 |[],_=>⟨λx hx=>(gK hx).elim,Bd.zero _⟩
 |a::t,h=>by
  obtain⟨h1,h2⟩:=ab5 hr (p:=t) λx hx=>h x (cZ _ hx);have e:u+(t.length+1)*(v+1)=u+t.length*(v+1)+v+1:=by rw[sV];omega
  rw[iQ,e];refine⟨λx hx=>?_,?_⟩
  .rcases bJ.mp hx with rfl|hx
   .exact h2.mono ⋯
   .exact(h1 x hx).mono ⋯
  .show Bd _ (a+r*(syn t r).2);refine(Bd.add (n:=u+t.length*(v+1)+v) ((h a (cV ..)).mono ⋯) ((hr.mul h2).mono ⋯)).mono ⋯
def adV{r:Int}{u v:Nat}(hr:Bd v r){p:List Int}(h:∀x∈p,Bd u x):∀x∈iz p r,Bd (u+p.length*(v+1)) x:=λx hx=>by
 obtain⟨k,hk,e⟩:=jq.mp hx;rw[<-e,<-jo hk];unfold iz;rw[j5];exact jA (ab5 hr h).1 k
structure ax6(p:List Int)(u:Nat)(n:Nat)(l:List Int):Prop where
 mon:Mon l
 len:l.length+n=p.length
 bd:∀x∈l,Bd (u+n*1640) x
def Ju{p:List Int}(h:Mon p)(h1:p.length<2)(r:Int):oV p r≠0:=by
 have hp:=h.pos;obtain⟨a,rfl⟩:∃a,p=[a]:=by
  match p,hp,h1 with
  |[a],_,_=>exact⟨a,rfl⟩
 have:=h.one;rw[show[a].length-1=0 from rfl,fQ]at this;subst this;show(1:Int)+r*0≠0;rw[aP];decide
theorem aeu{r:Int}(hr:Bd 40 r):∀(n:Nat) {p:List Int} {u:Nat},Mon p->p.length<=40->(∀x∈p,Bd u x)->ax6 p u (outF n p r).1 (outF n p r).2
 |0,p,u,h,_,b=>⟨h,rfl,λx hx=>(b x hx).mono ⋯⟩
 |n+1,p,u,h,hl,b=>by
  unfold outF;split
  .rename_i c
   have h2:2<=p.length:=by
    by_cases z:2<=p.length
    .exact z
    .exact absurd c (Ju h ⋯ r)
   obtain⟨m1,l1⟩:=G7 (r:=r) h h2;obtain⟨a,b1,c1⟩:=aeu hr n (u:=u+1640) m1 ⋯ (λx hx=>(adV hr b x hx).mono (by have:p.length*(40+1)<=40*41:=qd _ hl;omega));refine⟨a,by show(outF n (iz p r) r).2.length+((outF n (iz p r) r).1+1)=_;omega,λx hx=>(c1 x hx).mono ?_⟩;show _<=u+((outF n (iz p r) r).1+1)*1640;rw[sV];omega
  .exact⟨h,rfl,λx hx=>(b x hx).mono ⋯⟩
theorem zZ(n:Nat){m:Int}(hm:(n:Int)<=m):∀(f t:Nat) (s g:List Int),1<=t->(∀x∈s,0<x/\x<=m)->(∀x∈g,0<x/\x<=m)->∀x∈pO n f t s g,0<x/\x<=m
 |0,t,s,g,_,hs,hg,x,hx=>by
  rcases fP.mp hx with hx|hx
  .exact hs x hx
  .exact hg x (qK.mp hx)
 |f+1,t,s,g,ht,hs,hg,x,hx=>by
  unfold pO at hx;split at hx
  .rename_i c
   have htt:t<=t*t:=Uk t ht;have hs':∀y∈s++[(t:Int)],0<y/\y<=m:=λy hy=>by
    rcases fP.mp hy with hy|hy
    .exact hs y hy
    .rw[eE.mp hy];omega
   split at hx
   .split at hx
    .refine zZ n hm f (t+1) _ _ ⋯ hs' (λy hy=>?_) x hx;rcases fP.mp hy with hy|hy
     .exact hg y hy
     .rw[eE.mp hy];have a1:0<n/t:=Nat.div_pos ⋯ ⋯;have a2:n/t<=n:=Nat.div_le_self ..;omega
    .exact zZ n hm f (t+1) _ _ ⋯ hs' hg x hx
   .exact zZ n hm f (t+1) _ _ ⋯ hs hg x hx
  .rcases fP.mp hx with hx|hx
   .exact hs x hx
   .exact hg x (qK.mp hx)
end Pm
namespace Pm
end Pm
namespace Pm
open Rm
def evC(a:Int)(p:List Int)(x:Int):ev (a::p) x=a+x*ev p x:=by
 rw[<-kO (p:=a::p) (n:=p.length+1) (aN _) x,oN,fQ,sG,ju,<-kO (p:=p) (aN _) x,<-dF];congr 1;refine aR λk _=>?_;rw[jE,jf,cC (x^k) x,<-bU,<-bU,cC (co p k) x]
theorem Jc:∀(p:List Int) (r:Int),oV p r=ev p r
 |[],r=>rfl
 |a::t,r=>by rw[evC,<-Jc t r];rfl
theorem aaK(c:Int):∀(n:Nat) {p:List Int},Mon p->p.length<=n->Rep c (outF n p c).1 p (outF n p c).2/\ev (outF n p c).2 c≠0/\Mon (outF n p c).2
 |0,p,h,hl=>by have:=h.pos;omega
 |n+1,p,h,hl=>by
  unfold outF;split
  .rename_i z
   have h2:2<=p.length:=by
    by_cases y:2<=p.length
    .exact y
    .exact absurd z (Ju h ⋯ c)
   obtain⟨m1,l1⟩:=G7 (r:=c) h h2;obtain⟨a1,a2,a3⟩:=aaK c n m1 ⋯;have d:=Vt p c;rw[z]at d;exact⟨.succ d a1,a2,a3⟩
  .rename_i z
   rw[Jc]at z;exact⟨.zero p,z,h⟩
def gw(x:Int×Nat):List Int:=[x.1,(x.2:Int)]
theorem MV:∀(cs:List Int) (rs:List (List Int)) {p:List Int},Mon p->∃l,(oW cs rs p).1=rs++l.map gw/\Scan cs p l (oW cs rs p).2/\Mon (oW cs rs p).2
 |[],rs,p,h=>⟨[],by simp[oW],.nil p,h⟩
 |c::cs,rs,p,h=>by
  obtain⟨a1,a2,a3⟩:=aaK c p.length h (aN _);unfold oW;generalize outF p.length p c=o at a1 a2 a3;obtain⟨m,q⟩:=o;dsimp only at a1 a2 a3⊢;split
  .rename_i z
   obtain⟨l,e1,e2,e3⟩:=MV cs (rs++[[c,(m:Int)]]) a3;obtain⟨k,rfl⟩:∃k,m=k+1:=⟨m-1,⋯⟩;exact⟨(c,k+1)::l,by rw[e1];simp[gw],.hit a1 a2 e2,e3⟩
  .rename_i z
   have:m=0:=⋯;subst this;cases a1;obtain⟨l,e1,e2,e3⟩:=MV cs rs h;exact⟨l,e1,.miss a2 e2,e3⟩
structure WdI(n t:Nat)(s g:List Int):Prop where
 s1:∀x:Int,x∈s↔∃d:Nat,x=d/\1<=d/\d<t/\d*d<=n/\d∣n
 g1:∀x:Int,x∈g↔∃d:Nat,x=(n/d:Nat)/\1<=d/\d<t/\d*d<n/\d∣n
 s2:s.Pairwise (· < ·)
 g2:g.Pairwise (· > ·)
def atr{n b c:Nat}(h:b<c)(h1:1<=b)(hb:b∣n)(hc:c∣n)(hn:0<n):n/c<n/b:=by
 obtain⟨k,hk⟩:=hb;obtain⟨m,hm⟩:=hc;have e1:n/b=k:=by rw[hk];exact Vb k h1
 have e2:n/c=m:=by rw[hm];exact Vb m ⋯
 rw[e1,e2];rcases vZ m k with z|z
 .exact z
 .exfalso
  have hm0:0<m:=by
   rcases Pz m with y|y
   .rw[y,VJ]at hm;omega
   .exact y
  have:b*k<c*m:=qp (uZ b z) (Rv h hm0);omega
def ag8{n t:Nat}{s g:List Int}(hn:0<n)(I:WdI n t s g)(ht:n<t*t):(s++g.reverse).Pairwise (· < ·)/\∀d:Nat,1<=d->d∣n->(d:Int)∈s++g.reverse:=by
 have big:∀{b:Nat},1<=b->b*b<n->b∣n->n<n/b*(n/b):=λ{b} h1 h2 h3=>by
  obtain⟨k,hk⟩:=h3;have e:n/b=k:=by rw[hk];exact Vb k h1
  rw[e];have:b<k:=by
   rcases vZ b k with z|z
   .exact z
   .have:=uZ b z;omega
  have k0:0<k:=⋯;rw[hk];exact Rv this k0
 have small:∀{d:Nat},d*d<=n->d<t:=λ{d} h=>by
  rcases vZ d t with z|z
  .exact z
  .have:=ig z z;omega
 refine⟨BR.mpr ⟨I.s2,Xc.mpr I.g2,λa ha b hb=>?_⟩,λd h1 h2=>?_⟩
 .obtain⟨d,rfl,d1,d2,d3,d4⟩:=(I.s1 a).mp ha;obtain⟨e,rfl,e1,e2,e3,e4⟩:=(I.g1 b).mp (qK.mp hb);have:=big e1 e3 e4;have:d<n/e:=by
   rcases vZ d (n/e)with z|z
   .exact z
   .have:=ig z z;omega
  omega
 .by_cases c:d*d<=n
  .exact fP.mpr (.inl ((I.s1 _).mpr ⟨d,rfl,h1,small c,c,h2⟩))
  .obtain⟨k,hk⟩:=h2;have k0:1<=k:=by
    rcases Pz k with z|z
    .rw[z,VJ]at hk;omega
    .exact z
   have hkd:k<d:=by
    rcases vZ k d with z|z
    .exact z
    .have:=uZ d z;omega
   have kk:k*k<n:=by rw[hk];exact Rv hkd k0
   refine fP.mpr (.inr (qK.mpr ((I.g1 _).mpr ⟨k,?_,k0,small ⋯,kk,⟨d,by rw[hk,qF]⟩⟩)));rw[hk,Nat.mul_div_cancel d ⋯]
theorem Jq{n:Nat}(hn:0<n):∀(f t:Nat) (s g:List Int),f+t=n+2->1<=t->WdI n t s g->(pO n f t s g).Pairwise (· < ·)/\∀d:Nat,1<=d->d∣n->(d:Int)∈pO n f t s g
 |0,t,s,g,h,h1,I=>ag8 hn I (by have:t<=t*t:=Uk t ⋯;omega)
 |f+1,t,s,g,h,h1,I=>by
  unfold pO;have sNew:t∣n->t*t<=n->(∀x:Int,x∈s++[(t:Int)]↔∃d:Nat,x=d/\1<=d/\d<t+1/\d*d<=n/\d∣n)/\(s++[(t:Int)]).Pairwise (· < ·):=λhd hs=>by
   refine⟨λx=>?_,BR.mpr ⟨I.s2,DQ ..,λa ha b hb=>?_⟩⟩
   .rw[fP,I.s1,eE];constructor
    .rintro(⟨d,h1,h2,h3,h4⟩|rfl)
     .exact⟨d,h1,h2,⋯,h4⟩
     .exact⟨t,rfl,h1,⋯,hs,hd⟩
    .rintro⟨d,rfl,h2,h3,h4⟩;by_cases c:d=t
     .exact .inr (by rw[c])
     .exact .inl ⟨d,rfl,h2,⋯,h4⟩
   .obtain⟨d,rfl,_,h3,_⟩:=(I.s1 a).mp ha;rw[eE.mp hb];omega
  have acP:(¬(t∣n/\t*t<n))->∀x:Int,x∈g↔∃d:Nat,x=(n/d:Nat)/\1<=d/\d<t+1/\d*d<n/\d∣n:=λhno x=>by
   rw[I.g1];constructor
   .rintro⟨d,h1,h2,h3,h4⟩;exact⟨d,h1,h2,⋯,h4⟩
   .rintro⟨d,h1,h2,h3,h4,h5⟩;refine⟨d,h1,h2,?_,h4,h5⟩;by_cases c:d=t
    .subst c;exact absurd ⟨h5,h4⟩ hno
    .omega
  split
  .rename_i c
   split
   .rename_i c2
    have hd:t∣n:=Wa c2;obtain⟨n1,n2⟩:=sNew hd c;split
    .rename_i c3
     refine Jq hn f (t+1) _ _ ⋯ ⋯ ⟨n1,λx=>?_,n2,BR.mpr ⟨I.g2,DQ ..,λa ha b hb=>?_⟩⟩
     .rw[fP,I.g1,eE];constructor
      .rintro(⟨d,h1,h2,h3,h4⟩|rfl)
       .exact⟨d,h1,h2,⋯,h4⟩
       .exact⟨t,rfl,h1,⋯,c3,hd⟩
      .rintro⟨d,rfl,h2,h3,h4⟩;by_cases z:d=t
       .exact .inr (by rw[z])
       .exact .inl ⟨d,rfl,h2,⋯,h4⟩
     .obtain⟨d,rfl,d1,d2,d3,d4⟩:=(I.g1 a).mp ha;rw[eE.mp hb];have:=atr d2 d1 d4 hd hn;show((n/t:Nat):Int)<_;omega
    .rename_i c3
     exact Jq hn f (t+1) _ _ ⋯ ⋯ ⟨n1,acP λz=>c3 z.2,n2,I.g2⟩
   .rename_i c2
    have hd:¬t∣n:=λz=>c2 (WC z);refine Jq hn f (t+1) s g ⋯ ⋯ ⟨λx=>?_,acP λz=>hd z.1,I.s2,I.g2⟩;rw[I.s1];constructor
    .rintro⟨d,h1,h2,h3,h4⟩;exact⟨d,h1,h2,⋯,h4⟩
    .rintro⟨d,h1,h2,h3,h4,h5⟩;refine⟨d,h1,h2,?_,h4,h5⟩;by_cases z:d=t
     .subst z;exact absurd h5 hd
     .omega
  .rename_i c
   exact ag8 hn I ⋯
def aeo{n:Nat}(hn:0<n):(divs n).Pairwise (· < ·)/\∀d:Nat,1<=d->d∣n->(d:Int)∈divs n:=
 Jq hn (n+1) 1 [] [] ⋯ (aN _) ⟨λx=>⟨(λh=>(by cases h)),(λ⟨d,_,h1,h2,_⟩=>⋯)⟩,λx=>⟨(λh=>(by cases h)),(λ⟨d,_,h1,h2,_⟩=>⋯)⟩,.nil,.nil⟩
theorem Ry:∀{p:List Int},(∃k,co p k≠0)->∃j,co p j=iW p/\iW p≠0/\∀k,k<j->co p k=0
 |[],⟨k,h⟩=>absurd (fW k) h
 |a::t,⟨k,h⟩=>by
  by_cases c:a=0
  .subst c;have e:iW (0::t)=iW t:=by unfold iW;rw[ug,if_neg (by simp)]
   cases k with
   |zero=>exact absurd (fQ 0 t) h
   |succ k=>
    rw[jE]at h;obtain⟨j,h1,h2,h3⟩:=Ry (p:=t) ⟨k,h⟩;refine⟨j+1,by rw[jE,h1,e],by rw[e];exact h2,λi hi=>?_⟩;cases i with
    |zero=>rw[fQ]
    |succ i=>rw[jE];exact h3 i ⋯
  .have e:iW (a::t)=a:=by unfold iW;rw[ug,if_pos (by simpa using c)];rfl
   exact⟨0,by rw[fQ,e],by rw[e];exact c,λi hi=>⋯⟩
def Mon.low{p:List Int}(h:Mon p):∃k,co p k≠0:=⟨p.length-1,by rw[h.one];decide⟩
def ayK{p:List Int}(h:Mon p):(cands p).Pairwise (· < ·):=by
 obtain⟨j,_,hl,_⟩:=Ry h.low;obtain⟨d1,_⟩:=aeo (n:=(iW p).natAbs) ⋯;have pos:∀x∈divs (iW p).natAbs,0<x:=λx hx=>(zZ _ (m:=(iW p).natAbs) (Int.le_refl _) _ 1 [] [] (aN _) (λy hy=>nomatch hy) (λy hy=>nomatch hy) x hx).1;unfold cands;refine BR.mpr ⟨BR.mpr ⟨uU.mpr (Xc.mpr (d1.imp λ{a b} hab=>⋯)),DQ ..,λa ha b hb=>?_⟩,d1,λa ha b hb=>?_⟩
 .obtain⟨y,hy,rfl⟩:=bY.mp ha;have:=pos y (qK.mp hy);rw[eE.mp hb];omega
 .have:=pos b hb;rcases fP.mp ha with ha|ha
  .obtain⟨y,hy,rfl⟩:=bY.mp ha;have:=pos y (qK.mp hy);omega
  .rw[eE.mp ha];omega
def axr{p:List Int}(h:Mon p){x:Int}(hx:ev p x=0):x∈cands p:=by
 obtain⟨j,h1,hl,h3⟩:=Ry h.low;obtain⟨_,d2⟩:=aeo (n:=(iW p).natAbs) ⋯;unfold cands;by_cases c:x=0
 .exact fP.mpr (.inl (fP.mpr (.inr (by rw[c];exact eE.mpr rfl))))
 .have hd:=asK h3 hx c;rw[h1]at hd;have hd':x.natAbs∣(iW p).natAbs:=Ul.mpr hd;have hm:=d2 x.natAbs ⋯ hd';by_cases s:0<x
  .exact fP.mpr (.inr (by rwa [show((x.natAbs:Nat):Int)=x by omega]at hm))
  .refine fP.mpr (.inl (fP.mpr (.inl (bY.mpr ⟨_,qK.mpr hm,⋯⟩))))
def axq{p:List Int}(h:Mon p):∃l:List (Int×Nat),(wr p).1=l.map gw/\Scan (cands p) p l (wr p).2/\Mon (wr p).2:=by
 obtain⟨l,h1,h2,h3⟩:=MV (cands p) [] h;exact⟨l,by show(oW (cands p) [] p).1=_;simpa using h1,h2,h3⟩
def Mon.pU{p:List Int}(h:Mon p):Py 0 p:=by
 have:trim p=p:=vR (λz=>by have:=h.pos;rw[z]at this;exact absurd this ∅) (by rw[h.one];decide);exact⟨this,λx _=>aY x⟩
def aeW{p:List Int}(h:Mon p):∃l:List (Int×Nat),(wr p).1=l.map gw/\p=RP l (wr p).2/\(∀x,ev (wr p).2 x≠0)/\(l.map (·.1)).Pairwise (· < ·)/\(∀x∈l,0<x.2)/\Mon (wr p).2/\∀x∈l,x.1∈cands p:=by
 obtain⟨l,h1,h2,h3⟩:=axq h;obtain⟨b1,b2,b3,b4,b5⟩:=h2.back h.pU;refine⟨l,h1,b1,λx hx=>?_,(ayK h).sublist b4,b5,h3,λx hx=>b4.subset (bY.mpr ⟨x,hx,rfl⟩)⟩;have:ev p x=0:=by rw[b1];exact Ip b2 hx l
 exact b3 x (axr h this) hx
end Pm
namespace Pm
open Rm
def vW(p q r:List Int):mul 0 (mul 0 p q) r=mul 0 p (mul 0 q r):=(qm ..).ext (qm ..) λk=>by
 rw[jL,jL];have e1:co (mul 0 p q)=cv (co p) (co q):=funext λi=>by rw[jL,aY]
 have e2:co (mul 0 q r)=cv (co q) (co r):=funext λi=>by rw[jL,aY]
 rw[e1,e2,gP]
theorem Vi(r:Int)(a R:List Int):∀m,cY r m (mul 0 a R)=mul 0 (cY r m a) R
 |0=>rfl
 |m+1=>by
  show mul 0 (cY r m (mul 0 a R)) (lin r)=mul 0 (mul 0 (cY r m a) (lin r)) R;rw[Vi r a R m,vW,vW,mul_comm 0 R]
theorem Zw(r s:Int)(k:Nat)(X:List Int):∀m,cY r m (cY s k X)=cY s k (cY r m X)
 |0=>rfl
 |m+1=>by
  show mul 0 (cY r m (cY s k X)) (lin r)=cY s k (mul 0 (cY r m X) (lin r));rw[Zw r s k X m,Vi]
theorem adN(r:Int)(m:Nat)(X:List Int):∀t,RP t (cY r m X)=cY r m (RP t X)
 |[]=>rfl
 |(s,k)::t=>by
  show cY s k (RP t (cY r m X))=cY r m (cY s k (RP t X));rw[adN r m X t,Zw]
def jV:List (Int×Nat)->List Int->List Int
 |[],a=>a
 |(r,m)::t,a=>jV t (cY r m a)
theorem Ur(R:List Int):∀(l:List (Int×Nat)) (a:List Int),mul 0 (jV l a) R=RP l (mul 0 a R)
 |[],_=>rfl
 |(r,m)::t,a=>by
  show mul 0 (jV t (cY r m a)) R=cY r m (RP t (mul 0 a R));rw[Ur R t,<-Vi,adN]
def BD:Mon [1]:=⟨∅,rfl⟩
def XH:tk (0:Int) 1=1:=aY 1
theorem Kd{r:Int}{a:List Int}(h:Mon a):∀m,Mon (cY r m a)/\(cY r m a).length=a.length+m
 |0=>⟨h,rfl⟩
 |m+1=>by
  obtain⟨h1,h2⟩:=Kd (r:=r) h m;obtain⟨a1,a2⟩:=Kv XH h1 (Vp r);exact⟨a1,by show(mul 0 (cY r m a) (lin r)).length=_;rw[a2,h2];show a.length+m+2-1=_;omega⟩
def many(l:List (Int×Nat)):Nat:=(l.map (·.2)).sum
theorem IB:∀(l:List (Int×Nat)) {a:List Int},Mon a->Mon (jV l a)/\(jV l a).length=a.length+many l
 |[],a,h=>⟨h,by simp[jV,many]⟩
 |(r,m)::t,a,h=>by
  obtain⟨h1,h2⟩:=Kd (r:=r) h m;obtain⟨a1,a2⟩:=IB t h1;exact⟨a1,by show(jV t (cY r m a)).length=_;rw[a2,h2];simp[many];omega⟩
def one_mul{R:List Int}(h:Py 0 R):mul 0 [1] R=R:=by rw[mul_comm,mul_one h]
def YD{p q:List Int}(hp:Mon p)(hq:Mon q):tu p q=mul 0 p q/\Mon (tu p q)/\(tu p q).length=p.length+q.length-1:=by
 obtain⟨h1,h2⟩:=Kv XH hp hq;have e:tu p q=mul 0 p q:=by
  unfold tu;refine uQ (by rw[cA,h2]) λk=>?_;rw[cX,jL,aY];split
  .rfl
  .rename_i c
   exact(jR λi hi=>by
    by_cases z:p.length<=i
    .exact .inl (aX z)
    .exact .inr (aX ⋯)).symm
 rw[e];exact⟨rfl,h1,h2⟩
end Pm
namespace Cf
def El(r:Int)(g:Nat->Int):Nat->Int:=λn=>g (n+1)-r*g n
def W(r:Int):Nat->(Nat->Int)->Prop
 |0,g=>∀n,g n=0
 |m+1,g=>W r m (El r g)
def adi(r s:Int)(g:Nat->Int):El r (El s g)=El s (El r g):=funext λn=>by
 unfold El;rw[iH,iH,<-bU,<-bU,cC r s];omega
def yw{r:Int}{g:Nat->Int}(h:∀n,g n=0)(n:Nat):El r g n=0:=by unfold El;rw[h,h,aP];rfl
def ao0(r:Int)(g h:Nat->Int):El r (λn=>g n+h n)=λn=>El r g n+El r h n:=funext λn=>by
 show g (n+1)+h (n+1)-r*(g n+h n)=(g (n+1)-r*g n)+(h (n+1)-r*h n);rw[gq];omega
def apF(r c:Int)(g:Nat->Int):El r (λn=>c*g n)=λn=>c*El r g n:=funext λn=>by
 show c*g (n+1)-r*(c*g n)=c*(g (n+1)-r*g n);rw[iH,eZ]
theorem W.zero{r:Int}:∀{m:Nat} {g:Nat->Int},(∀n,g n=0)->W r m g
 |0,_,h=>h
 |m+1,g,h=>W.zero (m:=m) (g:=El r g) (yw h)
theorem W.el{r:Int}(s:Int):∀{m:Nat} {g:Nat->Int},W r m g->W r m (El s g)
 |0,_,h=>yw h
 |m+1,g,h=>by
  show W r m (El r (El s g));rw[adi];exact W.el s h
theorem W.mul{r:Int}(c:Int):∀{m:Nat} {g:Nat->Int},W r m g->W r m λn=>c*g n
 |0,g,h=>λn=>by show c*g n=0;rw[h n,aP]
 |m+1,g,h=>by
  show W r m (El r λn=>c*g n);rw[apF];exact W.mul c h
theorem W.add{r:Int}:∀{m:Nat} {g h:Nat->Int},W r m g->W r m h->W r m λn=>g n+h n
 |0,g,h,h1,h2=>λn=>by show g n+h n=0;rw[h1 n,h2 n];rfl
 |m+1,g,h,h1,h2=>by
  show W r m (El r λn=>g n+h n);rw[ao0];exact W.add h1 h2
theorem W.up{r:Int}:∀{m:Nat} {g:Nat->Int},W r m g->W r (m+1) g
 |0,_,h=>yw h
 |m+1,g,h=>W.up (m:=m) (g:=El r g) h
def W.le{r:Int}{m m':Nat}{g:Nat->Int}(h:W r m g)(hm:m<=m'):W r m' g:=by
 induction m' with
 |zero=>
  obtain rfl:m=0:=⋯;exact h
 |succ k ih=>
  by_cases e:m=k+1
  .subst e;exact h
  .exact(ih ⋯).up
theorem W.kill{r s:Int}(hne:r≠s):∀{m:Nat} {g:Nat->Int},W s m g->(∀n,El r g n=0)->∀n,g n=0
 |0,_,h,_=>h
 |m+1,g,h,e=>λn=>by
  have e1:∀n,El s g n=(r-s)*g n:=λn=>by
   have:=e n;unfold El at this⊢;rw[yh];omega
  have k:∀n,El s g n=0:=W.kill hne h λn=>by rw[adi];exact yw e n
  have:=k n;rw[e1]at this;rcases lH.mp this with z|z
  .exact absurd ⋯ hne
  .exact z
abbrev Tm:=Int×Nat×(Nat->Int)
def jY(l:List Tm)(n:Nat):Int:=(l.map λt=>t.2.2 n).sum
def tG(t:Tm)(l:List Tm)(n:Nat):jY (t::l) n=t.2.2 n+jY l n:=by simp[jY]
theorem agP(r:Int):∀(l:List Tm) (n:Nat),jY (l.map λt=>(t.1,t.2.1,El r t.2.2)) n=El r (jY l) n
 |[],n=>by simp[jY,El]
 |t::l,n=>by
  rw[bG,tG,agP r l n];show El r t.2.2 n+El r (jY l) n=El r (jY (t::l)) n;unfold El;rw[tG,tG,gq];omega
def ahc{l:List Tm}(h:∀t∈l,∀n,t.2.2 n=0)(n:Nat):jY l n=0:=by
 induction l with
 |nil=>rfl
 |cons t l ih=>rw[tG,h t (cV ..) n,ih λx hx=>h x (cZ _ hx)];rfl
theorem indep:∀(K:Nat) (l:List Tm),(l.map λt=>t.2.1+1).sum<=K->(l.map (·.1)).Nodup->(∀t∈l,W t.1 t.2.1 t.2.2)->(∀n,jY l n=0)->∀t∈l,∀n,t.2.2 n=0
 |_,[],_,_,_,_,t,ht,_=>by cases ht
 |0,t0::l,hK,_,_,_,_,_,_=>by simp at hK
 |K+1,(r,m,g)::l,hK,hd,hW,hs,t,ht,n=>by
  simp only[bG,gF]at hK;have hd':=mV.mp hd;have Od:∀t∈l,W t.1 t.2.1 t.2.2:=λt ht=>hW t (cZ _ ht);have hg:=hW (r,m,g) (cV ..);have rest:∀t∈l,∀n,t.2.2 n=0:=by
   cases m with
   |zero=>exact indep K l ⋯ hd'.2 Od λn=>by have:=hs n;rw[tG]at this;have z:g n=0:=hg n;show jY l n=0;simp only at this;omega
   |succ k=>
    have ih:=indep K ((r,k,El r g)::l.map λt=>(t.1,t.2.1,El r t.2.2)) (by
     simp only[bG,gF,cR];have:((λt:Tm=>t.2.1+1)∘λt:Tm=>((t.1,t.2.1,El r t.2.2):Tm))=λt:Tm=>t.2.1+1:=rfl;rw[this];omega) (by
     have:(((r,k,El r g)::l.map λt=>((t.1,t.2.1,El r t.2.2):Tm)):List Tm).map (·.1)=((r,k+1,g)::l).map (·.1):=by
      simp only[bG,cR];rfl
     rw[this];exact hd) (λt ht=>by
     rcases bJ.mp ht with rfl|ht
     .exact hg
     .obtain⟨u,hu,rfl⟩:=bY.mp ht;exact(Od u hu).el r) (λn=>by
     have e:=agP r ((r,k+1,g)::l) n;simp only[bG]at e;have e2:jY ((r,k,El r g)::l.map λt=>((t.1,t.2.1,El r t.2.2):Tm)) n=El r (jY ((r,k+1,g)::l)) n:=by rw[<-e,tG,tG]
     rw[e2];exact yw hs n)
    intro t ht n;have hne:r≠t.1:=λz=>hd'.1 (by show r∈l.map (·.1);rw[z];exact iK ht);exact W.kill hne (Od t ht) (λn=>ih (t.1,t.2.1,El r t.2.2) (cZ _ (iK (f:=λt:Tm=>((t.1,t.2.1,El r t.2.2):Tm)) ht)) n) n
  rcases bJ.mp ht with rfl|ht
  .have:=hs n;rw[tG,ahc rest]at this;simp only at this⊢;omega
  .exact rest t ht n
def pv:List Int->Int->Int
 |[],_=>0
 |c::q,x=>c+x*pv q x
def Pf:Nat->(Int->Int)->Prop
 |0,q=>∀x,q x=0
 |m+1,q=>Pf m λx=>q (x+1)-q x
theorem Pf.zero:∀{m:Nat} {q:Int->Int},(∀x,q x=0)->Pf m q
 |0,_,h=>h
 |m+1,q,h=>Pf.zero (m:=m) (q:=λx=>q (x+1)-q x) λx=>by show q (x+1)-q x=0;rw[h,h];rfl
theorem Pf.add:∀{m:Nat} {p q:Int->Int},Pf m p->Pf m q->Pf m λx=>p x+q x
 |0,p,q,h1,h2=>λx=>by show p x+q x=0;rw[h1,h2];rfl
 |m+1,p,q,h1,h2=>by
  have:Pf m λx=>(p (x+1)-p x)+(q (x+1)-q x):=Pf.add h1 h2;have e:(λx=>(p (x+1)-p x)+(q (x+1)-q x))=λx=>(p (x+1)+q (x+1))-(p x+q x):=funext λx=>⋯;rw[e]at this;exact this
theorem Pf.mul(c:Int):∀{m:Nat} {q:Int->Int},Pf m q->Pf m λx=>c*q x
 |0,q,h=>λx=>by show c*q x=0;rw[h,aP]
 |m+1,q,h=>by
  have:Pf m λx=>c*(q (x+1)-q x):=Pf.mul c h;have e:(λx=>c*(q (x+1)-q x))=λx=>c*q (x+1)-c*q x:=funext λx=>by rw[iH]
  rw[e]at this;exact this
theorem Pf.on:∀{m:Nat} {q:Int->Int},Pf m q->Pf m λx=>q (x+1)
 |0,_,h=>λx=>h (x+1)
 |m+1,q,h=>Pf.on (m:=m) (q:=λx=>q (x+1)-q x) h
theorem Pf.x:∀{m:Nat} {q:Int->Int},Pf m q->Pf (m+1) λx=>x*q x
 |0,q,h=>Pf.zero λx=>by show x*q x=0;rw[h,aP]
 |m+1,q,h=>by
  show Pf (m+1) λx=>(x+1)*q (x+1)-x*q x;have h1:Pf (m+1) λx=>x*(q (x+1)-q x):=Pf.x (m:=m) h;have h2:Pf (m+1) λx=>q (x+1):=Pf.on (m:=m+1) h;have h3:=Pf.add h1 h2;have e:(λx=>x*(q (x+1)-q x)+q (x+1))=λx=>(x+1)*q (x+1)-x*q x:=funext λx=>by
   rw[iH,tU,iG];omega
  rw[e]at h3;exact h3
theorem JM:∀q:List Int,Pf q.length (pv q)
 |[]=>λ_=>rfl
 |c::q=>by
  show Pf (q.length+1) λx=>c+x*pv q x;refine Pf.add ?_ (JM q).x;have k:∀m,Pf (m+1) λ_=>c:=λm=>by
   show Pf m λx=>c-c;exact Pf.zero λ_=>⋯
  exact k _
theorem W.of_pf(r:Int):∀{m:Nat} {q:Int->Int},Pf m q->W r m λn=>r^n*q (n:Int)
 |0,q,h=>λn=>by show r^n*q (n:Int)=0;rw[h,aP]
 |m+1,q,h=>by
  show W r m (El r λn=>r^n*q (n:Int));have e:(El r λn:Nat=>r^n*q (n:Int))=λn:Nat=>r^n*(r*(q ((n:Int)+1)-q (n:Int))):=funext λn=>by
   show r^(n+1)*q ((n:Int)+1)-r*(r^n*q (n:Int))=r^n*(r*(q ((n:Int)+1)-q (n:Int)));rw[jf,iH,iH,bU,eZ r (r^n)]
  rw[e];exact W.of_pf r (q:=λx=>r*(q (x+1)-q x)) (Pf.mul r h)
theorem GC:∀(q:List Int) (N:Nat),(∀n:Nat,N<=n->pv q (n:Int)=0)->∀c∈q,c=0
 |[],_,_,c,hc=>by cases hc
 |a::q,N,h,c,hc=>by
  have a0:a=0:=by
   have h1:=h (N+a.natAbs+1) ⋯;have d:((N+a.natAbs+1:Nat):Int)∣a:=⟨-pv q ((N+a.natAbs+1:Nat):Int),by
    have:pv (a::q) ((N+a.natAbs+1:Nat):Int)=a+((N+a.natAbs+1:Nat):Int)*pv q ((N+a.natAbs+1:Nat):Int):=rfl;rw[this]at h1;rw[qH];omega⟩
   by_cases z:a=0
   .exact z
   .exfalso
    have:=pH (Int.natAbs_pos.mpr z) (Ul.mpr d);rw[uM]at this;omega
  rcases bJ.mp hc with rfl|hc
  .exact a0
  .refine GC q (N+1) (λn hn=>?_) c hc;have h1:=h n ⋯;have:pv (a::q) (n:Int)=a+(n:Int)*pv q (n:Int):=rfl;rw[this,a0,gY]at h1;rcases lH.mp h1 with z|z
   .omega
   .exact z
theorem Em{r:Int}(h:r≠0):∀n:Nat,r^n≠0
 |0=>by rw[sG];decide
 |n+1=>by
  rw[jf];intro z;rcases lH.mp z with y|y
  .exact Em h n y
  .exact h y
end Cf
namespace Cf
open Pm Rm
def elN(r:Int):Nat->(Nat->Int)->Nat->Int
 |0,g=>g
 |m+1,g=>El r (elN r m g)
theorem Xd{r:Int}:∀(m:Nat) {g:Nat->Int},(∀n,g n=0)->∀n,elN r m g n=0
 |0,_,h=>h
 |m+1,_,h=>yw (Xd m h)
theorem ae2(r:Int):∀(m:Nat) (g:Nat->Int),elN r m (El r g)=El r (elN r m g)
 |0,_=>rfl
 |m+1,g=>by show El r (elN r m (El r g))=_;rw[ae2 r m g];rfl
theorem W.elN(r:Int):∀{m:Nat} {g:Nat->Int},W r m g->∀n,elN r m g n=0
 |0,_,h=>h
 |m+1,g,h=>by
  have:=W.elN r (m:=m) (g:=El r g) h;rw[ae2]at this;exact this
theorem W.elNs{r:Int}(s:Int):∀(k:Nat) {m:Nat} {g:Nat->Int},W r m g->W r m (Cf.elN s k g)
 |0,_,_,h=>h
 |k+1,_,_,h=>(W.elNs s k h).el s
def aiK(r:Int)(g:Nat->Int)(n:Nat):ks (Pm.lin r) g n=El r g n:=by
 show 0+co (Pm.lin r) 0*g (n+0)+co (Pm.lin r) 1*g (n+1)=g (n+1)-r*g n;rw[show co (Pm.lin r) 0=0-r from rfl,show co (Pm.lin r) 1=1 from rfl,iG,yh];show 0+(0*g n-r*g n)+g (n+1)=_;omega
def apG(p q:List Int)(a:Nat->Int)(n:Nat):ks (mul 0 p q) a n=ks p (ks q a) n:=by
 have:=aev (b:=0) p q a n;rw[aY,aY]at this;exact this
theorem LX(r:Int)(q:List Int)(f:Nat->Int):∀(m n:Nat),ks (cY r m q) f n=elN r m (ks q f) n
 |0,_=>rfl
 |m+1,n=>by
  show ks (mul 0 (cY r m q) (Pm.lin r)) f n=El r (elN r m (ks q f)) n;rw[Pm.mul_comm,apG,aiK,show ks (cY r m q) f=elN r m (ks q f)from funext (LX r q f m)]
def apo(f:Nat->Int)(n:Nat):ks [1] f n=f n:=by
 show 0+co [1] 0*f (n+0)=f n;rw[show co [1] 0=1 from rfl,iG,gY];rfl
theorem W.ofRP{r:Int}:∀(l:List (Int×Nat)) {m:Nat} {g:Nat->Int},W r m g->W r m (ks (RP l [1]) g)
 |[],_,g,h=>by rw[show ks (RP [] [1]) g=g from funext (apo g)];exact h
 |(s,k)::t,_,g,h=>by
  rw[show ks (RP ((s,k)::t) [1]) g=Cf.elN s k (ks (RP t [1]) g)from funext (LX s _ g k)];exact(W.ofRP t h).elNs s k
theorem W.keep{r:Int}{m:Nat}:∀(l:List (Int×Nat)) {g:Nat->Int},(r,m)∈l->W r m g->∀n,ks (RP l [1]) g n=0
 |(s,k)::t,g,hm,h,n=>by
  show ks (cY s k (RP t [1])) g n=0;rw[LX];rcases bJ.mp hm with e|hm
  .cases e;exact(W.ofRP t h).elN r n
  .exact Xd k (W.keep t hm h) n
def aa2{P:List Int}(hm:Mon P){f:Nat->Int}(hk:∀n,ks P f n=0)(h0:∀n,n<P.length-1->f n=0)(n:Nat):f n=0:=by
 induction n using rM with
 |ind n ih=>
  by_cases c:n<P.length-1
  .exact h0 n c
  .have hp:=hm.pos;obtain⟨k,rfl⟩:∃k,n=k+(P.length-1):=⟨n-(P.length-1),⋯⟩;have e:=hk k;unfold ks at e;obtain⟨N,hN⟩:∃N,P.length=N+1:=⟨P.length-1,⋯⟩;rw[hN]at e;have z:sm N (λi=>co P i*f (k+i))=0:=jl λi hi=>by rw[ih (k+i) ⋯,aP]
   have e2:sm (N+1) (λi=>co P i*f (k+i))=sm N (λi=>co P i*f (k+i))+co P N*f (k+N):=rfl;have o:co P N=1:=by have:=hm.one;rw[hN,fR]at this;exact this
   rw[e2,z,o,iG,gY]at e;rw[hN,fR];exact e
def dot:List Int->List Int->Int
 |x::xs,y::ys=>x*y+dot xs ys
 |_,_=>0
def gQ:List (Int×Nat)->Nat->List Int
 |[],_=>[]
 |(r,m)::t,n=>((fj m).map λj=>r^n*(n:Int)^j)++gQ t n
def fG:List (Int×Nat)->List Int->List (Int×List Int)
 |[],_=>[]
 |(r,m)::t,cs=>(r,cs.take m)::fG t (cs.drop m)
def cj(ps:List (Int×List Int))(n:Nat):Int:=(ps.map λp=>p.1^n*pv p.2 (n:Int)).sum
def aQ(l:List (Int×Nat)):Nat:=(l.map (·.2)).sum
theorem abZ:∀(xs ys cs:List Int),xs.length<=cs.length->dot (xs++ys) cs=dot xs (cs.take xs.length)+dot ys (cs.drop xs.length)
 |[],ys,cs,_=>by simp[dot]
 |x::xs,ys,[],h=>by simp at h
 |x::xs,ys,c::cs,h=>by
  show x*c+dot (xs++ys) cs=(x*c+dot xs (cs.take xs.length))+dot ys (cs.drop xs.length);rw[abZ xs ys cs (by simpa using h),JK]
theorem aaL(x s:Int):∀(q:List Int) (k:Nat),dot ((aeD k q.length).map λj=>s*x^j) q=s*(x^k*pv q x)
 |[],k=>by simp[dot,pv]
 |c::q,k=>by
  show s*x^k*c+dot ((aeD (k+1) q.length).map λj=>s*x^j) q=s*(x^k*(c+x*pv q x));rw[aaL x s q (k+1),jf,gq,gq,bU,bU (x^k)]
theorem zx:∀(l:List (Int×Nat)) (n:Nat),(gQ l n).length=aQ l
 |[],_=>rfl
 |(r,m)::t,n=>by
  show(((fj m).map λj=>r^n*(n:Int)^j)++gQ t n).length=m+aQ t;rw[dW,aB,mR,zx t n]
def rE(r:Int)(m:Nat)(t:List (Int×Nat)):aQ ((r,m)::t)=m+aQ t:=rfl
theorem RM:∀(l:List (Int×Nat)) (cs:List Int) (n:Nat),cs.length=aQ l->dot (gQ l n) cs=cj (fG l cs) n
 |[],cs,n,h=>by simp[gQ,dot,fG,cj]
 |(r,m)::t,cs,n,h=>by
  rw[rE]at h;show dot (((fj m).map λj=>r^n*(n:Int)^j)++gQ t n) cs=cj ((r,cs.take m)::fG t (cs.drop m)) n;rw[abZ _ _ _ (by rw[aB,mR];omega),aB,mR,RM t (cs.drop m) n (by rw[oU];omega)];have lt:(cs.take m).length=m:=by rw[iZ];omega
  have e:=aaL (n:Int) (r^n) (cs.take m) 0;rw[lt,sG,iG]at e;rw[List.range_eq_range',e];simp[cj]
theorem CF:∀(l:List (Int×Nat)) (cs:List Int),cs.length=aQ l->∀p∈fG l cs,(p.1,p.2.length)∈l
 |(r,m)::t,cs,h,p,hp=>by
  rw[rE]at h;rcases bJ.mp hp with rfl|hp
  .have lt:(cs.take m).length=m:=by rw[iZ];omega
   show(r,(cs.take m).length)∈_;rw[lt];exact cV ..
  .exact cZ _ (CF t (cs.drop m) (by rw[oU];omega) p hp)
theorem FY:∀(l:List (Int×Nat)) (cs:List Int),(fG l cs).map (·.1)=l.map (·.1)
 |[],_=>rfl
 |(r,m)::t,cs=>by
  show r::(fG t (cs.drop m)).map (·.1)=r::t.map (·.1);rw[FY t]
theorem agc:∀(l:List (Int×Nat)) (cs:List Int),cs.length=aQ l->(∀p∈fG l cs,∀c∈p.2,c=0)->∀c∈cs,c=0
 |[],cs,h,_,c,hc=>by
  have:cs=[]:=List.length_eq_zero_iff.mp h;rw[this]at hc;cases hc
 |(r,m)::t,cs,h,hz,c,hc=>by
  rw[rE]at h;rw[<-Ie m cs]at hc;rcases fP.mp hc with hc|hc
  .exact hz (r,cs.take m) (cV ..) c hc
  .exact agc t (cs.drop m) (by rw[oU];omega) (λp hp=>hz p (cZ _ hp)) c hc
def DW(ps:List (Int×List Int)):List Tm:=ps.map λp=>(p.1,p.2.length,λn:Nat=>p.1^n*pv p.2 (n:Int))
def aqx(ps:List (Int×List Int)):∀t∈DW ps,W t.1 t.2.1 t.2.2:=λt ht=>by
 obtain⟨p,_,rfl⟩:=bY.mp ht;exact W.of_pf p.1 (JM p.2)
def aoX(ps:List (Int×List Int))(n:Nat):jY (DW ps) n=cj ps n:=by
 unfold jY cj DW;rw[cR];rfl
def auZ{ps:List (Int×List Int)}(hd:(ps.map (·.1)).Nodup)(h0:∀p∈ps,p.1≠0)(h:∀n,cj ps n=0):∀p∈ps,∀c∈p.2,c=0:=λp hp=>by
 have:=indep _ (DW ps) (aN _) (by unfold DW;rw[cR];exact hd) (aqx ps) (λn=>by rw[aoX];exact h n) _ (iK (f:=λp:Int×List Int=>((p.1,p.2.length,λn:Nat=>p.1^n*pv p.2 (n:Int)):Tm)) hp);refine GC p.2 0 λn _=>?_;have e:=this n;rcases lH.mp e with z|z
 .exact absurd z (Em (h0 p hp) n)
 .exact z
theorem Eo:∀(ps:List (Int×List Int)) (l:List (Int×Nat)),(∀p∈ps,(p.1,p.2.length)∈l)->∀n,ks (RP l [1]) (cj ps) n=0
 |[],l,_,n=>by
  refine jl λk _=>?_;show _*(0:Int)=0;rw[aP]
 |p::ps,l,h,n=>by
  have e:cj (p::ps)=λn:Nat=>p.1^n*pv p.2 (n:Int)+cj ps n:=funext λn=>by simp[cj]
  have e2:ks (RP l [1]) (cj (p::ps)) n=ks (RP l [1]) (λn:Nat=>p.1^n*pv p.2 (n:Int)) n+ks (RP l [1]) (cj ps) n:=by
   rw[e];unfold ks;rw[<-iJ];exact aR λk _=>gq ..
  rw[e2,W.keep l (h p (cV ..)) (W.of_pf p.1 (JM p.2)) n,Eo ps l (λq hq=>h q (cZ _ hq)) n];rfl
def ar5{l:List (Int×Nat)}(hd:(l.map (·.1)).Nodup)(h0:∀x∈l,x.1≠0)(hm:Mon (RP l [1]))(hl:(RP l [1]).length=aQ l+1){cs:List Int}(hc:cs.length=aQ l)(h:∀n,n<aQ l->dot (gQ l n) cs=0):∀c∈cs,c=0:=by
 have hz:∀n,cj (fG l cs) n=0:=aa2 hm (Eo _ l (CF l cs hc)) λn hn=>by
  rw[hl,fR]at hn;rw[<-RM l cs n hc];exact h n hn
 exact agc l cs hc (auZ (by rw[FY];exact hd) (λp hp=>h0 _ (CF l cs hc p hp)) hz)
def anP{l:List (Int×Nat)}(hm:Mon (RP l [1]))(hl:(RP l [1]).length=aQ l+1){cs:List Int}(hc:cs.length=aQ l){f:Nat->Int}{D:Int}(hk:∀n,ks (RP l [1]) f n=0)(h:∀n,n<aQ l->dot (gQ l n) cs=D*f n)(n:Nat):cj (fG l cs) n=D*f n:=by
 have key:∀n,(λn=>cj (fG l cs) n+(-D)*f n) n=0:=aa2 hm (λn=>by
  have e:ks (RP l [1]) (λn=>cj (fG l cs) n+(-D)*f n) n=ks (RP l [1]) (cj (fG l cs)) n+(-D)*ks (RP l [1]) f n:=by
   unfold ks;rw[<-dF,<-iJ];exact aR λk _=>by rw[gq,eZ]
  rw[e,Eo _ l (CF l cs hc),hk,aP];rfl) λn hn=>by
  rw[hl,fR]at hn;show cj (fG l cs) n+(-D)*f n=0;rw[<-RM l cs n hc,h n hn,gO];omega
 have:=key n;simp only at this;rw[gO]at this;omega
end Cf
namespace Cf
open Pm Rm
def bF:List Int->List Int
 |[]=>[1]
 |r::t=>mul 0 (bF t) (Pm.lin r)
def iI:List (Int×Nat)->List Int
 |[]=>[]
 |(r,m)::t=>bN m r++iI t
theorem VX(r:Int)(t:List Int):∀m,bF (bN m r++t)=cY r m (bF t)
 |0=>rfl
 |m+1=>by
  show mul 0 (bF (bN m r++t)) (Pm.lin r)=mul 0 (cY r m (bF t)) (Pm.lin r);rw[VX r t m]
theorem yH:∀l,RP l [1]=bF (iI l)
 |[]=>rfl
 |(r,m)::t=>by
  show cY r m (RP t [1])=bF (bN m r++iI t);rw[VX,yH t]
theorem R4:∀l,(iI l).length=aQ l
 |[]=>rfl
 |(r,m)::t=>by rw[rE,<-R4 t,iI,dW,qP]
theorem D8{x:Int}:∀{l:List (Int×Nat)},x∈iI l↔∃m,(x,m)∈l/\0<m
 |[]=>by simp[iI]
 |(r,m)::t=>by
  rw[iI,fP,Yx,D8 (l:=t)];constructor
  .rintro(⟨h1,rfl⟩|⟨k,h1,h2⟩)
   .exact⟨m,cV ..,⋯⟩
   .exact⟨k,cZ _ h1,h2⟩
  .rintro⟨k,h1,h2⟩;rcases bJ.mp h1 with e|h1
   .cases e;exact .inl ⟨⋯,rfl⟩
   .exact .inr ⟨k,h1,h2⟩
theorem nK:∀rs,Mon (bF rs)/\(bF rs).length=rs.length+1
 |[]=>⟨BD,rfl⟩
 |r::t=>by
  obtain⟨h1,h2⟩:=nK t;have:=Kd (r:=r) h1 1;refine⟨this.1,?_⟩;have e:(cY r 1 (bF t)).length=(bF t).length+1:=this.2;rw[h2]at e;exact e
def v7(l:List (Int×Nat)):Mon (RP l [1])/\(RP l [1]).length=aQ l+1:=by
 rw[yH];have:=nK (iI l);rw[R4]at this;exact this
def XE(p q:List Int)(x:Int):ev (mul 0 p q) x=ev p x*ev q x:=agM x q p _ λk=>Jt p q k
def akR(r x:Int):ev (Pm.lin r) x=x-r:=by
 show ev [0-r,1] x=_;rw[SN,ac5];omega
theorem xR{x:Int}:∀{rs:List Int},ev (bF rs) x=0↔x∈rs
 |[]=>by
  show ev [1] x=0↔_;rw[ac5];simp
 |r::t=>by
  show ev (mul 0 (bF t) (Pm.lin r)) x=0↔_;rw[XE,akR,lH,xR (rs:=t),bJ];constructor
  .rintro(h|h)
   .exact .inr h
   .exact .inl ⋯
  .rintro(h|h)
   .exact .inr ⋯
   .exact .inl h
def Zz{L:List Int}{r:Int}(hL:Mon L)(h:ev L r=0):∃q,Mon q/\q=iz L r/\L=mul 0 q (Pm.lin r):=by
 have h2:2<=L.length:=by
  by_cases c:2<=L.length
  .exact c
  .exact absurd (by rw[Jc,h]) (Ju hL ⋯ r)
 obtain⟨m1,l1⟩:=G7 (r:=r) hL h2;have D:=Vt L r;rw[Jc,h]at D;have B:=D.back (Mon.pU hL);have e:trim [(0:Int)]=[]:=rfl;rw[e,Pm.add_comm,nil_add (qm ..)]at B;exact⟨_,m1,rfl,B.symm⟩
def N5{p q:List Int}{r:Int}(hp:Py 0 p)(hq:Py 0 q)(h:mul 0 p (Pm.lin r)=mul 0 q (Pm.lin r)):p=q:=
 ((Div.lin r hp).uniq (Vp r) (h▸Div.lin r hq)).1
def aof{L:List Int}(h:Mon L)(h1:L.length=1):L=[1]:=by
 have:=h.one
 match L,h1 with
 |[x],_=>have e:x=1:=this;rw[e]
def aoY{L S:List Int}(hL:Mon L)(hS:Mon S):Mon (mul 0 L S)/\(mul 0 L S).length+1=L.length+S.length:=by
 obtain⟨e,m,l⟩:=YD hL hS;rw[<-e];refine⟨m,?_⟩;have:=hL.pos;omega
theorem Hh:∀(rs:List Int) {L S:List Int},Mon L->Mon S->mul 0 L S=bF rs->∃rs',rs'.Sublist rs/\L=bF rs'
 |[],L,S,hL,hS,e=>by
  have l:=(aoY hL hS).2;have:=hL.pos;have:=hS.pos;rw[e]at l;exact⟨[],.slnil,aof hL (by simp[bF]at l;omega)⟩
 |r::rs,L,S,hL,hS,e=>by
  have z:ev L r*ev S r=0:=by
   rw[<-XE,e];exact xR.mpr (cV ..)
  have e':mul 0 L S=mul 0 (bF rs) (Pm.lin r):=e;rcases lH.mp z with z|z
  .obtain⟨q,hq,_,eq⟩:=Zz hL z;have:mul 0 q S=bF rs:=N5 (qm ..) (Mon.pU (nK rs).1) (by rw[<-e',vW,Pm.mul_comm 0 S,<-vW,<-eq]);obtain⟨rs',h1,h2⟩:=Hh rs hq hS this;exact⟨r::rs',h1.cons_cons r,by rw[eq,h2];rfl⟩
  .obtain⟨q,hq,_,eq⟩:=Zz hS z;have:mul 0 L q=bF rs:=N5 (qm ..) (Mon.pU (nK rs).1) (by rw[<-e',vW,<-eq]);obtain⟨rs',h1,h2⟩:=Hh rs hL hq this;exact⟨rs',h1.cons r,h2⟩
def aqu{rs:List Int}:∃l:List (Int×Nat),(wr (bF rs)).1=l.map gw/\(wr (bF rs)).2=[1]/\bF rs=RP l [1]/\(l.map (·.1)).Pairwise (· < ·)/\(∀x∈l,0<x.2)/\∀x∈l,x.1∈rs:=by
 obtain⟨l,h1,h2,h3,h4,h5,h6,_⟩:=aeW (nK rs).1;have e1:=Ur (wr (bF rs)).2 l [1];rw[Pm.one_mul (Mon.pU h6),<-h2]at e1;obtain⟨rs',_,er⟩:=Hh rs h6 (IB l BD).1 (by rw[Pm.mul_comm];exact e1);have e2:(wr (bF rs)).2=[1]:=by
  cases rs' with
  |nil=>exact er
  |cons r t=>exact absurd (by rw[er];exact xR.mpr (cV ..)) (h3 r)
 rw[e2]at h2;refine⟨l,h1,e2,h2,h4,h5,λx hx=>?_⟩;rw[<-xR,h2,yH,xR,D8];exact⟨x.2,hx,h5 x hx⟩
def CK(q:List Int)(r:Int)(k:Nat):co (mul 0 q (Pm.lin r)) k=(if k=0 then 0 else co q (k-1))-r*co q k:=by
 rw[Jt,UG]
theorem uV:∀(q:List Int) (x:Int),pv q x=ev q x
 |[],_=>rfl
 |c::q,x=>by rw[SN,<-uV q x];rfl
def ay2{q:List Int}(h0:co q (q.length-1)=0)(x:Int):pv q.dropLast x=pv q x:=by
 by_cases c:q=[]
 .subst c;rfl
 .have e:=Le c;rw[h0]at e;rw[uV,uV]
  conv=>rhs;rw[e]
  unfold ev;rw[dW,ae0];show _=sm q.dropLast.length (λk=>co (q.dropLast++[0]) k*x^k)+co (q.dropLast++[0]) q.dropLast.length*x^q.dropLast.length;rw[oA,if_neg (lE _),rT,fQ,gb,dj];exact aR λk hk=>by rw[oA,if_pos hk]
theorem Wx{α:Type}:∀{ps:List (Int×α)},(ps.map (·.1)).Nodup->∀{p q:Int×α},p∈ps->q∈ps->p.1=q.1->p=q
 |[],_,_,_,hp,_,_=>by cases hp
 |a::t,hd,p,q,hp,hq,e=>by
  rw[bG,mV]at hd;rcases bJ.mp hp with z|hp'<;>rcases bJ.mp hq with y|hq'
  .rw[z,y]
  .exact absurd (by rw[<-z,e];exact iK hq') hd.1
  .exact absurd (by rw[<-y,<-e];exact iK hp') hd.1
  .exact Wx hd.2 hp' hq' e
theorem adt{α:Type}(f g:α->Nat):∀{l:List α},(∀x∈l,f x<=g x)->(∃x∈l,f x<g x)->(l.map f).sum<(l.map g).sum
 |[],_,⟨_,h,_⟩=>by cases h
 |a::t,h,⟨x,hx,hl⟩=>by
  rw[bG,bG,gF,gF];have ha:=h a (cV ..);have le:(t.map f).sum<=(t.map g).sum:=by
   have ht:∀x∈t,f x<=g x:=λx hx=>h x (cZ _ hx);clear h hx hl ha;induction t with
   |nil=>exact aN _
   |cons b t ih=>
    rw[bG,bG,gF,gF];have:=ht b (cV ..);have:=ih λx hx=>ht x (cZ _ hx);omega
  rcases bJ.mp hx with rfl|hx
  .omega
  .have:=adt f g (λx hx=>h x (cZ _ hx)) ⟨x,hx,hl⟩;omega
theorem Qm:∀(l:List (Int×Nat)) (cs:List Int),cs.length=aQ l->(fG l cs).map (λp=>(p.1,p.2.length))=l
 |[],_,_=>rfl
 |(r,m)::t,cs,h=>by
  rw[rE]at h;show(r,(cs.take m).length)::(fG t (cs.drop m)).map _=_;rw[Qm t _ (by rw[oU];omega),iZ,Lw ⋯]
def axD{f:Nat->Int}{ps:List (Int×List Int)}{N:Nat}{bot:Int}(hN:(ps.map λp=>p.2.length).sum=N)(hmin:∀q,Mon q->Kp 0 q f->N+1<=q.length)(hd:(ps.map (·.1)).Nodup)(hb:bot≠0)(h:∀n,cj ps n=bot*f n):∀p∈ps,p.2≠[]->co p.2 (p.2.length-1)≠0:=λp hp hne h0=>by
 let F:Int×List Int->Int×List Int:=λx=>if x.1=p.1 then(x.1,x.2.dropLast)else x
 have eS:∀n,cj (ps.map F) n=cj ps n:=λn=>by
  unfold cj;rw[cR];congr 1;refine lJ λx hx=>?_;show(F x).1^n*pv (F x).2 (n:Int)=_;by_cases c:x.1=p.1
  .have:=Wx hd hx hp c;subst this;simp only[F,if_true];rw[ay2 h0]
  .simp only[F,if_neg c]
 have m1:=v7 ((ps.map F).map λp=>(p.1,p.2.length));have k1:=Eo (ps.map F) ((ps.map F).map λp=>(p.1,p.2.length)) λx hx=>iK (f:=λp:Int×List Int=>(p.1,p.2.length)) hx;have kf:Kp 0 (RP ((ps.map F).map λp=>(p.1,p.2.length)) [1]) f:=λn=>by
  have:=k1 n;rw[show cj (ps.map F)=λn=>bot*f n from funext λn=>by rw[eS,h]]at this;have e:∀q,ks q (λn=>bot*f n) n=bot*ks q f n:=λq=>by
   unfold ks;rw[<-dF];exact aR λk _=>eZ ..
  rw[e]at this;rw[aY];rcases lH.mp this with z|z
  .exact absurd z hb
  .exact z
 have lt:=hmin _ m1.1 kf;rw[m1.2]at lt;unfold aQ at lt;rw[cR,cR]at lt;have s:=adt (λx=>(F x).2.length) (λx=>x.2.length) (l:=ps) (λx _=>by
  show(F x).2.length<=_;by_cases c:x.1=p.1
  .simp only[F,if_pos c,vB];omega
  .simp only[F,if_neg c];exact aN _) ⟨p,hp,by
  show(F p).2.length<_;simp only[F,if_true,vB];have:=AF.mpr hne;omega⟩
 rw[hN]at s;have:(((λx:Int×Nat=>x.2)∘λp:Int×List Int=>(p.1,p.2.length))∘F)=λx=>(F x).2.length:=rfl;rw[this]at lt;omega
def val(ps:List (Int×List Int))(r:Int)(n:Nat):Int:=(ps.map λp=>if p.1=r then p.1^n*pv p.2 (n:Int)else 0).sum
def Ig(p:Int×List Int)(ps:List (Int×List Int))(r:Int)(n:Nat):val (p::ps) r n=(if p.1=r then p.1^n*pv p.2 (n:Int)else 0)+val ps r n:=by simp[val]
theorem U3{M:Nat}(r:Int):∀{ps:List (Int×List Int)},(∀p∈ps,p.2.length<=M)->W r M (val ps r)
 |[],_=>W.zero λ_=>rfl
 |p::ps,h=>by
  rw[show val (p::ps) r=λn:Nat=>(if p.1=r then p.1^n*pv p.2 (n:Int)else 0)+val ps r n from funext λn=>Ig ..];refine W.add ?_ (U3 r λq hq=>h q (cZ _ hq));by_cases c:p.1=r
  .rw[show(λn:Nat=>if p.1=r then p.1^n*pv p.2 (n:Int)else 0)=λn:Nat=>p.1^n*pv p.2 (n:Int)from funext λn=>if_pos c,c];exact(W.of_pf r (JM p.2)).le (h p (cV ..))
  .exact W.zero λn=>if_neg c
theorem Oq{r:Int}{n:Nat}:∀{ps:List (Int×List Int)},(∀p∈ps,p.1≠r)->val ps r n=0
 |[],_=>rfl
 |p::ps,h=>by rw[Ig,if_neg (h p (cV ..)),Oq λq hq=>h q (cZ _ hq)];rfl
theorem Hi{n:Nat}:∀{ps:List (Int×List Int)} {p:Int×List Int},(ps.map (·.1)).Nodup->p∈ps->val ps p.1 n=p.1^n*pv p.2 (n:Int)
 |q::ps,p,hd,hp=>by
  rw[bG,mV]at hd;rw[Ig];rcases bJ.mp hp with rfl|hp
  .rw[if_pos rfl,Oq λx hx z=>hd.1 (by rw[<-z];exact iK hx),dj]
  .rw[if_neg λz=>hd.1 (by rw[z];exact iK hp),Hi hd.2 hp,gY]
theorem aaN{x:Int}{a:Int}:∀{R:List Int},R.Nodup->a∈R->(R.map λr=>if a=r then x else 0).sum=x
 |r::R,hd,h=>by
  rw[mV]at hd;rw[bG,gF];by_cases c:a=r
  .rw[if_pos c];have z:∀{T:List Int},a∉T->(T.map λr=>if a=r then x else 0).sum=0:=λ{T} hT=>by
    induction T with
    |nil=>rfl
    |cons b T ih=>rw[bG,gF,if_neg λe=>hT (by rw[e];exact cV ..),ih λe=>hT (cZ _ e)];rfl
   rw[z (c▸hd.1)];omega
  .rw[if_neg c,aaN hd.2 ((bJ.mp h).resolve_left c)];omega
theorem PV{R:List Int}(hR:R.Nodup)(n:Nat):∀{ps:List (Int×List Int)},(∀p∈ps,p.1∈R)->(R.map λr=>val ps r n).sum=cj ps n
 |[],_=>by
  have z:∀T:List Int,(T.map λr=>val [] r n).sum=0:=λT=>by
   induction T with
   |nil=>rfl
   |cons b T ih=>rw[bG,gF,ih];rfl
  rw[z];rfl
 |p::ps,h=>by
  have e:∀T:List Int,(T.map λr=>val (p::ps) r n).sum=(T.map λr=>if p.1=r then p.1^n*pv p.2 (n:Int)else 0).sum+(T.map λr=>val ps r n).sum:=λT=>by
   induction T with
   |nil=>rfl
   |cons b T ih=>rw[bG,gF,ih,Ig,bG,gF,bG,gF];omega
  rw[e,aaN hR (h p (cV ..)),PV hR n λq hq=>h q (cZ _ hq)];simp[cj]
def apb{a b:List Int}(ha:co a (a.length-1)≠0)(hb:co b (b.length-1)≠0)(h:∀n:Nat,pv a (n:Int)=pv b (n:Int)):a=b:=by
 have key:∀k,co a k=co b k:=λk=>by
  have z:=GC (aM (max a.length b.length) λk=>co a k-co b k) 0 λn _=>by
   have e1:=kO (p:=a) (n:=max a.length b.length) ⋯ (n:Int);have e2:=kO (p:=b) (n:=max a.length b.length) ⋯ (n:Int);have e3:=kO (p:=aM (max a.length b.length) λk=>co a k-co b k) (n:=max a.length b.length) (by rw[cA];omega) (n:Int);rw[uV,<-e3,aR (g:=λk=>co a k*(n:Int)^k+(-1)*(co b k*(n:Int)^k)) λk hk=>by rw[cX,if_pos hk,yh];omega,iJ,dF,e1,e2,<-uV,<-uV,h n];omega
  by_cases c:k<max a.length b.length
  .have:=z (co a k-co b k) (by
    have:co (aM (max a.length b.length) λk=>co a k-co b k) k=co a k-co b k:=by rw[cX,if_pos c]
    rw[<-this];exact tE (by rw[cA];exact c))
   omega
  .rw[aX ⋯,aX ⋯]
 have ta:=vR (p:=a) (λz=>ha (by rw[z];rfl)) ha;have tb:=vR (p:=b) (λz=>hb (by rw[z];rfl)) hb;rw[<-ta,<-tb];exact wR key
def ahB{α:Type}{ps qs:List (Int×α)}(sp:(ps.map (·.1)).Pairwise (· < ·))(sq:(qs.map (·.1)).Pairwise (· < ·))(h1:∀p∈ps,p∈qs)(h2:∀q∈qs,q∈ps):ps=qs:=by
 induction ps generalizing qs with
 |nil=>
  cases qs with
  |nil=>rfl
  |cons q qs=>exact absurd (h2 q (cV ..)) gK
 |cons p ps ih=>
  cases qs with
  |nil=>exact absurd (h1 p (cV ..)) gK
  |cons q qs=>
   rw[bG,List.pairwise_cons]at sp sq;have lp:∀x∈ps,p.1<x.1:=λx hx=>sp.1 _ (iK hx);have lq:∀x∈qs,q.1<x.1:=λx hx=>sq.1 _ (iK hx);have e:p=q:=by
    rcases bJ.mp (h1 p (cV ..))with e|e
    .exact e
    .rcases bJ.mp (h2 q (cV ..))with e'|e'
     .exact e'.symm
     .have:=lq p e;have:=lp q e';omega
   subst e;rw[ih sp.2 sq.2 (λx hx=>(bJ.mp (h1 x (cZ _ hx))).resolve_left λz=>by
     have:=lp x hx;rw[z]at this;omega) (λx hx=>(bJ.mp (h2 x (cZ _ hx))).resolve_left λz=>by
     have:=lq x hx;rw[z]at this;omega)]
def rC{l:List Int}(h:l.Pairwise (· < ·)):l.Nodup:=h.imp λh=>⋯
def aep{R:List Int}(hR:R.Nodup)(h0:∀r∈R,r≠0){ps qs:List (Int×List Int)}(hp:∀p∈ps,p.1∈R)(hq:∀q∈qs,q.1∈R)(dp:(ps.map (·.1)).Nodup)(dq:(qs.map (·.1)).Nodup)(lp:∀p∈ps,co p.2 (p.2.length-1)≠0)(lq:∀p∈qs,co p.2 (p.2.length-1)≠0)(h:∀n,cj ps n=cj qs n):∀p∈ps,p∈qs:=λp hpm=>by
 obtain⟨M,Nm,hM2⟩:∃M,(∀p∈ps,p.2.length<=M)/\∀p∈qs,p.2.length<=M:=by
  have k:∀(l:List (Int×List Int)),∃M,∀p∈l,p.2.length<=M:=λl=>by
   induction l with
   |nil=>exact⟨0,λp hp=>by cases hp⟩
   |cons a l ih=>
    obtain⟨M,hM⟩:=ih;refine⟨max a.2.length M,λp hp=>?_⟩;rcases bJ.mp hp with rfl|hp
    .omega
    .have:=hM p hp;omega
  obtain⟨A,hA⟩:=k ps;obtain⟨B,hB⟩:=k qs;exact⟨max A B,λp hp=>by have:=hA p hp;omega,λp hp=>by have:=hB p hp;omega⟩
 have key:=indep _ (R.map λr=>((r,M,λn=>val ps r n+(-1)*val qs r n):Tm)) (aN _) (by rw[cR];exact(by rw[show((λt:Tm=>t.1)∘λr:Int=>((r,M,λn=>val ps r n+(-1)*val qs r n):Tm))=id from rfl,List.map_id];exact hR)) (λt ht=>by
  obtain⟨r,_,rfl⟩:=bY.mp ht;exact W.add (U3 r Nm) (W.mul (-1) (U3 r hM2))) (λn=>by
  have e:∀T:List Int,jY (T.map λr=>((r,M,λn=>val ps r n+(-1)*val qs r n):Tm)) n=(T.map λr=>val ps r n).sum+(-1)*(T.map λr=>val qs r n).sum:=λT=>by
   induction T with
   |nil=>rfl
   |cons b T ih=>rw[bG,tG,ih,bG,gF,bG,gF,gq];simp only;omega
  rw[e,PV hR n hp,PV hR n hq,h n];omega) (p.1,M,λn=>val ps p.1 n+(-1)*val qs p.1 n) (iK (f:=λr=>((r,M,λn=>val ps r n+(-1)*val qs r n):Tm)) (hp p hpm))
 have key:∀n,val ps p.1 n+(-1)*val qs p.1 n=0:=key;have r0:=h0 _ (hp p hpm);by_cases c:∃q∈qs,q.1=p.1
 .obtain⟨q,DL,eq⟩:=c;have e2:p.2=q.2:=apb (lp p hpm) (lq q DL) λn=>by
   have:=key n;rw[Hi dp hpm,<-eq,Hi dq DL,eq]at this;have:p.1^n*pv p.2 (n:Int)=p.1^n*pv q.2 (n:Int):=⋯;exact HS (Em r0 n) this
  have:p=q:=Ir eq.symm e2;rw[this];exact DL
 .exfalso
  have hz:=GC p.2 0 λn _=>by
   have:=key n;rw[Hi dp hpm,Oq λq DL z=>c ⟨q,DL,z⟩,aP,dj]at this;rcases lH.mp this with z|z
   .exact absurd z (Em r0 n)
   .exact z
  by_cases l:0<p.2.length
  .exact lp p hpm (hz _ (tE ⋯))
  .exact lp p hpm (aX ⋯)
def aix{R:List Int}(hR:R.Nodup)(h0:∀r∈R,r≠0){ps qs:List (Int×List Int)}(hp:∀p∈ps,p.1∈R)(hq:∀q∈qs,q.1∈R)(sp:(ps.map (·.1)).Pairwise (· < ·))(sq:(qs.map (·.1)).Pairwise (· < ·))(lp:∀p∈ps,co p.2 (p.2.length-1)≠0)(lq:∀p∈qs,co p.2 (p.2.length-1)≠0)(h:∀n,cj ps n=cj qs n):ps=qs:=
 ahB sp sq (aep hR h0 hp hq (rC sp) (rC sq) lp lq h) (aep hR h0 hq hp (rC sq) (rC sp) lq lp λn=>(h n).symm)
end Cf
namespace Cf
open Pm Rm Dm
theorem ac7:∀{xs cs:List Int},xs.length=cs.length->dot xs cs=sm cs.length λk=>co xs k*co cs k
 |[],[],_=>rfl
 |x::xs,c::cs,h=>by
  show x*c+dot xs cs=_;rw[ac7 (by simpa using h),iQ,oN];rfl
def qw(l:List (Int×Nat)):List (List Int):=(fj (aQ l)).map (gQ l)
def Iu(l:List (Int×Nat)):(qw l).length=aQ l:=by rw[qw,aB,mR]
def EJ{l:List (Int×Nat)}{i:Nat}(hi:i<aQ l):ln (qw l) i=gQ l i:=by
 unfold ln qw;rw[List.getD_eq_getElem?_getD,List.getElem?_map,List.getElem?_range hi];rfl
section
variable {l:List (Int×Nat)} {ws:List Int}
def ab3{x:Nat->Int}{n:Nat}(hn:n<aQ l):sm (aQ l) (λk=>aug 0 (qw l) ws n k*x k)=dot (gQ l n) (aM (aQ l) x):=by
 rw[ac7 (by rw[zx,cA]),cA];refine aR λk hk=>?_;rw[axn (by rw[Iu];exact hn) (by rw[EJ hn];exact zx l n) hk,EJ hn,aY,cX,if_pos hk]
def aso(hd:(l.map (·.1)).Nodup)(h0:∀x∈l,x.1≠0):sH 0 (aQ l) (aQ l) (aug 0 (qw l) ws):=λx hx k hk=>by
 have z:=ar5 hd h0 (v7 l).1 (v7 l).2 (cs:=aM (aQ l) x) (cA ..) λn hn=>by
  have:=hx n hn
  rwa [aY,ab3 hn]at this
 rw[aY];have e:co (aM (aQ l) x) k=x k:=by rw[cX,if_pos hk]
 rw[<-e];exact z _ (tE (by rw[cA];exact hk))
def an3{N:Nat}{A:Nat->Nat->Int}(hI:sH 0 N N A):∃x bt,tk 0 bt≠0/\gZ 0 N N A x bt:=by
 refine uX λhn=>ajL Dom.zero ∅ (CM N) A λx hx k hk=>?_;by_cases c:x N=0
 .have r:Rel 0 N N A x:=λi hi=>by
   have:=hx i hi;rw[sm,c,aP,dj]at this;exact this
  by_cases e:k=N
  .rw[e,c,aY]
  .exact hI x r k ⋯
 .refine absurd ⟨x,-(x N),by rw[aY];omega,gZ.rel.mpr ?_⟩ hn;refineλi hi=>?_;refine(congrArg (tk 0) (aR λj _=>?_)).trans (hx i hi);show A i j*(if j=N then - -x N else x j)=A i j*x j;by_cases e:j=N
  .rw[if_pos e,e,xK]
  .rw[if_neg e]
def avS{us:List Int}{bot:Int}{f:Nat->Int}(hl:us.length=aQ l)(hw:∀n,n<aQ l->co ws n=f n)(hS:gZ 0 (aQ l) (aQ l) (aug 0 (qw l) ws) (co us) bot)(n:Nat)(hn:n<aQ l):dot (gQ l n) us=bot*f n:=by
 have:=hS n hn;rw[aY,aY,ab3 hn,ajj (by rw[Iu];exact hn) (by rw[EJ hn];exact zx l n),aY,hw n hn]at this;rw[<-this];congr 1;rw[<-hl,KY]
end
theorem Al{x:Int}{n:Nat}(h:Bd n x):∀k:Nat,Bd (n*k+1) (x^k)
 |0=>by rw[sG];exact(Bd.of (n:=1) ∅ ∅).mono ⋯
 |k+1=>by
  rw[jf];exact((Al h k).mul h).mono (by rw[Nat.mul_succ];omega)
end Cf
namespace Cf
open Pm Rm
def auK(a b:Int)(t:List Int):bF (a::b::t)=bF (b::a::t):=by
 show mul 0 (mul 0 (bF t) (Pm.lin b)) (Pm.lin a)=mul 0 (mul 0 (bF t) (Pm.lin a)) (Pm.lin b);rw[vW,vW,Pm.mul_comm 0 (Pm.lin b)]
def Ik{rs ts:List Int}(h:rs.Perm ts):bF rs=bF ts:=by
 induction h with
 |nil=>rfl
 |cons x _ ih=>show mul 0 (bF _) _=mul 0 (bF _) _;rw[ih]
 |swap a b t=>exact auK b a t
 |trans _ _ h1 h2=>exact h1.trans h2
theorem adR:∀{rs ts:List Int},bF rs=bF ts->rs.Perm ts
 |[],ts,h=>by
  have l:=congrArg tH h;rw[(nK []).2,(nK ts).2]at l;cases ts with
  |nil=>exact .nil
  |cons a t=>simp at l
 |r::rs,ts,h=>by
  have hm:r∈ts:=by rw[<-xR,<-h];exact xR.mpr (cV ..)
  have p:=Wh hm;have e:mul 0 (bF rs) (Pm.lin r)=mul 0 (bF (ts.erase r)) (Pm.lin r):=h.trans (Ik p);have:=adR (N5 (Mon.pU (nK rs).1) (Mon.pU (nK (ts.erase r)).1) e);exact(this.cons r).trans p.symm
def R8(x r:Int)(m:Nat):(bN m r).count x=if r=x then m else 0:=by
 rw[aaY];simp[beq_iff_eq]
theorem aeg{x:Int}{m:Nat}:∀{l:List (Int×Nat)},(x,m)∈l->m<=(iI l).count x
 |(r,k)::t,h=>by
  rw[iI,J8,R8];rcases bJ.mp h with e|h
  .cases e;rw[if_pos rfl];omega
  .have:=aeg h;omega
theorem ac4{x:Int}:∀{l:List (Int×Nat)},x∉l.map (·.1)->(iI l).count x=0
 |[],_=>rfl
 |(r,k)::t,h=>by
  have h':x≠r/\x∉t.map (·.1):=by simpa[not_or]using h
  rw[iI,J8,R8,if_neg (λe=>h'.1 e.symm),ac4 h'.2]
theorem count_le{x:Int}{m:Nat}:∀{l:List (Int×Nat)},(l.map (·.1)).Nodup->(x,m)∈l->(iI l).count x<=m
 |(r,k)::t,hd,h=>by
  have hd':r∉t.map (·.1)/\(t.map (·.1)).Nodup:=mV.mp hd;rw[iI,J8,R8];rcases bJ.mp h with e|h
  .cases e;rw[if_pos rfl,ac4 hd'.1];omega
  .have hne:r≠x:=λe=>hd'.1 (by rw[e];exact iK (f:=(·.1)) h);rw[if_neg hne];have:=count_le hd'.2 h;omega
def ap3{l M:List (Int×Nat)}{rs:List Int}(hd:(M.map (·.1)).Nodup)(e:RP l [1]=bF rs)(hs:rs.Sublist (iI M)){x:Int×Nat}(hx:x∈l)(h0:0<x.2):∃m,(x.1,m)∈M/\x.2<=m:=by
 rw[yH]at e;have p:=adR e;have h1:=aeg (x:=x.1) (m:=x.2) hx;rw[p.count_eq]at h1;have h2:=hs.count_le x.1;have hm:x.1∈iI M:=V7.mp ⋯;obtain⟨m,hm,_⟩:=D8.mp hm;exact⟨m,hm,by have:=count_le hd hm;omega⟩
def pb:List Int->Nat
 |[]=>1
 |r::t=>(r.natAbs+1)*pb t
theorem abO:∀(rs:List Int) (k:Nat),(co (bF rs) k).natAbs<=pb rs
 |[],k=>by
  cases k with
  |zero=>exact aN 1
  |succ k=>show(co [] k).natAbs<=_;rw[fW];exact cD _
 |r::t,k=>by
  have ih:=abO t;show(co (mul 0 (bF t) (Pm.lin r)) k).natAbs<=(r.natAbs+1)*pb t;rw[CK,yu,nJ];have a:(if k=0 then(0:Int)else co (bF t) (k-1)).natAbs<=pb t:=by
   split
   .exact cD _
   .exact ih _
  have b:(r*co (bF t) k).natAbs<=r.natAbs*pb t:=by rw[jX];exact ig (aN _) (ih k)
  omega
theorem YT{c:Nat}:∀{rs:List Int},(∀r∈rs,r.natAbs<=c)->pb rs<=(c+1)^rs.length
 |[],_=>aN 1
 |r::t,h=>by
  have:=YT (rs:=t) λx hx=>h x (cZ _ hx);rw[iQ,xV,qF];exact ig (by have:=h r (cV ..);omega) this
end Cf
namespace Cf
open Pm Rm
theorem adJ:∀{rs ts:List Int},(∀x,rs.count x<=ts.count x)->∃us,ts.Perm (rs++us)
 |[],ts,_=>⟨ts,.refl _⟩
 |r::rs,ts,h=>by
  have hm:r∈ts:=V7.mp (by have:=h r;rw[List.count_cons_self]at this;omega);have p:=Wh hm;obtain⟨us,hu⟩:=adJ (rs:=rs) (ts:=ts.erase r) λx=>by
   have:=h x;rw[p.count_eq,agO,agO]at this;omega
  exact⟨us,p.trans (hu.cons r)⟩
theorem adx:∀(rs ts:List Int),bF (rs++ts)=mul 0 (bF ts) (bF rs)
 |[],ts=>by show bF ts=mul 0 (bF ts) [1];rw[mul_one (Mon.pU (nK ts).1)]
 |r::rs,ts=>by
  show mul 0 (bF (rs++ts)) (Pm.lin r)=mul 0 (bF ts) (mul 0 (bF rs) (Pm.lin r));rw[adx rs ts,vW]
def kp_more{rs ts:List Int}{f:Nat->Int}(h:∀x,rs.count x<=ts.count x)(hk:Kp 0 (bF rs) f):Kp 0 (bF ts) f:=by
 obtain⟨us,p⟩:=adJ h;rw[Ik p,adx];exact hk.Ho (bF us)
def Wm{P:List Int}{B:Nat}(h:∀k,(co P k).natAbs<=B)(r:Int)(k:Nat):(co (mul 0 P (Pm.lin r)) k).natAbs<=(r.natAbs+1)*B:=by
 rw[CK,yu,nJ];have a:(if k=0 then(0:Int)else co P (k-1)).natAbs<=B:=by
  split
  .exact cD _
  .exact h _
 have b:(r*co P k).natAbs<=r.natAbs*B:=by rw[jX];exact ig (aN _) (h k)
 omega
def aiw{P:List Int}{B:Nat}(h:∀k,(co P k).natAbs<=B)(r:Int)(k:Nat):(co (mul 0 (mul 0 P (Pm.lin (-r))) (Pm.lin r)) k).natAbs<=(r.natAbs*r.natAbs+1)*B:=by
 have e:co (mul 0 (mul 0 P (Pm.lin (-r))) (Pm.lin r)) k=(if k<2 then 0 else co P (k-2))-r*r*co P k:=by
  rw[CK,CK,CK]
  match k with
  |0=>rw[if_pos rfl,if_pos rfl,if_pos ∅,lY,lY,gO,xK,bU,lY]
  |1=>rw[if_neg ∅,if_pos rfl,if_neg ∅,if_pos ∅,lY,gO,xK,gO,iH,qH,<-bU];show r*co P 0-(r*co P 0 - -(r*r*co P 1))=_;omega
  |k+2=>rw[if_neg ⋯,if_neg ⋯,if_neg ⋯,if_neg ⋯,iH,gO,gO,qH,<-bU];show co P k - -(r*co P (k+1))-(r*co P (k+1) - -(r*r*co P (k+2)))=co P k-_;omega
 rw[e,yu,nJ];have a:(if k<2 then(0:Int)else co P (k-2)).natAbs<=B:=by
  split
  .exact cD _
  .exact h _
 have b:(r*r*co P k).natAbs<=r.natAbs*r.natAbs*B:=by rw[jX,jX];exact ig (aN _) (h k)
 omega
def wp(a:Nat):Nat->Nat->Nat
 |0,q=>(a+1)^q
 |p+1,0=>(a+1)*wp a p 0
 |p+1,q+1=>(a*a+1)*wp a p q
theorem wu{s:List Int}{B:Nat}(a:Nat)(h:∀k,(co (bF s) k).natAbs<=B):∀(p q k:Nat),(co (bF (bN p (a:Int)++(bN q (-(a:Int))++s))) k).natAbs<=wp a p q*B
 |0,0,k=>by rw[wp,EB,nJ];exact h k
 |p+1,0,k=>by
  rw[wp,Il];exact Wm (wu a h p 0) (a:Int) k
 |0,q+1,k=>by
  rw[wp,xV,qF _ (a+1),Il];have:=Wm (wu a h 0 q) (-(a:Int)) k;rw[yD]at this;exact this
 |p+1,q+1,k=>by
  rw[wp,Il];have e:bF (bN (p+1) (a:Int)++(bN (q+1) (-(a:Int))++s))=bF ((a:Int) :: -(a:Int)::(bN p (a:Int)++(bN q (-(a:Int))++s))):=Ik (.cons _ List.perm_middle);rw[e];exact aiw (wu a h p q) (a:Int) k
def CB(a:Nat):List (Nat×Nat):=(fj 16).map λi=>(i/4+i%4,wp a (i/4) (i%4))
def atq:((CB 4).all λx=>(CB 3).all λy=>decide (10<x.1+y.1)||(CB 2).all λz=>decide (10<x.1+y.1+z.1)||(CB 1).all λu=>decide (10<x.1+y.1+z.1+u.1)||decide (x.2*(y.2*(z.2*(u.2*1)))<1000000))=true:=by decide +kernel
def Gs(a:Nat){p q:Nat}(hp:p<=3)(hq:q<=3):(p+q,wp a p q)∈CB a:=bY.mpr ⟨p*4+q,iT.mpr ⋯,by rw[show(p*4+q)/4=p by omega,show(p*4+q)%4=q by omega]⟩
def allR:List Int:=[4,-4,3,-3,2,-2,1,-1]
def rA:List Int:=allR.flatMap (bN 3)
def Nh(x:Int):rA.count x=if x∈allR then 3 else 0:=by
 by_cases h:x∈allR
 .rw[if_pos h];have:∀x∈allR,rA.count x=3:=∅;exact this x h
 .rw[if_neg h];refine afX.mpr λz=>h ?_;obtain⟨y,hy,hz⟩:=QK.mp z;rw[(Yx.mp hz).2];exact hy
def arD{rs:List Int}(hs:∀x,rs.count x<=rA.count x)(hl:rs.length<=10)(k:Nat):(co (bF rs) k).natAbs<1000000:=by
 have c3:∀x,rs.count x<=3:=λx=>by have:=hs x;rw[Nh]at this;split at this<;>omega
 obtain⟨ts,et⟩:∃ts,ts=bN (rs.count 4) ((4:Nat):Int)++(bN (rs.count (-4)) (-((4:Nat):Int))++(bN (rs.count 3) ((3:Nat):Int)++(bN (rs.count (-3)) (-((3:Nat):Int))++(bN (rs.count 2) ((2:Nat):Int)++(bN (rs.count (-2)) (-((2:Nat):Int))++(bN (rs.count 1) ((1:Nat):Int)++(bN (rs.count (-1)) (-((1:Nat):Int))++[]))))))):=⟨_,rfl⟩;have p:rs.Perm ts:=List.perm_iff_count.mpr λx=>by
  rw[et];simp only[J8,aaY,List.count_nil];by_cases h:x∈allR
  .simp only[allR,bJ,gK,or_false]at h;rcases h with rfl|rfl|rfl|rfl|rfl|rfl|rfl|rfl<;>simp
  .have h0:rs.count x=0:=by have:=hs x;rw[Nh,if_neg h]at this;omega
   simp only[allR,bJ,gK,or_false,not_or]at h;obtain⟨h1,h2,h3,h4,h5,h6,h7,h8⟩:=h;rw[h0];simp[beq_iff_eq,dG h1,dG h2,dG h3,dG h4,dG h5,dG h6,dG h7,dG h8]
 have len:=p.length_eq;have b0:∀k,(co (bF []) k).natAbs<=1:=λk=>by
  cases k with
  |zero=>exact aN 1
  |succ k=>show(co [] k).natAbs<=_;rw[fW];exact cD _
 have b:=wu 4 (wu 3 (wu 2 (wu 1 b0 (rs.count 1) (rs.count (-1))) (rs.count 2) (rs.count (-2))) (rs.count 3) (rs.count (-3))) (rs.count 4) (rs.count (-4)) k;rw[<-et,<-Ik p]at b;rw[et]at len;simp only[dW,qP,M6]at len;have a4:=mq.mp atq _ (Gs 4 (c3 4) (c3 (-4)));have a3:=mq.mp a4 _ (Gs 3 (c3 3) (c3 (-3)));simp only[uD,decide_eq_true_eq]at a3;have a2:=mq.mp (a3.resolve_left ⋯) _ (Gs 2 (c3 2) (c3 (-2)));simp only[uD,decide_eq_true_eq]at a2;have a1:=mq.mp (a2.resolve_left ⋯) _ (Gs 1 (c3 1) (c3 (-1)));simp only[uD,decide_eq_true_eq]at a1;have:=a1.resolve_left ⋯;omega
end Cf
namespace Cf
open Pm Rm
def eV(ps:List (Int×List Int)):List Int:=ps.flatMap (·.2)
def pK(c:Int)(ps:List (Int×List Int)):List (Int×List Int):=ps.map λp=>(p.1,p.2.map λt=>c*t)
theorem Te(c x:Int):∀q:List Int,pv (q.map λt=>c*t) x=c*pv q x
 |[]=>(aP c).symm
 |a::q=>by
  show c*a+x*pv (q.map λt=>c*t) x=c*(a+x*pv q x);rw[Te c x q,gq,eZ]
def vO(p:Int×List Int)(ps:List (Int×List Int))(n:Nat):cj (p::ps) n=p.1^n*pv p.2 (n:Int)+cj ps n:=by unfold cj;rw[bG,gF]
theorem GX(c:Int)(n:Nat):∀ps:List (Int×List Int),cj (pK c ps) n=c*cj ps n
 |[]=>(aP c).symm
 |p::ps=>by
  show cj ((p.1,p.2.map λt=>c*t)::pK c ps) n=_;rw[vO,vO,GX c n ps,Te,gq,eZ]
def aeF(c:Int)(ps:List (Int×List Int)):eV (pK c ps)=(eV ps).map λt=>c*t:=by
 unfold eV pK;rw[List.flatMap_map,List.map_flatMap]
structure Fm(f:Nat->Int)(bot:Int)(ps:List (Int×List Int)):Prop where
 pos:1<=bot
 up:(ps.map (·.1)).Pairwise (· < ·)
 ne:∀p∈ps,p.1≠0
 last:∀p∈ps,co p.2 (p.2.length-1)≠0
 gcd:Lm.dg bot.natAbs (eV ps)=1
 sum:∀n,cj ps n=bot*f n
theorem map_inj{α β:Type}{f:α->β}(hf:∀x y,f x=f y->x=y):∀{a b:List α},a.map f=b.map f->a=b
 |[],[],_=>rfl
 |[],_::_,h=>by cases h
 |_::_,[],h=>by cases h
 |x::a,y::b,h=>by
  rw[bG,bG]at h;injection h with h1 h2;rw[hf x y h1,map_inj hf h2]
def Fm.uniq{f:Nat->Int}{b b':Int}{ps ps':List (Int×List Int)}(F:Fm f b ps)(F':Fm f b' ps'):b=b'/\ps=ps':=by
 have hb:=F.pos;have hb':=F'.pos;have fs:∀(c:Int) (ps:List (Int×List Int)),(pK c ps).map (·.1)=ps.map (·.1):=λc ps=>by unfold pK;rw[cR];rfl
 have hl:∀{c:Int} {ps:List (Int×List Int)},c≠0->(∀p∈ps,co p.2 (p.2.length-1)≠0)->∀q∈pK c ps,co q.2 (q.2.length-1)≠0:=λ{c ps} hc h q hq=>by
  obtain⟨p,hp,rfl⟩:=bY.mp hq;show co (p.2.map λt=>c*t) ((p.2.map λt=>c*t).length-1)≠0;rw[aB,lZ (f:=λt=>c*t) (aP c)];intro z;exact(lH.mp z).elim hc (h p hp)
 have e:pK b' ps=pK b ps':=by
  refine aix (R:=ps.map (·.1)++(ps'.map (·.1)).filter λx=>decide (x∉ps.map (·.1))) ?_ ?_ ?_ ?_ (by rw[fs];exact F.up) (by rw[fs];exact F'.up) (hl ⋯ F.last) (hl ⋯ F'.last) λn=>by
   rw[GX,GX,F.sum,F'.sum,eZ]
  .refine M7.mpr ⟨rC F.up,(rC F'.up).filter _,λx hx y hy z=>?_⟩;subst z;exact absurd hx (by simpa using(pA.mp hy).2)
  .intro r hr;rcases fP.mp hr with hr|hr
   .obtain⟨p,hp,rfl⟩:=bY.mp hr;exact F.ne p hp
   .obtain⟨p,hp,rfl⟩:=bY.mp (pA.mp hr).1;exact F'.ne p hp
  .intro p hp;exact Gw _ (by rw[<-fs b'];exact iK (f:=(·.1)) hp)
  .intro p hp;have hm:p.1∈ps'.map (·.1):=by rw[<-fs b];exact iK (f:=(·.1)) hp
   by_cases c:p.1∈ps.map (·.1)
   .exact Gw _ c
   .exact nq _ (pA.mpr ⟨hm,decide_eq_true c⟩)
 have ef:=congrArg eV e;rw[aeF,aeF]at ef;have nb:((b.natAbs:Nat):Int)=b:=⋯;have nb':((b'.natAbs:Nat):Int)=b':=⋯;have g1:=Lm.Jx b'.natAbs b.natAbs (eV ps);have g2:=Lm.Jx b.natAbs b'.natAbs (eV ps');rw[nb',F.gcd,ef]at g1;rw[nb,F'.gcd,qF b.natAbs]at g2;have eb:b'=b:=by have:=g1.symm.trans g2;omega
 subst eb;refine⟨rfl,map_inj (λp q z=>?_) e⟩;injection z with z1 z2;exact Ir z1 (map_inj (λx y e=>HS ⋯ e) z2)
def dz(r:Int):List (Int×List Int)->List Int
 |[]=>[]
 |p::T=>if p.1=r then p.2 else dz r T
def ou(r:Int)(c:List Int):List (Int×List Int)->List (Int×List Int)
 |[]=>[(r,c)]
 |p::T=>if p.1=r then(r,c)::T else p::ou r c T
theorem acw(r:Int)(c:List Int)(n:Nat):∀T,cj (ou r c T) n+r^n*pv (dz r T) (n:Int)=cj T n+r^n*pv c (n:Int)
 |[]=>by show cj [(r,c)] n+r^n*0=0+_;rw[vO,aP];show r^n*pv c n+(0:Int)+0=_;omega
 |p::T=>by
  have ih:=acw r c n T;unfold ou dz;by_cases h:p.1=r
  .rw[if_pos h,if_pos h,vO,vO,h];show r^n*pv c n+cj T n+r^n*pv p.2 n=r^n*pv p.2 n+cj T n+r^n*pv c n;omega
  .rw[if_neg h,if_neg h,vO,vO];omega
theorem ab1(r:Int)(c:List Int):∀T,(ou r c T).map (·.1)=if r∈T.map (·.1)then T.map (·.1)else T.map (·.1)++[r]
 |[]=>rfl
 |p::T=>by
  have ih:=ab1 r c T;unfold ou;by_cases h:p.1=r
  .rw[if_pos h,if_pos (by rw[bG,h];exact cV ..),bG,bG,h]
  .rw[if_neg h,bG,ih,bG];by_cases d:r∈T.map (·.1)
   .rw[if_pos d,if_pos (cZ _ d)]
   .rw[if_neg d,if_neg λz=>(bJ.mp z).elim (λz=>h z.symm) d,List.cons_append]
theorem acN{r:Int}{c:List Int}{q:Int×List Int}:∀{T},q∈ou r c T->q=(r,c)∨q∈T
 |[],h=> .inl (eE.mp h)
 |p::T,h=>by
  unfold ou at h;split at h
  .exact(bJ.mp h).imp id (cZ _)
  .rcases bJ.mp h with h|h
   .exact .inr (h▸cV ..)
   .exact(acN h).imp id (cZ _)
theorem Q8:∀{T:List (Int×List Int)},(T.map (·.1)).Nodup->∀{p},p∈T->dz p.1 T=p.2
 |q::T,hd,p,hp=>by
  have hd':q.1∉T.map (·.1)/\(T.map (·.1)).Nodup:=mV.mp hd;unfold dz;rcases bJ.mp hp with rfl|hp
  .rw[if_pos rfl]
  .rw[if_neg (λe=>hd'.1 (by rw[e];exact iK (f:=(·.1)) hp))];exact Q8 hd'.2 hp
theorem Er{r:Int}:∀{T:List (Int×List Int)},dz r T≠[]->(r,dz r T)∈T
 |[],h=>absurd rfl h
 |p::T,h=>by
  unfold dz at h⊢;split
  .rename_i e;rw[<-e];exact cV ..
  .rename_i e;rw[if_neg e]at h;exact cZ _ (Er h)
theorem Qs(x:Int)(k:Nat):∀a:List Int,pv (a++bN k 0) x=pv a x
 |[]=>by
  induction k with
  |zero=>rfl
  |succ k ih=>show(0:Int)+x*pv (bN k 0) x=0;rw[show pv (bN k 0) x=0 from ih,aP];rfl
 |c::a=>by show c+x*pv (a++_) x=c+x*pv a x;rw[Qs x k a]
theorem W0(x:Int):∀{a b:List Int},a.length=b.length->pv (uR (· + ·) a b) x=pv a x+pv b x
 |[],[],_=>rfl
 |c::a,d::b,h=>by
  show c+d+x*pv (uR (· + ·) a b) x=c+x*pv a x+(d+x*pv b x);rw[W0 x (by simpa using h),gq];omega
def Aj(a b:List Int):List Int:=uR (· + ·) (a++bN (max a.length b.length-a.length) 0) (b++bN (max a.length b.length-b.length) 0)
def axL(x:Int)(a b:List Int):pv (Aj a b) x=pv a x+pv b x:=by
 unfold Aj;rw[W0,Qs,Qs];rw[dW,dW,qP,qP];omega
def avs(a b:List Int):(Aj a b).length=max a.length b.length:=by
 unfold Aj;rw[acW,dW,dW,qP,qP];omega
def je(g:Int)(c:List Int):List Int:=trim (c.map λt=>t/g)
def lowP(T:List (Int×List Int))(g:Int)(ks:List Int):List (Int×List Int):=(ks.map λr=>(r,je g (dz r T))).filter λp=>decide (p.2≠[])
def ao6(c:List Int)(x:Int):pv (trim c) x=pv c x:=by
 rw[uV,uV,<-kO (p:=trim c) (uz c) x,<-kO (p:=c) (aN _) x];exact aR λk _=>by rw[j5]
theorem abS{g x:Int}(hg:g≠0):∀{c:List Int},(∀t∈c,g∣t)->g*pv (c.map λt=>t/g) x=pv c x
 |[],_=>aP g
 |t::c,h=>by
  have e:g*(t/g)=t:=Nk (h t (cV ..));have ih:=abS (x:=x) hg (c:=c) λu hu=>h u (cZ _ hu);show g*(t/g+x*pv (c.map λt=>t/g) x)=t+x*pv c x;rw[gq,e,eZ,ih]
theorem aal{T:List (Int×List Int)}{g:Int}(hg:g≠0)(hd:∀r,∀t∈dz r T,g∣t)(n:Nat):∀ks:List Int,g*cj (lowP T g ks) n=(ks.map λr=>r^n*pv (dz r T) (n:Int)).sum
 |[]=>aP g
 |r::ks=>by
  have ih:=aal hg hd n ks;have e:g*(r^n*pv (je g (dz r T)) (n:Int))=r^n*pv (dz r T) (n:Int):=by rw[eZ];unfold je;rw[ao6,abS hg (hd r)]
  unfold lowP at ih⊢;rw[bG,bG,gF,ug];split
  .rw[vO,gq,ih];show g*(r^n*pv (je g (dz r T)) (n:Int))+_=_;rw[e]
  .rename_i z
   have z':je g (dz r T)=[]:=by simpa using z
   rw[z']at e;rw[ih,<-e];show _=g*(r^n*0)+_;rw[aP,aP,gY]
def aw6{d:Nat}:∀{g:Nat} {ts:List Int},d∣g->(∀t∈ts,(d:Int)∣t)->d∣Lm.dg g ts:=by
 intro g ts;induction ts generalizing g with
 |nil=>intro h _;exact h
 |cons t r ih=>
  intro h h2;refine ih (Nat.dvd_gcd h ?_) λx hx=>h2 x (cZ _ hx);exact agU.mp (Int.dvd_natAbs.mpr (h2 t (cV ..)))
def Ml{T:List (Int×List Int)}{t:Int}:t∈eV T↔∃p∈T,t∈p.2:=QK
def aio{f:Nat->Int}{bot:Int}{T:List (Int×List Int)}{ks:List Int}(hb:1<=bot)(hd:(T.map (·.1)).Nodup)(h0:∀p∈T,p.1≠0)(hs:∀n,cj T n=bot*f n)(hp:ks.Perm (T.map (·.1)))(hk:ks.Pairwise (·<=·)):
  Fm f (bot/(Lm.dg bot.natAbs (eV T):Nat)) (lowP T (Lm.dg bot.natAbs (eV T):Nat) ks):=by
 have g1:(Lm.dg bot.natAbs (eV T):Int)∣bot:=by
  have:=agU.mpr (Lm.zp bot.natAbs (eV T))
  rwa [show((bot.natAbs:Nat):Int)=bot by omega]at this
 have g2:=Lm.MJ bot.natAbs (eV T);have gp:=Lm.GB (g:=bot.natAbs) ⋯ (eV T);have gm:=Lm.Jx (Lm.dg bot.natAbs (eV T)) (bot/(Lm.dg bot.natAbs (eV T):Nat)).natAbs ((eV T).map λt=>t/(Lm.dg bot.natAbs (eV T):Nat));obtain⟨g,eg⟩:∃g,g=Lm.dg bot.natAbs (eV T):=⟨_,rfl⟩;rw[<-eg]at g1 g2 gp gm⊢;obtain⟨q,eq⟩:=g1;have hg:(g:Int)≠0:=⋯;have eb:bot/(g:Int)=q:=by rw[eq];exact Int.mul_ediv_cancel_left _ hg
 have hq:1<=q:=by
  rcases Int.lt_or_le q 1 with c|c
  .have:(g:Int)*q<=(g:Int)*0:=JB ⋯ ⋯;omega
  .exact c
 rw[eb]at gm⊢;have hv:∀r,∀t∈dz r T,(g:Int)∣t:=λr t ht=>g2 t (Ml.mpr ⟨_,Er (λz=>by rw[z]at ht;cases ht),ht⟩);have up:ks.Pairwise (· < ·):=(List.pairwise_and_iff.mpr ⟨hk,(hp.nodup_iff.mpr hd)⟩).imp λh=>by have:=h.1;have:=h.2;omega
 have hm:∀p∈lowP T (g:Int) ks,p.1∈ks/\p.2=je g (dz p.1 T)/\p.2≠[]:=λp h=>by
  obtain⟨h1,h2⟩:=pA.mp h;obtain⟨r,hr,rfl⟩:=bY.mp h1;exact⟨hr,rfl,by simpa using h2⟩
 refine⟨hq,?_,λp h=>?_,λp h=>?_,?_,λn=>?_⟩
 .have:((ks.map λr=>(r,je g (dz r T))).map (·.1))=ks:=by rw[cR];exact yg ks
  refine uU.mpr ((uU.mp ?_).filter _);rw[this];exact up
 .obtain⟨p',hp',e⟩:=bY.mp (hp.mem_iff.mp (hm p h).1);rw[<-e];exact h0 p' hp'
 .obtain⟨_,e,hne⟩:=hm p h;exact rW hne (by rw[e];exact Lf _)
 ·-- nothing more in common
  have e1:(eV T).map (λt=>(g:Int)*(t/g))=eV T:=(lJ λt ht=>Nk (g2 t ht)).trans (yg _);rw[cR]at gm;have e2:(eV T).map ((λt=>(g:Int)*t)∘λt=>t/g)=eV T:=e1;rw[e2,show g*q.natAbs=bot.natAbs by rw[eq,jX,uM],<-eg]at gm;have e3:Lm.dg q.natAbs ((eV T).map λt=>t/g)=1:=by
   rcases Pz (Lm.dg q.natAbs ((eV T).map λt=>t/g))with z|z
   .rw[z]at gm;omega
   .exact Y5 gp (by rw[<-gm,Cm])
  refine Nat.dvd_one.mp ?_;rw[<-e3];refine aw6 (Lm.zp _ _) λt ht=>?_;obtain⟨u,hu,rfl⟩:=bY.mp ht;obtain⟨p,JN,hup⟩:=Ml.mp hu;by_cases z:u/(g:Int)=0
  .rw[z];exact acY _
  refine Lm.MJ _ _ _ (Ml.mpr ⟨(p.1,je g (dz p.1 T)),?_,?_⟩);all_goals
   have hc:u/(g:Int)∈je g (dz p.1 T):=by
    rw[Q8 hd JN];obtain⟨i,hi,e⟩:=jq.mp (iK (f:=λt=>t/(g:Int)) hup);have c1:co (je (g:Int) p.2) i=u/(g:Int):=by unfold je;rw[j5,jo hi,e]
    have hi2:i<(je (g:Int) p.2).length:=by
     rcases vZ i (je (g:Int) p.2).length with c|c
     .exact c
     .rw[aX c]at c1;exact absurd c1.symm z
    rw[<-c1];exact tE hi2
   first|exact hc|exact pA.mpr ⟨bY.mpr ⟨p.1,hp.mem_iff.mpr (iK (f:=(·.1)) JN),rfl⟩,decide_eq_true λz'=>by rw[show je (g:Int) (dz p.1 T)=[]from z']at hc;cases hc⟩
 .refine HS hg ?_;rw[aal hg hv,<-bU,<-eq,<-hs];have pm:=(hp.map λr=>r^n*pv (dz r T) (n:Int));have se:∀{a b:List Int},a.Perm b->a.sum=b.sum:=λh=>by
   induction h with
   |nil=>rfl
   |cons x _ ih=>rw[gF,gF,ih]
   |swap x y t=>rw[gF,gF,gF,gF];omega
   |trans _ _ h1 h2=>exact h1.trans h2
  rw[se pm,cR];unfold cj;congr 1;exact lJ λp JN=>by show p.1^n*pv (dz p.1 T) n=_;rw[Q8 hd JN]
end Cf
namespace K48
open PySem L2
seal PA PE PS jK PT PW PI PG zu PO yJ
def top(i:Nat):Stmt:=PySem.Challenge.pw_nextbyrule_k48_whole_closed_forms_added.main.body.getD i (.Pass ⟨0,0,0,0⟩)
abbrev Ri:Stmt:=top 7
abbrev QH:Stmt:=top 8
abbrev QJ:Stmt:=top 9
abbrev Rj:Stmt:=top 10
abbrev TR:Stmt:=top 13
abbrev Pj:Stmt:=top 14
abbrev Uo:Stmt:=top 15
abbrev Qo:Stmt:=top 16
abbrev LD:Stmt:=top 18
abbrev K4:Stmt:=top 19
abbrev Vg:Stmt:=top 20
abbrev OV:Stmt:=top 21
abbrev K1:Stmt:=top 22
abbrev Ln:Stmt:=top 23
abbrev LC:Stmt:=top 24
abbrev KZ:Stmt:=top 27
abbrev Ov:Stmt:=top 28
abbrev M9:Stmt:=top 29
abbrev PB:Stmt:=top 30
abbrev Ph:Stmt:=top 31
abbrev VH:Stmt:=top 32
abbrev N6:Stmt:=top 33
abbrev U8:Stmt:=top 35
abbrev VF:Stmt:=top 36
abbrev Tt:Stmt:=top 37
abbrev RD:Stmt:=top 39
abbrev Ls:Stmt:=top 40
abbrev Uu:Stmt:=top 41
abbrev Mf:Stmt:=top 42
abbrev TY:Stmt:=top 43
abbrev Uq:Stmt:=top 44
abbrev Tf:Stmt:=top 45
abbrev Qn:Stmt:=top 46
abbrev RK:Stmt:=top 47
abbrev Rp:Stmt:=top 48
abbrev Tc:Stmt:=top 49
abbrev La:Stmt:=top 50
abbrev Q5:Stmt:=top 53
abbrev RV:Stmt:=top 54
abbrev Tp:Stmt:=top 55
abbrev Mz:Stmt:=top 56
abbrev Uh:Stmt:=top 57
abbrev RB:Stmt:=top 58
abbrev Oh:Stmt:=top 59
abbrev UZ:Stmt:=top 60
abbrev K6:Stmt:=top 61
abbrev Mj:Stmt:=top 63
abbrev KP:Stmt:=top 64
abbrev K9:Stmt:=top 65
abbrev Qq:Stmt:=top 66
abbrev Tq:Stmt:=top 67
abbrev Qt:Stmt:=top 68
abbrev Rg:Stmt:=top 69
abbrev Qw:Stmt:=top 71
abbrev QL:Stmt:=top 72
abbrev Va:Stmt:=top 74
abbrev RW:Stmt:=top 75
abbrev PN:Stmt:=top 76
abbrev MD:Stmt:=top 77
abbrev Og:Stmt:=top 78
abbrev Qa:Stmt:=top 79
abbrev wY:Stmt:=top 80
def PL:aZ ["number","divisor"] ["number"] (aU Ri):=bH
def ahV:aZ ["by","number"] ["by","number"] (aU QH):=bH
def yj:aZ ["prime","number","power","square","left"] ["prime","number"] (aU QJ):=bH
def akU:aZ ["by","one","other"] ["by","one","other"] (aU Rj):=bH
def al8:aZ ["one","other"] ["one","other"] (aU TR):=bH
def amU:aZ ["row"] ["row"] (aU Pj):=bH
def FQ:aZ ["by","rule","before","total","k"] ["by","rule","before"] (aU Uo):=bH
def BF:aZ ["row","count","by","rule","starts","found"] ["row","count"] (aU Qo):=bH
def K2:aZ ["numbers","end"] ["numbers"] (aU LD):=bH
def Kz:aZ ["by","one","other","total","i","k"] ["by","one","other"] (aU K4):=bH
def wF:aZ ["by","one","other","top","often","left","shift","factor","k"] ["by","one","other"] (aU Vg):=bH
def ab7:aZ ["prime","poly","last"] ["prime","poly"] (aU OV):=bH
def Ac:aZ ["by","one","other","great","small","left"] ["by","one","other"] (aU K1):=bH
def N8:aZ ["by","rule","length","numbers"] ["by","rule"] (aU Ln):=bH
def adP:aZ ["by","poly","length"] ["by","poly"] (aU LC):=bH
def Ox:aZ ["number","found"] ["number"] (aU KZ):=bH
def atV:aZ ["monic_one","poly"] ["monic_one","poly"] (aU Ov):=bH
def aw5:aZ ["prime","poly"] ["prime","poly"] (aU M9):=bH
def aha:aZ ["modulus","number","rest"] ["modulus","number"] (aU PB):=bH
def aec:aZ ["modulus","number","prime","rest","more"] ["modulus","number","prime","rest"] (aU Ph):=bH
def mQ:aZ ["one","other","told","modulus","prime","ripe","seen","before"] ["one","other"] (aU VH):=bH
def al7:aZ ["by","one","other"] ["by","one","other"] (aU N6):=bH
def AJ:aZ ["row","poly","by","starts","top","k","parts"] ["row","poly"] (aU U8):=bH
def Kc:aZ ["row","by","poly","top"] ["row"] (aU VF):=bH
def UY:aZ ["row","least","rule"] ["row"] (aU Tt):=bH
def ail:aZ ["by","line"] ["by","line"] (aU RD):=bH
def ab0:aZ ["lines","begin","column","i"] ["lines","begin","column"] (aU Ls):=bH
def acF:aZ ["by","lines","at","top","down"] ["by","lines","at","top"] (aU Uu):=bH
def CP:aZ ["by","line","head","column","last","pivot","factor","mixed","share"] ["by","line","head","column","last"] (aU Mf):=bH
def uO:aZ ["by","wide","lines","heads","last","column","top","at","i"] ["by","wide","lines"] (aU TY):=bH
def yQ:aZ ["one","other","great","small","left"] ["one","other"] (aU Uq):=bH
def Dl:aZ ["by","bottom","tops","top","divisor"] ["by","bottom","tops"] (aU Tf):=bH
def amm:aZ ["by","wide","lines","heads","last","column","free","i"] ["by","wide","lines","heads","last"] (aU Qn):=bH
def v5:aZ ["by","wide","table","wished","lines","i","cleared","heads","last","tops","low"] ["by","wide","table","wished"] (aU RK):=bH
def ank:aZ ["table","column"] ["table","column"] (aU Rp):=bH
def avw:aZ ["by","wide","table","wished","turned","goal"] ["by","wide","table","wished"] (aU Tc):=bH
def abj:aZ ["by","wide","table","wished","found"] ["by","wide","table","wished"] (aU La):=bH
def ajX:aZ ["poly"] ["poly"] (aU Q5):=bH
def DR:aZ ["number","small","great","tried"] ["number"] (aU RV):=bH
def E6:aZ ["poly","low","above","below"] ["poly"] (aU Tp):=bH
def wk:aZ ["poly","root","often","left","tried"] ["poly","root"] (aU Mz):=bH
def zG:aZ ["poly","roots","left","root","found"] ["poly"] (aU Uh):=bH
def Jf:aZ ["number","exponent","product","turn"] ["number","exponent"] (aU RB):=bH
def Rn:aZ ["roots","n","line","pair"] ["roots","n"] (aU Oh):=bH
def Af:aZ ["roots","tops","parts","begin","pair","end"] ["roots","tops"] (aU UZ):=bH
def yF:aZ ["row","found","roots","length","table","answer"] ["row"] (aU K6):=bH
def aoJ:aZ ["length"] ["length"] (aU Mj):=bH
def Qj:aZ ["by","rule","starts","rule_taken","starts_taken"] ["by","rule","starts"] (aU KP):=bH
def ajy:aZ ["ours","theirs","n"] ["ours","theirs","n"] (aU K9):=bH
def GD:aZ ["one","other","rule","pair_place","length","ours","theirs"] ["one","other","rule","pair_place"] (aU Qq):=bH
def BK:aZ ["one","other","pair_place","by","ours","theirs","poly"] ["one","other","pair_place"] (aU Tq):=bH
def alE:aZ ["one","other"] ["one","other"] (aU Qt):=bH
def ari:aZ ["row","number"] ["row","number"] (aU Rg):=bH
def TN:aZ ["_law_script","_law_k","_law_mixed"] ["_law_script","_law_k"] (aU Qw):=bH
def Fe:aZ ["_law_one","_law_other","_law_found","_law_k","_law_j"] ["_law_one","_law_other"] (aU QL):=bH
def yx:aZ ["_law_script","_law_at_here","_law_most","_law_wide","_law_found","_law_k","_law_cell","_law_root","_law_many"] ["_law_script","_law_at_here","_law_most","_law_wide"] (aU Va):=bH
def zX:aZ ["_law_roots_here","_law_poly","_law_root","_law_many","_law_k"] ["_law_roots_here"] (aU RW):=bH
def xM:aZ ["_law_script","_law_at_here","_law_roots_here","_law_poly","_law_rule","_law_starts","_law_k","_law_cell"] ["_law_script","_law_at_here"] (aU PN):=bH
def JV:aZ ["_law_one","_law_other"] ["_law_one","_law_other"] (aU MD):=bH
def uY:aZ ["_law_tops","_law_bottom","_law_part","_law_root","_law_top","_law_parts","_law_some"] ["_law_tops","_law_bottom"] (aU Og):=bH
def rF:aZ ["_law_one","_law_other","_law_tops","_law_form","_law_times_it","_law_root","_law_some","_law_there","_law_size","_law_more"] ["_law_one","_law_other"] (aU Qa):=bH
def uh:aZ ["_law_script","_law_one","_law_other","_law_number","_law_form","_law_tops","_law_root","_law_some"] ["_law_script"] (aU wY):=bH
abbrev aqq:=d7 [(".0",.local),("number",.local),("over",.globalImplicit),("last",.cell),("prime",.cell)]
abbrev arR:=d7 [(".0",.local),("k",.local),("taken",.globalImplicit),("by",.cell),("length",.cell),("rule",.cell)]
abbrev aik:=d7 [(".0",.local),("k",.local),("taken",.globalImplicit),("by",.cell),("length",.cell),("poly",.cell)]
abbrev amr:=d7 [(".0",.local),("number",.local),("taken",.globalImplicit),("prime",.cell)]
abbrev aqK:=d7 [(".0",.local),("rest",.local),("nearest",.globalImplicit),("prime",.cell)]
abbrev ayM:=d7 [(".0",.local),("k",.local),("joined",.globalImplicit),("before",.cell),("modulus",.cell),("prime",.cell),("seen",.cell)]
abbrev atL:=d7 [(".0",.local),("j",.local),("k",.cell),("poly",.cell),("starts",.cell)]
abbrev aww:=d7 [(".0",.local),("number",.local),("taken",.globalImplicit),("by",.cell)]
abbrev alf:=d7 [(".0",.local),("number",.local),("taken",.globalImplicit),("by",.cell)]
abbrev aiE:=d7 [(".0",.local),("k",.local),("factor",.cell),("head",.cell),("line",.cell),("pivot",.cell)]
abbrev at5:=d7 [(".0",.local),("number",.local),("last",.cell)]
abbrev arv:=d7 [(".0",.local),("number",.local),("taken",.globalImplicit),("by",.cell),("share",.cell)]
abbrev am5:=d7 [(".0",.local),("top",.local),("over",.globalImplicit),("bottom",.cell),("by",.cell)]
abbrev ahO:=d7 [(".0",.local),("top",.local),("divisor",.cell)]
abbrev avV:=d7 [(".0",.local),("i",.local),("line_taken",.globalImplicit),("by",.cell),("table",.cell),("wished",.cell)]
abbrev aku:=d7 [(".0",.local),("line",.local),("wide",.cell)]
abbrev aqL:=d7 [(".0",.local),("number",.local),("abs",.globalImplicit),("ABOVE_ALL_NUMBERS",.globalImplicit)]
abbrev atp:=d7 [(".0",.local),("number",.local)]
abbrev auM:=d7 [(".0",.local),("divisor",.local)]
abbrev aiF:=d7 [(".0",.local),("j",.local),("power",.globalImplicit),("n",.cell),("pair",.cell)]
abbrev auD:=d7 [(".0",.local),("pair",.local)]
abbrev axh:=d7 [(".0",.local),("pair",.local)]
abbrev ajS:=d7 [(".0",.local),("n",.local),("form_line",.globalImplicit),("roots",.cell)]
abbrev ahp:=d7 [(".0",.local),("number",.local),("taken",.globalImplicit),("by",.cell)]
abbrev ahE:=d7 [(".0",.local),("number",.local),("taken",.globalImplicit),("by",.cell)]
abbrev awA:=d7 [(".0",.local),("n",.local),("ours",.cell),("pair_place",.cell),("theirs",.cell)]
abbrev atw:=d7 [(".0",.local),("start",.local),("number",.cell)]
abbrev ap2:=d7 [(".0",.local),("_law_one",.local),("_law_found",.cell)]
abbrev asd:=d7 [(".0",.local),("_law_root",.local),("_law_found",.cell)]
abbrev ahK:=d7 [(".0",.local),("_law_one",.local)]
abbrev auP:=d7 [(".0",.local),("_law_number",.local)]
abbrev ahs:=d7 [(".0",.local),("_law_top",.local),("_law_part",.cell)]
abbrev aqr:=d7 [(".0",.local),("_law_top",.local),("_law_times_it",.cell)]
abbrev aiI:=d7 [(".0",.local),("_law_a",.local),("_law_b",.local)]
abbrev anW:=d7 [(".0",.local),("_law_k",.local),("_law_at",.globalImplicit),("_law_script",.cell)]
abbrev ajV:=d7 [(".0",.local),("_law_top",.local),("_law_number",.cell)]
structure Bt(mg:Str->Option Value):Prop where
 xZ:mg "abs" = none
 RH:mg "any" = none
 cJ:mg "len" = none
 Gu:mg "list" = none
 aft:mg "max" = none
 gG:mg "range" = none
 QZ:mg "reversed" = none
 agL:mg "sorted" = none
 QW:mg "sum" = none
 oh:mg "tuple" = none
 anK:mg "zip" = none
 Rz:∃t,mg "ABOVE_ALL_NUMBERS" = some (.int 1000000 t)
 UH:∃t,mg "BELOW_THE_PRIMES" = some (.int 1000000 t)
 Ra:∃t,mg "LONGEST" = some (.int 12 t)
structure Ms(K:aF)(mg:Str->Option Value)(base:Heap)(eX dN:Addr):Prop where
 azE:mg "NoBy" = some (.ref eX)
 azX:mg "TooBig" = some (.ref dN)
 atd:Ez mg base "NoBy" eX
 azt:ExI K eX
 ad2:oZ K (.ref eX) (.ref eX)=some true
 agS:oZ K (.ref eX) (.ref dN)=some false
 Zy:oZ K (.ref eX) (.type "ValueError")=some true
 at4:Ez mg base "TooBig" dN
 azS:ExI K dN
 aaw:oZ K (.ref dN) (.ref eX)=some false
 afW:oZ K (.ref dN) (.ref dN)=some true
 adb:oZ K (.ref dN) (.type "ValueError")=some true
abbrev MB:Nat:=15
def aH{X:Cx}(i:Nat){x:Str}{e:Expr}{te:TE}{pos pos':Pos}(hN:X.N.Nodup)(he:PE X e te)(hi:X.N[i]?=some x:=by rfl)(hx:Loc X.env.scope x:=by exact pC rfl)(hs:swapsWith e (some (.Name x pos')) pos.line X.env=pure false:=by rfl)
  (hf:X.fn x=true∨X.env.scope.names.lookup x=some .local:=by first|exact .inl rfl|exact .inr rfl|assumption):PS X (.Assign [.Name x pos'] e pos) (Gi te (iD i)):=gM hN hi hx he hs hf
def bD{X:Cx}(i:Nat){x:Str}{pos:Pos}(hN:X.N.Nodup)(hi:X.N[i]?=some x:=by rfl)(hx:Loc X.env.scope x:=by exact pC rfl)(hf:X.fn x=true∨X.env.scope.names.lookup x=some .local:=by first|exact .inl rfl|exact .inr rfl|assumption):PG X (.Name x pos) (iD i):=Iz hN hi hx hf
def aO{X:Cx}(K:aF){a b:Expr}{ta tb:TE}{pos:Pos}(ha:PE X a ta)(hb:PE X b tb)(hK:X.K=K:=by rfl)(hs:WB b:=by exactλ_ _=>rfl):PE X (.Subscript a b pos) (yq (JQ K) ta tb):=ayQ (xix K hK) ha hb hs
def pad{X:Cx}(K:aF){a b:Expr}{ta tb:TE}{pos:Pos}(ha:PE X a ta)(hb:PE X b tb)(hK:X.K=K:=by rfl):PE X (.BinOp a .Add b pos) (yq (Ia K) ta tb):=aK (amb K hK) ha hb
def cH{X:Cx}(K:aF)(hm:X.mg "len" = none){e:Expr}{es:List Expr}{t:TA}{p pos:Pos}(ha:PA X (e::es) t)(hg:Gl X "len" := by rfl)(hK:X.K=K:=by rfl)
  (he:starEach (e::es) X.env=(false,eval e X.env)::starEach es X.env:=by rfl) (hpl:(backTo pos (starEach es X.env)).any (·.1)=false:=by rfl):PE X (.Call (.Name "len" p) (e::es) [] pos) (QB (U6 K) t):=
 jy (avO K hK) hg hm boot_len ha ∅ ∅ he hpl
def cT{X:Cx}{op:CmpOp}{r:R2}{a b:Expr}{ta tb:TE}{pos:Pos}(ho:dh X (compareOp op) r)(ha:PE X a ta)(hb:PE X b tb)(hm:behindInMarks op b=false:=by exact wz _):PT X (.Compare a [op] [b] pos) (YH (yq r ta tb)):=ahl ho ha hb hm
def nw{H:Hp}{D:Addr}(h:H D=none)(o:HO):∃H',upd H D o=H'/\Same H H'/\H' D=some o:=⟨_,rfl,Same.new h o,aC⟩
abbrev cP(x:Str)(k:Nat)(ps:List Str)(sp:Sp)(P w K mg base):=iU P w K mg base x k ps sp
def aJ{X:Cx}{x:Str}{k k':Nat}{ps:List Str}{sp:Sp}{p pos:Pos}{e:Expr}{es:List Expr}{t:TA}(C:iU X.prog X.w X.K X.mg X.base x k ps sp)(hr:dY k' X.A)(ha:PA X (e::es) t)(hg:Gl X x:=by rfl)
  (hk:k<=k':=by decide) (hd:(x==("__debug__" : Str))=false:=by decide)
  (he:starEach (e::es) X.env=(false,eval e X.env)::starEach es X.env:=by rfl) (hpl:(backTo pos (starEach es X.env)).any (·.1)=false:=by rfl):PE X (.Call (.Name x p) (e::es) [] pos) (JZ sp [] E0 t):=ar4 C hr hg ha hk hd he hpl
def pX(a:Int){b:Int}(h:0<b):0<=a%b:=qW _ ⋯
def pQ(a:Int){b:Int}(h:0<b):a%b<b:=qR _ h
def eN{ns:List Int}{k:Int}(h0:0<=k)(h1:k<(ns.length:Int)):lQ (ns.map V.int) k=some (.int (ns.getD k.toNat 0)):=by
 have e:k=((k.toNat:Nat):Int):=⋯;have hk:k.toNat<ns.length:=⋯
 conv=>lhs;rw[e]
 exact afQ (by rw[List.getElem?_map,List.getElem?_eq_getElem hk,List.getD_eq_getElem?_getD,List.getElem?_eq_getElem hk]<;>rfl)
def uI{α:Type}{xs:List α}{k:Int}{v:α}(j:Nat)(e:k=(j:Int))(h:xs[j]?=some v):lQ xs k=some v:=by rw[e];exact afQ h
def dec_true{p:Prop}[Decidable p](c:decide p=true):p:=of_decide_eq_true c
def dec_false{p:Prop}[Decidable p](c:¬decide p=true):¬p:=of_decide_eq_false (Bool.eq_false_iff.mpr c)
def Wl(b x:Int):Prop:=b=0∨(0<=x/\x<b)
structure Rw where
 b:Int
 rule:List Int
 starts:List Int
structure jB(r:Rw):Prop where
 len:r.rule.length=r.starts.length
 short:r.rule.length<=24
 oO:0<=r.b
 Cy:r.b<1000
 azO:∀x∈r.rule,Wl r.b x
 azG:∀x∈r.starts,Wl r.b x
 Ak:∀x∈r.rule,Rm.Bd 60000 x
 Gr:∀x∈r.starts,Rm.Bd 3000 x
def Rw.row(r:Rw)(n:Nat):List Int:=Rm.row r.b r.rule r.starts n
def Rw.at(r:Rw)(n:Nat):Int:=Rm.at_ r.b r.rule r.starts n
def jB.bd{r:Rw}(h:jB r)(n:Nat)(hn:n<=1000):Rm.Bd 61000000 (r.at n):=by
 have q:=Rm.ac9 (b:=r.b) (rule:=r.rule) (starts:=r.starts) (a:=60000) (c:=3000) h.len h.oO ((Rm.Bd.of (n:=10) (by have:=h.oO;omega) (by have:=h.Cy;omega)).mono ∅) h.Ak h.Gr n;refine q.mono ?_;have h1:=h.short;have h2:n*(60000+r.rule.length)<=1000*60024:=ig hn ⋯;omega
def jB.au1{r:Rw}(h:jB r)(n:Nat)(hn:n<=1000):∀x∈r.row n,Rm.Bd 61000000 x:=by
 intro x hx;have e:r.row n=(fj n).map r.at:=Rm.U5 ..;rw[e]at hx;obtain⟨i,hi,rfl⟩:=bY.mp hx;exact h.bd i (by have:=iT.mp hi;omega)
theorem Rw.ud(r:Rw)(n:Nat):(r.row n).length=n:=Rm.ud ..
def m6{x y:Int}{m n:Nat}(h:Rm.Bd m x)(h':Rm.Bd n y)(hn:m+n<=134217728):IntMulOk x y:=
 IntMulOk.of_le (intBits_le_iff.mpr h) (intBits_le_iff.mpr h') hn
def iu(H:Hp)(v:V)(r:Rw):Prop:=
 ∃a p q,v = .ref a/\H a=some (.tup [.int r.b,.ref p,.ref q])/\H p=some (.tup (r.rule.map V.int))/\H q=some (.tup (r.starts.map V.int))
def iu.same{H H':Hp}{v:V}{r:Rw}(h:iu H v r)(g:Same H H'):iu H' v r:=by
 obtain⟨a,p,q,e,h1,h2,h3⟩:=h;exact⟨a,p,q,e,g _ _ h1,g _ _ h2,g _ _ h3⟩
def yS(xs:List Int)(x:Int):(xs++[x]).map V.int=xs.map V.int++[.int x]:=by rw[fZ];rfl
def Told(H:Hp)(Q:VK)(xs:List V):Prop:=∀r H',Same H H'->H r=none->H' r=some (.lst xs)->Q (.ref r) H'
inductive aib(K:aF)(vs:List V)(H:Hp)(Q:VK)(E:XK):Prop|mk (a:Addr) (ns:List Int) (bZ:vs=[.ref a]) (bV:au K H a (ns.map V.int)) (cB:ns.length<=63) (cM:∀H',Q (.bl true) H')
def Sx(K:aF):Sp:=aib K
def Gm(xs:List V)(k:Nat):gU xs none (some (k:Int))=xs.take k:=by
 unfold gU;rw[HT.qe,HT.rP,TJ,vm,acU];omega
def axi(xs:List V){k:Nat}(h:k<=xs.length):gU xs (some (k:Int)) none=xs.drop k:=by
 unfold gU;rw[HT.qe,HT.rP,Lw h,rm (by rw[oU];omega)]
def v9(H:Hp)(Q:VK)(ns:List Int):Prop:=∀p H',Same H H'->H' p=some (.tup (ns.map V.int))->Q (.ref p) H'
def AZ{xs:List Int}{n:Nat}(h:0<n)(hn:n<=xs.length):xs.take n=xs.take (n-1)++[xs.getD (n-1) 0]:=by
 obtain⟨m,rfl⟩:∃m,n=m+1:=⟨n-1,⋯⟩;rw[fR,pL,List.getElem?_eq_getElem ⋯,List.getD_eq_getElem?_getD,List.getElem?_eq_getElem ⋯];rfl
def aeO{xs:List Int}{n:Nat}(h:0<n)(hn:n<=xs.length)(ht:Pm.trim (xs.take n)=Pm.trim xs)(h0:xs.getD (n-1) 0=0):Pm.trim (xs.take (n-1))=Pm.trim xs:=by
 rw[AZ h hn,h0,Pm.YG]at ht;exact ht
def Fq{xs:List Int}{n:Nat}(hn:n<=xs.length)(ht:Pm.trim (xs.take n)=Pm.trim xs)(h0:n=0∨xs.getD (n-1) 0≠0):xs.take n=Pm.trim xs:=by
 rcases h0 with h0|h0
 .subst h0;rw[<-ht];rfl
 .by_cases hz:n=0
  .subst hz;rw[<-ht];rfl
  .rw[<-ht,AZ ⋯ hn,Pm.UU _ h0]
def uK{n j:Nat}{i:Int}(e:i=(j:Int))(h:j<n):pY n i=some j:=by
 subst e;unfold pY;rw[if_pos ⋯,if_pos ⋯,d9]
def Cz(L:List Int)(j:Nat)(x:Int):(L.map V.int).set j (.int x)=(L.set j x).map V.int:=by rw[List.map_set]
def J3(n:Nat):(bN n [V.int 0]).flatten=(Pm.aM n λ_=>0).map V.int:=by
 induction n with
 |zero=>rfl
 |succ n ih=>
  rw[Pm.Ux,fZ,<-ih,List.replicate_succ',List.flatten_append];rfl
def BW{n:Nat}{ix:List (Option Nat)}{te:TE}{σ:St}{H1:Hp}{Q:VK}(hz:n<=1000){rest:St}(hst:cst ix σ=none::rest)(f:Nat->Int)
  (he:∀H' k,Same H1 H'->k<n->∀kk:VK,kk (.int (f k)) H'->te (some (.int (0+(k:Int)))::rest) H' kk)
  (hQ:∀D,H1 D=none->Q (.ref D) (upd H1 D (.lst ((Pm.aM n f).map V.int)))):jN ix (iD 0) lA te σ Q (mZ 0 n) H1:=by
 refine qT zq (by rw[aB,mR];exact gC (dZ hz)) hst (λ_=>true) (λx=>match x with | .int k=> .int (f k.toNat)|_=> .non) ?_ ?_ ?_
 .intro H2 x g2 hx k hk;exact hk
 .intro H2 x g2 hx _ k hk;obtain⟨j,hj,rfl⟩:=bY.mp hx;have e1:(0+(j:Int)).toNat=j:=⋯;refine he H2 j g2 (iT.mp hj) k ?_;have hk':k (V.int (f (0+(j:Int)).toNat)) H2:=hk
  rwa [e1]at hk'
 .intro D hD;have el:((((fj n).map λi=>V.int (0+(i:Nat))).filter λ_=>true).map λx=>match x with | .int k=>V.int (f k.toNat)|_=>V.non)=(Pm.aM n f).map V.int:=by
   rw[sW.mpr (by simp),cR,Pm.aM,cR];refine lJ λk _=>?_;show V.int (f (0+(k:Int)).toNat)=V.int (f k);rw[show(0+(k:Int)).toNat=k by omega]
  rw[el];exact hQ D hD
def DY{K:aF}{a:Addr}{xs:List Int}{ix:List (Option Nat)}{te:TE}{σ:St}{H1:Hp}{Q:VK}(hA:H1 a=some (.tup (xs.map V.int)))(hz:xs.length<=1000){rest:St}(hst:cst ix σ=none::rest)(f:Int->Int)
  (he:∀H' x,Same H1 H'->x∈xs->∀kk:VK,kk (.int (f x)) H'->te (some (.int x)::rest) H' kk)
  (hQ:∀D,H1 D=none->Q (.ref D) (upd H1 D (.lst ((xs.map f).map V.int)))):jN ix (iD 0) lA te σ Q (IK K a) H1:=by
 refine qT (Vo (aA.of hA)) (by rw[aB];exact gC (dZ hz)) hst (λ_=>true) (λx=>match x with | .int k=> .int (f k)|_=> .non) ?_ ?_ ?_
 .intro H2 x g2 hx k hk;exact hk
 .intro H2 x g2 hx _ k hk;obtain⟨y,hy,rfl⟩:=bY.mp hx;exact he H2 y g2 hy k hk
 .intro D hD;have el:(((xs.map V.int).filter λ_=>true).map λx=>match x with | .int k=>V.int (f k)|_=>V.non)=(xs.map f).map V.int:=by
   rw[sW.mpr (by simp),cR,cR];rfl
  rw[el];exact hQ D hD
def uT{K:aF}{a:Addr}{xs:List Int}{ix:List (Option Nat)}{te:TE}{σ:St}{H1:Hp}{Q:VK}(hA:H1 a=some (.lst (xs.map V.int)))(hz:xs.length<=1000){rest:St}(hst:cst ix σ=none::rest)(f:Int->Int)
  (he:∀H' x,Same H1 H'->x∈xs->∀kk:VK,kk (.int (f x)) H'->te (some (.int x)::rest) H' kk)
  (hQ:∀D,H1 D=none->Q (.ref D) (upd H1 D (.lst ((xs.map f).map V.int)))):jN ix (iD 0) lA te σ Q (nY K a) H1:=by
 refine qT (wG (au.of hA)) (by rw[aB];exact gC (dZ hz)) hst (λ_=>true) (λx=>match x with | .int k=> .int (f k)|_=> .non) ?_ ?_ ?_
 .intro H2 x g2 hx k hk;exact hk
 .intro H2 x g2 hx _ k hk;obtain⟨y,hy,rfl⟩:=bY.mp hx;exact he H2 y g2 hy k hk
 .intro D hD;have el:(((xs.map V.int).filter λ_=>true).map λx=>match x with | .int k=>V.int (f k)|_=>V.non)=(xs.map f).map V.int:=by
   rw[sW.mpr (by simp),cR,cR];rfl
  rw[el];exact hQ D hD
def HJ{p:List Int}{i:Nat}{x:V}(h:(p.map V.int)[i]?=some x):x = .int (Pm.co p i)/\i<p.length:=by
 by_cases hi:i<p.length
 .rw[List.getElem?_map,List.getElem?_eq_getElem hi]at h;cases h;refine⟨?_,hi⟩;show V.int _=V.int (p.getD i 0);rw[List.getD_eq_getElem?_getD,List.getElem?_eq_getElem hi];rfl
 .rw[List.getElem?_eq_none (by rw[aB];omega)]at h;cases h
def zN:∀P∈Om.nj,2<=P/\P<1000:=by decide +kernel
inductive cF(H:Hp)(ex:List Addr):List V->List (List Int)->Prop
 |nil:cF H ex [] []
 |cons {t:Addr} {p:List Int} {xs:List V} {ps:List (List Int)}:t∉ex->H t=some (.lst (p.map V.int))->cF H ex xs ps->cF H ex (.ref t::xs) (p::ps)
def Keep(ll:Addr)(H H':Hp):Prop:=∀a u,a≠ll->H a=some u->H' a=some u
def Keep.refl(ll:Addr)(H:Hp):Keep ll H H:=λ_ _ _ h=>h
def Keep.trans{ll:Addr}{H H' H2:Hp}(h:Keep ll H H')(h':Keep ll H' H2):Keep ll H H2:=λa u n e=>h' a u n (h a u n e)
def Keep.same{ll:Addr}{H H':Hp}(g:Same H H'):Keep ll H H':=λa u _ e=>g a u e
theorem Keep.upd(ll:Addr)(H:Hp)(o:HO):Keep ll H (L2.upd H ll o):=λa u n e=>by rw[bI n];exact e
theorem cF.keep{H H':Hp}{ll:Addr}{ex:List Addr}(hm:ll∈ex)(g:Keep ll H H'):∀{xs:List V} {ps:List (List Int)},cF H ex xs ps->cF H' ex xs ps
 |_,_,.nil=> .nil
 |_,_,.cons n h r=> .cons n (g _ _ (λz=>n (z▸hm)) h) (cF.keep hm g r)
theorem cF.same{H H':Hp}{ex:List Addr}(g:Same H H'):∀{xs:List V} {ps:List (List Int)},cF H ex xs ps->cF H' ex xs ps
 |_,_,.nil=> .nil
 |_,_,.cons n h r=> .cons n (g _ _ h) (cF.same g r)
theorem cF.more{H:Hp}{ex:List Addr}{a:Addr}(ha:H a=none):∀{xs:List V} {ps:List (List Int)},cF H ex xs ps->cF H (a::ex) xs ps
 |_,_,.nil=> .nil
 |_,_,.cons n h r=> .cons (λz=>by
   rcases bJ.mp z with e|e
   .rw[e,ha]at h;cases h
   .exact n e) h (cF.more ha r)
theorem cF.less{H:Hp}{ex ex':List Addr}(hs:∀a∈ex',a∈ex):∀{xs:List V} {ps:List (List Int)},cF H ex xs ps->cF H ex' xs ps
 |_,_,.nil=> .nil
 |_,_,.cons n h r=> .cons (λz=>n (hs _ z)) h (cF.less hs r)
theorem cF.len{H:Hp}{ex:List Addr}:∀{xs:List V} {ps:List (List Int)},cF H ex xs ps->xs.length=ps.length
 |_,_,.nil=>rfl
 |_,_,.cons _ _ r=>by rw[iQ,iQ,cF.len r]
theorem cF.get{H:Hp}{ex:List Addr}:∀{xs:List V} {ps:List (List Int)} {i:Nat},cF H ex xs ps->i<ps.length->∃t,xs[i]?=some (.ref t)/\t∉ex/\H t=some (.lst ((Dm.ln ps i).map V.int))
 |_,_,_,.nil,h=>absurd h (mH _)
 |_,_,0,.cons n h _,_=>⟨_,rfl,n,h⟩
 |_,_,i+1,.cons _ _ r,h=>cF.get (i:=i) r (by simpa using h)
theorem cF.set{H:Hp}{ex:List Addr}{t:Addr}{q:List Int}(hn:t∉ex)(hT:H t=some (.lst (q.map V.int))):∀{xs:List V} {ps:List (List Int)} (i:Nat),cF H ex xs ps->cF H ex (xs.set i (.ref t)) (ps.set i q)
 |_,_,_,.nil=> .nil
 |_,_,0,.cons _ _ r=> .cons hn hT r
 |_,_,i+1,.cons n h r=> .cons n h (cF.set hn hT i r)
theorem cF.append{H:Hp}{ex:List Addr}{t:Addr}{q:List Int}(hn:t∉ex)(hT:H t=some (.lst (q.map V.int))):∀{xs:List V} {ps:List (List Int)},cF H ex xs ps->cF H ex (xs++[.ref t]) (ps++[q])
 |_,_,.nil=> .cons hn hT .nil
 |_,_,.cons n h r=> .cons n h (cF.append hn hT r)
def Stand(H:Hp)(ex:List Addr):Prop:=∀a∈ex,∃o,H a=some o
def Stand.fresh{H:Hp}{ex:List Addr}{t:Addr}(h:Stand H ex)(ht:H t=none):t∉ex:=λz=>by
 obtain⟨o,e⟩:=h t z;rw[ht]at e;cases e
def Stand.keep{H H':Hp}{ll:Addr}{ex:List Addr}(h:Stand H ex)(g:Keep ll H H')(hl:∃o,H' ll=some o):Stand H' ex:=λa ha=>by
 by_cases e:a=ll
 .rw[e];exact hl
 .obtain⟨o,q⟩:=h a ha;exact⟨o,g _ _ e q⟩
def xU{L:List (List Int)}{i:Nat}(q:List Int)(hi:i<L.length)(k:Nat):Dm.ln (L.set i q) k=if k=i then q else Dm.ln L k:=by
 unfold Dm.ln;rw[List.getD_eq_getElem?_getD,List.getElem?_set,List.getD_eq_getElem?_getD];by_cases e:i=k
 .subst e;simp[hi]
 .rw[if_neg e,if_neg (λz=>e z.symm)]
def pB(b:Int):Prop:=b=0∨∃P:Nat,P∈Om.nj/\b=(P:Int)
def pB.dom{b:Int}(h:pB b):Dm.Dom b:=by
 rcases h with rfl|⟨P,hP,rfl⟩
 .exact Dm.Dom.zero
 .exact Dm.Dom.prime hP (zN P hP).1
def pB.range{b:Int}(h:pB b):0<=b/\b<1000/\b≠1:=by
 rcases h with rfl|⟨P,hP,rfl⟩
 .decide
 .have:=zN P hP;omega
def pB.one{b:Int}(h:pB b):Rm.tk b 1=1:=by
 rcases h with rfl|⟨P,hP,rfl⟩
 .exact Rm.aY 1
 .have:=zN P hP;rw[Rm.jZ ⋯];exact Cv ∅ ⋯
inductive ap8(vs:List V)(H:Hp)(Q:VK)(E:XK):Prop|mk (b n:Int) (bZ:vs=[.int b,.int n]) (bV:0<=b) (cB:Q (.int (Rm.tk b n)) H)
def al5:Sp:=ap8
abbrev jT:=cP "taken" 1 ["by","number"] al5
inductive avA(K:aF)(vs:List V)(H:Hp)(Q:VK)(E:XK):Prop|mk (b:Int) (r s:Addr) (rule before:List Int) (bZ:vs=[.int b,.ref r,.ref s]) (bV:0<=b) (cB:aA K H r (rule.map V.int)) (cM:au K H s (before.map V.int)) (cQ:rule.length<=before.length) (dJ:rule.length<=24) (iV:before.length<=1000) (jz:(∀x∈rule,Rm.Bd 60000 x)) (kJ:(∀x∈before,Rm.Bd 61000000 x)) (pq:Q (.int (Rm.tk b (Rm.S rule (λi=>before.getD i 0) before.length rule.length))) H)
def auj(K:aF):Sp:=avA K
abbrev YZ(P w K mg base):=iU P w K mg base "next_place" 2 ["by","rule","before"] (auj K)
inductive ano(K:aF)(vs:List V)(H:Hp)(Q:VK)(E:XK):Prop|mk (v:V) (r:Rw) (c:Int) (bZ:vs=[v,.int c]) (bV:iu H v r) (cB:jB r) (cM:0<=c) (cQ:c<=900) (dJ:Told H Q ((r.row c.toNat).map V.int))
def apt(K:aF):Sp:=ano K
abbrev agf(P w K mg base):=iU P w K mg base "first_places" 3 ["row","count"] (apt K)
inductive ao4(vs:List V)(H:Hp)(Q:VK)(E:XK):Prop|mk (n:Nat) (bZ:vs=[.int n]) (bV:n<2097152) (cB:∀b:Bool,(b=true↔Om.cG n)->Q (.bl b) H)
def ayG:Sp:=ao4
abbrev Z9:=cP "is_prime" 1 ["number"] ayG
inductive aiM(vs:List V)(H:Hp)(Q:VK)(E:XK):Prop|mk (n q:Nat) (bZ:vs=[.int n]) (bV:Om.cG q) (cB:n<q) (cM:q<2097152) (cQ:∀p:Nat,Om.cG p->n<p->p<=q->Q (.int p) H)
def aje:Sp:=aiM
abbrev afA:=cP "prime_above" 2 ["number"] aje
inductive aut(vs:List V)(H:Hp)(Q:VK)(E:XK):Prop|mk (P:Nat) (a:Int) (bZ:vs=[.int P,.int a]) (bV:Om.cG P) (cB:P<2097152) (cM:0<a) (cQ:a<(P:Int)) (dJ:∀x:Int,0<=x->x<2097152->x%(P:Int)=a^(P-2)%(P:Int)->Q (.int x) H)
def amN:Sp:=aut
abbrev W7:=cP "inverse" 2 ["prime","number"] amN
inductive aiQ(vs:List V)(H:Hp)(Q:VK)(E:XK):Prop|mk (P:Nat) (one other:Int) (bZ:vs=[.int P,.int one,.int other]) (bV:Om.cG P) (cB:P<2097152) (cM:0<other) (cQ:other<(P:Int)) (dJ:Q (.int (one*other^(P-2)%(P:Int))) H)
def auJ:Sp:=aiQ
abbrev Bp:=cP "over" 3 ["by","one","other"] auJ
inductive amg(K:aF)(vs:List V)(H:Hp)(Q:VK)(E:XK):Prop|mk (l:Addr) (xs:List Int) (bZ:vs=[.ref l]) (bV:au K H l (xs.map V.int)) (cB:v9 H Q (Pm.trim xs))
def alb(K:aF):Sp:=amg K
abbrev Cu(P w K mg base):=iU P w K mg base "trimmed" 1 ["numbers"] (alb K)
inductive akD(vs:List V)(H:Hp)(Q:VK)(E:XK):Prop|mk (b:Int) (a c:Addr) (p r:List Int) (bZ:vs=[.int b,.ref a,.ref c]) (bV:0<=b) (cB:H a=some (.tup (p.map V.int))) (cM:H c=some (.tup (r.map V.int))) (cQ:p.length<=400) (dJ:r.length<=400) (iV:(∀x∈p,Rm.Bd 1000000 x)) (jz:(∀x∈r,Rm.Bd 1000000 x)) (kJ:v9 H Q (Pm.mul b p r))
def ama:Sp:=akD
abbrev ae1:=cP "times" 2 ["by","one","other"] ama
def ahA(H:Hp)(Q:VK)(b:Int)(P M:List Int):Prop:=∀t x y q r H',Same H H'->H' t=some (.tup [.ref x,.ref y])->H' x=some (.tup (m9 V.int q))->H' y=some (.tup (m9 V.int r))->Pm.Div b P M q r->
 (∀z∈q,Rm.Bd 5300000 z)->(∀z∈r,Rm.Bd 5300000 z)->q.length<=P.length->Q (.ref t) H'
inductive akW(vs:List V)(H:Hp)(Q:VK)(E:XK):Prop|mk (b:Int) (a c:Addr) (P M:List Int) (bZ:vs=[.int b,.ref a,.ref c]) (bV:0<=b) (cB:b<2097152) (cM:H a=some (.tup (P.map V.int))) (cQ:H c=some (.tup (M.map V.int))) (dJ:P.length<=40) (iV:M.length<=40) (jz:Pm.Mon M) (kJ:(∀k,Rm.tk b (Pm.co P k)=Pm.co P k)) (pq:(∀x∈P,Rm.Bd 300000 x)) (Aw:(∀x∈M,Rm.Bd 124000 x)) (D7:ahA H Q b P M)
def acH:Sp:=akW
def aao{L:List Int}{u:Nat}(h:∀k,Rm.Bd u (Pm.co L k)):∀x∈Pm.trim L,Rm.Bd u x:=λx hx=>by
 obtain⟨k,hk,e⟩:=jq.mp hx;rw[<-e,<-Pm.jo hk,Pm.j5];exact h k
def max_zero(m n:Nat):(if(m:Int)-((n:Int)-1)>0 then(m:Int)-((n:Int)-1)else 0).toNat=m-(n-1)∨n=0:=by
 by_cases h:n=0
 .exact .inr h
 .left;split<;>omega
abbrev DK:=cP "divided" 2 ["by","one","other"] acH
def alp(H:Hp)(Q:VK)(b:Int)(p:List Int):Prop:=∀t m H',Same H H'->H' t=some (.tup (m9 V.int m))->Pm.uH b p m->Q (.ref t) H'
inductive aoc(vs:List V)(H:Hp)(Q:VK)(E:XK):Prop|mk (P:Nat) (a:Addr) (p:List Int) (bZ:vs=[.int P,.ref a]) (bV:Om.cG P) (cB:P<2097152) (cM:H a=some (.tup (p.map V.int))) (cQ:p.length<=300) (dJ:Pm.Py P p) (iV:alp H Q P p)
def at8:Sp:=aoc
abbrev af4:=cP "monic" 4 ["prime","poly"] at8
def ZP(H:Hp)(Q:VK)(b:Int)(p r:List Int):Prop:=∀t g H',Same H H'->H' t=some (.tup (m9 V.int g))->Pm.Gcd b p r g->g.length<=max p.length r.length->Q (.ref t) H'
inductive aqD(vs:List V)(H:Hp)(Q:VK)(E:XK):Prop|mk (P:Nat) (a c:Addr) (p r:List Int) (bZ:vs=[.int P,.ref a,.ref c]) (bV:Om.cG P) (cB:P<2097152) (cM:H a=some (.tup (p.map V.int))) (cQ:H c=some (.tup (r.map V.int))) (dJ:p.length<=40) (iV:r.length<=40) (jz:Pm.Py P p) (kJ:Pm.Py P r) (pq:(r=[]->p≠[])) (Aw:ZP H Q P p r)
def akG:Sp:=aqD
def Um{P:Nat}(h0:2<=P)(h:P<2097152){p:List Int}(hp:Pm.Py P p):∀x∈p,Rm.Bd 124000 x:=λx hx=>by
 have:=hp.nu x hx;rw[Rm.jZ ⋯]at this;rw[<-this];exact Rm.Bd.emod ⋯ ((Rm.Bd.of (n:=21) ⋯ ⋯).mono ∅)
abbrev Td:=cP "greatest" 5 ["by","one","other"] akG
inductive aq1(vs:List V)(H:Hp)(Q:VK)(E:XK):Prop|mk (M x:Int) (bZ:vs=[.int M,.int x]) (bV:0<M) (cB:Q (.int (Pm.nr M x)) H)
def ar0:Sp:=aq1
abbrev Sw:=cP "nearest" 1 ["modulus","number"] ar0
inductive akm(vs:List V)(H:Hp)(Q:VK)(E:XK):Prop|mk (M t:Int) (p:Nat) (s:Int) (bZ:vs=[.int M,.int t,.int p,.int s]) (bV:Om.cG p) (cB:p<2097152) (cM:0<M) (cQ:¬(p:Int)∣M) (dJ:Q (.int (Pm.jn M t p s)) H)
def axk:Sp:=akm
abbrev ab9:=cP "joined" 4 ["modulus","number","prime","rest"] axk
inductive azc(vs:List V)(H:Hp)(Q:VK)(E:XK):Prop|mk (p:Nat) (a:Addr) (P:List Int) (bZ:vs=[.int p,.ref a]) (bV:0<p) (cB:H a=some (.tup (P.map V.int))) (cM:P.length<=100) (cQ:v9 H Q (Pm.trim (P.map (Rm.tk p))))
def ajd:Sp:=azc
abbrev aeh:=cP "taken_poly" 2 ["prime","poly"] ajd
inductive ayi(vs:List V)(H:Hp)(Q:VK)(E:XK):Prop|mk (m a:Addr) (M P:List Int) (bZ:vs=[.ref m,.ref a]) (bV:H m=some (.tup (M.map V.int))) (cB:H a=some (.tup (P.map V.int))) (cM:M.length<=40) (cQ:P.length<=40) (dJ:Pm.Mon M) (iV:(∀x∈M,Rm.Bd 124000 x)) (jz:(∀x∈P,Rm.Bd 300000 x)) (kJ:∀b H',Same H H'->(b=true↔Pm.Dv 0 M (Pm.co P))->Q (.bl b) H')
def akC:Sp:=ayi
abbrev YW:=cP "divides" 3 ["monic_one","poly"] akC
inductive aiq(vs:List V)(H:Hp)(Q:VK)(E:XK):Prop|mk (a c:Addr) (P t g:List Int) (N:Int) (U V':Nat) (bZ:vs=[.ref a,.ref c]) (bV:H a=some (.tup (P.map V.int))) (cB:H c=some (.tup (t.map V.int))) (cM:P.length<=40) (cQ:t.length<=40) (dJ:Pm.Mon P) (iV:(∀x∈P,Rm.Bd 124000 x)) (jz:(∀x∈t,Rm.Bd 300000 x)) (kJ:Pm.vq P (Pm.co t) g N) (pq:Rm.Bd V' N) (Aw:(∀k,Rm.Bd U (Pm.co g k))) (D7:V'+U+57<=9300) (J2:v9 H Q g)
def amL:Sp:=aiq
def Uv(p:Nat)(P:List Int)(k:Nat):Rm.tk (p:Int) (Pm.co (Pm.trim (P.map (Rm.tk p))) k)=Rm.tk p (Pm.co P k):=by
 rw[Pm.j5,Pm.lZ (Pm.tk0 _),Rm.gR]
def afJ(p:Nat)(P:List Int):Pm.Py p (Pm.trim (P.map (Rm.tk p))):=Pm.Py.of λx hx=>by
 obtain⟨y,_,rfl⟩:=bY.mp hx;exact Rm.gR ..
def Zk(p:Nat)(P:List Int):(Pm.trim (P.map (Rm.tk p))).length<=P.length:=by
 have:=Pm.uz (P.map (Rm.tk p))
 rwa [aB]at this
def anY{p:Nat}(hp:Om.cG p){P:List Int}(hP:Pm.Mon P):Pm.trim (P.map (Rm.tk p))≠[]:=λz=>by
 have:=Uv p P (P.length-1);rw[z,Pm.fW,hP.one,Pm.Lz hp,Pm.tk0]at this;exact absurd this ∅
def apT{P g told:List Int}{N M:Int}{prime bad good:Nat}{ripe:Bool}(I:Pm.j8 P g N told M prime ripe bad good)(bP:∀x∈P,Rm.Bd 124000 x)(h:bad+good<=490):∀x∈told,Rm.Bd 124000 x:=λx hx=>by
 by_cases c:M=1
 .rw[I.first c]at hx;exact bP x hx
 .obtain⟨k,hk,e⟩:=jq.mp hx;have n:=I.near c k;rw[Pm.jo hk,e]at n;unfold Pm.Nr at n;have h1:=I.hi;have h2:(2:Int)^(21*(bad+good))<=2^123900:=by exact_mod_cast wJ (n:=2) ∅ (show 21*(bad+good)<=123900 by omega)
  have h3:M<=2^123900:=Wn h1 h2;have hpos:=I.pos;refine(show Rm.Bd 123900 x from ?_).mono ∅;generalize hB:(2:Int)^123900=B at h3;have h4:-B<x/\x<B:=⋯;unfold Rm.Bd;have h5:(x.natAbs:Int)<((2^123900:Nat):Int):=by
   rw[Zn];show(x.natAbs:Int)<(2:Int)^123900;rw[hB];omega
  exact_mod_cast h5
def aaJ(H:Hp)(a c:Addr)(P' g:List Int)(N:Int)(m:Nat)(σ':St)(H':Hp):Prop:=∃(o6 o7:Option V) (tt:Addr) (told:List Int) (M:Int) (prime:Nat) (ripe:Bool) (bad good:Nat),m=500-(bad+good)/\σ'=[some (.ref a),some (.ref c),some (.ref tt),some (.int M),some (.int (prime:Int)),some (.bl ripe),o6,o7]/\Same H H'/\H' tt=some (.tup (told.map V.int))/\Pm.j8 P' g N told M prime ripe bad good/\Om.Many (500-(bad+good)) prime/\1000000<=prime/\bad+good<=490
abbrev afM:=cP "whole_greatest" 6 ["one","other"] amL
inductive ar6(vs:List V)(H:Hp)(Q:VK)(E:XK):Prop|mk (b:Int) (a:Addr) (c:List Int) (bZ:vs=[.int b,.ref a]) (bV:0<=b) (cB:H a=some (.tup (c.map V.int))) (cM:c.length<=100) (cQ:v9 H Q (Pm.aV b c))
def as9:Sp:=ar6
abbrev R5:=cP "of_rule" 2 ["by","rule"] as9
inductive aue(vs:List V)(H:Hp)(Q:VK)(E:XK):Prop|mk (b:Int) (a:Addr) (p:List Int) (bZ:vs=[.int b,.ref a]) (bV:0<=b) (cB:H a=some (.tup (p.map V.int))) (cM:0<p.length) (cQ:p.length<=100) (dJ:v9 H Q (Pm.fO b p))
def aqF:Sp:=aue
abbrev Nf:=cP "rule_of" 2 ["by","poly"] aqF
def anR{lo:Int}{n:Nat}{ix:List (Option Nat)}{te:TE}{σ:St}{H1:Hp}{Q:VK}(hz:n<=1000){rest:St}(hst:cst ix σ=none::rest)(f:Nat->Int)
  (he:∀H' k,Same H1 H'->k<n->∀kk:VK,kk (.int (f k)) H'->te (some (.int (lo+(k:Int)))::rest) H' kk)
  (hQ:∀D,H1 D=none->Q (.ref D) (upd H1 D (.lst ((Pm.aM n f).map V.int)))):jN ix (iD 0) lA te σ Q (mZ lo n) H1:=by
 refine qT zq (by rw[aB,mR];exact gC (dZ hz)) hst (λ_=>true) (λx=>match x with | .int k=> .int (f (k-lo).toNat)|_=> .non) ?_ ?_ ?_
 .intro H2 x g2 hx k hk;exact hk
 .intro H2 x g2 hx _ k hk;obtain⟨j,hj,rfl⟩:=bY.mp hx;have e1:(lo+(j:Int)-lo).toNat=j:=⋯;refine he H2 j g2 (iT.mp hj) k ?_;have hk':k (V.int (f (lo+(j:Int)-lo).toNat)) H2:=hk
  rwa [e1]at hk'
 .intro D hD;have el:((((fj n).map λi=>V.int (lo+(i:Nat))).filter λ_=>true).map λx=>match x with | .int k=>V.int (f (k-lo).toNat)|_=>V.non)=(Pm.aM n f).map V.int:=by
   rw[sW.mpr (by simp),cR,Pm.aM,cR];refine lJ λk _=>?_;show V.int (f (lo+(k:Int)-lo).toNat)=V.int (f k);rw[show(lo+(k:Int)-lo).toNat=k by omega]
  rw[el];exact hQ D hD
def ai9:(Om.nj.all λp=>(fj 32).all λd=>decide (d<2)||decide (p<d*d)||decide (p%d≠0))=true:=by decide +kernel
def aiZ{P:Nat}(h:P∈Om.nj):Om.cG P:=by
 have hr:=zN P h;refine Om.KR hr.1 λd hd hdd hdv=>?_;have h32:d<32:=by
  by_cases c:d<32
  .exact c
  .have:32*32<=d*d:=ig ⋯ ⋯;omega
 have:=mq.mp (mq.mp ai9 P h) d (iT.mpr h32);simp only[uD,decide_eq_true_eq]at this;have:=WC hdv;omega
def qG(r:Rw):List Int:=Pm.trim (Pm.aM r.rule.length λk=>Rm.tk r.b (Pm.tp (Pm.aV r.b r.rule) r.at k))
def Oa(r:Rw)(k:Nat):Pm.co (qG r) k=Rm.tk r.b (Pm.tp (Pm.aV r.b r.rule) r.at k):=by
 rw[qG,Pm.j5,Pm.cX];by_cases c:k<r.rule.length
 .rw[if_pos c]
 .rw[if_neg c,Pm.yM _ _ k (by rw[Pm.kI];omega),Pm.tk0]
def aly(r:Rw):(qG r).length<=r.rule.length:=by
 have:=Pm.uz (Pm.aM r.rule.length λk=>Rm.tk r.b (Pm.tp (Pm.aV r.b r.rule) r.at k))
 rwa [Pm.cA]at this
def jB.C9{r:Rw}(ok:jB r):∀x∈Pm.aV r.b r.rule,Rm.Bd 60000 x:=Pm.aaT ok.oO ok.Cy ∅ ok.Ak
def amF{r:Rw}(ok:jB r):∀x∈qG r,Rm.Bd 300000 x:=λx hx=>by
 obtain⟨k,_,rfl⟩:=Pm.vU (Pm.MS hx);refine Rm.pJ ok.oO ((Rm.Bd.of (n:=10) (by have:=ok.oO;omega) (by have:=ok.Cy;omega)).mono ∅) ?_;have hs:=ok.short;have hl:=ok.len;unfold Pm.tp;rw[Pm.kI,fR];refine(Pm.zQ (c:=63000) _ λi hi=>?_).mono ⋯;refine(Rm.Bd.mul (m:=60000) (n:=3000) (Pm.jA ok.C9 _) ?_).mono ⋯;have e:r.at i=r.starts.getD i 0:=Rm.sS ⋯;rw[e];exact Rm.Bd.getD ok.Gr _
inductive atM(vs:List V)(H:Hp)(Q:VK)(E:XK):Prop|mk (v:V) (r:Rw) (a:Addr) (bZ:vs=[v,.ref a]) (bV:iu H v r) (cB:jB r) (cM:H a=some (.tup ((Pm.aV r.b r.rule).map V.int))) (cQ:v9 H Q (qG r))
def auH:Sp:=atM
abbrev Yj:=cP "top_of" 2 ["row","poly"] auH
inductive aop(vs:List V)(H:Hp)(Q:VK)(E:XK):Prop|mk (b:Int) (a c:Addr) (P t:List Int) (bZ:vs=[.int b,.ref a,.ref c]) (bV:H a=some (.tup (P.map V.int))) (cB:H c=some (.tup (t.map V.int))) (cM:P.length<=40) (cQ:t.length<=40) (dJ:Pm.Mon P) (iV:(∀x∈P,Rm.Bd 124000 x)) (jz:(∀x∈t,Rm.Bd 300000 x)) (kJ:((b=0/\∃(g:List Int) (N:Int) (U V':Nat),Pm.vq P (Pm.co t) g N/\Rm.Bd V' N/\(∀k,Rm.Bd U (Pm.co g k))/\V'+U+57<=9300/\v9 H Q g)∨
 (∃p:Nat,b=(p:Int)/\Om.cG p/\p<2097152/\Pm.Py p P/\Pm.Py p t/\ZP H Q p P t)))
def al6:Sp:=aop
abbrev acX:=cP "shared_divisor" 7 ["by","one","other"] al6
structure jQ(b:Int)(f:Nat->Int)(L:List Int):Prop where
 mon:Pm.Mon L
 nu:∀k,Rm.tk b (Pm.co L k)=Pm.co L k
 kp:Pm.Kp b L f
 all:∀q,Pm.Kp b q f->Pm.Dv b L (Pm.co q)
def Tame(r:Rw):Prop:=r.b=0->∃d ua u:Nat,10<=u/\(∀x∈r.rule,Rm.Bd u x)/\(∃Q0,Pm.Mon Q0/\Pm.Kp 0 Q0 r.at/\Q0.length<=d+1)/\(∀n,n<=2*d->Rm.Bd ua (r.at n))/\(∀L,jQ 0 r.at L->∀k,Rm.Bd 20 (Pm.co L k))/\d<=10/\d*(ua+d)+1+(u+800)+57<=9300
def jB.kp{r:Rw}(ok:jB r):Pm.Kp r.b (Pm.aV r.b r.rule) r.at:=Pm.Kp.aV (Pm.PD ok.len)
def agF{b:Int}{L:List Int}(h:Pm.Mon L)(hn:∀k,Rm.tk b (Pm.co L k)=Pm.co L k):Pm.Py b L:=⟨Pm.vR (λz=>by have:=h.pos;rw[z]at this;exact absurd this ∅) (by rw[h.one];decide),λx hx=>by
 obtain⟨k,hk,e⟩:=jq.mp hx;have:=hn k
 rwa [Pm.jo hk,e]at this⟩
def amf(b:Int)(c:List Int)(h1:Rm.tk b 1=1)(k:Nat):Rm.tk b (Pm.co (Pm.aV b c) k)=Pm.co (Pm.aV b c) k:=by
 have h:∀x∈Pm.aV b c,Rm.tk b x=x:=λx hx=>by
  rcases fP.mp hx with hx|hx
  .obtain⟨j,_,e⟩:=Pm.vU hx;rw[e,Rm.gR]
  .rw[eE.mp hx,h1]
 by_cases hk:k<(Pm.aV b c).length
 .exact h _ (Pm.tE hk)
 .rw[Pm.aX ⋯,Pm.tk0]
def aoo{p:Nat}(hp:Om.cG p){r:Rw}(ok:jB r)(hb:r.b=(p:Int)){g L o:List Int}(hG:Pm.Gcd p (Pm.aV r.b r.rule) (qG r) g)(D:Pm.Div p (Pm.aV r.b r.rule) g o L):jQ r.b r.at o/\o.length<=r.rule.length+1:=by
 have h1:=Pm.Lz hp;have hm:=Pm.C6 r.b r.rule;have hd:Pm.Dv p g (Pm.co (Pm.aV r.b r.rule)):=hG.one.to λ_=>rfl;obtain⟨L',hL',hn',hl',e'⟩:=Pm.yG h1 hm hG.mon hd;have D':Pm.Div p (Pm.aV r.b r.rule) g L' []:=⟨agF hL' hn',Pm.Py.nil _,hG.mon.pos,λk=>by rw[Pm.fW,dj];exact(e' k).symm⟩;obtain⟨eo,_⟩:=D.uniq hG.mon D';subst eo;have W:Pm.OL p (Pm.aV p r.rule) (Pm.tp (Pm.aV p r.rule) r.at) g:=by
  rw[<-hb];refine⟨hG.mon,by rw[hb];rw[hb]at hd;exact hd,?_,?_⟩
  .rw[hb];refine(hG.two.to (q:=qG r) λ_=>rfl).congr λk=>?_;rw[Oa,hb,Rm.gR]
  .obtain⟨u,v,e⟩:=hG.sum;refine⟨1,Pm.co u,Pm.co v,u.length+v.length,by rw[hb,h1];decide,(Pm.Fs.co u).mono ⋯,(Pm.Fs.co v).mono ⋯,λk=>?_⟩;rw[iG,hb];rw[hb]at e;rw[e k];refine Rm.jx rfl (Pm.iM (λ_ _=>rfl) λi _=>?_);rw[Oa,hb,Rm.gR]
 have ha:∀n,r.rule.length<=n->Rm.tk (p:Int) (r.at n)=Rm.tk p (Rm.S r.rule r.at n r.rule.length):=by
  rw[<-hb];exact Pm.PD ok.len
 have K:=W.keeps (Dm.Dom.pr hp) ha hL' (by rw[<-hb];rw[<-hb]at e';exact e');refine⟨⟨hL',by rw[hb];exact hn',?_,λq hq=>?_⟩,?_⟩
 .rw[hb];refine(K o).mpr ⟨λk=>if k=0 then 1 else 0,1,λk hk=>if_neg ⋯,λk=>?_⟩;rw[Pm.BL,if_pos (cD _),iG,vm]
 .rw[hb]at hq ⊢;exact(K q).mp hq
 .have:=hG.mon.pos;rw[Pm.kI]at hl';omega
inductive aoB(vs:List V)(H:Hp)(Q:VK)(E:XK):Prop|mk (v:V) (r:Rw) (bZ:vs=[v]) (bV:iu H v r) (cB:jB r) (cM:pB r.b) (cQ:Tame r) (dJ:∀t L H',Same H H'->H' t=some (.tup (m9 V.int L))->jQ r.b r.at L->L.length<=r.rule.length+1->Q (.ref t) H')
def aoO:Sp:=aoB
abbrev QF:=cP "least_of" 8 ["row"] aoO
def iB(r:Rw)(L:List Int):Rw:=⟨r.b,Pm.fO r.b L,r.starts.take (L.length-1)⟩
inductive amA(vs:List V)(H:Hp)(Q:VK)(E:XK):Prop|mk (v:V) (r:Rw) (bZ:vs=[v]) (bV:iu H v r) (cB:jB r) (cM:pB r.b) (cQ:Tame r) (dJ:∀v' L H',Same H H'->iu H' v' (iB r L)->jQ r.b r.at L->L.length<=r.rule.length+1->Q v' H')
def aml:Sp:=amA
abbrev QT:=cP "shortest" 9 ["row"] aml
inductive asv(K:aF)(vs:List V)(H:Hp)(Q:VK)(E:XK):Prop|mk (b:Int) (l:Addr) (p:List Int) (bZ:vs=[.int b,.ref l]) (bV:0<=b) (cB:H l=some (.lst (p.map V.int))) (cM:p.length<=1000) (cQ:Told H Q ((p.map (Rm.tk b)).map V.int))
def awr(K:aF):Sp:=asv K
abbrev afq(P w K mg base):=iU P w K mg base "line_taken" 2 ["by","line"] (awr K)
inductive akA(vs:List V)(H:Hp)(Q:VK)(E:XK):Prop|mk (ll:Addr) (xs:List V) (L:List (List Int)) (W r c:Nat) (cI:Int) (ex:List Addr) (bZ:vs=[.ref ll,.int r,.int cI]) (bV:cI=(c:Int)) (cB:H ll=some (.lst xs)) (cM:cF H ex xs L) (cQ:(∀i,i<L.length->(Dm.ln L i).length=W)) (dJ:c<W) (iV:L.length<=1000) (jz:r<=L.length) (kJ:(∀a:Nat,r<=a->a<L.length->Pm.co (Dm.ln L a) c≠0->Q (.int a) H)) (pq:((∀i,r<=i->i<L.length->Pm.co (Dm.ln L i) c=0)->Q .non H))
def ajW:Sp:=akA
abbrev XU:=cP "head_line" 1 ["lines","begin","column"] ajW
def Brt(b:Int)(L L':List (List Int))(a r:Nat):Prop:=(a=r/\L'=L)∨(r<a/\L'.length=L.length/\Dm.ln L' r=Dm.ln L a/\Dm.ln L' a=(Dm.ln L r).map (λx=>Rm.tk b (0-x))/\∀i,i≠r->i≠a->Dm.ln L' i=Dm.ln L i)
inductive asN(vs:List V)(H:Hp)(Q:VK)(E:XK):Prop|mk (b:Int) (ll:Addr) (xs:List V) (L:List (List Int)) (a r:Nat) (ex:List Addr) (bZ:vs=[.int b,.ref ll,.int a,.int r]) (bV:0<=b) (cB:H ll=some (.lst xs)) (cM:cF H ex xs L) (cQ:ll∈ex) (dJ:Stand H ex) (iV:r<=a) (jz:a<L.length) (kJ:(∀i,i<L.length->(Dm.ln L i).length<=1000)) (pq:∀xs' L' H',Keep ll H H'->H' ll=some (.lst xs')->cF H' ex xs' L'->Brt b L L' a r->Q .non H')
def ayc:Sp:=asN
abbrev aaz:=cP "bring_up" 2 ["by","lines","at","top"] ayc
def ToldF(H:Hp)(Q:VK)(b last pv fa:Int)(p r:List Int):Prop:=∀t m H',Same H H'->H t=none->H' t=some (.lst (m9 V.int m))->m.length=p.length->(∀k,k<p.length->Pm.co m k=Rm.tk b (Pm.co m k)/\Rm.tk b (last*Pm.co m k)=Rm.tk b (pv*Pm.co p k-fa*Pm.co r k))->Q (.ref t) H'
inductive ayD(vs:List V)(H:Hp)(Q:VK)(E:XK):Prop|mk (b last:Int) (l1 l2:Addr) (p r:List Int) (c:Nat) (cI:Int) (bZ:vs=[.int b,.ref l1,.ref l2,.int cI,.int last]) (bV:cI=(c:Int)) (cB:b=0) (cM:H l1=some (.lst (p.map V.int))) (cQ:H l2=some (.lst (r.map V.int))) (dJ:p.length=r.length) (iV:c<p.length) (jz:p.length<=1000) (kJ:last≠0) (pq:last=Rm.tk b last) (Aw:Rm.Bd 8000 last) (D7:(∀x∈p,Rm.Bd 1000000 x)) (J2:(∀x∈r,Rm.Bd 1000000 x)) (aen:(b=0->∀k,k<p.length->∃e,Pm.co r c*Pm.co p k-Pm.co p c*Pm.co r k=last*e)) (azs:ToldF H Q b last (Pm.co r c) (Pm.co p c) p r)
def au0:Sp:=ayD
def atl{x:Int}{n:Nat}(h0:x≠0)(h:Rm.Bd n x):x.natAbs.log2<n:=(OD ⋯).mpr h
abbrev VW:=cP "freed" 4 ["by","line","head","column","last"] au0
def NV(b:Int)(n W u:Nat)(A0:Nat->Nat->Int):Prop:=∀c A hd r L last,c<=W->Dm.dD b n W u A0 c A hd r L last->Rm.Bd 8000 last/\∀i,i<n->∀x∈Dm.ln L i,Rm.Bd 8000 x
def arU{b:Int}(hB:pB b){n W u l:Nat}{A0:Nat->Nat->Int}(h:∀c A hd r L last,c<=W->Dm.dD b n W u A0 c A hd r L last->r<=l)(hu:(l+1)*(u+(l+1))+1<=8000):NV b n W u A0:=λc A hd r L last hcw I=>by
 obtain⟨hb0,hb1,_⟩:=hB.range;have hr:=h c A hd r L last hcw I;have bb:Rm.Bd 8000 b:=(Rm.Bd.of (n:=10) ⋯ ⋯).mono ∅;have z1:r*(u+r)<=(l+1)*(u+(l+1)):=ig ⋯ ⋯;have z2:(r+1)*(u+(r+1))<=(l+1)*(u+(l+1)):=ig ⋯ ⋯;refine⟨?_,λi hi x hx=>?_⟩
 .rw[I.la];exact Rm.pJ hb0 bb ((Dm.AH (u:=u) λi' k' _ _=>I.sZ _ _).mono ⋯)
 .obtain⟨k,hk,e⟩:=jq.mp hx;rw[<-e,<-Pm.jo hk,I.en i k hi (by rw[<-I.wd i hi];exact hk)];exact Rm.pJ hb0 bb ((I.bdE i k).mono ⋯)
inductive ayY(vs:List V)(H:Hp)(Q:VK)(E:XK):Prop|mk (b:Int) (wide:Nat) (ll:Addr) (xs:List V) (L:List (List Int)) (W u:Nat) (ex:List Addr) (bZ:vs=[.int b,.int wide,.ref ll]) (bV:b=0) (cB:H ll=some (.lst xs)) (cM:cF H ex xs L) (cQ:ll∈ex) (dJ:Stand H ex) (iV:wide<=W) (jz:W<=100) (kJ:L.length<=30) (pq:NV b L.length W u (λi k=>Pm.co (Dm.ln L i) k)) (Aw:(∀i,i<L.length->(Dm.ln L i).length=W)) (D7:(∀i k,Rm.tk b (Pm.co (Dm.ln L i) k)=Pm.co (Dm.ln L i) k)) (J2:(∀i k,Rm.Bd u (Pm.co (Dm.ln L i) k))) (aen:∀t th A hd r L' last xs' H',Keep ll H H'->H' t=some (.tup [.ref th,.int last])->H' th=some (.lst ((Pm.aM r λh=>((hd h:Nat):Int)).map V.int))->H' ll=some (.lst xs')->cF H' ex xs' L'->Dm.dD b L.length W u (λi k=>Pm.co (Dm.ln L i) k) wide A hd r L' last->Q (.ref t) H')
def ay1:Sp:=ayY
abbrev aeA:=cP "clear" 5 ["by","wide","lines"] ay1
def an4{J:It}{xs:List V}{ix:List (Option Nat)}{te:TE}{σ:St}{H1:Hp}{Q:VK}(I:qC J xs H1)(hz:xs.length<=sizeLine){rest:St}(hst:cst ix σ=none::rest)(F:V->V)
  (he:∀(H':Hp) (x:V),Same H1 H'->x∈xs->∀k:VK,(∀H2,Same H' H2->k (F x) H2)->te (some x::rest) H' k)
  (hQ:∀D H',H1 D=none->Same H1 H'->H' D=some (.lst (xs.map F))->Q (.ref D) H'):
  jN ix (iD 0) lA te σ Q J H1:=by
 constructor;intro D hD;refine⟨λi m σ' H'=>m=xs.length-i/\i<=xs.length/\(∃o,σ'=o::rest)/\Same H1 H'/\H' D=some (.lst ((xs.take i).map F)),⟨xs.length,by simp,cD _,⟨none,hst⟩,Same.new hD _,by rw[aC];rfl⟩,?_⟩;rintro i m σ' H' ⟨rfl,hi,⟨o,rfl⟩,g,hl⟩;by_cases hlt:i<xs.length
 .refine .inr ⟨I.go i _ g hlt,λx H2 y=>?_⟩;obtain⟨rfl,hx⟩:=I.jM i _ x H2 g y;have hx:=hx hlt;have hm:x∈xs:=List.mem_of_getElem? hx;have et:xs.take (i+1)=xs.take i++[x]:=by rw[pL,hx];rfl
  change te (some x::rest) H2 _;refine he H2 x g hm _ λH3 g3=>⟨_,g3 _ _ hl,by rw[aB,iZ];omega,xs.length-(i+1),⋯,rfl,hlt,⟨_,rfl⟩,Same.upd (g.trans g3) hD _,?_⟩;rw[aC,et,fZ];rfl
 .have e:i=xs.length:=⋯;subst e;rw[mF]at hl;exact .inl ⟨I.stop _ _ g (aN _),hQ D H' hD g hl⟩
def afc{J:It}{xs:List V}{ix:List (Option Nat)}{te:TE}{σ:St}{H1:Hp}{Q:VK}(I:qC J xs H1)(hz:xs.length<=1000){rest:St}(hst:cst ix σ=none::rest)(G:V->List Int)
  (he:∀(H':Hp) (x:V),Same H1 H'->x∈xs->∀k:VK,(∀t' H2,Same H' H2->H' t'=none->H2 t'=some (.lst ((G x).map V.int))->k (.ref t') H2)->te (some x::rest) H' k)
  (hQ:∀D ys H',H1 D=none->Same H1 H'->H' D=some (.lst ys)->cF H' [D] ys (xs.map G)->Q (.ref D) H'):
  jN ix (iD 0) lA te σ Q J H1:=by
 constructor;intro D hD;refine⟨λi m σ' H'=>m=xs.length-i/\i<=xs.length/\(∃o,σ'=o::rest)/\Same H1 H'/\∃ys,H' D=some (.lst ys)/\cF H' [D] ys ((xs.take i).map G),⟨xs.length,by simp,cD _,⟨none,hst⟩,Same.new hD _,[],aC,.nil⟩,?_⟩;rintro i m σ' H' ⟨rfl,hi,⟨o,rfl⟩,g,ys,hl,hy⟩;by_cases hlt:i<xs.length
 .refine .inr ⟨I.go i _ g hlt,λx H2 y=>?_⟩;obtain⟨rfl,hx⟩:=I.jM i _ x H2 g y;have hx:=hx hlt;have hm:x∈xs:=List.mem_of_getElem? hx;have et:xs.take (i+1)=xs.take i++[x]:=by rw[pL,hx];rfl
  change te (some x::rest) H2 _;refine he H2 x g hm _ λt' H3 g3 hn h3=>⟨ys,g3 _ _ hl,?_,xs.length-(i+1),⋯,rfl,hlt,⟨_,rfl⟩,Same.upd (g.trans g3) hD _,ys++[.ref t'],aC,?_⟩
  .have:=hy.len;rw[aB,iZ]at this;have:=dZ hz;omega
  .have tD:t'∉[D]:=λz=>by
    rw[eE.mp z,hl]at hn;cases hn
   rw[et,fZ];exact(cF.append tD h3 (hy.same g3)).keep (eE.mpr rfl) (Keep.upd D H3 _)
 .have e:i=xs.length:=⋯;subst e;rw[mF]at hy;exact .inl ⟨I.stop _ _ g (aN _),hQ D ys H' hD g hl hy⟩
def ao9{T:List (List Int)}{i:Nat}(h:i<T.length):Dm.ln T i∈T:=by
 unfold Dm.ln;rw[List.getD_eq_getElem?_getD,List.getElem?_eq_getElem h];exact wA h
def Fw(f:Nat->List Int):V->List Int
 |.int k=>f k.toNat
 |_=>[]
def aus{K:aF}{a:Addr}{xs:List V}{ps:List (List Int)}{ex:List Addr}{ix:List (Option Nat)}{te:TE}{σ:St}{H1:Hp}{Q:VK}(hA:H1 a=some (.lst xs))(hp:cF H1 ex xs ps)(hz:xs.length<=1000){rest:St}(hst:cst ix σ=none::rest)(G:List Int->V)
  (he:∀(H':Hp) (t:Addr) (p:List Int),Same H1 H'->p∈ps->H' t=some (.lst (p.map V.int))->∀k:VK,(∀H2,Same H' H2->k (G p) H2)->te (some (.ref t)::rest) H' k)
  (hQ:∀D H',H1 D=none->Same H1 H'->H' D=some (.lst (ps.map G))->Q (.ref D) H'):
  jN ix (iD 0) lA te σ Q (nY K a) H1:=by
 have I:=wG (K:=K) (au.of hA);have lx:=hp.len;constructor;intro D hD;refine⟨λi m σ' H'=>m=xs.length-i/\i<=xs.length/\(∃o,σ'=o::rest)/\Same H1 H'/\H' D=some (.lst ((ps.take i).map G)),⟨xs.length,by simp,cD _,⟨none,hst⟩,Same.new hD _,aC⟩,?_⟩;rintro i m σ' H' ⟨rfl,hi,⟨o,rfl⟩,g,hl⟩;by_cases hlt:i<xs.length
 .refine .inr ⟨I.go i _ g hlt,λx H2 y=>?_⟩;obtain⟨rfl,hx⟩:=I.jM i _ x H2 g y;have hx:=hx hlt;obtain⟨t,e1,_,e2⟩:=hp.get (show i<ps.length by omega);rw[e1]at hx;cases hx;have hpi:ps[i]?=some (Dm.ln ps i):=by
   unfold Dm.ln;rw[List.getD_eq_getElem?_getD,List.getElem?_eq_getElem ⋯];rfl
  have et:ps.take (i+1)=ps.take i++[Dm.ln ps i]:=by rw[pL,hpi];rfl
  change te (some (.ref t)::rest) H2 _;refine he H2 t (Dm.ln ps i) g (List.mem_of_getElem? hpi) (g _ _ e2) _ λH3 g3=>⟨_,g3 _ _ hl,?_,xs.length-(i+1),⋯,rfl,hlt,⟨_,rfl⟩,Same.upd (g.trans g3) hD _,?_⟩
  .rw[aB,iZ];have:=dZ hz;omega
  .rw[aC,et,fZ];rfl
 .have e:i=xs.length:=⋯;subst e;rw[lx,mF]at hl;exact .inl ⟨I.stop _ _ g (aN _),hQ D H' hD g hl⟩
def CY(x:Int):(if x<0 then -x else x)=(x.natAbs:Int):=by split<;>omega
inductive ayt(vs:List V)(H:Hp)(Q:VK)(E:XK):Prop|mk (x y:Int) (bZ:vs=[.int x,.int y]) (bV:Q (.int (j6 x.natAbs y.natAbs:Nat)) H)
def anU:Sp:=ayt
abbrev agR:=cP "common_divisor" 1 ["one","other"] anU
def axd{bt:Int}{ts:List Int}(h0:bt≠0)(h:Rm.Bd 8000 bt):(Lm.low bt ts).natAbs.log2<9000:=by
 have n0:=Lm.low_ne h0 ts;refine vJ ((OD (n:=(Lm.low bt ts).natAbs) (k:=8000) ⋯).mpr ?_) ∅;refine qp ?_ h;have d:(Lm.low bt ts).natAbs∣bt.natAbs:=Ul.mpr (Lm.abG bt ts);exact pH ⋯ d
inductive axb(vs:List V)(H:Hp)(Q:VK)(E:XK):Prop|mk (bt:Int) (l:Addr) (ts:List Int) (bZ:vs=[.int 0,.int bt,.ref l]) (bV:bt≠0) (cB:H l=some (.lst (ts.map V.int))) (cM:ts.length<=100) (cQ:Rm.Bd 8000 bt) (dJ:∀t lt bot us H',Same H H'->H' t=some (.tup [.int bot,.ref lt])->H' lt=some (.lst (m9 V.int us))->H lt=none->Dm.Low 0 bt ts bot us->Q (.ref t) H')
def ala:Sp:=axb
abbrev Mi:=cP "lowest" 4 ["by","bottom","tops"] ala
theorem cF.drop{H:Hp}{ex:List Addr}:∀{xs:List V} {ps:List (List Int)} (r:Nat),cF H ex xs ps->cF H ex (xs.drop r) (ps.drop r)
 |_,_,0,h=>h
 |_,_,_+1,.nil=> .nil
 |_,_,r+1,.cons _ _ h=>cF.drop r h
def X6{L:List (List Int)}{r:Nat}{p:List Int}(h:p∈L.drop r):∃i,r<=i/\i<L.length/\p=Dm.ln L i:=by
 obtain⟨j,hj,e⟩:=jq.mp h;rw[oU]at hj;refine⟨r+j,⋯,⋯,?_⟩;unfold Dm.ln;rw[List.getD_eq_getElem?_getD,List.getElem?_eq_getElem ⋯,<-e,ad8];rfl
def ap4{L:List (List Int)}{r i:Nat}(h1:r<=i)(h2:i<L.length):Dm.ln L i∈L.drop r:=by
 refine jq.mpr ⟨i-r,by rw[oU];omega,?_⟩;unfold Dm.ln;rw[ad8,List.getD_eq_getElem?_getD,List.getElem?_eq_getElem h2];simp only[Option.getD_some];congr 1;omega
def anu(b:Int)(L:List (List Int))(ws:List Int):(((fj L.length).map λi=>V.int (0+(i:Nat))).map (Fw λi=>(Dm.ln L i++[Pm.co ws i]).map (Rm.tk b)))=Dm.pG b L ws:=by
 rw[Dm.pG,cR];refine lJ λi _=>?_;show(Dm.ln L (0+(i:Int)).toNat++_).map _=_;rw[show(0+(i:Int)).toNat=i by omega]
def Vh(b:Int)(n W u:Nat)(A:Nat->Nat->Int):Prop:=10<=u/\NV b n W u A
def Ot:Sp:=λ_ _ _ _=>False
abbrev Z0:=cP "free_numbers" 5 ["by","wide","lines","heads","last"] Ot
inductive atA(vs:List V)(H:Hp)(Q:VK)(E:XK):Prop|mk (u wide:Nat) (ta tw:Addr) (xs:List V) (L:List (List Int)) (ws:List Int) (ex:List Addr) (bZ:vs=[.int 0,.int wide,.ref ta,.ref tw]) (bV:H ta=some (.lst xs)) (cB:cF H ex xs L) (cM:H tw=some (.lst (ws.map V.int))) (cQ:ws.length=L.length) (dJ:L.length<=30) (iV:wide<=60) (jz:Vh 0 L.length (wide+1) u (Dm.aug 0 L ws)) (kJ:(∀i,i<L.length->(Dm.ln L i).length=wide)) (pq:(∀p∈L,∀x∈p,Rm.Bd u x)) (Aw:(∀x∈ws,Rm.Bd u x)) (D7:(∃x bt,Rm.tk 0 bt≠0/\Dm.gZ 0 L.length wide (Dm.aug 0 L ws) x bt)) (J2:Dm.sH 0 L.length wide (Dm.aug 0 L ws)) (aen:(∀bot us,Dm.wZ u 0 L.length wide (Dm.aug 0 L ws) bot us->∀t lt H',Same H H'->H' t=some (.tup [.str ("one" : Str),.int bot,.ref lt])->H' lt=some (.lst (m9 V.int us))->Q (.ref t) H'))
def alO:Sp:=atA
abbrev Qp:=cP "solution" 6 ["by","wide","table","wished"] alO
inductive cO(H:Hp):List V->List (List Int)->Prop
 |nil:cO H [] []
 |cons {t:Addr} {p:List Int} {xs:List V} {ps:List (List Int)}:H t=some (.tup (p.map V.int))->cO H xs ps->cO H (.ref t::xs) (p::ps)
theorem cO.up{H H':Hp}(g:∀b ts,H b=some (.tup ts)->H' b=some (.tup ts)):∀{xs:List V} {ps:List (List Int)},cO H xs ps->cO H' xs ps
 |_,_,.nil=> .nil
 |_,_,.cons h r=> .cons (g _ _ h) (cO.up g r)
def cO.same{H H':Hp}(g:Same H H'){xs:List V}{ps:List (List Int)}(h:cO H xs ps):cO H' xs ps:=h.up λb ts e=>g b _ e
def cO.set{H:Hp}{D:Addr}{ys:List V}{o:HO}(hD:H D=some (.lst ys)){xs:List V}{ps:List (List Int)}(h:cO H xs ps):cO (upd H D o) xs ps:=h.up λb ts e=>by rw[bI λq=>by rw[q,hD]at e;cases e];exact e
theorem cO.len{H:Hp}:∀{xs:List V} {ps:List (List Int)},cO H xs ps->xs.length=ps.length
 |_,_,.nil=>rfl
 |_,_,.cons _ r=>by rw[iQ,iQ,cO.len r]
theorem cO.append{H:Hp}:∀{xs ys:List V} {ps qs:List (List Int)},cO H xs ps->cO H ys qs->cO H (xs++ys) (ps++qs)
 |_,_,_,_,.nil,h=>h
 |_,_,_,_,.cons h r,h'=> .cons h (cO.append r h')
theorem cO.get{H:Hp}:∀{xs:List V} {ps:List (List Int)} {i:Nat} {x:V},cO H xs ps->xs[i]?=some x->∃t p,x = .ref t/\ps[i]?=some p/\H t=some (.tup (p.map V.int))
 |_,_,_,_,.nil,h=>by cases h
 |_,_,0,_,.cons h _,e=>by cases e;exact⟨_,_,rfl,rfl,h⟩
 |_,_,i+1,_,.cons _ r,e=>cO.get (i:=i) r e
def amn{K:aF}{a:Addr}{xs:List V}{ps:List (List Int)}{ix:List (Option Nat)}{tc:TT}{te:TE}{σ:St}{H1:Hp}{Q:VK}(hA:H1 a=some (.lst xs))(hp:cO H1 xs ps)(hz:xs.length<=1000){rest:St}(hst:cst ix σ=none::rest)(pt:List Int->Bool)
  (ht:∀(H':Hp) (t:Addr) (c:List Int),Same H1 H'->c∈ps->H' t=some (.tup (c.map V.int))->∀kk:Bool->Hp->Prop,(∀H2,Same H' H2->kk (pt c) H2)->tc (some (.ref t)::rest) H' kk)
  (he:∀(H':Hp) (t:Addr) (k:VK),k (.ref t) H'->te (some (.ref t)::rest) H' k)
  (hQ:∀D H' ys,H1 D=none->Same H1 H'->H' D=some (.lst ys)->cO H' ys (ps.filter pt)->Q (.ref D) H'):
  jN ix (iD 0) tc te σ Q (nY K a) H1:=by
 have I:=wG (K:=K) (au.of hA);have lx:=hp.len;constructor;intro D hD;refine⟨λi m σ' H'=>m=xs.length-i/\i<=xs.length/\(∃o,σ'=o::rest)/\Same H1 H'/\∃ys,H' D=some (.lst ys)/\ys.length<=i/\cO H' ys ((ps.take i).filter pt),⟨xs.length,by simp,cD _,⟨none,hst⟩,Same.new hD _,[],aC,aN _,.nil⟩,?_⟩;rintro i m σ' H' ⟨rfl,hi,⟨o,rfl⟩,g,ys,hl,hyl,hy⟩;by_cases hlt:i<xs.length
 .refine .inr ⟨I.go i _ g hlt,λx H2 y=>?_⟩;obtain⟨rfl,hx⟩:=I.jM i _ x H2 g y;obtain⟨t,p,rfl,ep,ht'⟩:=hp.get (hx hlt);have et:ps.take (i+1)=ps.take i++[p]:=by rw[pL,ep];rfl
  show tc (some (.ref t)::rest) _ _;refine ht H2 t p g (List.mem_of_getElem? ep) (g _ _ ht') _ λH3 g3=>?_;cases hpt:pt p with
  |true=>
   rw[if_pos rfl];refine he H3 t _ ⟨ys,g3 _ _ hl,?_,xs.length-(i+1),⋯,rfl,hlt,⟨_,rfl⟩,Same.upd (g.trans g3) hD _,ys++[.ref t],aC,by rw[dW];show ys.length+1<=_;omega,?_⟩
   .have:=dZ hz;omega
   .have ef:([p]:List (List Int)).filter pt=[p]:=by simp[hpt]
    rw[et,BQ,ef];exact((hy.same g3).append (.cons (g3 _ _ (g _ _ ht')) .nil)).set (g3 _ _ hl)
  |false=>
   rw[if_neg f9];refine⟨xs.length-(i+1),⋯,rfl,hlt,⟨_,rfl⟩,g.trans g3,ys,g3 _ _ hl,⋯,?_⟩;have ef:([p]:List (List Int)).filter pt=[]:=by simp[hpt]
   rw[et,BQ,ef,xu];exact hy.same g3
 .have e:i=xs.length:=⋯;subst e;rw[lx,mF]at hy;exact .inl ⟨I.stop _ _ g (aN _),hQ D H' ys hD g hl hy⟩
inductive avj(C:Addr)(vs:List V)(H:Hp)(Q:VK)(E:XK):Prop|mk (a:Addr) (P:List Int) (bZ:vs=[.ref a]) (bV:H a=some (.tup (P.map V.int))) (cB:P.length<=40) (cM:((∀x∈P,x.natAbs<1000000)->∀H',Same H H'->Q .non H')) (cQ:((∃x∈P,1000000<=x.natAbs)->∀H',Same H H'->E (.ref C) none H'))
def aw1(C:Addr):Sp:=avj C
abbrev adA(P w K mg base dN):=iU P w K mg base "refuse_big" 1 ["poly"] (aw1 dN)
inductive arF(vs:List V)(H:Hp)(Q:VK)(E:XK):Prop|mk (n:Nat) (bZ:vs=[.int n]) (bV:n<=1000000) (cB:∀l H',Same H H'->H' l=some (.lst ((Pm.divs n).map V.int))->(Pm.divs n).length<=2002->Q (.ref l) H')
def amd:Sp:=arF
abbrev aag:=cP "whole_divisors" 1 ["number"] amd
inductive ajI(vs:List V)(H:Hp)(Q:VK)(E:XK):Prop|mk (a:Addr) (P:List Int) (bZ:vs=[.ref a]) (bV:H a=some (.tup (P.map V.int))) (cB:P.length<=40) (cM:(∃x∈P,x≠0)) (cQ:(∀x∈P,x.natAbs<1000000)) (dJ:∀l H',Same H H'->H' l=some (.lst ((Pm.cands P).map V.int))->(Pm.cands P).length<=5000->Q (.ref l) H')
def awO:Sp:=ajI
abbrev adu:=cP "perhaps_roots" 2 ["poly"] awO
inductive akp(vs:List V)(H:Hp)(Q:VK)(E:XK):Prop|mk (a:Addr) (r:Int) (P:List Int) (u:Nat) (bZ:vs=[.ref a,.int r]) (bV:H a=some (.tup (P.map V.int))) (cB:P.length<=40) (cM:Pm.Mon P) (cQ:Rm.Bd 40 r) (dJ:(∀x∈P,Rm.Bd u x)) (iV:u+P.length*1640<=200000) (jz:∀t tl H',Same H H'->H' t=some (.tup [.int ((Pm.outF P.length P r).1:Nat),.ref tl])->H' tl=some (.tup ((Pm.outF P.length P r).2.map V.int))->Q (.ref t) H')
def aq6:Sp:=akp
abbrev aeB:=cP "divided_out" 3 ["poly","root"] aq6
def xQ{K:aF}{a:Addr}{xs:List V}{g:TG}{tb:TS}{D:Ends}{σ:St}{H:Hp}(Pv:Nat->St->Hp->Prop)(h0:Pv 0 σ H)(W9:∀i σ' H',Pv i σ' H'->au K H' a xs)
  (hs:∀i x σ' H',xs[i]?=some x->Pv i σ' H'->g x σ' H' λσ2 H2=>tb { D with nx:=Pv (i+1),ct:=Pv (i+1),bk:=D.nx } σ2 H2) (hd:∀σ' H',Pv xs.length σ' H'->D.nx σ' H'):
  ∃W:Nat->Nat->St->Hp->Prop,(∃m,W 0 m σ H)/\∀i m σ H,W i m σ H->
   ((nY K a).stop i H/\D.nx σ H)∨((nY K a).go i H/\∃N:St->Hp->Prop,(∀σ' H',N σ' H'->∃m',m'<m/\W (i+1) m' σ' H')/\∀x H',(nY K a).jM i H x H'->g x σ H' λσ2 H2=>tb { D with nx:=N,ct:=N,bk:=D.nx } σ2 H2):=by
 refine⟨λi m σ' H'=>m=xs.length-i/\i<=xs.length/\Pv i σ' H',⟨xs.length,by simp,cD _,h0⟩,?_⟩;rintro i m σ' H' ⟨rfl,hi,p⟩;have hq:=W9 i σ' H' p;by_cases hlt:i<xs.length
 .refine .inr ⟨⟨xs,xs[i],hq,List.getElem?_eq_getElem hlt⟩,Pv (i+1),λσ2 H2 p2=>⟨xs.length-(i+1),⋯,rfl,⋯,p2⟩,?_⟩;rintro x H2 ⟨rfl,hx⟩;exact hs i x σ' H2 (hx xs hq) p
 .have e:i=xs.length:=⋯;subst e;exact .inl ⟨⟨xs,hq,aN _⟩,hd σ' H' p⟩
def asS{P:List Int}(hs:∀x∈P,x.natAbs<1000000):∀z∈Pm.cands P,Rm.Bd 40 z:=λz hz=>by
 have hlow:(Pm.iW P).natAbs<1000000:=by
  unfold Pm.iW;cases e:P.filter λx=>decide (x≠0)with
  |nil=>decide
  |cons y ys=>exact hs y (pA.mp (e▸cV ..:y∈P.filter λx=>decide (x≠0))).1
 have hm:∀x∈Pm.divs (Pm.iW P).natAbs,0<x/\x<=1000000:=Pm.zZ _ ⋯ _ _ _ _ ∅ (λx hx=>(gK hx).elim) (λx hx=>(gK hx).elim);unfold Pm.cands at hz;rcases fP.mp hz with hz|hz
 .rcases fP.mp hz with hz|hz
  .obtain⟨y,hy,rfl⟩:=bY.mp hz;have:=hm y (qK.mp hy);exact Rm.Bd.of ⋯ ⋯
  .rw[eE.mp hz];exact Rm.Bd.zero _
 .have:=hm z hz;exact Rm.Bd.of ⋯ ⋯
inductive akK(C:Addr)(vs:List V)(H:Hp)(Q:VK)(E:XK):Prop|mk (a:Addr) (P:List Int) (bZ:vs=[.ref a]) (bV:H a=some (.tup (P.map V.int))) (cB:P.length<=13) (cM:Pm.Mon P) (cQ:((∀x∈P,x.natAbs<1000000)->∀t lr tl xs H',Same H H'->H' t=some (.tup [.ref lr,.ref tl])->H' lr=some (.lst xs)->H lr=none->cO H' xs (Pm.wr P).1->H' tl=some (.tup ((Pm.wr P).2.map V.int))->Q (.ref t) H')) (dJ:((∃x∈P,1000000<=x.natAbs)->∀H',Same H H'->E (.ref C) none H'))
def asH(C:Addr):Sp:=akK C
abbrev acs(P w K mg base dN):=iU P w K mg base "whole_roots" 4 ["poly"] (asH dN)
inductive akr(C:Addr)(vs:List V)(H:Hp)(Q:VK)(E:XK):Prop|mk (v:V) (r:Rw) (bZ:vs=[v]) (bV:iu H v r) (cB:(r.b=0->Q .non H)) (cM:(r.b≠0->E (.ref C) none H))
def akL(C:Addr):Sp:=akr C
abbrev Z4(P w K mg base eX):=iU P w K mg base "refuse_prime" 1 ["row"] (akL eX)
inductive eG(H:Hp)(ex:List Addr):List V->List (Int×List Int)->Prop
 |nil:eG H ex [] []
 |cons {t a:Addr} {r:Int} {ts:List Int} {xs:List V} {ps:List (Int×List Int)}:H t=some (.tup [.int r,.ref a])->a∉ex->H a=some (.lst (ts.map V.int))->eG H ex xs ps->eG H ex (.ref t::xs) ((r,ts)::ps)
theorem eG.same{H H':Hp}{ex:List Addr}(g:Same H H'):∀{xs:List V} {ps:List (Int×List Int)},eG H ex xs ps->eG H' ex xs ps
 |_,_,.nil=> .nil
 |_,_,.cons h1 n h2 r=> .cons (g _ _ h1) n (g _ _ h2) (eG.same g r)
theorem eG.set{H:Hp}{D:Addr}{ys:List V}{o:HO}(hD:H D=some (.lst ys)){ex:List Addr}(hx:D∈ex):∀{xs:List V} {ps:List (Int×List Int)},eG H ex xs ps->eG (upd H D o) ex xs ps
 |_,_,.nil=> .nil
 |_,_,.cons h1 n h2 r=> .cons (by rw[bI λq=>by rw[q,hD]at h1;cases h1];exact h1) n (by rw[bI λq=>n (by rw[q];exact hx)];exact h2) (eG.set hD hx r)
theorem eG.len{H:Hp}{ex:List Addr}:∀{xs:List V} {ps:List (Int×List Int)},eG H ex xs ps->xs.length=ps.length
 |_,_,.nil=>rfl
 |_,_,.cons _ _ _ r=>by rw[iQ,iQ,eG.len r]
theorem eG.append{H:Hp}{ex:List Addr}:∀{xs ys:List V} {ps qs:List (Int×List Int)},eG H ex xs ps->eG H ex ys qs->eG H ex (xs++ys) (ps++qs)
 |_,_,_,_,.nil,h=>h
 |_,_,_,_,.cons h1 n h2 r,h'=> .cons h1 n h2 (eG.append r h')
theorem eG.get{H:Hp}{ex:List Addr}:∀{xs:List V} {ps:List (Int×List Int)} {i:Nat} {x:V},eG H ex xs ps->xs[i]?=some x->∃t a r ts,x = .ref t/\ps[i]?=some (r,ts)/\H t=some (.tup [.int r,.ref a])/\H a=some (.lst (ts.map V.int))
 |_,_,_,_,.nil,h=>by cases h
 |_,_,0,_,.cons h1 _ h2 _,e=>by cases e;exact⟨_,_,_,_,rfl,rfl,h1,h2⟩
 |_,_,i+1,_,.cons _ _ _ r,e=>eG.get (i:=i) r e
def take_one{α:Type}{l:List α}{i:Nat}{x:α}(h:l[i]?=some x):l.take (i+1)=l.take i++[x]:=by rw[pL,h];rfl
def HN{α β:Type}{f:α->β}{l:List α}{i:Nat}{p:β}(h:(l.map f)[i]?=some p):∃y,l[i]?=some y/\p=f y:=by
 rw[List.getElem?_map]at h;cases e:l[i]? with
 |none=>rw[e]at h;cases h
 |some y=>rw[e]at h;cases h;exact⟨y,rfl,rfl⟩
def vI(v:V):Int:=match v with | .int k=>k|_=>0
def XQ(c:List Int):(c.map V.int).map vI=c:=by rw[cR];exact yg c
def abD{K:aF}{a:Addr}{xs:List V}{ps:List (List Int)}{ix:List (Option Nat)}{te:TE}{σ:St}{H1:Hp}{Q:VK}(hA:H1 a=some (.lst xs))(hp:cO H1 xs ps)(hz:xs.length<=sizeLine){rest:St}(hst:cst ix σ=none::rest)(f:List Int->V)
  (he:∀(H':Hp) (t:Addr) (c:List Int),Same H1 H'->c∈ps->H' t=some (.tup (c.map V.int))->∀k:VK,k (f c) H'->te (some (.ref t)::rest) H' k)
  (hQ:∀D,H1 D=none->Q (.ref D) (upd H1 D (.lst (ps.map f)))):jN ix (iD 0) lA te σ Q (nY K a) H1:=by
 have key:∀x∈xs,∃t p,x=V.ref t/\p∈ps/\H1 t=some (.tup (p.map V.int)):=λx hx=>by
  obtain⟨i,hi,e⟩:=jq.mp hx;obtain⟨t,p,e1,e2,e3⟩:=hp.get (i:=i) (x:=x) (by rw[List.getElem?_eq_getElem hi,e]);exact⟨t,p,e1,List.mem_of_getElem? e2,e3⟩
 have mp:∀{xs:List V} {ps:List (List Int)},cO H1 xs ps->(xs.map λx=>match x with | .ref t=>(match H1 t with|some (.tup vs)=>f (vs.map vI)|_=>V.non)|_=>V.non)=ps.map f:=λ{xs ps} h=>by
  induction h with
  |nil=>rfl
  |cons ht _ ih=>rw[bG,bG,ih];simp only[ht,XQ]
 refine qT (wG (au.of hA)) hz hst (λ_=>true) (λx=>match x with | .ref t=>(match H1 t with|some (.tup vs)=>f (vs.map vI)|_=>V.non)|_=>V.non) ?_ ?_ ?_
 .intro H2 x g2 hx k hk;exact hk
 .intro H2 x g2 hx _ k hk;obtain⟨t,p,rfl,hp2,ht⟩:=key x hx;refine he H2 t p g2 hp2 (g2 _ _ ht) k ?_;simp only[ht,XQ]at hk;exact hk
 .intro D hD;have e:=mp hp;rw[sW.mpr (by simp),e];exact hQ D hD
def awc{K:aF}{a:Addr}{xs:List V}{ps:List (List Int)}{ix:List (Option Nat)}{te:TE}{σ:St}{H1:Hp}{Q:VK}(hA:H1 a=some (.lst xs))(hp:cO H1 xs ps)(hz:xs.length<=sizeLine){rest:St}(hst:cst ix σ=none::rest)(f:List Int->Bool)
  (he:∀(H':Hp) (t:Addr) (c:List Int),Same H1 H'->c∈ps->H' t=some (.tup (c.map V.int))->∀k:VK,k (.bl (f c)) H'->te (some (.ref t)::rest) H' k)
  (hQ:∀D,H1 D=none->Q (.ref D) (upd H1 D (.lst ((ps.map f).map V.bl)))):jN ix (iD 0) lA te σ Q (nY K a) H1:=
 abD hA hp hz hst (λc=> .bl (f c)) he λD hD=>by have:=hQ D hD;rwa [cR]at this
def atu{K:aF}{a:Addr}{xs:List V}{ps:List (List Int)}{ix:List (Option Nat)}{te:TE}{σ:St}{H1:Hp}{Q:VK}(hA:H1 a=some (.lst xs))(hp:cO H1 xs ps)(hz:xs.length<=sizeLine){rest:St}(hst:cst ix σ=none::rest)(f:List Int->Int)
  (he:∀(H':Hp) (t:Addr) (c:List Int),Same H1 H'->c∈ps->H' t=some (.tup (c.map V.int))->∀k:VK,k (.int (f c)) H'->te (some (.ref t)::rest) H' k)
  (hQ:∀D,H1 D=none->Q (.ref D) (upd H1 D (.lst ((ps.map f).map V.int)))):jN ix (iD 0) lA te σ Q (nY K a) H1:=
 abD hA hp hz hst (λc=> .int (f c)) he λD hD=>by have:=hQ D hD;rwa [cR]at this
def jW(L:List (Int×List Int)):List PyData:=L.map λp=>PyData.tuple [.int p.1,.list (p.2.map Im)]
theorem agY:∀L:List (Int×List Int),DC (jW L)=true
 |[]=>rfl
 |p::r=>by
  have h1:=HB p.2;have h2:=agY r;rw[jW,bG];rw[jW]at h2;simp[DC,CJ,h1,h2]
theorem ac2:∀L:List (Int×List Int),xY (jW L)<=3
 |[]=>by simp[jW,xY]
 |p::r=>by
  have h1:=IZ p.2;have h2:=ac2 r;rw[jW,bG];rw[jW]at h2;simp only[xY,Dh];omega
theorem aeP:∀L:List (Int×List Int),Dt (jW L) (jW L)=true
 |[]=>by simp[jW,Dt]
 |p::r=>by
  have h:=aeP r;have h2:=Wu p.2 p.2;rw[jW,bG];rw[jW]at h;simp only[Dt,h,Iw];rw[oF];simp only[Dt,h2,decide_true,Iw];simp[oF]
theorem eG.rd{K:aF}{H:Hp}{ex:List Addr}:∀{xs:List V} {ps:List (Int×List Int)},eG H ex xs ps->kW K H xs (jW ps)
 |_,_,.nil=> .nil
 |_,_,.cons h1 _ h2 r=> .cons (.tup (aA.of h1) (.cons (.int _) (.cons (.lst (au.of h2) (kW.ints _)) .nil))) (eG.rd r)
def an5{K:aF}{g:Bool->Bool}{H:Hp}{a c x y:Addr}{n:Int}{ps:List (Int×List Int)}{xs ys:List V}{e1 e2:List Addr}{Q:VK}(ha:H a=some (.tup [.int n,.ref x]))(hx:H x=some (.lst xs))(px:eG H e1 xs ps)
  (hb:H c=some (.tup [.int n,.ref y])) (hy:H y=some (.lst ys)) (py:eG H e2 ys ps) (q:Q (.bl (g true)) H):rD K g (.ref a) (.ref c) H Q:=by
 have sh:SeqAt.shaped (.tuple [.int n,.list (jW ps)])=true:=by
  have h1:=agY ps;have h2:=ac2 ps;simp only[SeqAt.shaped,CJ,DC,Dh,xY,h1,U7,Iw];exact decide_eq_true ⋯
 have ev:oF (.tuple [.int n,.list (jW ps)]) (.tuple [.int n,.list (jW ps)])=true:=by
  have h:=aeP ps;rw[oF];simp only[Dt,oF,h,Iw];simp
 exact .inl ⟨_,_,.tup (aA.of ha) (.cons (.int n) (.cons (.lst (au.of hx) px.rd) .nil)),.tup (aA.of hb) (.cons (.int n) (.cons (.lst (au.of hy) py.rd) .nil)),sh,sh,by rw[ev];exact q⟩
structure Form(f:Nat->Int)(L:List Int)(l:List (Int×Nat))(bot:Int)(us:List Int):Prop where
 least:jQ 0 f L
 wr:Pm.wr L=(l.map Pm.gw,[1])
 rp:L=Pm.RP l [1]
 up:(l.map (·.1)).Pairwise (· < ·)
 pos:∀x∈l,0<x.2
 ne:∀x∈l,x.1≠0
 rb:∀x∈l,Rm.Bd 20 x.1
 few:Cf.aQ l<=10
 len:us.length=Cf.aQ l
 Yp:1<=bot
 gcd:Lm.dg bot.natAbs us=1
 sum:∀n,Cf.cj (Cf.fG l us) n=bot*f n
 bb:Rm.Bd 2400 bot
 bu:∀x∈us,Rm.Bd 2400 x
theorem abB(n:Nat):∀(l m:List (Int×Nat)),Cf.gQ (l++m) n=Cf.gQ l n++Cf.gQ m n
 |[],_=>rfl
 |(r,k)::t,m=>by
  show _++Cf.gQ (t++m) n=(_++Cf.gQ t n)++_;rw[abB n t m,OJ]
theorem Xa(r:Int)(m:Nat):∀(l:List (Int×Nat)) (cs:List Int),Cf.fG (l++[(r,m)]) cs=Cf.fG l cs++[(r,(cs.drop (Cf.aQ l)).take m)]
 |[],_=>rfl
 |(s,k)::t,cs=>by
  show(s,cs.take k)::Cf.fG (t++[(r,m)]) (cs.drop k)=(s,cs.take k)::(Cf.fG t (cs.drop k)++_);rw[Xa r m t,List.drop_drop,Cf.rE]
def af9:∀(l m:List (Int×Nat)),Cf.aQ (l++m)=Cf.aQ l+Cf.aQ m:=λl m=>by unfold Cf.aQ;rw[fZ,CZ]
def Xu{l:List (Int×Nat)}{x:Int×Nat}(h:x∈l):x.2<=Cf.aQ l:=by
 induction l with
 |nil=>cases h
 |cons a t ih=>
  rw[show a=(a.1,a.2)from rfl,Cf.rE];rcases bJ.mp h with rfl|h
  .omega
  .have:=ih h;omega
def ad4{l:List (Int×Nat)}(h:∀x∈l,0<x.2):l.length<=Cf.aQ l:=by
 induction l with
 |nil=>exact cD _
 |cons a t ih=>
  rw[show a=(a.1,a.2)from rfl,Cf.rE,iQ];have:=h a (cV ..);have:=ih λx hx=>h x (cZ _ hx);omega
def aqo(l:List (Int×Nat))(i:Nat):Cf.aQ (l.take i)<=Cf.aQ l:=by
 conv=>rhs;rw[<-Ie i l,af9]
 omega
def ahR(xs:List V){a b:Nat}(h:a<=xs.length):gU xs (some (a:Int)) (some (b:Int))=(xs.drop a).take (b-a):=by
 unfold gU;rw[HT.qe,HT.qe,Lw h,acU,oU];omega
inductive auN(vs:List V)(H:Hp)(Q:VK)(E:XK):Prop|mk (a e:Int) (u:Nat) (bZ:vs=[.int a,.int e]) (bV:0<=e) (cB:e<=100) (cM:Rm.Bd u a) (cQ:u<=1000) (dJ:Q (.int (a^e.toNat)) H)
def awW:Sp:=auN
def auC{u i:Nat}{a:Int}(hb:Rm.Bd u a)(hu:u<=1000)(hi:i<=100):IntMulOk (a^i) a:=m6 (Cf.Al hb i) hb (by
 have:u*i<=1000*100:=ig hu hi;omega)
abbrev XF:=cP "power" 1 ["number","exponent"] awW
inductive aqM(vs:List V)(H:Hp)(Q:VK)(E:XK):Prop|mk (lr:Addr) (n:Int) (xs:List V) (l:List (Int×Nat)) (bZ:vs=[.ref lr,.int n]) (bV:H lr=some (.lst xs)) (cB:cO H xs (l.map Pm.gw)) (cM:0<=n) (cQ:n<=10) (dJ:l.length<=10) (iV:(∀x∈l,Rm.Bd 20 x.1/\x.2<=10)) (jz:∀D H',Same H H'->H D=none->H' D=some (.lst ((Cf.gQ l n.toNat).map V.int))->Q (.ref D) H')
def atP:Sp:=aqM
def at7{l:List (Int×Nat)}(n:Nat)(hl:l.length<=10)(hb:∀x∈l,Rm.Bd 20 x.1/\x.2<=10):(Cf.gQ l n).length<=100:=by
 rw[Cf.zx];have:∀t:List (Int×Nat),(∀x∈t,x.2<=10)->Cf.aQ t<=10*t.length:=λt=>by
  induction t with
  |nil=>intro _;exact aN _
  |cons a t ih=>
   intro h;rw[show a=(a.1,a.2)from rfl,Cf.rE,iQ];have:=h a (cV ..);have:=ih λx hx=>h x (cZ _ hx);omega
 have:=this l λx hx=>(hb x hx).2;omega
abbrev afE:=cP "form_line" 2 ["roots","n"] atP
inductive ayS(vs:List V)(H:Hp)(Q:VK)(E:XK):Prop|mk (lr lt:Addr) (xs:List V) (l:List (Int×Nat)) (us:List Int) (bZ:vs=[.ref lr,.ref lt]) (bV:H lr=some (.lst xs)) (cB:cO H xs (l.map Pm.gw)) (cM:H lt=some (.lst (us.map V.int))) (cQ:us.length=Cf.aQ l) (dJ:l.length<=10) (iV:∀D ys H',Same H H'->H D=none->H' D=some (.lst ys)->eG H' [D] ys (Cf.fG l us)->Q (.ref D) H')
def am7:Sp:=ayS
abbrev Yr:=cP "parts_of" 1 ["roots","tops"] am7
abbrev ae7:=cP "column_of" 1 ["table","column"] Ot
abbrev Xz:=cP "paper_against" 7 ["by","wide","table","wished"] Ot
inductive avE(vs:List V)(H:Hp)(Q:VK)(E:XK):Prop|mk (u wide:Nat) (ta tw:Addr) (xs:List V) (L:List (List Int)) (ws:List Int) (ex:List Addr) (bZ:vs=[.int 0,.int wide,.ref ta,.ref tw]) (bV:H ta=some (.lst xs)) (cB:cF H ex xs L) (cM:H tw=some (.lst (ws.map V.int))) (cQ:ws.length=wide) (dJ:L.length=wide) (iV:wide<=30) (jz:Vh 0 wide (wide+1) u (Dm.aug 0 L ws)) (kJ:(∀i,i<L.length->(Dm.ln L i).length=wide)) (pq:(∀p∈L,∀x∈p,Rm.Bd u x)) (Aw:(∀x∈ws,Rm.Bd u x)) (D7:Dm.sH 0 wide wide (Dm.aug 0 L ws)) (J2:(∀bot us,Dm.wZ u 0 wide wide (Dm.aug 0 L ws) bot us->∀t lt H',Same H H'->H' t=some (.tup [.str ("one" : Str),.int bot,.ref lt])->H' lt=some (.lst (m9 V.int us))->Q (.ref t) H'))
def acE:Sp:=avE
abbrev afR:=cP "solved" 8 ["by","wide","table","wished"] acE
inductive ahG(C1 C2:Addr)(vs:List V)(H:Hp)(Q:VK)(E:XK):Prop|mk (v:V) (r:Rw) (bZ:vs=[v]) (bV:iu H v r) (cB:r.b=0) (cM:jB r) (cQ:Tame r) (dJ:(∀n,n<10->Rm.Bd 190 (r.at n))) (iV:(∀L,jQ 0 r.at L->L.length<=11/\∀x∈L,x.natAbs<1000000)) (jz:(∀L l,jQ 0 r.at L->L=Pm.RP l [1]->(∀x∈l,0<x.2)->∀x∈l,Rm.Bd 3 x.1/\x.2<=3)) (kJ:(∀L,jQ 0 r.at L->((Pm.wr L).2≠[1]∨∃x∈(Pm.wr L).1,x.headD 0=0)->∀H',Same H H'->Q .non H')) (pq:(∀L l bot us,Form r.at L l bot us->∀t lp ys ex H',Same H H'->H' t=some (.tup [.int bot,.ref lp])->H' lp=some (.lst ys)->eG H' ex ys (Cf.fG l us)->Q (.ref t) H'))
def abN(C1 C2:Addr):Sp:=ahG C1 C2
def anw{P:List Int}{l:List (Int×Nat)}(hs:∀x∈P,x.natAbs<1000000)(h:∀x∈l,x.1∈Pm.cands P):∀x∈l,Rm.Bd 20 x.1:=λx hx=>by
 have hlow:(Pm.iW P).natAbs<1000000:=by
  unfold Pm.iW;cases e:P.filter λx=>decide (x≠0)with
  |nil=>decide
  |cons y ys=>exact hs y (pA.mp (e▸cV ..:y∈P.filter λx=>decide (x≠0))).1
 have hm:∀x∈Pm.divs (Pm.iW P).natAbs,0<x/\x<=1000000:=Pm.zZ _ ⋯ _ _ _ _ ∅ (λx hx=>(gK hx).elim) (λx hx=>(gK hx).elim);have hz:=h x hx;unfold Pm.cands at hz;rcases fP.mp hz with hz|hz
 .rcases fP.mp hz with hz|hz
  .obtain⟨y,hy,e⟩:=bY.mp hz;have:=hm y (qK.mp hy);exact Rm.Bd.of ⋯ ⋯
  .rw[eE.mp hz];exact Rm.Bd.zero _
 .have:=hm x.1 hz;exact Rm.Bd.of ⋯ ⋯
def alD{l:List (Int×Nat)}{n:Nat}(hn:n<=10)(hr:∀x∈l,Rm.Bd 3 x.1)(hm:∀x∈l,x.2<=3):∀x∈Cf.gQ l n,Rm.Bd 190 x:=by
 induction l with
 |nil=>intro x hx;cases hx
 |cons a t ih=>
  intro x hx;rcases fP.mp (show x∈((fj a.2).map λj=>a.1^n*(n:Int)^j)++Cf.gQ t n from hx)with hx|hx
  .obtain⟨j,hj,rfl⟩:=bY.mp hx;have:=iT.mp hj;have:=hm a (cV ..);refine((Cf.Al (hr a (cV ..)) n).mul (Cf.Al (n:=10) (Rm.Bd.of (x:=(n:Int)) ⋯ ⋯) j)).mono ?_;omega
  .exact ih (λx hx=>hr x (cZ _ hx)) (λx hx=>hm x (cZ _ hx)) x hx
def aqc(l:List (Int×Nat)):((l.map Pm.gw).map λx=>x.getD 1 0).sum=((Cf.aQ l:Nat):Int):=by
 unfold Cf.aQ;induction l with
 |nil=>rfl
 |cons a t ih=>
  rw[bG,bG,gF,ih,bG,gF];show((a.2:Nat):Int)+_=_;omega
abbrev aav(P w K mg base eX dN):=iU P w K mg base "closed" 9 ["row"] (abN eX dN)
def aky{n:Nat}{ix:List (Option Nat)}{te:TE}{σ:St}{H1:Hp}{Q:VK}(hz:n<=1000){rest:St}(hst:cst ix σ=none::rest)(f:Nat->Int)
  (he:∀H' k,Same H1 H'->k<n->∀kk:VK,(∀H2,Same H' H2->kk (.int (f k)) H2)->te (some (.int (0+(k:Int)))::rest) H' kk)
  (hQ:∀D H',H1 D=none->Same H1 H'->H' D=some (.lst ((Pm.aM n f).map V.int))->Q (.ref D) H'):jN ix (iD 0) lA te σ Q (mZ 0 n) H1:=by
 refine an4 zq (by rw[aB,mR];exact gC (dZ hz)) hst (λx=>match x with | .int k=> .int (f k.toNat)|_=> .non) ?_ ?_
 .intro H2 x g2 hx k hk;obtain⟨j,hj,rfl⟩:=bY.mp hx;have e1:(0+(j:Int)).toNat=j:=⋯;refine he H2 j g2 (iT.mp hj) k λH3 g3=>?_;have hk':k (V.int (f (0+(j:Int)).toNat)) H3:=hk H3 g3
  rwa [e1]at hk'
 .intro D H' hD g hl;refine hQ D H' hD g ?_;rw[hl,Pm.aM,cR,cR];refine congrArg (λz=>some (HO.lst z)) (lJ λk _=>?_);show V.int (f (0+(k:Int)).toNat)=V.int (f k);rw[show(0+(k:Int)).toNat=k by omega]
structure d8(d c:Nat)(r:Rw):Prop where
 by_:r.b=0
 len:r.rule.length=r.starts.length
 short:r.rule.length<=d
 vN:d<=10
 Ak:∀x∈r.rule,Rm.Bd 60 x
 Bb:∀n,Rm.Bd (c+17*n) (r.at n)
 Ag:c<=36
 kU:Pm.Kp 0 (Cf.bF Cf.rA) r.at
def d8.ok{d c:Nat}{r:Rw}(h:d8 d c r):jB r:=by
 have e:=h.by_;have:=h.short;have:=h.vN;have:=h.Ag;have hl:=h.len;refine⟨h.len,⋯,⋯,⋯,λx _=> .inl e,λx _=> .inl e,λx hx=>(h.Ak x hx).mono ∅,λx hx=>?_⟩;obtain⟨k,hk,ex⟩:=jq.mp hx;have e1:r.at k=r.starts.getD k 0:=Rm.sS hk;have:x=r.at k:=by rw[e1,List.getD_eq_getElem?_getD,List.getElem?_eq_getElem hk,<-ex];rfl
 rw[this];exact(h.Bb k).mono ⋯
theorem d8.kp{d c:Nat}{r:Rw}(h:d8 d c r):Pm.Kp 0 (Pm.aV 0 r.rule) r.at:=by
 have:=h.ok.kp
 rwa [h.by_]at this
def aq8{f:Nat->Int}{L P:List Int}(h:jQ 0 f L)(hP:Pm.Mon P)(hk:Pm.Kp 0 P f):∃S,Pm.Mon S/\Pm.mul 0 L S=P:=by
 obtain⟨S,hS,_,_,e⟩:=Pm.yG (b:=0) rfl hP h.mon (h.all P hk);refine⟨S,hS,(Pm.qm ..).ext (Pm.Mon.pU hP) λk=>?_⟩;rw[Pm.jL,Rm.gR,e k,Pm.jt]
def d8.split{d c:Nat}{r:Rw}(h:d8 d c r){L:List Int}(lst:jQ 0 r.at L):∃rs,rs.Sublist Cf.rA/\L=Cf.bF rs/\rs.length<=d:=by
 obtain⟨S,hS,em⟩:=aq8 lst (Cf.nK Cf.rA).1 h.kU;obtain⟨rs,h1,h2⟩:=Cf.Hh Cf.rA lst.mon hS em;refine⟨rs,h1,h2,?_⟩;have:=(lst.all _ h.kp).len rfl lst.mon (Pm.C6 0 r.rule);rw[Pm.kI,h2,(Cf.nK rs).2]at this;have:=h.short;omega
def d8.small{d c:Nat}{r:Rw}(h:d8 d c r){L:List Int}(lst:jQ 0 r.at L):L.length<=d+1/\∀x∈L,x.natAbs<1000000:=by
 obtain⟨rs,hs,rfl,hl⟩:=h.split lst;have:=h.vN;refine⟨by rw[(Cf.nK rs).2];omega,λx hx=>?_⟩;obtain⟨k,hk,ex⟩:=jq.mp hx;have b:=Cf.arD (λx=>hs.count_le x) ⋯ k
 rwa [Pm.jo hk,ex]at b
def atR:Cf.rA=Cf.iI (Cf.allR.map λr=>(r,3)):=∅
def d8.lows{d c:Nat}{r:Rw}(h:d8 d c r)(L:List Int)(l:List (Int×Nat))(lst:jQ 0 r.at L)(e:L=Pm.RP l [1])(hp:∀x∈l,0<x.2):∀x∈l,Rm.Bd 3 x.1/\x.2<=3:=λx hx=>by
 obtain⟨rs,hs,e2,_⟩:=h.split lst;rw[atR]at hs;obtain⟨m,h1,h2⟩:=Cf.ap3 ∅ (e▸e2) hs hx (hp x hx);have:∀y∈Cf.allR.map (λr=>(r,3)),-8<y.1/\y.1<8/\y.2=3:=∅;have:=this _ h1;exact⟨Rm.Bd.of (n:=3) (by show -(2^3)<x.1;omega) (by show x.1<2^3;omega),⋯⟩
def d8.some_{d c:Nat}{r:Rw}(h:d8 d c r){L:List Int}(lst:jQ 0 r.at L)(hc:(Pm.wr L).2≠[1]∨∃x∈(Pm.wr L).1,x.headD 0=0):False:=by
 obtain⟨rs,hs,rfl,_⟩:=h.split lst;obtain⟨l,w1,w2,_,_,_,w6⟩:=Cf.aqu (rs:=rs);rcases hc with hc|⟨x,hx,hz⟩
 .exact absurd w2 hc
 .rw[w1]at hx;obtain⟨y,hy,rfl⟩:=bY.mp hx;have:∀z∈Cf.rA,z≠0:=∅;exact absurd hz (this _ (hs.subset (w6 y hy)))
def d8.tame{d c:Nat}{r:Rw}(h:d8 d c r):Tame r:=λ_=>by
 have:=h.short;have:=h.vN;have:=h.Ag;have hm:d*(376+d)<=10*386:=ig ⋯ ⋯;exact⟨d,376,60,∅,h.Ak,⟨Pm.aV 0 r.rule,Pm.C6 _ _,h.kp,by rw[Pm.kI];omega⟩,λn hn=>(h.Bb n).mono ⋯,λL lst=>Pm.jA λx hx=>vJ ((h.small lst).2 x hx) ∅,h.vN,⋯⟩
def al3{r:Rw}(h0:r.b=0){L:List Int}(h:jQ 0 r.at L)(hl:L.length<=r.starts.length+1)(n:Nat):(iB r L).at n=r.at n:=by
 have hp:=h.mon.pos;show Rm.at_ r.b (Pm.fO r.b L) (r.starts.take (L.length-1)) n=_;rw[h0];refine Pm.ZL (λk=>Rm.aY _) h.mon h.kp (λn=>Rm.aY _) (starts:=r.starts.take (L.length-1)) (by rw[iZ];omega) (λi hi=>?_) n;rw[iZ]at hi;have e:r.at i=r.starts.getD i 0:=Rm.sS ⋯;rw[e,List.getD_eq_getElem?_getD,List.getElem?_take,if_pos ⋯,<-List.getD_eq_getElem?_getD]
def aaq{L:List Int}(h:∀k,Rm.Bd 60 (Pm.co L k)):∀x∈Pm.fO 0 L,Rm.Bd 60 x:=λx hx=>by
 obtain⟨k,_,rfl⟩:=Pm.vU (show x∈Pm.aM _ _ from hx);rw[Rm.aY,lY];exact Pm.abw (h _)
def d8.sh{d c:Nat}{r:Rw}(h:d8 d c r){L:List Int}(lst:jQ 0 r.at L)(ll:L.length<=r.rule.length+1):d8 d c (iB r L)/\(iB r L).at=r.at:=by
 have hl:=h.len;have hs:=h.short;have e:(iB r L).at=r.at:=funext λn=>al3 h.by_ lst ⋯ n;have lr:(iB r L).rule.length=L.length-1:=Pm.nF ..;refine⟨⟨h.by_,?_,⋯,h.vN,?_,by rw[e];exact h.Bb,h.Ag,by rw[e];exact h.kU⟩,e⟩
 .show(iB r L).rule.length=(r.starts.take (L.length-1)).length;rw[lr,iZ];omega
 .show ∀x∈Pm.fO r.b L,_;rw[h.by_];exact aaq (Pm.jA λx hx=>(show Rm.Bd 20 x from vJ ((h.small lst).2 x hx) ∅).mono ∅)
structure Eu(rule:List Int):Prop where
 short:rule.length<=5
 bd:∀x∈rule,Rm.Bd 12 x
 kp:∃rs,Pm.aV 0 rule=Cf.bF rs/\∀x,rs.count x<=Cf.rA.count x
theorem Eu.c{rule ss:List Int}(h:Eu rule){c:Nat}(Ag:c<=36)(hl:rule.length=ss.length)(hs:∀x∈ss,Rm.Bd c x):d8 5 c ⟨0,rule,ss⟩:=by
 obtain⟨rs,e,hc⟩:=h.kp;have h5:=h.short;refine⟨rfl,hl,h5,∅,λx hx=>(h.bd x hx).mono ∅,λn=>?_,Ag,?_⟩
 .have q:=Rm.ac9 (b:=0) (rule:=rule) (starts:=ss) (a:=12) (c:=c) hl ∅ (Rm.Bd.zero _) h.bd hs n;refine q.mono ?_;have:=uZ n (show 12+rule.length<=17 by omega);rw[qF 17];omega
 .have hk:Pm.Kp 0 (Pm.aV 0 rule) (⟨0,rule,ss⟩:Rw).at:=Pm.Kp.aV (Pm.PD hl);rw[e]at hk;exact Cf.kp_more hc hk
def awg{x:Int}{rule ss:List Int}(hl:rule.length=ss.length)(n:Nat):(⟨0,rule,ss.map λs=>x*s⟩:Rw).at n=x*(⟨0,rule,ss⟩:Rw).at n:=by
 refine Rm.afp (by rw[aB];exact hl) (g:=λn=>x*(⟨0,rule,ss⟩:Rw).at n) (λi hi=>?_) (λi hi=>?_) n
 .rw[aB]at hi;have e1:(⟨0,rule,ss⟩:Rw).at i=ss.getD i 0:=Rm.sS hi;have e2:(ss.map λs=>x*s).getD i 0=x*ss.getD i 0:=Rm.getD_map (f:=λs=>x*s) (aP x) _ _;rw[e1,e2]
 .rw[aB]at hi;have e1:(⟨0,rule,ss⟩:Rw).at i=Rm.tk 0 (Rm.S rule (⟨0,rule,ss⟩:Rw).at i rule.length):=Rm.HZ hl hi;have e2:∀m,Rm.S rule (λn=>x*(⟨0,rule,ss⟩:Rw).at n) i m=x*Rm.S rule (⟨0,rule,ss⟩:Rw).at i m:=λm=>by
   induction m with
   |zero=>exact(aP x).symm
   |succ m ih=>unfold Rm.S;rw[ih,gq,eZ]
  rw[e2,Rm.aY];show x*(⟨0,rule,ss⟩:Rw).at i=_;rw[e1,Rm.aY]
inductive avd(vs:List V)(H:Hp)(Q:VK)(E:XK):Prop|mk (v1 v2:V) (r1 r2:Rw) (bZ:vs=[v1,v2]) (bV:iu H v1 r1) (cB:iu H v2 r2) (cM:r1.b=r2.b) (cQ:Q (.int r1.b) H)
def atj:Sp:=avd
abbrev afC:=cP "shared_by" 1 ["one","other"] atj
inductive am6(vs:List V)(H:Hp)(Q:VK)(E:XK):Prop|mk (a e:Addr) (ns ms:List Int) (d c:Nat) (bZ:vs=[.int 0,.ref a,.ref e]) (bV:H a=some (.tup (ns.map V.int))) (cB:H e=some (.lst (ms.map V.int))) (cM:d8 d c ⟨0,ns,ms⟩) (cQ:∀v' r' H',Same H H'->iu H' v' r'->d8 d c r'->r'.at=(⟨0,ns,ms⟩:Rw).at->Q v' H')
def ar9:Sp:=am6
abbrev Mw:=cP "told_row" 10 ["by","rule","starts"] ar9
inductive ajE(vs:List V)(H:Hp)(Q:VK)(E:XK):Prop|mk (n:Int) (bZ:vs=[.int n]) (bV:n<=12) (cB:Q .non H)
def avU:Sp:=ajE
abbrev agN:=cP "refuse_long" 1 ["length"] avU
def ac0{m n:Nat}{a:Nat->Int}(h:n<m):lQ ((Pm.aM m a).map V.int) (n:Int)=some (.int (a n)):=by
 rw[eN ⋯ (by rw[Pm.cA];omega),d9];show some (V.int (Pm.co (Pm.aM m a) n))=_;rw[Pm.cX,if_pos h]
inductive ay4(vs:List V)(H:Hp)(Q:VK)(E:XK):Prop|mk (l1 l2:Addr) (m:Nat) (a c:Nat->Int) (n:Nat) (bZ:vs=[.ref l1,.ref l2,.int (n:Int)]) (bV:H l1=some (.lst ((Pm.aM m a).map V.int))) (cB:H l2=some (.lst ((Pm.aM m c).map V.int))) (cM:n<m) (cQ:∀H',Same H H'->Q (.int (a n+c n)) H')
def asM:Sp:=ay4
abbrev Ly:=cP "sum_place" 1 ["ours","theirs","n"] asM
def adp(r:Rw)(n:Nat):r.row n=Pm.aM n r.at:=Rm.U5 ..
inductive aou(mg:Str->Option Value)(vs:List V)(H:Hp)(Q:VK)(E:XK):Prop|mk (v1 v2:V) (t g:Addr) (r1 r2:Rw) (ns:List Int) (d c:Nat) (bZ:vs=[v1,v2,.ref t,.ref g]) (bV:mg "sum_place" = some (.ref g)) (cB:iu H v1 r1) (cM:iu H v2 r2) (cQ:jB r1) (dJ:jB r2) (iV:r1.b=0) (jz:H t=some (.tup (ns.map V.int))) (kJ:d8 d c ⟨0,ns,Pm.aM ns.length λn=>r1.at n+r2.at n⟩) (pq:∀v' r' H',Same H H'->iu H' v' r'->d8 d c r'->r'.at=(⟨0,ns,Pm.aM ns.length λn=>r1.at n+r2.at n⟩:Rw).at->Q v' H')
def ayL(mg:Str->Option Value):Sp:=aou mg
abbrev Wj(P w K mg base):=iU P w K mg base "pair_row" 11 ["one","other","rule","pair_place"] (ayL mg)
def VQ(v1 v2:V)(H:Hp)(Q:VK):Prop:=∃(r1 r2:Rw) (c:Nat),iu H v1 r1/\iu H v2 r2/\d8 5 c r1/\d8 5 c r2/\c<=35/\∀v' r' H',Same H H'->iu H' v' r'->d8 10 (c+1) r'->r'.at=(λn=>r1.at n+r2.at n)->Q v' H'
def abk{P:List Int}{a c:Nat->Int}(h1:Pm.Kp 0 P a)(h2:Pm.Kp 0 P c):Pm.Kp 0 P λn=>a n+c n:=λn=>by
 have e:Pm.ks P (λn=>a n+c n) n=Pm.ks P a n+Pm.ks P c n:=by
  unfold Pm.ks;rw[<-Pm.iJ];exact Pm.aR λk _=>gq ..
 rw[e,<-Rm.jD,<-Rm.wM,h1 n,h2 n];exact Pm.tk0 0
def d8.sum{c:Nat}{r1 r2:Rw}(h1:d8 5 c r1)(h2:d8 5 c r2)(hc:c<=35){L1 L2:List Int}(l1:jQ 0 r1.at L1)(l2:jQ 0 r2.at L2){m:Nat}(hm:m=(Pm.mul 0 L1 L2).length-1):
  d8 10 (c+1) ⟨0,Pm.fO 0 (Pm.mul 0 L1 L2),Pm.aM m λn=>r1.at n+r2.at n⟩/\(⟨0,Pm.fO 0 (Pm.mul 0 L1 L2),Pm.aM m λn=>r1.at n+r2.at n⟩:Rw).at=λn=>r1.at n+r2.at n:=by
 obtain⟨mm,ml⟩:=Pm.Kv (b:=0) rfl l1.mon l2.mon;have hk:Pm.Kp 0 (Pm.mul 0 L1 L2) λn=>r1.at n+r2.at n:=abk (l1.kp.ayH L2) (l2.kp.Ho L1);have e:(⟨0,Pm.fO 0 (Pm.mul 0 L1 L2),Pm.aM m λn=>r1.at n+r2.at n⟩:Rw).at=λn=>r1.at n+r2.at n:=funext λn=>
  Pm.ZL (λk=>Rm.aY _) mm hk (λn=>Rm.aY _) (by rw[Pm.cA,hm]) (λi hi=>by rw[Pm.cA]at hi;exact(Pm.cX _ _ _).trans (if_pos hi)) n
 obtain⟨s1,b1⟩:=h1.small l1;obtain⟨s2,b2⟩:=h2.small l2;have B:∀{L:List Int},(∀x∈L,x.natAbs<1000000)->∀x∈L,Rm.Bd 20 x:=λh x hx=>vJ (h x hx) ∅;refine⟨⟨rfl,?_,?_,∅,aaq (Pm.jA λx hx=>(Pm.awq (b:=0) ∅ ∅ ∅ (B b1) (B b2) x hx).mono ⋯),λn=>?_,⋯,?_⟩,e⟩
 .show(Pm.fO 0 (Pm.mul 0 L1 L2)).length=(Pm.aM m _).length;rw[Pm.nF,Pm.cA,hm]
 .show(Pm.fO 0 (Pm.mul 0 L1 L2)).length<=10;rw[Pm.nF,ml];omega
 .rw[e];exact(Rm.Bd.add (h1.Bb n) (h2.Bb n)).mono ⋯
 .rw[e];exact abk h1.kU h2.kU
inductive ajN(mg:Str->Option Value)(vs:List V)(H:Hp)(Q:VK)(E:XK):Prop|mk (v1 v2:V) (g:Addr) (bZ:vs=[v1,v2,.ref g]) (bV:mg "sum_place" = some (.ref g)) (cB:VQ v1 v2 H Q)
def arI(mg:Str->Option Value):Sp:=ajN mg
abbrev abq(P w K mg base):=iU P w K mg base "joint_row" 12 ["one","other","pair_place"] (arI mg)
inductive anl(vs:List V)(H:Hp)(Q:VK)(E:XK):Prop|mk (v1 v2:V) (bZ:vs=[v1,v2]) (bV:VQ v1 v2 H Q)
def ana:Sp:=anl
abbrev adf:=cP "added" 13 ["one","other"] ana
inductive aqU(vs:List V)(H:Hp)(Q:VK)(E:XK):Prop|mk (v:V) (rule ss:List Int) (x:Int) (bZ:vs=[v,.int x]) (bV:iu H v ⟨0,rule,ss⟩) (cB:d8 5 30 ⟨0,rule,ss⟩) (cM:d8 5 33 ⟨0,rule,ss.map λs=>x*s⟩) (cQ:Rm.Bd 3 x) (dJ:∀v' r' H',Same H H'->iu H' v' r'->d8 5 33 r'->r'.at=(⟨0,rule,ss.map λs=>x*s⟩:Rw).at->Q v' H')
def ajH:Sp:=aqU
abbrev aaX:=cP "scaled" 11 ["row","number"] ajH
inductive anq(vs:List V)(H:Hp)(Q:VK)(E:XK):Prop|mk (a c:Addr) (p r:List Int) (bZ:vs=[.ref a,.ref c]) (bV:H a=some (.lst (p.map V.int))) (cB:H c=some (.lst (r.map V.int))) (cM:1<=p.length) (cQ:p.length<=10) (dJ:1<=r.length) (iV:r.length<=10) (jz:(∀x∈p,Rm.Bd 20000 x)) (kJ:(∀x∈r,Rm.Bd 20000 x)) (pq:∀l H',Same H H'->H' l=some (.lst ((Pm.tu p r).map V.int))->Q (.ref l) H')
def aod:Sp:=anq
abbrev Wk:=cP "_law_times" 1 ["_law_one","_law_other"] aod
def cU(M:List (Int×Nat)):List (Key×V):=M.map λx=>(.inl x.1,.int (x.2:Int))
theorem wg:∀{M:List (Int×Nat)},(M.map (·.1)).Nodup->∀{x:Int×Nat},x∈M->dU (cU M) (.inl x.1)=some (.int (x.2:Int))
 |y::M,hd,x,hx=>by
  have hd':y.1∉M.map (·.1)/\(M.map (·.1)).Nodup:=mV.mp hd;show dU ((.inl y.1,.int (y.2:Int))::cU M) _=_;rcases bJ.mp hx with e|hx
  .subst e;rw[yL rfl]
  .have hne:y.1≠x.1:=λe=>hd'.1 (e▸iK hx);rw[wO λe=>hne (vh e)];exact wg hd'.2 hx
theorem agQ:∀{M:List (Int×Nat)} {r:Int},r∉M.map (·.1)->dU (cU M) (.inl r)=none
 |[],_,_=>rfl
 |y::M,r,h=>by
  have h':r≠y.1/\r∉M.map (·.1):=by simpa[not_or]using h
  show dU ((.inl y.1,.int (y.2:Int))::cU M) _=_;rw[wO λe=>h'.1 (vh e).symm];exact agQ h'.2
def atX{M:List (Int×Nat)}{r:Int}(hd:(M.map (·.1)).Nodup)(h:r∈M.map (·.1)):(dU (cU M) (.inl r)).isSome=true:=by
 obtain⟨x,hx,rfl⟩:=bY.mp h;rw[wg hd hx];rfl
def apq{M:List (Int×Nat)}{r:Int}{m:Nat}(h:r∉M.map (·.1)):putK (cU M) (.inl r) (.int (m:Int))=cU (M++[(r,m)]):=by
 unfold putK;have e:((cU M).any λkv=>decide (kv.1 = .inl r))=false:=by
  rw[List.any_eq_false];intro kv hkv;obtain⟨x,hx,rfl⟩:=bY.mp hkv;have:x.1≠r:=λz=>h (z▸iK hx);simp only[decide_eq_true_eq];exactλz=>this (vh z)
 rw[e,if_neg ∅];unfold cU;rw[fZ];rfl
def Rr(M:List (Int×Nat)):(cU M).length=M.length:=aB _
def ayI(M:List (Int×Nat)):(M.map λx=>(x.2:Int)).sum=(Pm.many M:Int):=by
 unfold Pm.many;induction M with
 |nil=>rfl
 |cons y M ih=>rw[bG,gF,ih,bG,gF];omega
def Vc(M:List (Int×Nat))(x:Int×Nat):Pm.many (M++[x])=Pm.many M+x.2:=by
 unfold Pm.many;rw[fZ,CZ];simp
def Same.Lr{H1 H2:Hp}{d:Addr}{u f:HO}(h:H1 d=some u)(g:Same (upd H1 d f) H2):Same H1 (upd H2 d u):=λb o e=>by
 by_cases c:b=d
 .subst c;rw[h]at e;cases e;rw[aC]
 .rw[bI c];exact g b o (by rw[bI c];exact e)
def alV{J:It}{vs:List V}{ix:List (Option Nat)}{te:TE}{σ:St}{H1:Hp}{Q:VK}(I:qC J vs H1)(hz:vs.length<=1000){rest:St}(hst:cst ix σ=none::rest)(G:V->List Int)
  (he:∀(H':Hp) (x:V),Same H1 H'->x∈vs->∀k:VK,(∀t' H2,Same H' H2->H2 t'=some (.tup ((G x).map V.int))->k (.ref t') H2)->te (some x::rest) H' k)
  (hQ:∀D H' ys,H1 D=none->Same H1 H'->H' D=some (.lst ys)->cO H' ys (vs.map G)->Q (.ref D) H'):
  jN ix (iD 0) lA te σ Q J H1:=by
 constructor;intro D hD;refine⟨λi m σ' H'=>m=vs.length-i/\i<=vs.length/\(∃o,σ'=o::rest)/\Same H1 H'/\∃ys,H' D=some (.lst ys)/\cO H' ys ((vs.take i).map G),⟨vs.length,by simp,cD _,⟨none,hst⟩,Same.new hD _,[],aC,.nil⟩,?_⟩;rintro i m σ' H' ⟨rfl,hi,⟨o,rfl⟩,g,ys,hl,hy⟩;by_cases hlt:i<vs.length
 .refine .inr ⟨I.go i _ g hlt,λx H2 y=>?_⟩;obtain⟨rfl,hx⟩:=I.jM i _ x H2 g y;have hx:=hx hlt;have et:vs.take (i+1)=vs.take i++[x]:=by rw[pL,hx];rfl
  change te (some x::rest) H2 _;refine he H2 x g (List.mem_of_getElem? hx) _ λt' H3 g3 h3=>⟨ys,g3 _ _ hl,?_,vs.length-(i+1),⋯,rfl,hlt,⟨_,rfl⟩,Same.upd (g.trans g3) hD _,ys++[.ref t'],aC,?_⟩
  .have:=hy.len;rw[aB,iZ]at this;have:=dZ hz;omega
  .rw[et,fZ];exact((hy.same g3).append (.cons h3 .nil)).set (g3 _ _ hl)
 .have e:i=vs.length:=⋯;subst e;rw[mF]at hy;exact .inl ⟨I.stop _ _ g (aN _),hQ D H' ys hD g hl hy⟩
def avN{α β:Type}{f:α->β}{l:List α}{i:Nat}{d:α}{e:β}(h:i<l.length):(l.map f).getD i e=f (l.getD i d):=by
 rw[List.getD_eq_getElem?_getD,List.getElem?_map,List.getElem?_eq_getElem h,List.getD_eq_getElem?_getD,List.getElem?_eq_getElem h];rfl
def am2{α:Type}(l:List α)(d:α):((fj l.length).map λi=>l.getD i d)=l:=by
 refine List.ext_getElem? λj=>?_;rw[List.getElem?_map];by_cases c:j<l.length
 .rw[List.getElem?_range c,List.getElem?_eq_getElem c];show some (l.getD j d)=_;rw[List.getD_eq_getElem?_getD,List.getElem?_eq_getElem c];rfl
 .rw[List.getElem?_eq_none (by simpa using c),List.getElem?_eq_none ⋯];rfl
def auX{M N:List (Int×Nat)}(h:M.Perm N):Pm.many M=Pm.many N:=by
 unfold Pm.many;exact(h.map (·.2)).sum_nat
theorem cO.prs{H:Hp}:∀{xs:List V} {M:List (Int×Nat)},cO H xs (M.map Pm.gw)->uF H xs (M.map λx=>(x.1,(x.2:Int)))
 |_,[],.nil=> .nil
 |_,_::_,.cons h r=> .cons h r.prs
theorem cO.pick{H:Hp}{xs:List V}{ps:List (List Int)}(h:cO H xs ps):∀{π:List Nat},(∀i∈π,i<ps.length)->cO H (π.map λi=>xs.getD i V.non) (π.map λi=>ps.getD i [])
 |[],_=> .nil
 |i :: π,hi=>by
  have hl:=h.len;have h1:i<ps.length:=hi i (cV ..);have ex:xs[i]?=some (xs.getD i V.non):=by rw[List.getD_eq_getElem?_getD,List.getElem?_eq_getElem ⋯];rfl
  obtain⟨t,p,e,ep,ht⟩:=h.get ex;have e2:ps.getD i []=p:=by rw[List.getD_eq_getElem?_getD,ep];rfl
  show cO H (xs.getD i V.non::_) (ps.getD i []::_);rw[e,e2];exact .cons ht (h.pick λj hj=>hi j (cZ _ hj))
inductive ako(K:aF)(vs:List V)(H:Hp)(Q:VK)(E:XK):Prop|mk (a:Addr) (ns:List Int) (k:Int) (bZ:vs=[.ref a,.int k]) (bV:au K H a (ns.map V.int)) (cB:ns.length<=63) (cM:0<=k) (cQ:k<=100) (dJ:∀c:Int,Q (.int c) H)
def aw4(K:aF):Sp:=ako K
abbrev Jj(P w K mg base):=iU P w K mg base "_law_at" 1 ["_law_script","_law_k"] (aw4 K)
structure Hu(M:List (Int×Nat)):Prop where
 nd:(M.map (·.1)).Nodup
 lo:∀x∈M,1<=x.2/\x.2<=3/\-4<=x.1/\x.1<=4
 all:Pm.many M<=5
def Yk(H:Hp)(a d:Addr)(hh:Int)(i:Nat)(σ':St)(H':Hp):Prop:=∃(o5 o6 o7 o8:Option V) (M':List (Int×Nat)),σ'=[some (.ref a),some (.int hh),some (.int 5),some (.int 4),some (.ref d),o5,o6,o7,o8]/\Same H H'/\H' d=some (.dK (cU M'))/\Hu M'/\M'.length<=i
inductive axj(K:aF)(vs:List V)(H:Hp)(Q:VK)(E:XK):Prop|mk (a:Addr) (ns:List Int) (hh:Int) (bZ:vs=[.ref a,.int hh,.int 5,.int 4]) (bV:au K H a (ns.map V.int)) (cB:ns.length<=63) (cM:0<=hh) (cQ:hh<=50) (dJ:∀l xs M H',Same H H'->H' l=some (.lst xs)->cO H' xs (M.map Pm.gw)->Hu M->M.length<=4->Q (.ref l) H')
def alT(K:aF):Sp:=axj K
abbrev aga(P w K mg base):=iU P w K mg base "_law_roots" 2 ["_law_script","_law_at_here","_law_most","_law_wide"] (alT K)
theorem Zu:∀(l:List (Int×Nat)) (x:Int×Nat) (a:List Int),Pm.jV (l++[x]) a=Pm.cY x.1 x.2 (Pm.jV l a)
 |[],_,_=>rfl
 |(r,m)::t,x,a=>Zu t x (Pm.cY r m a)
def asf{p:List Int}{r:Int}{b:Nat}(hp:∀z∈p,Rm.Bd b z)(hr:Rm.Bd 40 r):∀z∈Pm.mul 0 p (Pm.lin r),Rm.Bd (b+50) z:=λz hz=>by
 obtain⟨k,hk,e⟩:=jq.mp hz;rw[<-e,<-Pm.jo hk,Pm.jL,Rm.aY,Pm.UG,Oi];refine(Rm.Bd.add (n:=b+40) ?_ ?_).mono ⋯
 .split
  .exact Rm.Bd.zero _
  .exact(Pm.jA hp _).mono ⋯
 .have h:=hr.mul (Pm.jA hp k);have h2:Rm.Bd (b+40) (r*Pm.co p k):=h.mono ⋯;unfold Rm.Bd at h2⊢;rw[yD];exact h2
inductive axC(vs:List V)(H:Hp)(Q:VK)(E:XK):Prop|mk (l:Addr) (xs:List V) (M:List (Int×Nat)) (bZ:vs=[.ref l]) (bV:H l=some (.lst xs)) (cB:cO H xs (M.map Pm.gw)) (cM:M.length<=8) (cQ:Pm.many M<=9) (dJ:(∀x∈M,Rm.Bd 40 x.1)) (iV:∀l' H',Same H H'->H' l'=some (.lst ((Pm.jV M [1]).map V.int))->(∀z∈Pm.jV M [1],Rm.Bd 900 z)->Q (.ref l') H')
def akB:Sp:=axC
abbrev acL:=cP "_law_product" 2 ["_law_roots_here"] akB
def u0(P:List Int):List Int:=P.dropLast.reverse.map λx=>0-x
def Gg(P:List Int):(u0 P).length=P.length-1:=by rw[u0,aB,oY,vB]
def abH(P:List Int):u0 P=Pm.fO 0 P:=by
 refine Pm.uQ (by rw[Gg,Pm.nF]) λk=>?_;by_cases h:k<P.length-1
 .rw[Pm.fO,Pm.cX,if_pos h,Rm.aY];unfold u0;rw[Pm.lZ (f:=λx=>0-x) ∅];congr 1;show(P.dropLast.reverse).getD k 0=P.getD (P.length-1-1-k) 0;rw[List.getD_eq_getElem?_getD,List.getElem?_reverse (by rw[vB];exact h),vB,List.getElem?_dropLast,if_pos ⋯,<-List.getD_eq_getElem?_getD]
 .rw[Pm.aX (by rw[Gg];omega),Pm.aX (by rw[Pm.nF];omega)]
def aiY(P:List Int):gU (P.map V.int) none (some (-1))=P.dropLast.map V.int:=by
 unfold gU;rw[HT.rP,TJ,vm,aB,List.dropLast_eq_take,wL];congr 1;show(if(-1:Int)<0 then(-1+(P.length:Int)).toNat else min (-1:Int).toNat P.length)=P.length-1;rw[if_pos ∅];omega
def adz:V->V
 |.int k=> .int (0-k)
 |_=> .non
def aud(P:List Int):((P.dropLast.map V.int).reverse.filter λ_=>true).map adz=(u0 P).map V.int:=by
 rw[sW.mpr (by simp),<-QM,cR,u0,cR];rfl
def kE(M:List (Int×Nat)):List (Int×Nat):=M.filter λx=>!decide (x.1=0)
def alj(M:List (Int×Nat)):(M.map Pm.gw).filter (λc=>!decide (c.headD 0=0))=(kE M).map Pm.gw:=by
 rw[ZQ];rfl
theorem Oz(p:Int×Nat->Bool):∀M:List (Int×Nat),Pm.many (M.filter p)<=Pm.many M
 |[]=>aN _
 |x::M=>by
  have ih:=Oz p M;have e:Pm.many (x::M)=x.2+Pm.many M:=rfl;rw[ug];split
  .show x.2+Pm.many (M.filter p)<=_;omega
  .omega
def ayd(l:List (Int×Nat)):Pm.jV l [1]=Pm.RP l [1]:=by
 have e:=Pm.Ur [1] l [1];rw[Pm.mul_one (Pm.Mon.pU (Pm.IB l Pm.BD).1),Pm.mul_one (Pm.Mon.pU Pm.BD)]at e;exact e
def Hu.g48{M:List (Int×Nat)}(h:Hu M):Eu (u0 (Pm.RP (kE M) [1])):=by
 obtain⟨m1,m2⟩:=Cf.v7 (kE M);have hm:Cf.aQ (kE M)<=5:=fX (Oz _ M) h.all;have hlo:∀x∈kE M,x.1≠0/\x.2<=3/\-4<=x.1/\x.1<=4:=λx hx=>by
  obtain⟨h1,h2⟩:=pA.mp hx;have:=h.lo x h1;exact⟨by simpa using h2,this.2⟩
 refine⟨by rw[Gg,m2];exact hm,λx hx=>?_,Cf.iI (kE M),by rw[abH,Pm.BP (λk=>Rm.aY _) m1,Cf.yH],λx=>?_⟩
 .rw[abH]at hx;obtain⟨k,_,rfl⟩:=Pm.vU hx;rw[Rm.aY,Cf.yH];have b:=Cf.abO (Cf.iI (kE M)) ((Cf.bF (Cf.iI (kE M))).length-1-1-k);have:=Cf.YT (c:=4) (rs:=Cf.iI (kE M)) λr hr=>by
   obtain⟨m,hm,_⟩:=Cf.D8.mp hr;have h1:-4<=r:=(hlo _ hm).2.2.1;have h2:r<=4:=(hlo _ hm).2.2.2;omega
  rw[Cf.R4]at this;have:(4+1)^Cf.aQ (kE M)<=5^5:=wJ ∅ hm;exact Rm.Bd.of ⋯ ⋯
 .by_cases c:x∈Cf.iI (kE M)
  .obtain⟨m,hx,_⟩:=Cf.D8.mp c;have h3:x≠0/\m<=3/\-4<=x/\x<=4:=hlo _ hx;have hn:((kE M).map (·.1)).Nodup:=WW (afu _ List.filter_sublist) h.nd;have h4:=Cf.count_le hn hx;rw[Cf.Nh,if_pos (by simp only[Cf.allR,bJ,gK,or_false];omega)];omega
  .rw[afX.mpr c];omega
inductive amv(K:aF)(vs:List V)(H:Hp)(Q:VK)(E:XK):Prop|mk (a:Addr) (ns:List Int) (hh:Int) (bZ:vs=[.ref a,.int hh]) (bV:au K H a (ns.map V.int)) (cB:ns.length<=63) (cM:0<=hh) (cQ:hh<=50) (dJ:∀v rule ss H',Same H H'->iu H' v ⟨0,rule,ss⟩->Eu rule->rule.length=ss.length->(∀x∈ss,Rm.Bd 30 x)->Q v H')
def aif(K:aF):Sp:=amv K
abbrev acy(P w K mg base):=iU P w K mg base "_law_closed_row" 3 ["_law_script","_law_at_here"] (aif K)
inductive ath(vs:List V)(H:Hp)(Q:VK)(E:XK):Prop|mk (x y:Int) (bZ:vs=[.int x,.int y]) (bV:Q (.int (j6 x.natAbs y.natAbs:Nat)) H)
def atk:Sp:=ath
abbrev abp:=cP "_law_shared" 1 ["_law_one","_law_other"] atk
inductive Dk(H:Hp):List (Key×V)->List (Int×List Int)->Prop
 |nil:Dk H [] []
 |cons {a:Addr} {r:Int} {ts:List Int} {kvs:List (Key×V)} {T:List (Int×List Int)}:H a=some (.lst (ts.map V.int))->Dk H kvs T->Dk H ((.inl r,.ref a)::kvs) ((r,ts)::T)
theorem Dk.up{H H':Hp}(g:∀a xs,H a=some (.lst xs)->H' a=some (.lst xs)):∀{kvs:List (Key×V)} {T:List (Int×List Int)},Dk H kvs T->Dk H' kvs T
 |_,_,.nil=> .nil
 |_,_,.cons h r=> .cons (g _ _ h) (r.up g)
def Dk.same{H H':Hp}(g:Same H H'){kvs:List (Key×V)}{T:List (Int×List Int)}(h:Dk H kvs T):Dk H' kvs T:=h.up λa xs=>g a _
def MF{H:Hp}{d:Addr}{kvs:List (Key×V)}(hd:H d=some (.dK kvs))(o:HO)(a:Addr)(xs:List V)(h:H a=some (.lst xs)):upd H d o a=some (.lst xs):=by
 rw[bI λz=>by rw[z,hd]at h;cases h];exact h
theorem Dk.keys{H:Hp}:∀{kvs:List (Key×V)} {T:List (Int×List Int)},Dk H kvs T->kvs.map (·.1)=(T.map (·.1)).map nA
 |_,_,.nil=>rfl
 |_,_,.cons _ r=>by rw[bG,bG,bG,r.keys]
def Dk.len{H:Hp}{kvs:List (Key×V)}{T:List (Int×List Int)}(h:Dk H kvs T):kvs.length=T.length:=by have:=congrArg tH h.keys;simpa using this
theorem Dk.get{H:Hp}:∀{kvs:List (Key×V)} {T:List (Int×List Int)} {i:Nat} {kv:Key×V},Dk H kvs T->kvs[i]?=some kv->∃a r ts,kv=(.inl r,.ref a)/\T[i]?=some (r,ts)/\H a=some (.lst (ts.map V.int))
 |_,_,_,_,.nil,h=>by cases h
 |_,_,0,_,.cons h1 _,e=>by cases e;exact⟨_,_,_,rfl,rfl,h1⟩
 |_,_,i+1,_,.cons _ r,e=>Dk.get (i:=i) r e
theorem Dk.val{H:Hp}(r:Int):∀{kvs:List (Key×V)} {T:List (Int×List Int)},Dk H kvs T->(∃a,dU kvs (.inl r)=some (.ref a)/\H a=some (.lst ((Cf.dz r T).map V.int)))∨(dU kvs (.inl r)=none/\Cf.dz r T=[]/\r∉T.map (·.1))
 |_,_,.nil=> .inr ⟨rfl,rfl,λh=>by cases h⟩
 |_,_,.cons (a:=a) (r:=s) (ts:=ts) (T:=T) h1 q=>by
  unfold Cf.dz;by_cases e:s=r
  .exact .inl ⟨a,by rw[yL (congrArg nA e)],by rw[if_pos e];exact h1⟩
  .rw[if_neg e,wO λz=>e (vh z)];refine(q.val r).imp id λ⟨z1,z2,z3⟩=>⟨z1,z2,λz=>?_⟩;rcases bJ.mp (show r∈s::T.map (·.1)from z)with z|z
   .exact e z.symm
   .exact z3 z
def ai2{kvs:List (Key×V)}{p:Key×V}{k:Key}{v:V}(h:p.1≠k):putK (p::kvs) k v=p::putK kvs k v:=by
 unfold putK;rw[Bj,decide_eq_false h,Pq];split
 .rw[bG,if_neg h]
 .rfl
def aql{kvs:List (Key×V)}{p:Key×V}{k:Key}{v:V}(h:p.1=k)(hn:k∉kvs.map (·.1)):putK (p::kvs) k v=(k,v)::kvs:=by
 unfold putK;rw[Bj,decide_eq_true h,WH,if_pos rfl,bG,if_pos h,h];congr 1;exact(lJ λx hx=>if_neg λz=>hn (by rw[<-z];exact iK (f:=(·.1)) hx)).trans (yg _)
theorem Dk.put{H:Hp}{a:Addr}{r:Int}{ts:List Int}(ha:H a=some (.lst (ts.map V.int))):∀{kvs:List (Key×V)} {T:List (Int×List Int)},Dk H kvs T->(T.map (·.1)).Nodup->Dk H (putK kvs (.inl r) (.ref a)) (Cf.ou r ts T)
 |_,_,.nil,_=> .cons ha .nil
 |_,_,.cons (r:=s) (kvs:=kvs) (T:=T) h1 q,hd=>by
  have hd':s∉T.map (·.1)/\(T.map (·.1)).Nodup:=mV.mp hd;unfold Cf.ou;by_cases e:s=r
  .rw[if_pos e,aql (congrArg nA e)]
   .exact .cons ha q
   .rw[q.keys];intro z;obtain⟨y,hy,e2⟩:=bY.mp z;exact hd'.1 (by rw[e,<-vh e2];exact hy)
  .rw[if_neg e,ai2 λz=>e (vh z)];exact .cons h1 (q.put ha hd'.2)
def uw(H:Hp)(t:Addr)(b:Int)(ps:List (Int×List Int)):Prop:=∃lp ys ex,H t=some (.tup [.int b,.ref lp])/\H lp=some (.lst ys)/\eG H ex ys ps
theorem uw.same{H H':Hp}(g:Same H H'){t:Addr}{b:Int}{ps:List (Int×List Int)}:uw H t b ps->uw H' t b ps:=λ⟨lp,ys,ex,h1,h2,h3⟩=>⟨lp,ys,ex,g _ _ h1,g _ _ h2,h3.same g⟩
def Gets(f:Nat->Int)(H:Hp)(Q:VK):Prop:=∀t b ps H',Same H H'->uw H' t b ps->Cf.Fm f b ps->Q (.ref t) H'
def arV(T:List (Int×List Int))(g:Int)(ks:List Int)(r:Int):Cf.lowP T g (ks++[r])=Cf.lowP T g ks++(if Cf.je g (Cf.dz r T)≠[]then[(r,Cf.je g (Cf.dz r T))]else[]):=by
 unfold Cf.lowP;rw[fZ,BQ];congr 1;show List.filter _ [(r,Cf.je g (Cf.dz r T))]=_;rw[ug];by_cases h:Cf.je g (Cf.dz r T)≠[]
 .rw[if_pos h,if_pos (decide_eq_true h)];rfl
 .rw[if_neg h,if_neg (by rw[decide_eq_false h];decide)];rfl
structure WT(T:List (Int×List Int)):Prop where
 nd:(T.map (·.1)).Nodup
 few:T.length<=40
 ne:∀p∈T,p.1≠0/\p.2.length<=40
inductive aqk(vs:List V)(H:Hp)(Q:VK)(E:XK):Prop|mk (d:Addr) (kvs:List (Key×V)) (T:List (Int×List Int)) (bot:Int) (f:Nat->Int) (bZ:vs=[.ref d,.int bot]) (bV:H d=some (.dK kvs)) (cB:Dk H kvs T) (cM:WT T) (cQ:1<=bot) (dJ:Rm.Bd 8000 bot) (iV:(∀n,Cf.cj T n=bot*f n)) (jz:Gets f H Q)
def ayz:Sp:=aqk
def atN{bot:Int}{ts:List Int}(h1:1<=bot)(h:Rm.Bd 8000 bot):((Lm.dg bot.natAbs ts:Nat):Int)≠0/\((Lm.dg bot.natAbs ts:Nat):Int).natAbs.log2<9000:=by
 have gp:=Lm.GB (g:=bot.natAbs) ⋯ ts;refine⟨⋯,?_⟩;rw[uM];refine vJ ((OD (k:=8000) ⋯).mpr ?_) ∅;exact qp (pH ⋯ (Lm.zp bot.natAbs ts)) h
def ay7{T:List (Int×List Int)}(h:WT T)(r:Int):(Cf.dz r T).length<=40:=by
 by_cases c:Cf.dz r T=[]
 .rw[c];exact cD _
 .exact(h.ne _ (Cf.Er c)).2
abbrev SD:=cP "_law_lowest" 2 ["_law_tops","_law_bottom"] ayz
structure FO(f:Nat->Int)(b:Int)(ps:List (Int×List Int)):Prop where
 fm:Cf.Fm f b ps
 few:ps.length<=10
 ok:∀p∈ps,p.2.length<=10/\∀c∈p.2,Rm.Bd 2400 c
 bb:Rm.Bd 2400 b
structure Ce(T:List (Int×List Int))(m:Nat)(F:Nat->Int):Prop where
 nd:(T.map (·.1)).Nodup
 few:T.length<=m
 ne:∀p∈T,p.1≠0/\p.2.length<=40
 sum:∀n,Cf.cj T n=F n
def Ce.put{T:List (Int×List Int)}{m:Nat}{F:Nat->Int}(h:Ce T m F){r:Int}{c:List Int}(hr:r≠0)(hc:c.length<=40)(G:Nat->Int)(hG:∀n,G n+r^n*Cf.pv (Cf.dz r T) (n:Int)=F n+r^n*Cf.pv c (n:Int)):Ce (Cf.ou r c T) (m+1) G:=by
 have e:=Cf.ab1 r c T;have hf:=h.few;refine⟨?_,?_,λp hp=>?_,λn=>?_⟩
 .rw[e];split
  .exact h.nd
  .rename_i z
   exact M7.mpr ⟨h.nd,DQ ..,λx hx y hy=>λw=>z (by rw[<-eE.mp hy,<-w];exact hx)⟩
 .have:=congrArg tH e;rw[aB]at this;split at this
  .rw[aB]at this;omega
  .rw[dW,aB]at this;show _<=_;rw[this];show T.length+1<=_;omega
 .rcases Cf.acN hp with rfl|hp
  .exact⟨hr,hc⟩
  .exact h.ne p hp
 .have:=Cf.acw r c n T;have:=hG n;have:=h.sum n;omega
def aoU(c x:Int)(ts:List Int):Cf.pv (ts.map λt=>t*c) x=c*Cf.pv ts x:=by
 rw[<-Cf.Te,show(λt=>t*c)=λt=>c*t from funext λt=>cC t c]
def aqn(i j:Nat):(if(j:Int)>(i:Int)then(j:Int)else(i:Int))=((max i j:Nat):Int):=by split<;>omega
def YQ(k:Nat):(bN k [V.int 0]).flatten=(bN k (0:Int)).map V.int:=by
 induction k with
 |zero=>rfl
 |succ k ih=>rw[wU,Ef,ih,wU,bG];rfl
def acA:V->V->V
 |.int a,.int b=> .int (a+b)
 |_,_=> .non
theorem aby:∀xs ys:List Int,uR acA (xs.map V.int) (ys.map V.int)=(uR (· + ·) xs ys).map V.int
 |[],_=>rfl
 |_::_,[]=>rfl
 |x::xs,y::ys=>by rw[bG,bG,List.zipWith_cons_cons,aby xs ys];rfl
def FS(b1 b2:Int)(ps1 ps2:List (Int×List Int))(i:Nat):Nat->Int:=λn=>(if 0<i then b2*Cf.cj ps1 n else 0)+(if 1<i then b1*Cf.cj ps2 n else 0)
inductive anD(vs:List V)(H:Hp)(Q:VK)(E:XK):Prop|mk (t1 t2:Addr) (b1 b2:Int) (ps1 ps2:List (Int×List Int)) (f1 f2:Nat->Int) (bZ:vs=[.ref t1,.ref t2]) (bV:uw H t1 b1 ps1) (cB:uw H t2 b2 ps2) (cM:FO f1 b1 ps1) (cQ:FO f2 b2 ps2) (dJ:Gets (λn=>f1 n+f2 n) H Q)
def aqt:Sp:=anD
inductive Xm(H:Hp)(t1 t2 d u1 u2 lz:Addr)(b1 b2:Int)(m:Nat)(F:Nat->Int)(σ':St)(H':Hp):Prop
 |mk (o3 o4 o5 o6 o7 o8 o9:Option V) (kvs:List (Key×V)) (T:List (Int×List Int)):σ'=[some (.ref t1),some (.ref t2),some (.ref d),o3,o4,o5,o6,o7,o8,o9]->Same H H'->H' u1=some (.tup [.ref t1,.int b2])->H' u2=some (.tup [.ref t2,.int b1])->H' lz=some (.lst [.ref u1,.ref u2])->H' d=some (.dK kvs)->Dk H' kvs T->Ce T m F->Xm H t1 t2 d u1 u2 lz b1 b2 m F σ' H'
inductive Zf(H:Hp)(t1 t2 d u1 u2 lz:Addr)(b1 b2:Int)(t:Addr)(c:Int)(m:Nat)(F:Nat->Int)(σ':St)(H':Hp):Prop
 |mk (o5 o6 o7 o8 o9:Option V) (kvs:List (Key×V)) (T:List (Int×List Int)):σ'=[some (.ref t1),some (.ref t2),some (.ref d),some (.ref t),some (.int c),o5,o6,o7,o8,o9]->Same H H'->H' u1=some (.tup [.ref t1,.int b2])->H' u2=some (.tup [.ref t2,.int b1])->H' lz=some (.lst [.ref u1,.ref u2])->H' d=some (.dK kvs)->Dk H' kvs T->Ce T m F->Zf H t1 t2 d u1 u2 lz b1 b2 t c m F σ' H'
abbrev W4:=cP "_law_added" 3 ["_law_one","_law_other"] aqt
theorem abv:∀(l:List (Int×Nat)) (us:List Int),∀p∈Cf.fG l us,∀c∈p.2,c∈us
 |[],_,p,hp=>by cases hp
 |(r,m)::t,us,p,hp=>by
  intro c hc;rcases bJ.mp (show p∈(r,us.take m)::Cf.fG t (us.drop m)from hp)with rfl|hp
  .exact afk hc
  .exact List.mem_of_mem_drop (abv t (us.drop m) p hp c hc)
theorem Wi:∀(l:List (Int×Nat)) (us:List Int),us.length=Cf.aQ l->Cf.eV (Cf.fG l us)=us
 |[],us,h=>by
  have:us=[]:=sU h;rw[this];rfl
 |(r,m)::t,us,h=>by
  rw[Cf.rE]at h;show us.take m++Cf.eV (Cf.fG t (us.drop m))=us;rw[Wi t (us.drop m) (by rw[oU];omega),Ie]
def Form.fo{f:Nat->Int}{L:List Int}{l:List (Int×Nat)}{bot:Int}{us:List Int}(F:Form f L l bot us):FO f bot (Cf.fG l us):=by
 have l6:=ad4 F.pos;have hN:=F.few;have lp:(Cf.fG l us).length=l.length:=by have:=congrArg tH (Cf.Qm l us F.len);rwa [aB]at this
 have ml:=λp hp=>Cf.CF l us F.len p hp;refine⟨⟨F.Yp,by rw[Cf.FY];exact F.up,λp hp=>F.ne _ (ml p hp),λp hp=>?_,by rw[Wi l us F.len];exact F.gcd,F.sum⟩,⋯,λp hp=>?_,F.bb⟩
 .have hm':0<p.2.length:=F.pos _ (ml p hp);refine Cf.axD (N:=Cf.aQ l) (f:=f) (bot:=bot) ?_ (λq hq hk=>?_) (by rw[Cf.FY];exact Cf.rC F.up) (by have:=F.Yp;omega) F.sum p hp (AF.mp hm')
  .have e:=congrArg (λt=>(t.map (·.2)).sum) (Cf.Qm l us F.len);simp only[cR]at e;exact e
  .have:=(F.least.all q hk).len rfl F.least.mon hq;rw[F.rp,(Cf.v7 l).2]at this;exact this
 .have:=Xu (ml p hp);have:p.2.length<=Cf.aQ l:=this;exact⟨⋯,λc hc=>F.bu c (abv l us p hp c hc)⟩
def d8.closed{C1 C2:Addr}{d c:Nat}{r:Rw}(h:d8 d c r){v:V}{H:Hp}(hR:iu H v r){Q:VK}{E:XK}(q:∀t b ps H',Same H H'->uw H' t b ps->FO r.at b ps->Q (.ref t) H'):abN C1 C2 [v] H Q E:=by
 have:=h.vN;have:=h.Ag;exact⟨v,r,rfl,hR,h.by_,h.ok,h.tame,λn hn=>(h.Bb n).mono ⋯,λL lst=>⟨by have:=(h.small lst).1;omega,(h.small lst).2⟩,h.lows,λL lst hc H' _=>(h.some_ lst hc).elim,λL l bot us F t lp ys ex H' g ht hl hp=>q t bot _ H' g ⟨lp,ys,ex,ht,hl,hp⟩ F.fo⟩
def aeM{K:aF}{g:Bool->Bool}{H:Hp}{a c:Addr}{n:Int}{ps:List (Int×List Int)}{Q:VK}(h1:uw H a n ps)(h2:uw H c n ps)(q:Q (.bl (g true)) H):rD K g (.ref a) (.ref c) H Q:=by
 obtain⟨lp,ys,ex,a1,a2,a3⟩:=h1;obtain⟨lq,zs,ey,b1,b2,b3⟩:=h2;exact an5 a1 a2 a3 b1 b2 b3 q
def aqB{n:Nat}{ix:List (Option Nat)}{te:TE}{σ:St}{H1:Hp}{Q:VK}(hz:n<=1000){rest:St}(hst:cst ix σ=none::rest)(Pr:Int->Prop)
  (he:∀(H':Hp) (k:Nat),Same H1 H'->k<n->∀kk:VK,(∀x,Pr x->kk (.int x) H')->te (some (.int (0+(k:Int)))::rest) H' kk)
  (hQ:∀D H' (xs:List Int),H1 D=none->Same H1 H'->H' D=some (.lst (xs.map V.int))->xs.length=n->(∀x∈xs,Pr x)->Q (.ref D) H'):jN ix (iD 0) lA te σ Q (mZ 0 n) H1:=by
 have I:qC (mZ 0 n) ((fj n).map λi=>V.int (0+(i:Nat))) H1:=zq;have lv:((fj n).map λi=>V.int (0+((i:Nat):Int))).length=n:=by rw[aB,mR]
 constructor;intro D hD;refine⟨λi m σ' H'=>m=n-i/\i<=n/\(∃o,σ'=o::rest)/\Same H1 H'/\∃xs:List Int,H' D=some (.lst (xs.map V.int))/\xs.length=i/\∀x∈xs,Pr x,⟨n,by simp,cD _,⟨none,hst⟩,Same.new hD _,[],aC,rfl,λx hx=>absurd hx gK⟩,?_⟩;rintro i m σ' H' ⟨rfl,hi,⟨o,rfl⟩,g,xs,hl,lx,hx⟩;by_cases hlt:i<n
 .refine .inr ⟨I.go i _ g ⋯,λy H2 yy=>?_⟩;obtain⟨rfl,hy⟩:=I.jM i _ y H2 g yy;obtain⟨j,hj,rfl⟩:=HN (hy ⋯);rw[List.getElem?_range hlt]at hj;cases hj;change te (some (.int (0+(i:Int)))::rest) H2 _;refine he H2 i g hlt _ λx px=>⟨_,hl,by rw[aB,lx];exact dZ ⋯,n-(i+1),⋯,rfl,hlt,⟨_,rfl⟩,Same.upd g hD _,xs++[x],by rw[aC,fZ];rfl,by rw[dW,lx];rfl,λz hz=>?_⟩;rcases fP.mp hz with hz|hz
  .exact hx z hz
  .rw[eE.mp hz];exact px
 .have e:i=n:=⋯;subst e;exact .inl ⟨I.stop _ _ g ⋯,hQ D H' xs hD g hl lx hx⟩
section
variable {P:Program} {w:World} {K:aF} {mg:Str->Option Value} {base:Heap}
variable {eX dN:Addr} (B:Bt mg) (M:Ms K mg base eX dN)
include B M
theorem anh(F:Fn K mg "taken" QH ["by","number"]):jT P w K mg base:=by
 refine F.cal ahV (λvs H Q E h=>?_) (λ_ _ _ _ _ H _ Q E hr h=>?_)
 .obtain⟨b,n,rfl,_⟩:=h;rfl
 .obtain⟨b,n,rfl,h0,q⟩:=h;refine⟨_,(ao (eY (cT (jh K hr) (pv 0) aq) (aD (bf (pv 1))) fB) (aD (bf (aK jg (pv 1) (pv 0))))),?_⟩;refine⟨_,rfl,_,rfl,?_⟩;refine dM (λc=>?_) (λc=>?_)
  .refine⟨_,rfl,?_⟩;have c':b=0:=dec_true c;have e:Rm.tk b n=n:=by rw[c',Rm.aY]
   rw[e]at q;exact q
  .have c':¬b=0:=dec_false c;refine⟨_,rfl,_,rfl,_,_,rfl,rfl,(⋯:(0:Int)<b),?_⟩;rw[Rm.jZ c']at q;exact q
theorem apH(F:Fn K mg "next_place" Uo ["by","rule","before"])(cN:jT P w K mg base):YZ P w K mg base:=by
 refine F.cal FQ (λvs H Q E h=>?_) (λ_ _ _ _ _ H _ Q E hr h=>?_)
 .obtain⟨b,r,s,rule,before,rfl,_⟩:=h;rfl
 .obtain⟨b,r,s',rule,before,rfl,hb,hR,hS,hl,hl2,hl3,bR,bS,q⟩:=h;refine⟨_,(ao (aH 3 FQ.nd aq) (ao (gk PassesOwn.never rfl (iC rfl B.gG (aL (cH K B.cJ (ak (pv 1) aj)) aj)) (bD 4 FQ.nd) (aD (aH 3 FQ.nd (pad K (pv 3) (aK v_mul (aO K (pv 1) (pv 4)) (aO K (pv 2) (aK dI (aK dI (cH K B.cJ (ak (pv 2) aj)) aq) (pv 4)))))))) (aD (bf (aJ cN hr (ak (pv 0) (ak (pv 3) aj))))))),?_⟩;have lR:(rule.map V.int).length=rule.length:=aB _;have lS:(before.map V.int).length=before.length:=aB _;refine⟨_,rfl,.ref r,rule.length,rfl,.inr ⟨_,hR,lR.symm⟩,?_⟩;refine⟨(rule.length:Int),rfl,(⋯:-(2^62)<=(rule.length:Int)),(⋯:(rule.length:Int)<2^62),?_⟩;refine lG (lo:=0) (n:=(rule.length:Int).toNat) (λi σ' H'=>∃o,σ'=[some (.int b),some (.ref r),some (.ref s'),some (.int (Rm.S rule (λi=>before.getD i 0) before.length i)),o]/\H'=H) ⟨none,rfl,rfl⟩ ?_ ?_
  .rintro i σ' H' hi ⟨o,rfl,rfl⟩;have hi':i<rule.length:=⋯;have e0:(0:Int)+(i:Int)=(i:Int):=⋯;have e1:(before.length:Int)-1-(0+(i:Int))=((before.length-1-i:Nat):Int):=⋯;refine⟨_,rfl,?_⟩;refine⟨_,rfl,_,rfl,_,_,.inr hR,eN (ns:=rule) (⋯:(0:Int)<=0+(i:Int)) ⋯,?_⟩;refine⟨_,rfl,_,rfl,.ref s',before.length,rfl,.inl ⟨_,hS,lS.symm⟩,_,_,rfl,rfl,_,rfl,_,_,rfl,rfl,?_⟩;refine⟨_,_,.inl hS,eN (ns:=before) (⋯:(0:Int)<=(before.length:Int)-1-(0+(i:Int))) ⋯,?_⟩;refine⟨m6 (Rm.Bd.getD bR _) (Rm.Bd.getD bS _) ∅,?_⟩;refine⟨some (.int (0+(i:Int))),?_,rfl⟩;rw[e1,e0,d9,d9];rfl
  .rintro σ' H' ⟨o,rfl,rfl⟩;refine⟨_,rfl,_,rfl,b,_,rfl,hb,?_⟩;rw[show(rule.length:Int).toNat=rule.length from d9 _];exact q
theorem au9(F:Fn K mg "first_places" Qo ["row","count"])(Vq:YZ P w K mg base):agf P w K mg base:=by
 refine F.cal BF (λvs H Q E h=>?_) (λ_ _ _ _ _ H _ Q E hr h=>?_)
 .obtain⟨v,r,c,rfl,_⟩:=h;rfl
 .obtain⟨v,r,c,rfl,⟨a,p,p2,rfl,hA,hR,hS⟩,ok,hc0,hc1,q⟩:=h;refine⟨_,(ao (aH 2 BF.nd (aO K (pv 0) aq)) (ao (aH 3 BF.nd (aO K (pv 0) aq)) (ao (aH 4 BF.nd (aO K (pv 0) aq)) (ao (aH 5 BF.nd (aqN (lB (xlist K) rfl B.Gu boot_list (aL (wK (wD K) (pv 4) yX (uL (pv 1))) aj)))) (ao (oX PassesOwn.never (cT Aq (cH K B.cJ (ak (pv 5) aj)) (pv 1)) (aD (kZ (tX K (pv 5) (aJ Vq hr (ak (pv 2) (ak (pv 3) (ak (pv 5) aj)))))))) (aD (bf (pv 5)))))))),?_⟩;have hl:=ok.len;have hl2:=ok.short;have lS:(r.starts.map V.int).length=r.starts.length:=aB _;refine⟨_,rfl,_,_,.inr (aA.of hA),rfl,?_⟩;refine⟨_,rfl,_,_,.inr (aA.of hA),rfl,?_⟩;refine⟨_,rfl,_,_,.inr (aA.of hA),rfl,?_⟩;have aun:gU (r.starts.map V.int) none (some c)=(r.row (min c.toNat r.starts.length)).map V.int:=by
   have e:r.row (min c.toNat r.starts.length)=r.starts.take (min c.toNat r.starts.length):=Rm.Vs (agb _ _);rw[e];have e2:c=((c.toNat:Nat):Int):=⋯;unfold gU;rw[e2,HT.qe,HT.rP,TJ,vm,lS,wL,d9]
  refine Bar.by (λv H1=>∃l,v = .ref l/\Same H H1/\H l=none/\H1 l=some (.lst ((r.row (min c.toNat r.starts.length)).map V.int))) (λkk hkk=>?_) ?_
  .refine⟨_,rfl,_,rfl,_,rfl,?_⟩;by_cases hw:r.starts.length<=c.toNat
   ·-- the whole of it
    refine .inr (.inr ⟨_,aA.of hS,?_,?_⟩)
    .have e2:c=((c.toNat:Nat):Int):=⋯;rw[e2,HT.qe,HT.rP,lS];omega
    .refine⟨p2,_,rfl,.inr (aA.of hS),λl hl1=>hkk _ _ ⟨l,rfl,Same.new hl1 _,hl1,?_⟩⟩;rw[aC,Nat.min_eq_right hw];have e:r.row r.starts.length=r.starts:=(Rm.Vs (aN _)).trans (mF ..);rw[e]
   .refine .inr (.inl ⟨_,aA.of hS,?_,λp3 hp3=>?_⟩)
    .have e2:c=((c.toNat:Nat):Int):=⋯;rw[e2,HT.qe,HT.rP,lS];omega
    .refine⟨p3,_,rfl,.inr (aA.of aC),λl hl1=>?_⟩;have g3:=Same.new hp3 (.tup (gU (r.starts.map V.int) none (some c)));refine hkk _ _ ⟨l,rfl,g3.trans (Same.new hl1 _),g3.free hl1,?_⟩;rw[aC,aun]
  rintro v H1 ⟨l,rfl,g1,hl1,hr1⟩;refine⟨λm σ' H'=>∃n:Nat,m=c.toNat-n/\min c.toNat r.starts.length<=n/\n<=c.toNat/\σ'=[some (.ref a),some (.int c),some (.int r.b),some (.ref p),some (.ref p2),some (.ref l)]/\Same H H'/\H' l=some (.lst ((r.row n).map V.int)),
   ⟨_,min c.toNat r.starts.length,rfl,aN _,Nat.min_le_left _ _,rfl,g1,hr1⟩,?_⟩
  rintro m σ' H' ⟨n,rfl,h1,h2,rfl,g,hL⟩;have lL:((r.row n).map V.int).length=n:=by rw[aB,Rw.ud]
  refine⟨_,rfl,.ref l,n,rfl,.inl ⟨_,au.of hL,lL.symm⟩,_,rfl,_,_,rfl,rfl,_,rfl,?_⟩;refine dM (λcc=>?_) (λcc=>?_)
  .have hn:n<c.toNat:=by have:=dec_true cc;omega
   refine⟨_,λ_ _ z=>z,?_⟩;refine⟨_,rfl,.inl ⟨rfl,_,au.of hL⟩,_,rfl,_,rfl,_,rfl,r.b,p,l,r.rule,r.row n,rfl,ok.oO,aA.of (g _ _ hR),au.of hL,?_,hl2,?_,ok.Ak,ok.au1 n ⋯,?_⟩
   .rw[Rw.ud];omega
   .rw[Rw.ud];omega
   .refine⟨l,_,_,rfl,rfl,hL,?_,?_⟩
    .rw[lL];exact dZ ⋯
    .refine⟨c.toNat-(n+1),⋯,n+1,rfl,⋯,⋯,rfl,g.upd hl1 _,?_⟩;rw[aC,Rw.ud];have e:r.row (n+1)=r.row n++[Rm.tk r.b (Rm.S r.rule (λi=>(r.row n).getD i 0) n r.rule.length)]:=by
      show _++[if n<r.starts.length then r.starts.getD n 0 else _]=_;rw[if_neg ⋯];rfl
     rw[e,fZ];rfl
  .have hn:n=c.toNat:=by have:=dec_false cc;omega
   subst hn;refine⟨_,rfl,?_⟩;exact q l H' g hl1 hL
theorem ara(F:Fn K mg "is_prime" Ri ["number"]):Z9 P w K mg base:=by
 refine F.cal PL (λvs H Q E h=>?_) (λ_ _ _ _ _ H _ Q E hr h=>?_)
 .obtain⟨n,rfl,_⟩:=h;rfl
 .obtain⟨n,rfl,hn,q⟩:=h;refine⟨_,(ao (eY (cT Aq (pv 0) aq) (aD (bf Ad)) fB) (ao (aH 1 PL.nd aq) (ao (oX PassesOwn.never (cT Nv (aK v_mul (pv 1) (pv 1)) (pv 0)) (ao (eY (cT (jh K hr) (aK jg (pv 0) (pv 1)) aq) (aD (bf Ad)) fB) (aD (aH 1 PL.nd (pad K (pv 1) aq))))) (aD (bf Ad))))),?_⟩;refine⟨_,rfl,_,_,rfl,rfl,_,rfl,?_⟩;refine dM (λc=>?_) (λc=>?_)
  .have c':(n:Int)<2:=dec_true c;exact q false ⟨λz=>absurd z ∅,λz=>by have:=z.1;omega⟩
  .have c':¬(n:Int)<2:=dec_false c;refine⟨λm σ' H'=>∃d:Nat,σ'=[some (.int n),some (.int (d:Int))]/\H'=H/\2<=d/\d<=n+1/\m=n+2-d/\∀e:Nat,2<=e->e<d->¬e∣n,⟨_,2,rfl,rfl,⋯,⋯,rfl,λe h1 h2=>⋯⟩,?_⟩;rintro m σ' H' ⟨d,rfl,rfl,h2,hdn,rfl,hd⟩;refine⟨_,rfl,_,rfl,mulL ⋯ ⋯,_,rfl,_,_,rfl,rfl,_,rfl,?_⟩;refine dM (λc2=>?_) (λc2=>?_)
   .have c2':(d:Int)*d<=n:=dec_true c2;have X7:d*d<=n:=by exact_mod_cast c2'
    have hdl:d*1<=d*d:=uZ d ⋯;refine⟨_,λ_ _ z=>z,?_⟩;refine⟨_,rfl,_,rfl,_,_,rfl,rfl,(⋯:(0:Int)<(d:Int)),?_⟩;refine⟨_,rfl,?_⟩;refine dM (λc3=>?_) (λc3=>?_)
    .have wV:(n:Int)%(d:Int)=0:=dec_true c3;have hdv:d∣n:=Ck.mp (Bv wV);exact q false ⟨λz=>absurd z ∅,λz=>absurd z (Om.ais h2 X7 hdv)⟩
    .have wV:¬(n:Int)%(d:Int)=0:=dec_false c3;refine⟨_,rfl,?_⟩;exact⟨n+2-(d+1),⋯,d+1,by simp,rfl,⋯,⋯,rfl,λe h1 h3=>by
      rcases vZ e d with z|z
      .exact hd e h1 z
      .have:e=d:=⋯;subst this;exactλz=>wV (Int.emod_eq_zero_of_dvd (Ck.mpr z))⟩
   .have c2':¬(d:Int)*d<=n:=dec_false c2;have X7:¬d*d<=n:=λz=>c2' (by exact_mod_cast z);exact q true ⟨λ_=>Om.KR ⋯ λe h1 h3 hdv=>by
     by_cases c4:e<d
     .exact hd e h1 c4 hdv
     .have:d*d<=e*e:=ig ⋯ ⋯;omega,λ_=>rfl⟩
theorem ajp(F:Fn K mg "prime_above" KZ ["number"])(Tw:Z9 P w K mg base):afA P w K mg base:=by
 refine F.cal Ox (λvs H Q E h=>?_) (λ_ _ _ _ _ H _ Q E hr h=>?_)
 .obtain⟨n,q,rfl,_⟩:=h;rfl
 .obtain⟨n,q',rfl,hq,hnq,hqb,q⟩:=h;refine⟨_,(ao (aH 1 Ox.nd (pad K (pv 0) aq)) (ao (oX PassesOwn.never (Ep (wW (aJ Tw hr (ak (pv 1) aj)))) (aD (aH 1 Ox.nd (pad K (pv 1) aq)))) (aD (bf (pv 1))))),?_⟩;refine⟨_,rfl,?_⟩;refine⟨λm σ' H'=>∃f:Nat,σ'=[some (.int n),some (.int (f:Int))]/\H'=H/\n<f/\f<=q'/\m=q'-f,⟨_,n+1,rfl,rfl,⋯,⋯,rfl⟩,?_⟩;rintro m σ' H' ⟨f,rfl,rfl,h1,h2,rfl⟩;refine⟨_,rfl,f,rfl,⋯,λb hb=>?_⟩;refine⟨b,rfl,?_⟩;cases b with
  |false=>
   refine⟨_,λ_ _ z=>z,?_⟩;refine⟨_,rfl,?_⟩;have hne:f≠q':=λe=>absurd (hb.mpr (e▸hq)) ∅;exact⟨q'-(f+1),⋯,f+1,rfl,rfl,⋯,⋯,rfl⟩
  |true=>
   refine⟨_,rfl,?_⟩;exact q f (hb.mp rfl) h1 h2
theorem ajv(F:Fn K mg "inverse" QJ ["prime","number"])(cN:jT P w K mg base):W7 P w K mg base:=by
 refine F.cal yj (λvs H Q E h=>?_) (λ_ _ _ _ _ H _ Q E hr h=>?_)
 .obtain⟨P,a,rfl,_⟩:=h;rfl
 .obtain⟨P',a,rfl,hP,hPb,h0,h1,q⟩:=h;have hr2:2<=P'/\P'<2097152:=⟨hP.1,hPb⟩;refine⟨_,(ao (aH 2 yj.nd aq) (ao (aH 3 yj.nd (pv 1)) (ao (aH 4 yj.nd (aK dI (pv 0) aq)) (ao (oX PassesOwn.never (cT tQ (pv 4) aq) (ao (uc (eY (cT (jh K hr) (aK jg (pv 4) aq) aq) (aD (aH 2 yj.nd (aJ cN hr (ak (pv 0) (fK (aK v_mul (pv 2) (pv 3)) aj))))) fB)) (ao (aH 3 yj.nd (aJ cN hr (ak (pv 0) (fK (aK v_mul (pv 3) (pv 3)) aj)))) (aD (aH 4 yj.nd (aK AW (pv 4) aq)))))) (aD (bf (pv 2))))))),?_⟩;refine⟨_,rfl,?_⟩;refine⟨_,rfl,_,_,rfl,rfl,?_⟩;have e0:((P':Int)-2).toNat=P'-2:=⋯;refine⟨λm σ' H'=>∃power square left:Int,σ'=[some (.int P'),some (.int a),some (.int power),some (.int square),some (.int left)]/\H'=H/\m=left.toNat/\0<=power/\power<2097152/\0<=square/\square<2097152/\0<=left/\Om.Keeps P' a (P'-2) power square left.toNat,
   ⟨_,1,a,(P':Int)-2,rfl,rfl,rfl,∅,∅,⋯,⋯,⋯,by rw[e0];exact Om.ap0 _ _ _⟩,?_⟩
  rintro m σ' H' ⟨power,square,left,rfl,rfl,rfl,p0,p1,s0,s1,l0,hk⟩;refine⟨_,rfl,_,_,rfl,rfl,_,rfl,?_⟩;refine dM (λc=>?_) (λc=>?_)
  .have c':0<left:=dec_true c;refine⟨_,λ_ _ z=>z,?_⟩;have hpos:(0:Int)<(P':Int):=⋯;have jj:∀n,Rm.tk (P':Int) n=n%(P':Int):=λn=>Rm.jZ ⋯ n;refine qO.by (λσ' H2=>∃power':Int,σ'=[some (.int P'),some (.int a),some (.int power'),some (.int square),some (.int left)]/\H2=H'/\((left%2=1/\power'=power*square%(P':Int))∨(¬left%2=1/\power'=power))) (λN hN=>?_) ?_
   .refine⟨_,rfl,_,_,rfl,rfl,(∅:(0:Int)<2),_,rfl,?_⟩;refine dM (λc2=>?_) (λc2=>?_)
    .refine⟨_,rfl,_,rfl,_,rfl,mulL ⋯ ⋯,P',_,rfl,⋯,?_⟩;exact hN _ _ ⟨_,rfl,rfl,.inl ⟨dec_true c2,jj _⟩⟩
    .exact hN _ _ ⟨_,rfl,rfl,.inr ⟨dec_false c2,rfl⟩⟩
   rintro σ' H2 ⟨power',rfl,rfl,hp⟩;refine⟨_,rfl,_,rfl,_,rfl,mulL ⋯ ⋯,P',_,rfl,⋯,?_⟩;refine⟨_,rfl,_,_,rfl,rfl,⟨∅,∅⟩,?_⟩;have b1:=pX (square*square) hpos;have b2:=pQ (square*square) hpos;have b3:=pX (power*square) hpos;have b4:=pQ (power*square) hpos;have el:(left/2).toNat=left.toNat/2:=⋯;refine⟨_,?_,power',square*square%(P':Int),left/2,by rw[jj];rfl,rfl,rfl,?_,?_,b1,⋯,⋯,?_⟩
   .omega
   .rcases hp with⟨_,rfl⟩|⟨_,rfl⟩
    .exact b3
    .exact p0
   .rcases hp with⟨_,rfl⟩|⟨_,rfl⟩
    .omega
    .exact p1
   .rw[el];rcases hp with⟨hodd,rfl⟩|⟨hodd,rfl⟩
    .exact Om.amV hk ⋯
    .exact Om.awR hk ⋯
  .have c':left=0:=by have:=dec_false c;omega
   subst c';refine⟨_,rfl,?_⟩;exact q power p0 p1 (Om.ahC hk)
theorem asq(F:Fn K mg "over" Rj ["by","one","other"])(cN:jT P w K mg base)(TQ:W7 P w K mg base):Bp P w K mg base:=by
 refine F.cal akU (λvs H Q E h=>?_) (λ_ _ _ _ _ H _ Q E hr h=>?_)
 .obtain⟨P,one,other,rfl,_⟩:=h;rfl
 .obtain⟨P',one,other,rfl,hP,hPb,o0,o1,q⟩:=h;refine⟨_,(ao (eY (cT (jh K hr) (pv 0) aq) (aD IV) fB) (ao (eY (cT (jh K hr) (aJ cN hr (ak (pv 0) (ak (pv 2) aj))) aq) (aD IV) fB) (aD (bf (aJ cN hr (ak (pv 0) (fK (aK v_mul (pv 1) (aJ TQ hr (ak (pv 0) (ak (pv 2) aj)))) aj))))))),?_⟩;have hr2:2<=P'/\P'<2097152:=⟨hP.1,hPb⟩;refine⟨_,rfl,_,rfl,?_⟩;refine dM (λc=>absurd (dec_true c) ⋯) (λ_=>?_);have jj:∀n,Rm.tk (P':Int) n=n%(P':Int):=λn=>Rm.jZ ⋯ n;refine⟨_,rfl,_,rfl,P',other,rfl,⋯,_,rfl,?_⟩;have et:Rm.tk (P':Int) other=other:=by rw[jj];exact Cv ⋯ o1
  rw[et];refine dM (λc2=>absurd (dec_true c2) ⋯) (λ_=>?_);refine⟨_,rfl,_,rfl,_,rfl,_,rfl,P',other,rfl,hP,hPb,o0,o1,λx x0 x1 hx=>?_⟩;refine⟨mulR ⋯ ⋯,P',_,rfl,⋯,?_⟩;rw[jj,Om.mod_mul (rfl:one%(P':Int)=one%(P':Int)) hx];exact q
theorem axE(F:Fn K mg "trimmed" LD ["numbers"]):Cu P w K mg base:=by
 refine F.cal K2 (λvs H Q E h=>?_) (λ_ _ _ _ _ H _ Q E hr h=>?_)
 .obtain⟨l,xs,rfl,_⟩:=h;rfl
 .obtain⟨l,xs,rfl,hL,q⟩:=h;refine⟨_,(ao (aH 1 K2.nd (cH K B.cJ (ak (pv 0) aj))) (ao (oX PassesOwn.never (PW.pt (Lh (cT tQ (pv 1) aq) (K8 (cT (jh K hr) (aO K (pv 0) (aK dI (pv 1) aq)) aq)))) (aD (aH 1 K2.nd (aK dI (pv 1) aq)))) (aD (bf (lB (pF K) rfl B.oh boot_tuple (aL (wK (wD K) (pv 0) yX (uL (pv 1))) aj)))))),?_⟩;have lL:(xs.map V.int).length=xs.length:=aB _;refine⟨_,rfl,.ref l,xs.length,rfl,.inl ⟨_,hL,lL.symm⟩,?_⟩;refine⟨λm σ' H'=>∃n:Nat,m=n/\n<=xs.length/\σ'=[some (.ref l),some (.int (n:Int))]/\H'=H/\Pm.trim (xs.take n)=Pm.trim xs,⟨_,xs.length,rfl,aN _,rfl,rfl,by rw[mF]⟩,?_⟩;rintro m σ' H' ⟨n,e0,hn,rfl,rfl,ht⟩;refine⟨_,rfl,_,_,rfl,rfl,_,rfl,?_⟩;refine dM (λc=>?_) (λc=>kY ?_)
  .have h0:0<n:=by have:=dec_true c;omega
   have e1:((n:Int)-1).toNat=n-1:=⋯;refine⟨_,rfl,_,rfl,_,_,rfl,rfl,_,_,.inl hL,eN (ns:=xs) (⋯:(0:Int)<=(n:Int)-1) ⋯,_,rfl,?_⟩;refine dM (λc2=>?_) (λc2=>?_)
   .have hz:=dec_true c2;rw[e1]at hz;refine⟨_,λ_ _ z=>z,?_⟩;refine⟨_,rfl,_,_,rfl,rfl,?_⟩;refine⟨n-1,⋯,n-1,rfl,⋯,?_,rfl,aeO h0 hn ht hz⟩;rw[show((n-1:Nat):Int)=(n:Int)-1 by omega];rfl
   .have hz:=dec_false c2;rw[e1]at hz;refine⟨_,rfl,_,rfl,_,rfl,.inl ⟨_,hL,λp hp=>?_⟩⟩;refine⟨p,_,rfl,.inl ⟨au.of aC,λp2 hp2=>?_⟩⟩;refine q p2 _ ((Same.new hp _).trans (Same.new hp2 _)) ?_;rw[aC,Gm,<-wL,Fq hn ht (.inr hz)]
  .have h0:n=0:=by have:=dec_false c;omega
   refine⟨_,rfl,_,rfl,_,rfl,.inl ⟨_,hL,λp hp=>?_⟩⟩;refine⟨p,_,rfl,.inl ⟨au.of aC,λp2 hp2=>?_⟩⟩;refine q p2 _ ((Same.new hp _).trans (Same.new hp2 _)) ?_;rw[aC,Gm,<-wL,Fq hn ht (.inl h0)]
theorem amo(F:Fn K mg "times" K4 ["by","one","other"])(cN:jT P w K mg base)(n6:Cu P w K mg base):ae1 P w K mg base:=by
 refine F.cal Kz (λvs H Q E h=>?_) (λ_ _ _ _ _ H _ Q E hr h=>?_)
 .obtain⟨b,a,c,p,r,rfl,_⟩:=h;rfl
 .obtain⟨b,a,c,p,r,rfl,hb,hA,hC,zA,zC,bA,bC,q⟩:=h;refine⟨_,(ao (aH 3 Kz.nd (aK v_mul (gJ (fu aq aj)) (pad K (cH K B.cJ (ak (pv 1) aj)) (cH K B.cJ (ak (pv 2) aj))))) (ao (gk PassesOwn.never rfl (iC rfl B.gG (aL (cH K B.cJ (ak (pv 1) aj)) aj)) (bD 4 Kz.nd) (aD (gk PassesOwn.never rfl (iC rfl B.gG (aL (cH K B.cJ (ak (pv 2) aj)) aj)) (bD 5 Kz.nd) (aD (v8 (aJ cN hr (ak (pv 0) (fK (pad K (aO K (pv 3) (pad K (pv 4) (pv 5))) (aK v_mul (aO K (pv 1) (pv 4)) (aO K (pv 2) (pv 5)))) aj))) (uP (pv 3) (pad K (pv 4) (pv 5)) set_list)))))) (aD (bf (aJ n6 hr (ak (pv 3) aj)))))),?_⟩;have lP:(p.map V.int).length=p.length:=aB _;have lR:(r.map V.int).length=r.length:=aB _;refine⟨(by show 1<=sizeLine;decide),λl0 h0=>?_⟩;have g0:=Same.new h0 (.lst [.int 0]);refine⟨_,rfl,.ref a,p.length,rfl,.inr ⟨_,aA.of (g0 _ _ hA),lP.symm⟩,_,rfl,.ref c,r.length,rfl,.inr ⟨_,aA.of (g0 _ _ hC),lR.symm⟩,?_⟩;have en:((p.length:Int)+(r.length:Int)).toNat=p.length+r.length:=⋯;refine⟨_,aC,(⋯:-(2^63)<=(p.length:Int)+(r.length:Int)),(⋯:(p.length:Int)+(r.length:Int)<2^63),?_,λl hl=>?_⟩
  .rw[en];show 1*(p.length+r.length)<=sizeLine;rw[nJ];exact gC (dZ ⋯)
  have g1:=g0.trans (Same.new hl (.lst (bN ((p.length:Int)+(r.length:Int)).toNat [V.int 0]).flatten));have hl0:H l=none:=g0.free hl;refine⟨_,rfl,.ref a,p.length,rfl,.inr ⟨_,aA.of (g1 _ _ hA),lP.symm⟩,?_⟩;refine⟨(p.length:Int),rfl,(⋯:-(2^62)<=(p.length:Int)),(⋯:(p.length:Int)<2^62),?_⟩;refine lG (lo:=0) (n:=(p.length:Int).toNat) (λi σ' H'=>∃o4 o5 L,σ'=[some (.int b),some (.ref a),some (.ref c),some (.ref l),o4,o5]/\Same H H'/\H' l=some (.lst (L.map V.int))/\L.length=p.length+r.length/\∀k,Pm.co L k=Rm.tk b (Pm.W (Pm.co p) (Pm.co r) i 0 k))
   ⟨_,_,Pm.aM (p.length+r.length) (λ_=>0),rfl,g1,(by rw[aC,en,J3]),Pm.cA _ _,λk=>by rw[Pm.cX,Pm.ab6,Pm.tk0];split<;>rfl⟩ ?_ ?_
  .rintro i σ' H' hi ⟨o4,o5,L,rfl,g,hL,zL,hW⟩;have hi':i<p.length:=⋯;refine⟨_,rfl,.ref c,r.length,rfl,.inr ⟨_,aA.of (g _ _ hC),lR.symm⟩,?_⟩;refine⟨(r.length:Int),rfl,(⋯:-(2^62)<=(r.length:Int)),(⋯:(r.length:Int)<2^62),?_⟩;refine lG (lo:=0) (n:=(r.length:Int).toNat) (λk σ' H'=>∃o5 L,σ'=[some (.int b),some (.ref a),some (.ref c),some (.ref l),some (.int (0+(i:Int))),o5]/\Same H H'/\H' l=some (.lst (L.map V.int))/\L.length=p.length+r.length/\∀j,Pm.co L j=Rm.tk b (Pm.W (Pm.co p) (Pm.co r) i k j))
    ⟨_,L,rfl,g,hL,zL,hW⟩ ?_ ?_
   .rintro k σ' H2 hk ⟨o5,L,rfl,g,hL,zL,hW⟩;have hk':k<r.length:=⋯;have lL:(L.map V.int).length=L.length:=aB _;have e1:(0+(i:Int)+(0+(k:Int))).toNat=i+k:=⋯;have e2:(0+(i:Int)).toNat=i:=⋯;have e3:(0+(k:Int)).toNat=k:=⋯;refine⟨_,rfl,_,rfl,_,rfl,_,rfl,_,_,.inl (au.of hL),eN (ns:=L) (⋯:(0:Int)<=0+(i:Int)+(0+(k:Int))) ⋯,?_⟩;refine⟨_,rfl,_,rfl,_,_,.inr (aA.of (g _ _ hA)),eN (ns:=p) (⋯:(0:Int)<=0+(i:Int)) ⋯,?_⟩;refine⟨_,rfl,_,rfl,_,_,.inr (aA.of (g _ _ hC)),eN (ns:=r) (⋯:(0:Int)<=0+(k:Int)) ⋯,?_⟩;refine⟨m6 (Rm.Bd.getD bA _) (Rm.Bd.getD bC _) ∅,?_⟩;refine⟨b,_,rfl,hb,?_⟩;refine⟨_,rfl,_,rfl,_,rfl,l,_,_,i+k,rfl,rfl,hL,uK ⋯ (by rw[lL];omega),?_⟩;refine⟨_,L.set (i+k) _,rfl,g.upd hl0 _,(by rw[aC,Cz]),(by rw[nW];exact zL),λj=>?_⟩;rw[Pm.xg _ _ _ _ ⋯,Pm.aas,e1,e2,e3];by_cases ej:j=i+k
    .have hw:=hW j;rw[if_pos ej,if_pos ej];rw[ej]at hw⊢;rw[<-Rm.jD b (Pm.W (Pm.co p) (Pm.co r) i k (i+k)),<-hw];rfl
    .rw[if_neg ej,if_neg ej,dj];exact hW j
   .rintro σ' H2 ⟨o5,L,rfl,g,hL,zL,hW⟩;refine⟨_,_,L,rfl,g,hL,zL,λk=>?_⟩;rw[hW k,d9,Pm.aeY λk hk=>Pm.aX hk]
  .rintro σ' H' ⟨o4,o5,L,rfl,g,hL,zL,hW⟩;refine⟨_,rfl,l,L,rfl,au.of hL,λt H2 g2 ht=>q t H2 (g.trans g2) ?_⟩;have e:Pm.trim L=Pm.mul b p r:=by
    refine Pm.wR λk=>?_;rw[hW k,d9,Pm.Jo λk hk=>Pm.aX hk,Pm.cX];split
    .rfl
    .rw[<-Pm.jL,Pm.mul,Pm.j5,Pm.cX,if_neg (by assumption)]
   rw[<-e];exact ht
theorem ayT(F:Fn K mg "divided" Vg ["by","one","other"])(cN:jT P w K mg base)(n6:Cu P w K mg base):DK P w K mg base:=by
 refine F.cal wF (λvs H Q E h=>?_) (λ_ _ _ _ _ H _ Q E hr h=>?_)
 .obtain⟨b,a,c,P,M,rfl,_⟩:=h;rfl
 .obtain⟨b,a,c,P,M,rfl,hb,hb1,hA,hC,zA,zC,hM,nP,bA,bC,q⟩:=h;refine⟨_,(ao (aH 3 wF.nd (aK dI (cH K B.cJ (ak (pv 2) aj)) aq)) (ao (aH 4 wF.nd (aK v_mul (gJ (fu aq aj)) (jy (W2 rfl) rfl B.aft boot_max (fu aq (fK (aK dI (cH K B.cJ (ak (pv 1) aj)) (pv 3)) aj))))) (ao (aH 5 wF.nd (lB (xlist K) rfl B.Gu boot_list (ak (pv 1) aj))) (ao (gk PassesOwn.never rfl (avJ rfl B.gG (fK (aK dI (cH K B.cJ (ak (pv 4) aj)) aq) (aew (G9 FN aq) (aew (G9 FN aq) aj)))) (bD 6 wF.nd) (ao (aH 7 wF.nd (aO K (pv 5) (pad K (pv 6) (pv 3)))) (ao (v8 (pv 7) (uP (pv 4) (pv 6) set_list)) (aD (gk PassesOwn.never rfl (iC rfl B.gG (aL (cH K B.cJ (ak (pv 2) aj)) aj)) (bD 8 wF.nd) (aD (v8 (aJ cN hr (ak (pv 0) (fK (aK dI (aO K (pv 5) (pad K (pv 6) (pv 8))) (aK v_mul (pv 7) (aO K (pv 2) (pv 8)))) aj))) (uP (pv 5) (pad K (pv 6) (pv 8)) set_list)))))))) (aD (bf (gh (aL (aJ n6 hr (ak (pv 4) aj)) (aL (aJ n6 hr (ak (pv 5) aj)) aj))))))))),?_⟩;have lP:(P.map V.int).length=P.length:=aB _;have lM:(M.map V.int).length=M.length:=aB _;have hMp:=hM.pos;refine⟨_,rfl,.ref c,M.length,rfl,.inr ⟨_,aA.of hC,lM.symm⟩,_,_,rfl,rfl,?_⟩;refine⟨(by show 1<=sizeLine;decide),λl0 h0=>?_⟩;have g0:=Same.new h0 (.lst [.int 0]);refine⟨_,rfl,.ref a,P.length,rfl,.inr ⟨_,aA.of (g0 _ _ hA),lP.symm⟩,_,rfl,_,_,rfl,rfl,_,_,rfl,?_⟩;have en:(if(P.length:Int)-((M.length:Int)-1)>0 then(P.length:Int)-((M.length:Int)-1)else 0).toNat=P.length-(M.length-1):=(max_zero P.length M.length).resolve_right ⋯;refine⟨_,aC,?_,?_,?_,λlo hlo=>?_⟩
  .split<;>omega
  .split<;>omega
  .rw[en];show 1*(P.length-(M.length-1))<=sizeLine;rw[nJ];exact gC (dZ ⋯)
  rw[en,J3];have aiy:H lo=none:=g0.free hlo;have g1:=g0.trans (Same.new hlo (.lst ((Pm.aM (P.length-(M.length-1)) λ_=>0).map V.int)));have Lg:(upd (upd H l0 (.lst [.int 0])) lo (.lst ((Pm.aM (P.length-(M.length-1)) λ_=>0).map V.int))) lo=some (.lst ((Pm.aM (P.length-(M.length-1)) λ_=>0).map V.int)):=aC;generalize upd (upd H l0 (.lst [.int 0])) lo (.lst ((Pm.aM (P.length-(M.length-1)) λ_=>0).map V.int))=H1 at g1 Lg;refine⟨_,rfl,a,_,rfl,.inr (aA.of (g1 _ _ hA)),λll hll=>?_⟩;have ar8:H ll=none:=g1.free hll;have hne:lo≠ll:=jr Lg hll;have Qh:=Same.new hll (.lst (P.map V.int));have g2:=g1.trans Qh;have JF:=Qh _ _ Lg;have hL2:(upd H1 ll (.lst (P.map V.int))) ll=some (.lst (P.map V.int)):=aC;generalize upd H1 ll (.lst (P.map V.int))=H2 at Qh g2 JF hL2;generalize hn:P.length-(M.length-1)=n at JF;refine⟨_,rfl,.ref lo,n,rfl,.inl ⟨_,au.of JF,by rw[aB,Pm.cA]⟩,_,_,rfl,rfl,_,rfl,_,rfl,(n:Int)-1,-1,rfl,⟨⋯,⋯,⋯,⋯⟩,?_⟩;refine asL (lo:=(n:Int)-1) (n:=((n:Int)-1-(-1)).toNat) (λi σ' H'=>∃o6 o7 o8 O L,σ'=[some (.int b),some (.ref a),some (.ref c),some (.int ((M.length:Int)-1)),some (.ref lo),some (.ref ll),o6,o7,o8]/\Same H H'/\H' lo=some (.lst (m9 V.int O))/\H' ll=some (.lst (m9 V.int L))/\Pm.pZ b P M (n-i) O L/\(∀k,Rm.Bd (300000+i*124001) (Pm.co O k))/\∀k,Rm.Bd (300000+i*124001) (Pm.co L k))
   ⟨_,_,_,_,P,rfl,g2,JF,hL2,(by rw[vm,<-hn];exact Pm.pZ.start nP),λk=>by rw[Pm.cX];split<;>exact Rm.Bd.zero _,λk=>(Pm.jA bA k).mono ⋯⟩ ?_ ?_
  .rintro i σ' H' hi ⟨o6,o7,o8,O,L,rfl,g,hO,hL,I,bO,bL⟩;have hi':i<n:=⋯;have hs:n-i=n-(i+1)+1:=⋯;rw[hs]at I;generalize es:n-(i+1)=s at I;have esI:(n:Int)-1-(i:Int)=(s:Int):=⋯;rw[esI];have hlL:=I.ll;have hlO:=I.ol;have lO:(O.map V.int).length=O.length:=aB _;have e1:((s:Int)+((M.length:Int)-1)).toNat=s+(M.length-1):=⋯;refine⟨_,rfl,_,rfl,_,rfl,_,_,.inl (au.of hL),eN (ns:=L) (⋯:(0:Int)<=(s:Int)+((M.length:Int)-1)) ⋯,?_⟩;rw[e1];have hF:Rm.Bd (300000+i*124001) (L.getD (s+(M.length-1)) 0):=bL _;have eF:L.getD (s+(M.length-1)) 0=Pm.co L (s+(M.length-1)):=rfl;rw[eF]at hF⊢;generalize hf:Pm.co L (s+(M.length-1))=f at hF;refine⟨_,rfl,_,rfl,_,rfl,lo,_,_,s,rfl,rfl,hO,uK rfl (by rw[lO];omega),?_⟩;have Yo:(upd H' lo (.lst ((O.map V.int).set s (.int f)))) lo=some (.lst ((O.set s f).map V.int)):=by rw[aC,Cz]
   have mD:(upd H' lo (.lst ((O.map V.int).set s (.int f)))) ll=some (.lst (L.map V.int)):=by rw[bI hne.symm];exact hL
   have g3:=g.upd aiy (.lst ((O.map V.int).set s (.int f)));generalize upd H' lo (.lst ((O.map V.int).set s (.int f)))=H3 at Yo mD g3;refine⟨_,rfl,.ref c,M.length,rfl,.inr ⟨_,aA.of (g3 _ _ hC),lM.symm⟩,?_⟩;refine⟨(M.length:Int),rfl,(⋯:-(2^62)<=(M.length:Int)),(⋯:(M.length:Int)<2^62),?_⟩;refine lG (lo:=0) (n:=(M.length:Int).toNat) (λt σ' H'=>∃o8 L',σ'=[some (.int b),some (.ref a),some (.ref c),some (.int ((M.length:Int)-1)),some (.ref lo),some (.ref ll),some (.int (s:Int)),some (.int f),o8]/\Same H H'/\H' lo=some (.lst ((O.set s f).map V.int))/\H' ll=some (.lst (m9 V.int L'))/\L'.length=L.length/\∀k,Pm.co L' k=Pm.lf b f s t L M k)
    ⟨_,L,rfl,g3,Yo,mD,rfl,λk=>(Pm.aiH ..).symm⟩ ?_ ?_
   .rintro t σ' H4 ht ⟨o8,L',rfl,g4,K7,vL,Sh,Am⟩;have ht':t<M.length:=⋯;have lL':(L'.map V.int).length=L'.length:=aB _;have e2:((s:Int)+(0+(t:Int))).toNat=s+t:=⋯;have e3:(0+(t:Int)).toNat=t:=⋯;refine⟨_,rfl,_,rfl,_,rfl,_,rfl,_,_,.inl (au.of vL),eN (ns:=L') (⋯:(0:Int)<=(s:Int)+(0+(t:Int))) ⋯,?_⟩;refine⟨_,rfl,_,rfl,_,rfl,_,_,.inr (aA.of (g4 _ _ hC)),eN (ns:=M) (⋯:(0:Int)<=0+(t:Int)) ⋯,?_⟩;refine⟨m6 hF (Rm.Bd.getD bC _) (by have:i*124001<=40*124001:=qd _ ⋯;omega),_,_,rfl,rfl,?_⟩;refine⟨b,_,rfl,hb,?_⟩;refine⟨_,rfl,_,rfl,_,rfl,ll,_,_,s+t,rfl,rfl,vL,uK ⋯ (by rw[lL'];omega),?_⟩;refine⟨_,L'.set (s+t) _,rfl,g4.upd ar8 _,(by rw[bI hne];exact K7),(by rw[aC,Cz]),(by rw[nW];exact Sh),λk=>?_⟩;rw[Pm.xg _ _ _ _ ⋯,Pm.akX,e2,e3,<-Am k];by_cases ek:k=s+t
    .rw[if_pos ek,if_pos ek,ek];rfl
    .rw[if_neg ek,if_neg ek]
   .rintro σ' H4 ⟨o8,L',rfl,g4,K7,vL,Sh,Am⟩;rw[d9]at Am;refine⟨_,_,_,O.set s f,L',rfl,g4,K7,vL,?_,λk=>?_,λk=>?_⟩
    .rw[<-hf];rw[<-hf]at Am;exact I.step hM ⋯ Sh Am
    .rw[Pm.xg _ _ _ _ ⋯];split
     .exact hF.mono ⋯
     .exact(bO k).mono ⋯
    .rw[Am k];exact(Pm.av3 hb hb1 ⋯ hF bL bC k).mono ⋯
  .rintro σ' H' ⟨o6,o7,o8,O,L,rfl,g,hO,hL,I,bO,bL⟩;have e9:((n:Int)-1-(-1)).toNat=n:=⋯;rw[e9]at I bO bL;rw[rT]at I;refine⟨_,rfl,lo,O,rfl,au.of hO,λt1 H3 g3 h3=>?_⟩;refine⟨_,rfl,ll,L,rfl,au.of (g3 _ _ hL),λt2 H4 g4 h4=>?_⟩;refine⟨(by show 2<=sizeLine;decide),λt ht=>?_⟩;have gt:=Same.new ht (.tup [.ref t1,.ref t2]);have hz:300000+n*124001<=5300000:=by have:n*124001<=40*124001:=qd _ ⋯;omega
   refine q t t1 t2 (Pm.trim O) (Pm.trim L) _ (g.trans (g3.trans (g4.trans gt))) aC (gt _ _ (g4 _ _ h3)) (gt _ _ h4) (I.stop hM) (λz hz'=>(aao bO z hz').mono hz) (λz hz'=>(aao bL z hz').mono hz) ?_;have:=Pm.uz O;have:=I.ol;omega
theorem aoj(F:Fn K mg "monic" OV ["prime","poly"])(oB:Bp P w K mg base):af4 P w K mg base:=by
 refine F.cal ab7 (λvs H Q E h=>?_) (λ_ _ _ _ _ H _ Q E hr h=>?_)
 .obtain⟨P,a,p,rfl,_⟩:=h;rfl
 .obtain⟨P',a,p,rfl,hP,hPb,hA,zA,pP,q⟩:=h;refine⟨_,(ao (eY (cT (jh K hr) (cH K B.cJ (ak (pv 1) aj)) aq) (aD (bf (gh aj))) fB) (ao (gM (i:=2) ab7.nd rfl (fM rfl) (aO K (pv 1) (aK dI (cH K B.cJ (ak (pv 1) aj)) aq))) (aD (bf (lB (pF K) rfl B.oh boot_tuple (aL (fY (sc:=aqq) (N:=["number","last","prime"]) (ix:=[none,some 2,some 0]) dX rfl (fH K (pv 1)) (λcl C s₀ H₀ ex=>⟨(bD 0 dH),eO,(aJ oB hr (ak (pv 2) (ak (pv 0) (ak (pv 1) aj))))⟩)) aj)))))),?_⟩;have hr2:2<=P'/\P'<2097152:=⟨hP.1,hPb⟩;have lP:(p.map V.int).length=p.length:=aB _;refine⟨_,rfl,.ref a,p.length,rfl,.inr ⟨_,aA.of hA,lP.symm⟩,_,rfl,?_⟩;refine dM (λc=>?_) (λc=>?_)
  .have c':(p.length:Int)=0:=dec_true c;have e:p=[]:=sU ⋯;subst e;exact⟨cD _,λt ht=>q t [] _ (Same.new ht _) aC (Pm.uH.nil _)⟩
  .have c':¬(p.length:Int)=0:=dec_false c;have hn:p≠[]:=λe=>c' (by rw[e];rfl);have hpos:0<p.length:=⋯;have e1:((p.length:Int)-1).toNat=p.length-1:=⋯;refine⟨_,rfl,_,rfl,.ref a,p.length,rfl,.inr ⟨_,aA.of hA,lP.symm⟩,_,_,rfl,rfl,_,_,.inr (aA.of hA),eN (ns:=p) (⋯:(0:Int)<=(p.length:Int)-1) ⋯,?_⟩;rw[e1];have l0:=Pm.rW hn pP.tr;have l1:=pP.co (p.length-1);rw[Rm.jZ ⋯]at l1;have r0:0<=Pm.co p (p.length-1):=by rw[<-l1];exact qW _ ⋯
   have r1:Pm.co p (p.length-1)<(P':Int):=by rw[<-l1];exact qR _ ⋯
   refine⟨_,rfl,a,rfl,.inr ⟨⟨_,aA.of hA⟩,DY hA ⋯ rfl (λx=>x*(Pm.co p (p.length-1))^(P'-2)%(P':Int)) ?_ ?_⟩⟩
   .intro H2 x g2 hx k hk;exact⟨_,rfl,_,rfl,_,rfl,P',x,_,rfl,hP,hPb,by show 0<Pm.co p (p.length-1);omega,r1,hk⟩
   .intro D hD;refine⟨D,_,rfl,.inl ⟨au.of aC,λt ht=>?_⟩⟩;exact q t (Pm.tV P' p) _ ((Same.new hD _).trans (Same.new ht _)) aC (Pm.anN hP pP hn)
theorem aqa(F:Fn K mg "greatest" K1 ["by","one","other"])(B4:af4 P w K mg base)(n8:DK P w K mg base):Td P w K mg base:=by
 refine F.cal Ac (λvs H Q E h=>?_) (λ_ _ _ _ _ H _ Q E hr h=>?_)
 .obtain⟨P,a,c,p,r,rfl,_⟩:=h;rfl
 .obtain⟨P',a,c,p,r,rfl,hP,hPb,hA,hC,zA,zC,pP,pR,hne,q⟩:=h;refine⟨_,(ao (aH 3 Ac.nd (aJ B4 hr (ak (pv 0) (ak (pv 1) aj)))) (ao (aH 4 Ac.nd (aJ B4 hr (ak (pv 0) (ak (pv 2) aj)))) (ao (oX PassesOwn.never (cT tQ (cH K B.cJ (ak (pv 4) aj)) aq) (ao (aH 5 Ac.nd (aO K (aJ n8 hr (ak (pv 0) (ak (pv 3) (ak (pv 4) aj)))) aq)) (ao (aH 3 Ac.nd (pv 4)) (aD (aH 4 Ac.nd (aJ B4 hr (ak (pv 0) (ak (pv 5) aj)))))))) (aD (bf (pv 3)))))),?_⟩;have hr2:2<=P'/\P'<2097152:=⟨hP.1,hPb⟩;refine⟨_,rfl,_,rfl,P',a,p,rfl,hP,hPb,hA,⋯,pP,λtg g0 H1 g1 hG mG=>?_⟩;refine⟨_,rfl,_,rfl,P',c,r,rfl,hP,hPb,g1 _ _ hC,⋯,pR,λts s0 H2 g2 hS' mS=>?_⟩;have lg0:=mG.len;have ls0:=mS.len;refine⟨λm σ' H'=>∃(o5:Option V) (tg ts:Addr) (g s:List Int),m=s.length/\σ'=[some (.int P'),some (.ref a),some (.ref c),some (.ref tg),some (.ref ts),o5]/\Same H H'/\H' tg=some (.tup (g.map V.int))/\H' ts=some (.tup (s.map V.int))/\Pm.ur P' p r g s/\g.length<=max p.length r.length/\s.length<=max p.length r.length,
   ⟨_,_,tg,ts,g0,s0,rfl,rfl,g1.trans g2,g2 _ _ hG,hS',Pm.ur.start mG mS hne,⋯,⋯⟩,?_⟩
  rintro m σ' H' ⟨o5,tg,ts,gg,ss,rfl,rfl,g,hG,hS',I,zg,zs⟩;have lS:(ss.map V.int).length=ss.length:=aB _;refine⟨_,rfl,.ref ts,ss.length,rfl,.inr ⟨_,aA.of hS',lS.symm⟩,_,_,rfl,rfl,_,rfl,?_⟩;refine dM (λcc=>?_) (λcc=>?_)
  .have hs:ss≠[]:=λe=>by have:=dec_true cc;rw[e]at this;simp at this
   have hMs:=I.Wv hs;refine⟨_,λ_ _ z=>z,?_⟩;refine⟨_,rfl,_,rfl,_,rfl,P',tg,ts,gg,ss,rfl,⋯,⋯,hG,hS',⋯,⋯,hMs,I.gy.co,(λx hx=>(Um hr2.1 hr2.2 I.gy x hx).mono ∅),Um hr2.1 hr2.2 I.sy,λt x y o l H3 g3 hT hX hY D _ _ _=>?_⟩;refine⟨_,_,.inr (aA.of hT),rfl,?_⟩;refine⟨_,rfl,?_⟩;have hsh:=D.short;refine⟨_,rfl,_,rfl,P',y,l,rfl,hP,hPb,hY,⋯,D.ry,λtm m H4 g4 hM mM=>?_⟩;have lm:=mM.len;exact⟨m.length,⋯,_,ts,tm,ss,m,rfl,rfl,g.trans (g3.trans g4),(g3.trans g4) _ _ hS',hM,I.step hs D mM,zs,⋯⟩
  .have hs:ss=[]:=sU (by have:=dec_false cc;omega);refine⟨_,rfl,?_⟩;exact q tg gg H' g hG (I.stop hs) zg
theorem auo(F:Fn K mg "nearest" PB ["modulus","number"]):Sw P w K mg base:=by
 refine F.cal aha (λvs H Q E h=>?_) (λ_ _ _ _ _ H _ Q E hr h=>?_)
 .obtain⟨M,x,rfl,_⟩:=h;rfl
 .obtain⟨M,x,rfl,hM,q⟩:=h;refine⟨_,(ao (aH 2 aha.nd (aK jg (pv 1) (pv 0))) (aD (bf (Yd (cT tQ (aK v_mul aq (pv 2)) (pv 0)) (aK dI (pv 2) (pv 0)) (pv 2))))),?_⟩;refine⟨_,rfl,_,rfl,_,_,rfl,rfl,hM,?_⟩;refine⟨_,rfl,mulL ∅ ∅,_,rfl,_,_,rfl,rfl,_,rfl,?_⟩;refine dM (λc=>?_) (λc=>?_)
  .have c':2*(x%M)>M:=dec_true c;refine⟨_,rfl,_,rfl,_,_,rfl,rfl,?_⟩;have e:Pm.nr M x=x%M-M:=if_pos c';rw[e]at q;exact q
  .have c':¬2*(x%M)>M:=dec_false c;refine⟨_,rfl,?_⟩;have e:Pm.nr M x=x%M:=if_neg c';rw[e]at q;exact q
theorem avM(F:Fn K mg "joined" Ph ["modulus","number","prime","rest"])(oB:Bp P w K mg base)(cN:jT P w K mg base)(zy:Sw P w K mg base):ab9 P w K mg base:=by
 refine F.cal aec (λvs H Q E h=>?_) (λ_ _ _ _ _ H _ Q E hr h=>?_)
 .obtain⟨M,t,p,s,rfl,_⟩:=h;rfl
 .obtain⟨M,t,p,s',rfl,hp,hpb,hM,wC,q⟩:=h;refine⟨_,(ao (aH 4 aec.nd (aJ oB hr (ak (pv 2) (aL (aJ cN hr (ak (pv 2) (fK (aK dI (pv 3) (pv 1)) aj))) (aL (aJ cN hr (ak (pv 2) (ak (pv 0) aj))) aj))))) (aD (bf (aJ zy hr (fK (aK v_mul (pv 0) (pv 2)) (fK (pad K (pv 1) (aK v_mul (pv 0) (pv 4))) aj)))))),?_⟩;have h2:=hp.1;have hp0:(p:Int)≠0:=⋯;have r0:=qW M hp0;have r1:=qR M (show(0:Int)<p by omega);have rn:M%(p:Int)≠0:=λz=>wC (Bv z);have et:Rm.tk (p:Int) M=M%(p:Int):=Rm.jZ hp0 M;refine⟨_,rfl,_,rfl,_,rfl,_,rfl,_,_,rfl,rfl,p,_,rfl,⋯,?_⟩;refine⟨_,rfl,_,rfl,p,M,rfl,⋯,?_⟩;refine⟨p,_,_,rfl,hp,hpb,by rw[et];omega,by rw[et];exact r1,?_⟩;have hw:=Pm.alk (M:=M) (t:=t) (s:=s') hp;refine⟨_,rfl,_,rfl,mulR ⋯ ⋯,?_⟩;refine⟨_,rfl,_,rfl,_,rfl,mulR (by show -(2^64)<Pm.jw M t p s';omega) (by show Pm.jw M t p s'<2^64;omega),?_⟩;exact⟨_,_,rfl,Int.mul_pos hM ⋯,q⟩
theorem aqy(F:Fn K mg "taken_poly" M9 ["prime","poly"])(n6:Cu P w K mg base)(cN:jT P w K mg base):aeh P w K mg base:=by
 refine F.cal aw5 (λvs H Q E h=>?_) (λ_ _ _ _ _ H _ Q E hr h=>?_)
 .obtain⟨p,a,P,rfl,_⟩:=h;rfl
 .obtain⟨p,a,P',rfl,hp,hA,zA,q⟩:=h;refine⟨_,(aD (bf (aJ n6 hr (aL (fY (sc:=amr) (N:=["number","prime"]) (ix:=[none,some 0]) dX rfl (fH K (pv 1)) (λcl C s₀ H₀ ex=>⟨(bD 0 dH),eO,(aJ cN hr (ak (pv 1) (ak (pv 0) aj)))⟩)) aj)))),?_⟩;refine⟨_,rfl,a,rfl,.inr ⟨⟨_,aA.of hA⟩,DY hA ⋯ rfl (λx=>Rm.tk p x) ?_ ?_⟩⟩
  .intro H2 x g2 hx k hk;exact⟨_,rfl,_,rfl,p,x,rfl,⋯,hk⟩
  .intro D hD;refine⟨D,_,rfl,au.of aC,λt1 H3 g3 h3=>?_⟩;exact q t1 H3 ((Same.new hD _).trans g3) h3
theorem aru(F:Fn K mg "divides" Ov ["monic_one","poly"])(n8:DK P w K mg base):YW P w K mg base:=by
 refine F.cal atV (λvs H Q E h=>?_) (λ_ _ _ _ _ H _ Q E hr h=>?_)
 .obtain⟨m,a,M,P,rfl,_⟩:=h;rfl
 .obtain⟨m,a,M,P',rfl,hMm,hA,zM,zP,hM,bM,bP,q⟩:=h;refine⟨_,(aD (bf (Ai (jh K hr) (aO K (aJ n8 hr (fu aq (ak (pv 1) (ak (pv 0) aj)))) aq) (gh aj) (wz _)))),?_⟩;refine⟨_,rfl,_,rfl,0,a,m,P',M,rfl,∅,∅,hA,hMm,zP,zM,hM,λk=>Rm.aY _,bP,bM,λt x y o l H3 g3 hT hX hY D _ _ _=>?_⟩;refine⟨_,_,.inr (aA.of hT),rfl,?_⟩;refine⟨cD _,λt0 ht0=>?_⟩;have g4:=Same.new ht0 (.tup []);refine Hv (ns:=l) (ms:=[]) (aA.of (g4 _ _ hY)) (aA.of aC) ?_;exact q _ _ (g3.trans g4) (by show decide (l=[])=true↔_;rw[decide_eq_true_iff];exact D.dv hM)
theorem aot(F:Fn K mg "whole_greatest" VH ["one","other"])(GJ:YW P w K mg base)(NZ:afA P w K mg base)(Av:Td P w K mg base)(Ja:aeh P w K mg base)(zy:Sw P w K mg base)(SX:ab9 P w K mg base):afM P w K mg base:=by
 refine F.cal mQ (λvs H Q E h=>?_) (λ_ _ _ _ _ H _ Q E hr h=>?_)
 .obtain⟨a,c,P,t,g,N,U,V',rfl,_⟩:=h;rfl
 .obtain⟨a,c,P',t,g,N,U,V',rfl,hA,hC,zP,zt,hP,bP,bt,G,hV,hU,hUV,q⟩:=h;refine⟨_,(ao (aH 2 mQ.nd (pv 0)) (ao (gM (i:=3) mQ.nd rfl (fM rfl) aq) (ao (gM (i:=4) mQ.nd rfl (fM rfl) (Qf rfl B.UH)) (ao (aH 5 mQ.nd Ad) (ao (oX PassesOwn.never (PW.pt (Vx (Ep (wW (pv 5))) (Vx (Ep (wW (aJ GJ hr (ak (pv 2) (ak (pv 0) aj))))) (abf (Ep (wW (aJ GJ hr (ak (pv 2) (ak (pv 1) aj))))))))) (ao (gM (i:=4) mQ.nd rfl (fM rfl) (aJ NZ hr (ak (pv 4) aj))) (ao (gM (i:=6) mQ.nd rfl (fM rfl) (aJ Av hr (ak (pv 4) (aL (aJ Ja hr (ak (pv 4) (ak (pv 0) aj))) (aL (aJ Ja hr (ak (pv 4) (ak (pv 1) aj))) aj))))) (aD (eY (cT Aq (cH K B.cJ (ak (pv 6) aj)) (cH K B.cJ (ak (pv 2) aj))) (ao (aH 2 mQ.nd (lB (pF K) rfl B.oh boot_tuple (aL (fY (sc:=aqK) (N:=["rest","prime"]) (ix:=[none,some 4]) dX rfl (fH K (pv 6)) (λcl C s₀ H₀ ex=>⟨(bD 0 dH),eO,(aJ zy hr (ak (pv 1) (ak (pv 0) aj)))⟩)) aj))) (ao (gM (i:=3) mQ.nd rfl (fM rfl) (pv 4)) (aD (aH 5 mQ.nd Ad)))) (aD (uc (eY (cT (jh K hr) (cH K B.cJ (ak (pv 6) aj)) (cH K B.cJ (ak (pv 2) aj))) (ao (gM (i:=7) mQ.nd rfl (fM rfl) (pv 2)) (ao (aH 2 mQ.nd (lB (pF K) rfl B.oh boot_tuple (aL (fY (sc:=ayM) (N:=["k","before","modulus","prime","seen"]) (ix:=[none,some 7,some 3,some 4,some 6]) dX rfl (iC rfl B.gG (aL (cH K B.cJ (ak (pv 6) aj)) aj)) (λcl C s₀ H₀ ex=>⟨(bD 0 dH),eO,(aJ SX hr (ak (pv 2) (aL (aO K (pv 1) (pv 0)) (ak (pv 3) (aL (aO K (pv 4) (pv 0)) aj)))))⟩)) aj))) (ao (gM (i:=3) mQ.nd rfl (fM rfl) (aK v_mul (pv 3) (pv 4))) (aD (aH 5 mQ.nd (Ai (jh K hr) (pv 2) (pv 7) (wz _))))))) fB)))))))) (aD (bf (pv 2)))))))),?_⟩;have hgP:g.length<=P'.length:=G.one.len rfl G.mon hP;refine⟨_,rfl,?_⟩;refine⟨aaJ H a c P' g N,⟨_,_,_,a,P',1,1000000,true,0,0,rfl,rfl,Same.refl _,hA,Pm.j8.start hP hgP _,Om.many,⋯,⋯⟩,?_⟩;rintro m σ' H' ⟨o6,o7,tt,told,M,prime,ripe,bad,good,rfl,rfl,gg,hT,I,acV,hbig,aj9⟩;have bT:=apT I bP aj9;have zT:=I.le;refine⟨_,rfl,ripe,rfl,?_⟩;refine dM (λcr=>?b1) (λcr=>?n1)
  case' b1=>
   have hne:¬(ripe=true/\told=g):=λz=>by rw[z.1]at cr;exact absurd cr ∅
   have gx:=gg;have zY:=hT;generalize H'=Hx at gx zY⊢
  case' n1=>
   refine⟨_,rfl,_,rfl,tt,a,told,P',rfl,hT,gg _ _ hA,⋯,zP,I.mon,bT,(λx hx=>(bP x hx).mono ∅),λb1 H1 g1 e1=>?_⟩;refine⟨b1,rfl,?_⟩;refine dM (λc1=>?b2) (λc1=>?n2)
  case' b2=>
   have hne:¬(ripe=true/\told=g):=λz=>by
    have:b1=true:=e1.mpr (by rw[z.2];exact G.one);rw[this]at c1;exact absurd c1 ∅
   have gx:=gg.trans g1;have zY:=g1 _ _ hT;generalize H1=Hx at gx zY⊢
  case' n2=>
   refine⟨_,rfl,_,rfl,tt,c,told,t,rfl,g1 _ _ hT,(gg.trans g1) _ _ hC,⋯,zt,I.mon,bT,bt,λb2 H2 g2 e2=>?_⟩;refine⟨b2,rfl,?_⟩;refine dM (λc2=>?b3) (λc2=>?n3)
  case n3=>
   have hb1:b1=true:=by cases b1<;>first|rfl|exact absurd rfl c1
   have hb2:b2=true:=by cases b2<;>first|rfl|exact absurd rfl c2
   have e:=G.told I.mon (e1.mp hb1) (e2.mp hb2) I.ge;subst e;refine⟨_,rfl,?_⟩;exact q tt H2 (gg.trans (g1.trans g2)) ((g1.trans g2) _ _ hT)
  case' b3=>
   have hne:¬(ripe=true/\told=g):=λz=>by
    have:b2=true:=e2.mpr (by rw[z.2];exact G.two);rw[this]at c2;exact absurd c2 ∅
   have gx:=gg.trans (g1.trans g2);have zY:=(g1.trans g2) _ _ hT;generalize H2=Hx at gx zY⊢
  all_goals
   have hfew:=I.few G.ne hV hU hne;obtain⟨k,hk'⟩:∃k,500-(bad+good)=k+1:=⟨500-(bad+good)-1,⋯⟩;rw[hk']at acV;obtain⟨q0,hq0,akP,azC,hnext⟩:=acV.next;refine⟨_,λ_ _ z=>z,?_⟩;refine⟨_,rfl,prime,q0,rfl,hq0,akP,⋯,λp hp hlt hle=>?_⟩;have hN:=hnext p hle;refine⟨_,rfl,_,rfl,_,rfl,p,a,P',rfl,⋯,gx _ _ hA,⋯,λt1 H3 g3 h3=>?_⟩;refine⟨_,rfl,_,rfl,p,c,t,rfl,⋯,(gx.trans g3) _ _ hC,⋯,λt2 H4 g4 h4=>?_⟩;have l1:=Zk p P';have l2:=Zk p t;refine⟨p,t1,t2,_,_,rfl,hp,⋯,g4 _ _ h3,h4,⋯,⋯,afJ p P',afJ p t,λ_=>anY hp hP,λts s' H5 g5 hS hG hsl=>?_⟩;have sn:=G.seen hp (Uv p P') (Uv p t) hG;have lS:(s'.map V.int).length=s'.length:=aB _;have lT:(told.map V.int).length=told.length:=aB _;have gy:=gx.trans (g3.trans (g4.trans g5));have hTy:=(g3.trans (g4.trans g5)) _ _ zY;refine⟨_,rfl,.ref ts,s'.length,rfl,.inr ⟨_,aA.of hS,lS.symm⟩,_,rfl,.ref tt,told.length,rfl,.inr ⟨_,aA.of hTy,lT.symm⟩,_,_,rfl,rfl,_,rfl,?_⟩;refine dM (λd1=>?_) (λd1=>?_)
   .have d1':(s'.length:Int)<told.length:=dec_true d1;refine⟨_,rfl,ts,rfl,.inr ⟨⟨_,aA.of hS⟩,DY hS ⋯ rfl (λx=>Pm.nr p x) ?_ ?_⟩⟩
    .intro H6 x g6 hx kk hk;exact⟨_,rfl,_,rfl,p,x,rfl,⋯,hk⟩
    .intro D hD;refine⟨D,_,rfl,.inl ⟨au.of aC,λtn ht=>?_⟩⟩;obtain⟨qJ,qg,Ni,I'⟩:=I.anew hp hlt ⋯ ⋯ sn ⋯;refine⟨_,rfl,?_⟩;exact⟨500-(qJ+qg),⋯,_,_,tn,s'.map (Pm.nr p),p,p,true,qJ,qg,rfl,rfl,gy.trans ((Same.new hD _).trans (Same.new ht _)),aC,I',(by rw[Ni,show 500-(bad+good+1)=k by omega];exact hN),⋯,⋯⟩
   .have d1':¬(s'.length:Int)<told.length:=dec_false d1;refine qO.by (λσ' H2=>∃m',m'<500-(bad+good)/\aaJ H a c P' g N m' σ' H2) (λN0 hN0=>?_) (λσ' H2 z=>z);refine⟨_,rfl,.ref ts,s'.length,rfl,.inr ⟨_,aA.of hS,lS.symm⟩,_,rfl,.ref tt,told.length,rfl,.inr ⟨_,aA.of hTy,lT.symm⟩,_,rfl,?_⟩;refine dM (λd2=>?_) (λd2=>?_)
    .have d2':(s'.length:Int)=told.length:=dec_true d2;have hl:s'.length=told.length:=⋯;have wC:¬(p:Int)∣M:=λz=>by have:=I.div p hp z;omega
     refine⟨_,rfl,?_⟩;refine⟨_,rfl,.ref ts,s'.length,rfl,.inr ⟨_,aA.of hS,lS.symm⟩,?_⟩;refine⟨(s'.length:Int),rfl,(⋯:-(2^62)<=(s'.length:Int)),(⋯:(s'.length:Int)<2^62),?_⟩;rw[d9];refine BW (n:=s'.length) ⋯ rfl (λk=>Pm.jn M (told.getD k 0) p (s'.getD k 0)) ?_ ?_
     .intro H6 k6 g6 G3 kk hk;have e1:(0+(k6:Int)).toNat=k6:=⋯;refine⟨_,rfl,_,rfl,_,rfl,_,_,.inr (aA.of (g6 _ _ hTy)),eN (ns:=told) (⋯:(0:Int)<=0+(k6:Int)) ⋯,?_⟩;refine⟨_,rfl,_,rfl,_,rfl,_,_,.inr (aA.of (g6 _ _ hS)),eN (ns:=s') (⋯:(0:Int)<=0+(k6:Int)) ⋯,?_⟩;rw[e1];exact⟨M,_,p,_,rfl,hp,⋯,I.pos,wC,hk⟩
     .intro D hD;refine⟨D,_,rfl,.inl ⟨au.of aC,λtn ht=>?_⟩⟩;have gn:=(Same.new hD (.lst ((Pm.aM s'.length λk=>Pm.jn M (told.getD k 0) p (s'.getD k 0)).map V.int))).trans (Same.new ht (.tup ((Pm.aM s'.length λk=>Pm.jn M (told.getD k 0) p (s'.getD k 0)).map V.int)));refine⟨_,rfl,_,rfl,mulR ⋯ ⋯,?_⟩;refine⟨_,rfl,_,rfl,?_⟩;refine Hv (ns:=Pm.aM s'.length λk=>Pm.jn M (told.getD k 0) p (s'.getD k 0)) (ms:=told) (aA.of aC) (aA.of (gn _ _ hTy)) ?_;obtain⟨qJ,qg,Ni,I'⟩:=I.join (jG:=Pm.aM s'.length λk=>Pm.jn M (told.getD k 0) p (s'.getD k 0)) (Rk:=decide ((Pm.aM s'.length λk=>Pm.jn M (told.getD k 0) p (s'.getD k 0))=told)) hp hlt ⋯ ⋯ sn hl (by rw[Pm.cA];exact hl) (λk6 G3=>⟨Pm.jw M (told.getD k6 0) p (s'.getD k6 0),Pm.arH hp wC,by rw[Pm.cX,if_pos ⋯];rfl⟩) (decide_eq_true_iff);exact hN0 _ _ ⟨500-(qJ+qg),⋯,_,_,tn,_,M*p,p,_,qJ,qg,rfl,rfl,gy.trans gn,aC,I',(by rw[Ni,show 500-(bad+good+1)=k by omega];exact hN),⋯,⋯⟩
    .have d2':¬(s'.length:Int)=told.length:=dec_false d2;have I':=I.stay hp hlt ⋯ sn ⋯;exact hN0 _ _ ⟨500-(bad+1+good),⋯,_,_,tt,told,M,p,ripe,bad+1,good,rfl,rfl,gy,hTy,I',(by rw[show 500-(bad+1+good)=k by omega];exact hN),⋯,⋯⟩
theorem aq4(F:Fn K mg "of_rule" Ln ["by","rule"])(cN:jT P w K mg base):R5 P w K mg base:=by
 refine F.cal N8 (λvs H Q E h=>?_) (λ_ _ _ _ _ H _ Q E hr h=>?_)
 .obtain⟨b,a,c,rfl,_⟩:=h;rfl
 .obtain⟨b,a,c,rfl,hb,hA,zA,q⟩:=h;refine⟨_,(ao (gM (i:=2) N8.nd rfl (fM rfl) (cH K B.cJ (ak (pv 1) aj))) (ao (uG (i:=3) (hN:=N8.nd) (hi':=rfl) (hx:=(pC rfl)) (sc:=arR) (N:=["k","by","length","rule"]) (ix:=[none,some 0,some 2,some 1]) dX rfl (iC rfl B.gG (ak (pv 2) aj)) (λcl C s₀ H₀ ex=>⟨(bD 0 dH),eO,(aJ cN hr (ak (pv 1) (fK (aK dI aq (aO K (pv 3) (aK dI (aK dI (pv 2) aq) (pv 0)))) aj)))⟩)) (aD (bf (lB (pF K) rfl B.oh boot_tuple (fK (pad K (pv 3) (gJ (fu aq aj))) aj)))))),?_⟩;have lC:(c.map V.int).length=c.length:=aB _;refine⟨_,rfl,.ref a,c.length,rfl,.inr ⟨_,aA.of hA,lC.symm⟩,?_⟩;refine⟨_,rfl,(c.length:Int),rfl,(⋯:-(2^62)<=(c.length:Int)),(⋯:(c.length:Int)<2^62),?_⟩;rw[d9];refine BW (n:=c.length) ⋯ rfl (λk=>Rm.tk b (0-Pm.co c (c.length-1-k))) ?_ ?_
  .intro H2 k g2 hk kk hkk;have e1:((c.length:Int)-1-(0+(k:Int))).toNat=c.length-1-k:=⋯;refine⟨_,rfl,_,rfl,_,rfl,_,_,rfl,rfl,_,rfl,_,_,rfl,rfl,_,_,.inr (aA.of (g2 _ _ hA)),eN (ns:=c) (⋯:(0:Int)<=(c.length:Int)-1-(0+(k:Int))) ⋯,_,_,rfl,rfl,?_⟩;refine⟨b,_,rfl,hb,?_⟩;rw[e1];exact hkk
  .intro D hD;have g1:=Same.new hD (.lst ((Pm.aM c.length λk=>Rm.tk b (0-Pm.co c (c.length-1-k))).map V.int));refine⟨_,rfl,(by show 1<=sizeLine;decide),λl2 hl2=>?_⟩;have g2:=Same.new hl2 (.lst [.int 1]);refine .inl ⟨_,_,g2 _ _ aC,aC,?_,λl3 hl3=>?_⟩
   .rw[aB,Pm.cA];exact gC (dZ (by show _+1<=1000;omega))
   refine⟨l3,_,rfl,.inl ⟨au.of aC,λt ht=>?_⟩⟩;refine q t _ (g1.trans (g2.trans ((Same.new hl3 _).trans (Same.new ht _)))) ?_;rw[aC,Pm.aV,yS]
theorem ak3(F:Fn K mg "rule_of" LC ["by","poly"])(cN:jT P w K mg base):Nf P w K mg base:=by
 refine F.cal adP (λvs H Q E h=>?_) (λ_ _ _ _ _ H _ Q E hr h=>?_)
 .obtain⟨b,a,p,rfl,_⟩:=h;rfl
 .obtain⟨b,a,p,rfl,hb,hA,z0,zA,q⟩:=h;refine⟨_,(ao (gM (i:=2) adP.nd rfl (fM rfl) (aK dI (cH K B.cJ (ak (pv 1) aj)) aq)) (aD (bf (lB (pF K) rfl B.oh boot_tuple (aL (fY (sc:=aik) (N:=["k","by","length","poly"]) (ix:=[none,some 0,some 2,some 1]) dX rfl (iC rfl B.gG (ak (pv 2) aj)) (λcl C s₀ H₀ ex=>⟨(bD 0 dH),eO,(aJ cN hr (ak (pv 1) (fK (aK dI aq (aO K (pv 3) (aK dI (aK dI (pv 2) aq) (pv 0)))) aj)))⟩)) aj))))),?_⟩;have lC:(p.map V.int).length=p.length:=aB _;refine⟨_,rfl,.ref a,p.length,rfl,.inr ⟨_,aA.of hA,lC.symm⟩,_,_,rfl,rfl,?_⟩;refine⟨_,rfl,(p.length:Int)-1,rfl,(⋯:-(2^62)<=(p.length:Int)-1),(⋯:(p.length:Int)-1<2^62),?_⟩;rw[show((p.length:Int)-1).toNat=p.length-1 by omega];refine BW (n:=p.length-1) ⋯ rfl (λk=>Rm.tk b (0-Pm.co p (p.length-1-1-k))) ?_ ?_
  .intro H2 k g2 hk kk hkk;have e1:((p.length:Int)-1-1-(0+(k:Int))).toNat=p.length-1-1-k:=⋯;refine⟨_,rfl,_,rfl,_,rfl,_,_,rfl,rfl,_,rfl,_,_,rfl,rfl,_,_,.inr (aA.of (g2 _ _ hA)),eN (ns:=p) (⋯:(0:Int)<=(p.length:Int)-1-1-(0+(k:Int))) ⋯,_,_,rfl,rfl,?_⟩;refine⟨b,_,rfl,hb,?_⟩;rw[e1];exact hkk
  .intro D hD;refine⟨D,_,rfl,.inl ⟨au.of aC,λt ht=>?_⟩⟩;exact q t _ ((Same.new hD _).trans (Same.new ht _)) aC
theorem ap9(F:Fn K mg "top_of" U8 ["row","poly"])(cN:jT P w K mg base)(n6:Cu P w K mg base):Yj P w K mg base:=by
 refine F.cal AJ (λvs H Q E h=>?_) (λ_ _ _ _ _ H _ Q E hr h=>?_)
 .obtain⟨v,r,a,rfl,_⟩:=h;rfl
 .obtain⟨v,r,a,rfl,⟨a0,p,p2,rfl,hA,hR,hS⟩,ok,hP,q⟩:=h;refine⟨_,(ao (aH 2 AJ.nd (aO K (pv 0) aq)) (ao (gM (i:=3) AJ.nd rfl (fM rfl) (aO K (pv 0) aq)) (ao (aH 4 AJ.nd (gJ aj)) (ao (gk PassesOwn.never rfl (iC rfl B.gG (aL (cH K B.cJ (ak (pv 3) aj)) aj)) (Iz (i:=5) AJ.nd rfl (fM rfl)) (ao (uG (i:=6) (hN:=AJ.nd) (hi':=rfl) (hx:=(pC rfl)) (sc:=atL) (N:=["j","k","poly","starts"]) (ix:=[none,some 5,some 1,some 3]) dX rfl (af7 rfl B.gG (fK (pad K (pv 5) aq) (aL (cH K B.cJ (ak (pv 1) aj)) aj))) (λcl C s₀ H₀ ex=>⟨(bD 0 dH),eO,(aK v_mul (aO K (pv 2) (pv 0)) (aO K (pv 3) (aK dI (aK dI (pv 0) aq) (pv 1))))⟩)) (aD (kZ (tX K (pv 4) (aJ cN hr (ak (pv 2) (aL (jy (PJ K rfl) rfl B.QW boot_sum (ak (pv 6) aj)) aj)))))))) (aD (bf (aJ n6 hr (ak (pv 4) aj)))))))),?_⟩;have hl:=ok.len;have hs:=ok.short;have lS:(r.starts.map V.int).length=r.starts.length:=aB _;have lP:((Pm.aV r.b r.rule).map V.int).length=r.rule.length+1:=by rw[aB,Pm.kI]
  refine⟨_,rfl,_,_,.inr (aA.of hA),rfl,?_⟩;refine⟨_,rfl,_,_,.inr (aA.of hA),rfl,?_⟩;refine⟨cD _,λl0 h0=>?_⟩;have g0:=Same.new h0 (.lst []);refine⟨_,rfl,.ref p2,r.starts.length,rfl,.inr ⟨_,aA.of (g0 _ _ hS),lS.symm⟩,?_⟩;refine⟨(r.starts.length:Int),rfl,(⋯:-(2^62)<=(r.starts.length:Int)),(⋯:(r.starts.length:Int)<2^62),?_⟩;refine lG (lo:=0) (n:=(r.starts.length:Int).toNat) (λi σ' H'=>∃o5 o6,σ'=[some (.ref a0),some (.ref a),some (.int r.b),some (.ref p2),some (.ref l0),o5,o6]/\Same H H'/\H' l0=some (.lst ((Pm.aM i λk=>Rm.tk r.b (Pm.tp (Pm.aV r.b r.rule) r.at k)).map V.int)))
   ⟨_,_,rfl,g0,aC⟩ ?_ ?_
  .rintro i σ' H' hi ⟨o5,o6,rfl,g,hL⟩;have hi':i<r.starts.length:=⋯;refine⟨_,rfl,_,rfl,.ref a,r.rule.length+1,rfl,.inr ⟨_,aA.of (g _ _ hP),lP.symm⟩,?_⟩;refine⟨_,_,rfl,⟨⋯,⋯,⋯,⋯⟩,?_⟩;rw[show(((r.rule.length+1:Nat):Int)-(0+(i:Int)+1)).toNat=r.rule.length-i by omega];refine anR (lo:=0+(i:Int)+1) (n:=r.rule.length-i) ⋯ rfl (λk=>Pm.co (Pm.aV r.b r.rule) (i+1+k)*r.at k) ?_ ?_
   .intro H2 k g2 hk kk hkk;have e1:(0+(i:Int)+1+(k:Int)).toNat=i+1+k:=⋯;have e2:(0+(i:Int)+1+(k:Int)-1-(0+(i:Int))).toNat=k:=⋯;have lq:(Pm.aV r.b r.rule).length=r.rule.length+1:=Pm.kI ..;refine⟨_,rfl,_,rfl,_,_,.inr (aA.of (g2 _ _ (g _ _ hP))),eN (ns:=Pm.aV r.b r.rule) (⋯:(0:Int)<=0+(i:Int)+1+(k:Int)) ⋯,?_⟩;refine⟨_,rfl,_,rfl,_,_,rfl,rfl,_,rfl,_,_,rfl,rfl,_,_,.inr (aA.of (g2 _ _ (g _ _ hS))),eN (ns:=r.starts) (⋯:(0:Int)<=0+(i:Int)+1+(k:Int)-1-(0+(i:Int))) ⋯,?_⟩;refine⟨m6 (Rm.Bd.getD ok.C9 _) (Rm.Bd.getD ok.Gr _) ∅,?_⟩;rw[e1,e2];have e3:r.at k=r.starts.getD k 0:=Rm.sS ⋯;rw[e3]at hkk;exact hkk
   .intro D hD;have g3:=Same.new hD (.lst ((Pm.aM (r.rule.length-i) λk=>Pm.co (Pm.aV r.b r.rule) (i+1+k)*r.at k).map V.int));have mD:=g3 _ _ hL;have lL:((Pm.aM i λk=>Rm.tk r.b (Pm.tp (Pm.aV r.b r.rule) r.at k)).map V.int).length=i:=by rw[aB,Pm.cA]
    refine⟨_,rfl,.inl ⟨rfl,_,au.of mD⟩,_,rfl,_,rfl,D,_,rfl,au.of aC,r.b,_,rfl,ok.oO,?_⟩;refine⟨l0,_,_,rfl,rfl,mD,?_,?_⟩
    .rw[lL];exact dZ ⋯
    .refine⟨_,_,rfl,(g.trans g3).upd h0 _,?_⟩;rw[aC,Pm.Ux,yS];have e4:Pm.tp (Pm.aV r.b r.rule) r.at i=(Pm.aM (r.rule.length-i) λk=>Pm.co (Pm.aV r.b r.rule) (i+1+k)*r.at k).sum:=by
      unfold Pm.tp;rw[Pm.aM,Pm.acK,Pm.kI,fR]
     rw[e4]
  .rintro σ' H' ⟨o5,o6,rfl,g,hL⟩;refine⟨_,rfl,l0,_,rfl,au.of hL,λt1 H3 g3 h3=>?_⟩;refine q t1 H3 (g.trans g3) ?_;rw[h3,qG,hl,d9]
theorem ato(F:Fn K mg "shared_divisor" N6 ["by","one","other"])(Nb:afM P w K mg base)(Av:Td P w K mg base):acX P w K mg base:=by
 refine F.cal al7 (λvs H Q E h=>?_) (λ_ _ _ _ _ H _ Q E hr h=>?_)
 .obtain⟨b,a,c,P,t,rfl,_⟩:=h;rfl
 .obtain⟨b,a,c,P',t,rfl,hA,hC,zP,zt,hP,bP,bt,h⟩:=h;refine⟨_,(aD (bf (Yd (cT (jh K hr) (pv 0) aq) (aJ Nb hr (ak (pv 1) (ak (pv 2) aj))) (aJ Av hr (ak (pv 0) (ak (pv 1) (ak (pv 2) aj))))))),?_⟩;refine⟨_,rfl,_,rfl,?_⟩;refine dM (λc0=>?_) (λc0=>?_)
  .have Xk:b=0:=dec_true c0;rcases h with⟨_,g,N,U,V',G,hV,hU,hUV,q⟩|⟨p,rfl,hp,_⟩
   .exact⟨_,rfl,_,rfl,a,c,P',t,g,N,U,V',rfl,hA,hC,zP,zt,hP,bP,bt,G,hV,hU,hUV,q⟩
   .have:=hp.1;omega
  .have Xk:¬b=0:=dec_false c0;rcases h with⟨z,_⟩|⟨p,rfl,hp,hpb,yP,yt,q⟩
   .exact absurd z Xk
   .exact⟨_,rfl,_,rfl,_,rfl,p,a,c,P',t,rfl,hp,hpb,hA,hC,zP,zt,yP,yt,λ_ z=>by have:=hP.pos;rw[z]at this;exact absurd this ∅,q⟩
theorem avz(F:Fn K mg "least_of" VF ["row"])(wB:R5 P w K mg base)(M4:Yj P w K mg base)(n8:DK P w K mg base)(Uj:acX P w K mg base):QF P w K mg base:=by
 refine F.cal Kc (λvs H Q E h=>?_) (λ_ _ _ _ _ H _ Q E hr h=>?_)
 .obtain⟨v,r,rfl,_⟩:=h;rfl
 .obtain⟨v,r,rfl,⟨a0,p,p2,rfl,hA,hR,hS⟩,ok,hB,hT,q⟩:=h;refine⟨_,(ao (aH 1 Kc.nd (aO K (pv 0) aq)) (ao (aH 2 Kc.nd (aJ wB hr (ak (pv 1) (aL (aO K (pv 0) aq) aj)))) (ao (aH 3 Kc.nd (aJ M4 hr (ak (pv 0) (ak (pv 2) aj)))) (aD (bf (aO K (aJ n8 hr (ak (pv 1) (ak (pv 2) (aL (aJ Uj hr (ak (pv 1) (ak (pv 2) (ak (pv 3) aj)))) aj)))) aq)))))),?_⟩;have hs:=ok.short;have hb1:=ok.Cy;have hm:=Pm.C6 r.b r.rule;have lq:(Pm.aV r.b r.rule).length=r.rule.length+1:=Pm.kI ..;refine⟨_,rfl,_,_,.inr (aA.of hA),rfl,?_⟩;refine⟨_,rfl,_,rfl,_,_,.inr (aA.of hA),rfl,r.b,p,r.rule,rfl,ok.oO,hR,⋯,λtP H1 g1 hP=>?_⟩;refine⟨_,rfl,_,rfl,.ref a0,r,tP,rfl,⟨a0,p,p2,rfl,g1 _ _ hA,g1 _ _ hR,g1 _ _ hS⟩,ok,hP,λtT H2 g2 J6=>?_⟩;have hP2:=g2 _ _ hP;have lt:=aly r;refine⟨_,rfl,_,rfl,_,rfl,_,rfl,_,rfl,r.b,tP,tT,Pm.aV r.b r.rule,qG r,rfl,hP2,J6,⋯,⋯,hm,(λx hx=>(ok.C9 x hx).mono ∅),amF ok,?_⟩;have nP:=amf r.b r.rule hB.one;by_cases h0:r.b=0
  .obtain⟨d,ua,u,avB,hur,hQ0,hua,hLb,hd6,hsz⟩:=hT h0;have hK:=ok.kp;rw[h0]at hK;rw[h0]at hm lq;obtain⟨g,L,N,hL,C8,hKL,hall,hlen,hE,G,hV,hU⟩:=Pm.aqh hm hK hQ0 hua (u:=u) (B:=20) (U:=u+800) (λk=>by have:=Pm.aaT ok.oO ok.Cy avB hur;rw[h0]at this;exact Pm.jA this k) (λL hL hKL hall=>hLb L ⟨hL,λk=>Rm.aY _,hKL,hall⟩) (by rw[lq];have:=ig (show r.rule.length+1<=25 by omega) (show 20+d+2<=32 by omega);omega);have eT:Pm.co (qG r)=Pm.tp (Pm.aV 0 r.rule) r.at:=funext λk=>by rw[Oa,h0,Rm.aY]
   refine .inl ⟨h0,g,N,_,_,by rw[h0,eT];exact G,hV,hU,⋯,λtg H3 g3 hg=>?_⟩;have hgl:g.length<=r.rule.length+1:=by have:=hL.pos;omega
   have bg:∀x∈g,Rm.Bd 124000 x:=λx hx=>by
    obtain⟨k,hk,e⟩:=jq.mp hx;have:=hU k;rw[Pm.jo hk,e]at this;exact this.mono ⋯
   refine⟨r.b,tP,tg,Pm.aV r.b r.rule,g,rfl,ok.oO,⋯,g3 _ _ hP2,hg,by rw[h0];omega,⋯,G.mon,nP,(λx hx=>(ok.C9 x hx).mono ∅),bg,λt x y o l H4 g4 ht hx hy D _ _ _=>?_⟩;refine⟨_,_,.inr (aA.of ht),rfl,?_⟩;have D':Pm.Div r.b (Pm.aV r.b r.rule) g L []:=⟨by rw[h0];exact C8,Pm.Py.nil _,G.mon.pos,λk=>by rw[Pm.fW,dj,h0,hE k]⟩;obtain⟨eo,_⟩:=D.uniq G.mon D';subst eo;exact q x o H4 (g1.trans (g2.trans (g3.trans g4))) hx ⟨hL,λk=>by rw[h0];exact Rm.aY _,by rw[h0];exact hKL,by rw[h0];exact hall⟩ (by have:=G.mon.pos;omega)
  .obtain⟨P0,vo,hb⟩:=hB.resolve_left h0;have hp:=aiZ vo;have hr:=zN P0 vo;have yP:Pm.Py (P0:Int) (Pm.aV r.b r.rule):=by rw[<-hb];exact agF hm nP
   have yt:Pm.Py (P0:Int) (qG r):=by rw[<-hb];exact Pm.Py.aM ..
   refine .inr ⟨P0,hb,hp,⋯,yP,yt,λtg g H3 g3 hg hG hgl=>?_⟩;have bg:∀x∈g,Rm.Bd 124000 x:=Um hr.1 ⋯ hG.py;refine⟨r.b,tP,tg,Pm.aV r.b r.rule,g,rfl,ok.oO,⋯,g3 _ _ hP2,hg,⋯,⋯,hG.mon,nP,(λx hx=>(ok.C9 x hx).mono ∅),bg,λt x y o l H4 g4 ht hx hy D _ _ _=>?_⟩;refine⟨_,_,.inr (aA.of ht),rfl,?_⟩;rw[hb]at D;rw[<-hb]at D;obtain⟨hl1,hl2⟩:=aoo hp ok hb hG (by rw[hb]at D ⊢;exact D);exact q x o H4 (g1.trans (g2.trans (g3.trans g4))) hx hl1 hl2
theorem aon(F:Fn K mg "shortest" Tt ["row"])(zR:QF P w K mg base)(yC:Nf P w K mg base):QT P w K mg base:=by
 refine F.cal UY (λvs H Q E h=>?_) (λ_ _ _ _ _ H _ Q E hr h=>?_)
 .obtain⟨v,r,rfl,_⟩:=h;rfl
 .obtain⟨v,r,rfl,⟨a0,p,p2,rfl,hA,hR,hS⟩,ok,hB,hT,q⟩:=h;refine⟨_,(ao (aH 1 UY.nd (aJ zR hr (ak (pv 0) aj))) (ao (aH 2 UY.nd (aJ yC hr (aL (aO K (pv 0) aq) (ak (pv 1) aj)))) (aD (bf (gh (aL (aO K (pv 0) aq) (ak (pv 2) (aL (lB (pF K) rfl B.oh boot_tuple (aL (wK (wD K) (aO K (pv 0) aq) yX (uL (cH K B.cJ (ak (pv 2) aj)))) aj)) aj)))))))),?_⟩;have hs:=ok.short;have hl:=ok.len;have lS:(r.starts.map V.int).length=r.starts.length:=aB _;refine⟨_,rfl,.ref a0,r,rfl,⟨a0,p,p2,rfl,hA,hR,hS⟩,ok,hB,hT,λtL L H1 g1 hL lst ll=>?_⟩;have MZ:=lst.mon.pos;refine⟨_,rfl,_,_,.inr (aA.of (g1 _ _ hA)),rfl,_,rfl,r.b,tL,L,rfl,ok.oO,hL,MZ,⋯,λtR H2 g2 nQ=>?_⟩;have lR:((Pm.fO r.b L).map V.int).length=L.length-1:=by rw[aB,Pm.nF]
  have Js:=(g1.trans g2) _ _ hA;have hS2:=(g1.trans g2) _ _ hS;refine⟨_,rfl,_,_,.inr (aA.of Js),rfl,_,rfl,_,rfl,_,_,.inr (aA.of Js),rfl,?_⟩;refine⟨_,rfl,.ref tR,L.length-1,rfl,.inr ⟨_,aA.of nQ,lR.symm⟩,?_⟩;refine⟨_,rfl,?_⟩;by_cases hw:r.starts.length<=L.length-1
  .refine .inr (.inr ⟨_,aA.of hS2,?_,?_⟩)
   .rw[HT.qe,HT.rP,lS];omega
   .refine⟨p2,_,rfl,.inr ⟨aA.of hS2,?_⟩⟩;refine⟨(by show 3<=sizeLine;decide),λt ht=>?_⟩;have g3:=Same.new ht (.tup [.int r.b,.ref tR,.ref p2]);refine q (.ref t) L _ (g1.trans (g2.trans g3)) ⟨t,tR,p2,rfl,aC,g3 _ _ nQ,?_⟩ lst ll;show _=some (HO.tup ((r.starts.take (L.length-1)).map V.int));rw[rm hw];exact g3 _ _ hS2
  .refine .inr (.inl ⟨_,aA.of hS2,?_,λp3 hp3=>?_⟩)
   .rw[HT.qe,HT.rP,lS];omega
   .refine⟨p3,_,rfl,.inr ⟨aA.of aC,?_⟩⟩;have g3:=Same.new hp3 (.tup (gU (r.starts.map V.int) none (some ((L.length-1:Nat):Int))));refine⟨(by show 3<=sizeLine;decide),λt ht=>?_⟩;have g4:=Same.new ht (.tup [.int r.b,.ref tR,.ref p3]);refine q (.ref t) L _ (g1.trans (g2.trans (g3.trans g4))) ⟨t,tR,p3,rfl,aC,(g3.trans g4) _ _ nQ,?_⟩ lst ll;show _=some (HO.tup ((r.starts.take (L.length-1)).map V.int));rw[wL,<-Gm];exact g4 _ _ aC
theorem amq(F:Fn K mg "line_taken" RD ["by","line"])(cN:jT P w K mg base):afq P w K mg base:=by
 refine F.cal ail (λvs H Q E h=>?_) (λ_ _ _ _ _ H _ Q E hr h=>?_)
 .obtain⟨b,l,p,rfl,_⟩:=h;rfl
 .obtain⟨b,l,p,rfl,hb,hL,z,q⟩:=h;refine⟨_,(aD (bf (fY (sc:=aww) (N:=["number","by"]) (ix:=[none,some 0]) dX rfl (fH K (pv 1)) (λcl C s₀ H₀ ex=>⟨(bD 0 dH),eO,(aJ cN hr (ak (pv 1) (ak (pv 0) aj)))⟩)))),?_⟩;refine⟨_,rfl,l,rfl,.inl ⟨⟨_,au.of hL⟩,uT hL z rfl (Rm.tk b) ?_ ?_⟩⟩
  .intro H2 x g2 hx k hk;exact⟨_,rfl,_,rfl,b,x,rfl,hb,hk⟩
  .intro D hD;exact q D _ (Same.new hD _) hD aC
theorem asZ(F:Fn K mg "head_line" Ls ["lines","begin","column"]):XU P w K mg base:=by
 refine F.cal ab0 (λvs H Q E h=>?_) (λ_ _ _ _ _ H _ Q E hr h=>?_)
 .obtain⟨ll,xs,L,W,r,c,cI,ex,rfl,_⟩:=h;rfl
 .obtain⟨ll,xs,L,W,r,c,cI,ex,rfl,rfl,hL,hx,hw,hc,z,hr',q1,q2⟩:=h;refine⟨_,(ao (gk PassesOwn.never rfl (af7 rfl B.gG (ak (pv 1) (aL (cH K B.cJ (ak (pv 0) aj)) aj))) (bD 3 ab0.nd) (aD (eY (cT (ni K hr) (aO K (aO K (pv 0) (pv 3)) (pv 2)) aq) (aD (bf (pv 3))) fB))) (aD (bf Ua))),?_⟩;have lx:=hx.len;refine⟨_,rfl,_,rfl,.ref ll,L.length,rfl,.inl ⟨_,au.of hL,lx.symm⟩,?_⟩;refine⟨(r:Int),(L.length:Int),rfl,⟨⋯,⋯,⋯,⋯⟩,?_⟩;refine lG (lo:=(r:Int)) (n:=((L.length:Int)-(r:Int)).toNat) (λi σ' H'=>∃o,σ'=[some (.ref ll),some (.int r),some (.int c),o]/\H'=H/\∀j,r<=j->j<r+i->Pm.co (Dm.ln L j) c=0) ⟨_,rfl,rfl,λj h1 h2=>absurd h2 ⋯⟩ ?_ ?_
  .rintro i σ' H' hi ⟨o,rfl,rfl,hz⟩;have hi':r+i<L.length:=⋯;obtain⟨t,e1,_,e2⟩:=hx.get hi';have ei:(r:Int)+(i:Int)=((r+i:Nat):Int):=⋯;have wl:=hw (r+i) hi';refine⟨_,rfl,_,rfl,_,.ref t,.inl (au.of hL),uI (r+i) ei e1,_,rfl,_,_,.inl (au.of e2),eN (ns:=Dm.ln L (r+i)) (⋯:(0:Int)<=(c:Int)) ⋯,_,rfl,?_⟩;rw[d9];by_cases hz':(Dm.ln L (r+i)).getD c 0=0
   .refine Rb hz' ⟨_,rfl,rfl,λj h1 h2=>?_⟩;by_cases e:j=r+i
    .rw[e];exact hz'
    .exact hz j h1 ⋯
   .rw[decide_eq_false hz'];refine qU ⟨_,rfl,?_⟩;have:=q1 (r+i) ⋯ hi' hz';rw[<-ei]at this;exact this
  .rintro σ' H' ⟨o,rfl,rfl,hz⟩;exact q2 λi h1 h2=>hz i h1 ⋯
theorem aqJ(F:Fn K mg "bring_up" Uu ["by","lines","at","top"])(cN:jT P w K mg base):aaz P w K mg base:=by
 refine F.cal acF (λvs H Q E h=>?_) (λ_ _ _ _ _ H _ Q E hr h=>?_)
 .obtain⟨b,ll,xs,L,a,r,ex,rfl,_⟩:=h;rfl
 .obtain⟨b,ll,xs,L,a,r,ex,rfl,hb,hL,hx,hm,hst,hra,ha,hz,q⟩:=h;refine⟨_,(aD (uc (eY (cT (ni K hr) (pv 2) (pv 3)) (ao (aH 4 acF.nd (aO K (pv 1) (pv 3))) (ao (v8 (aO K (pv 1) (pv 2)) (uP (pv 1) (pv 3) set_list)) (aD (v8 (fY (sc:=alf) (N:=["number","by"]) (ix:=[none,some 0]) dX rfl (fH K (pv 4)) (λcl C s₀ H₀ ex=>⟨(bD 0 dH),eO,(aJ cN hr (ak (pv 1) (fK (aK dI aq (pv 0)) aj)))⟩)) (uP (pv 1) (pv 2) set_list))))) fB))),?_⟩;have lx:=hx.len;refine⟨_,rfl,_,rfl,_,rfl,?_⟩;by_cases e:a=r
  .exact Rb (by rw[e]) (q xs L H (Keep.refl _ _) hL hx (.inl ⟨e,rfl⟩))
  .have hne:¬(a:Int)=(r:Int):=⋯;rw[decide_eq_false hne];refine qU ?_;obtain⟨tr,r1,r2,r3⟩:=hx.get (show r<L.length by omega);obtain⟨ta,a1,a2,a3⟩:=hx.get ha;refine⟨_,rfl,_,rfl,_,.ref tr,.inl (au.of hL),uI r rfl r1,?_⟩;refine⟨_,rfl,_,rfl,_,.ref ta,.inl (au.of hL),uI a rfl a1,?_⟩;refine⟨_,rfl,_,rfl,ll,xs,_,r,rfl,rfl,hL,uK rfl (by rw[lx];omega),?_⟩;have kA:=Keep.upd ll H (.lst (xs.set r (.ref ta)));have hL1:(upd H ll (.lst (xs.set r (.ref ta)))) ll=some (.lst (xs.set r (.ref ta))):=aC;have r3':=kA _ _ (λ(z:tr=ll)=>r2 (by rw[z];exact hm)) r3;have hx1:=(cF.set a2 a3 r hx).keep hm kA;have ZG:=hst.keep kA ⟨_,hL1⟩;generalize upd H ll (.lst (xs.set r (.ref ta)))=H1 at kA hL1 r3' hx1 ZG;refine⟨_,rfl,tr,rfl,.inl ⟨⟨_,au.of r3'⟩,uT r3' (hz r ⋯) rfl (λx=>Rm.tk b (0-x)) ?_ ?_⟩⟩
   .intro H2 x g2 hx k hk;exact⟨_,rfl,_,rfl,_,_,rfl,rfl,b,_,rfl,hb,hk⟩
   .intro D hD;have gD:=Same.new hD (.lst (((Dm.ln L r).map λx=>Rm.tk b (0-x)).map V.int));have hDl:D∉ex:=ZG.fresh hD;have BZ:(upd H1 D (.lst (((Dm.ln L r).map λx=>Rm.tk b (0-x)).map V.int))) D=some (.lst (((Dm.ln L r).map λx=>Rm.tk b (0-x)).map V.int)):=aC;have hL2:=gD _ _ hL1;have hx2:=hx1.same gD;have kB:=kA.trans (Keep.same gD);generalize upd H1 D (.lst (((Dm.ln L r).map λx=>Rm.tk b (0-x)).map V.int))=H2 at gD BZ hL2 hx2 kB;refine⟨_,rfl,_,rfl,ll,_,_,a,rfl,rfl,hL2,uK rfl (by rw[nW,lx];omega),?_⟩;have kC:=Keep.upd ll H2 (.lst ((xs.set r (.ref ta)).set a (.ref D)));refine q _ ((L.set r (Dm.ln L a)).set a ((Dm.ln L r).map λx=>Rm.tk b (0-x))) _ (kB.trans kC) aC ((cF.set hDl BZ a hx2).keep hm kC) (.inr ⟨⋯,by rw[nW,nW],?_,?_,?_⟩)
    .rw[xU _ (by rw[nW];omega),if_neg ⋯,xU _ ⋯,if_pos rfl]
    .rw[xU _ (by rw[nW];omega),if_pos rfl]
    .intro i h1 h2;rw[xU _ (by rw[nW];omega),if_neg h2,xU _ ⋯,if_neg h1]
theorem awE(F:Fn K mg "freed" Mf ["by","line","head","column","last"])(oB:Bp P w K mg base)(cN:jT P w K mg base):VW P w K mg base:=by
 refine F.cal CP (λvs H Q E h=>?_) (λ_ _ _ _ _ H _ Q E hr h=>?_)
 .obtain⟨b,last,l1,l2,p,r,c,cI,rfl,_⟩:=h;rfl
 .obtain⟨b,last,l1,l2,p,r,c,cI,rfl,rfl,hZ,h1,h2,hl,hc,hz,n0,nt,bl,b1,b2,hx,q⟩:=h;refine⟨_,(ao (gM (i:=5) CP.nd rfl (fM rfl) (aO K (pv 2) (pv 3))) (ao (gM (i:=6) CP.nd rfl (fM rfl) (aO K (pv 1) (pv 3))) (ao (uG (i:=7) (hN:=CP.nd) (hi':=rfl) (hx:=(pC rfl)) (sc:=aiE) (N:=["k","factor","head","line","pivot"]) (ix:=[none,some 6,some 2,some 1,some 5]) dX rfl (iC rfl B.gG (aL (cH K B.cJ (ak (pv 1) aj)) aj)) (λcl C s₀ H₀ ex=>⟨(bD 0 dH),eO,(aK dI (aK v_mul (pv 4) (aO K (pv 3) (pv 0))) (aK v_mul (pv 1) (aO K (pv 2) (pv 0))))⟩)) (ao (eY (cT (jh K hr) (pv 0) aq) (aD (bf (fY (sc:=at5) (N:=["number","last"]) (ix:=[none,some 4]) dX rfl (fH K (pv 7)) (λcl C s₀ H₀ ex=>⟨(bD 0 dH),eO,(aK Dj (pv 0) (pv 1))⟩)))) fB) (ao (gM (i:=8) CP.nd rfl (fM rfl) (aJ oB hr (ak (pv 0) (fu aq (ak (pv 4) aj))))) (aD (bf (fY (sc:=arv) (N:=["number","by","share"]) (ix:=[none,some 0,some 8]) dX rfl (fH K (pv 7)) (λcl C s₀ H₀ ex=>⟨(bD 0 dH),eO,(aJ cN hr (ak (pv 1) (fK (aK v_mul (pv 0) (pv 2)) aj)))⟩))))))))),?_⟩;have lP:(p.map V.int).length=p.length:=aB _;refine⟨_,rfl,_,rfl,_,_,.inl (au.of h2),eN (ns:=r) (⋯:(0:Int)<=(c:Int)) ⋯,?_⟩;refine⟨_,rfl,_,rfl,_,_,.inl (au.of h1),eN (ns:=p) (⋯:(0:Int)<=(c:Int)) ⋯,?_⟩;rw[d9];have e1:r.getD c 0=Pm.co r c:=rfl;have e2:p.getD c 0=Pm.co p c:=rfl;rw[e1,e2];refine⟨_,rfl,.ref l1,p.length,rfl,.inl ⟨_,au.of h1,lP.symm⟩,(p.length:Int),rfl,(⋯:-(2^62)<=(p.length:Int)),(⋯:(p.length:Int)<2^62),?_⟩;rw[d9];refine BW (n:=p.length) hz rfl (λk=>Pm.co r c*Pm.co p k-Pm.co p c*Pm.co r k) ?_ ?_
  .intro H2 k g2 hk kk hkk;have ek:(0+(k:Int)).toNat=k:=⋯;refine⟨_,rfl,_,rfl,_,rfl,_,_,.inl (au.of (g2 _ _ h1)),eN (ns:=p) (⋯:(0:Int)<=0+(k:Int)) ⋯,m6 (Pm.jA b2 c) (Rm.Bd.getD b1 _) ∅,?_⟩;refine⟨_,rfl,_,rfl,_,rfl,_,_,.inl (au.of (g2 _ _ h2)),eN (ns:=r) (⋯:(0:Int)<=0+(k:Int)) ⋯,m6 (Pm.jA b1 c) (Rm.Bd.getD b2 _) ∅,_,_,rfl,rfl,?_⟩;rw[ek];exact hkk
  .intro D hD;obtain⟨H1,uu,gD,BZ⟩:=nw hD (.lst ((Pm.aM p.length λk=>Pm.co r c*Pm.co p k-Pm.co p c*Pm.co r k).map V.int));rw[uu];have zO:(Pm.aM p.length λk=>Pm.co r c*Pm.co p k-Pm.co p c*Pm.co r k).length<=1000:=by rw[Pm.cA];exact hz
   refine⟨_,rfl,_,rfl,?_⟩;refine dM (λcc=>?_) (λcc=>?_)
   .have hb:b=0:=dec_true cc;refine⟨_,rfl,D,rfl,.inl ⟨⟨_,au.of BZ⟩,uT BZ zO rfl (λx=>x.fdiv last) ?_ ?_⟩⟩
    .intro H2 x g2 hx' k hk;exact⟨_,rfl,_,rfl,_,_,rfl,rfl,⟨n0,vJ (atl n0 bl) ∅⟩,hk⟩
    .intro D2 hD2;refine q D2 _ _ (gD.trans (Same.new hD2 _)) (gD.free hD2) aC (by rw[aB,Pm.cA]) λk hk=>?_;rw[Pm.lZ (by simp),Pm.cX,if_pos hk,hb,Rm.aY,Rm.aY,Rm.aY];obtain⟨e,he⟩:=hx hb k hk;rw[he,QG _ n0];exact⟨rfl,rfl⟩
   .exact absurd hZ (dec_false cc)
theorem arw(F:Fn K mg "clear" TY ["by","wide","lines"])(Pg:XU P w K mg base)(Qg:aaz P w K mg base)(Qd:VW P w K mg base):aeA P w K mg base:=by
 refine F.cal uO (λvs H Q E h=>?_) (λ_ _ _ _ _ H _ Q E hr h=>?_)
 .obtain⟨b,wide,ll,xs,L,W,u,ex,rfl,_⟩:=h;rfl
 .obtain⟨b,wide,ll,xs,L,W,u,ex,rfl,hZ,hL,hx,hmx,hst,hwW,hW,hn,hu,hw,hnu,hbd,q⟩:=h;refine⟨_,(ao (aH 3 uO.nd (gJ aj)) (ao (aH 4 uO.nd aq) (ao (gk PassesOwn.never rfl (iC rfl B.gG (ak (pv 1) aj)) (bD 5 uO.nd) (ao (aH 6 uO.nd (cH K B.cJ (ak (pv 3) aj))) (ao (aH 7 uO.nd (aJ Pg hr (ak (pv 2) (ak (pv 6) (ak (pv 5) aj))))) (aD (eY (Qu (anE (pv 7))) (ao (kZ (aJ Qg hr (ak (pv 0) (ak (pv 2) (ak (pv 7) (ak (pv 6) aj)))))) (ao (gk PassesOwn.never rfl (iC rfl B.gG (aL (cH K B.cJ (ak (pv 2) aj)) aj)) (bD 8 uO.nd) (aD (uc (eY (cT (ni K hr) (pv 8) (pv 6)) (aD (v8 (aJ Qd hr (ak (pv 0) (aL (aO K (pv 2) (pv 8)) (aL (aO K (pv 2) (pv 6)) (ak (pv 5) (ak (pv 4) aj)))))) (uP (pv 2) (pv 8) set_list))) fB)))) (ao (aH 4 uO.nd (aO K (aO K (pv 2) (pv 6)) (pv 5))) (aD (kZ (tX K (pv 3) (pv 5))))))) fB))))) (aD (bf (gh (ak (pv 3) (ak (pv 4) aj)))))))),?_⟩;have hB:pB b:= .inl hZ;obtain⟨hb0,hb1,hb2⟩:=hB.range;have hD:=hB.dom;refine⟨cD _,λlh CQ=>?_⟩;have kh:=Same.new CQ (.lst []);have hm:ll∈lh::ex:=cZ _ hmx;have hml:lh∈lh::ex:=cV;have st:∀{H':Hp} {o o':HO},Keep ll H H'->H' ll=some o->H' lh=some o'->Stand H' (lh::ex):=λk e e' a ha=>by
   rcases bJ.mp ha with z|z
   .rw[z];exact⟨_,e'⟩
   .exact(hst.keep k ⟨_,e⟩) a z
  have hne:lh≠ll:=λz=>by rw[z,hL]at CQ;cases CQ
  refine⟨_,rfl,(wide:Int),rfl,(⋯:-(2^62)<=(wide:Int)),(⋯:(wide:Int)<2^62),?_⟩;refine lG (lo:=0) (n:=(wide:Int).toNat) (λc σ' H'=>∃(o5 o6 o7 o8:Option V) (A:Nat->Nat->Int) (hd:Nat->Nat) (r:Nat) (L':List (List Int)) (last:Int) (xs':List V),σ'=[some (.int b),some (.int wide),some (.ref ll),some (.ref lh),some (.int last),o5,o6,o7,o8]/\Keep ll H H'/\H' lh=some (.lst ((Pm.aM r λh=>((hd h:Nat):Int)).map V.int))/\H' ll=some (.lst xs')/\cF H' (lh::ex) xs' L'/\Dm.dD b L.length W u (λi k=>Pm.co (Dm.ln L i) k) c A hd r L' last)
   ⟨_,_,_,_,_,_,0,L,1,xs,rfl,Keep.same kh,aC,kh _ _ hL,(hx.more CQ).same kh,Dm.dD.start hB.one hw hnu hbd⟩ ?_ ?_
  .rintro c σ' H1 hc ⟨o5,o6,o7,o8,A,hd,r,L1,last,xs1,rfl,k1,hH1,hL1,hx1,I⟩;have mL:c<W:=⋯;have hrn:=I.rn;have len1:=I.len;have Zr:((Pm.aM r λh=>((hd h:Nat):Int)).map V.int).length=r:=by rw[aB,Pm.cA]
   refine⟨_,rfl,.ref lh,r,rfl,.inl ⟨_,au.of hH1,Zr.symm⟩,?_⟩;refine⟨_,rfl,_,rfl,_,rfl,ll,xs1,L1,W,r,c,0+(c:Int),_,rfl,⋯,hL1,hx1,λi hi=>I.wd i ⋯,mL,⋯,⋯,λa h1 h2 h3=>?_,λhz=>?_⟩
   ·-- a head
    refine⟨_,rfl,_,rfl,?_⟩;rw[decide_eq_false (show ¬V.int (a:Int)=V.non fromλz=>by cases z)];refine qU ?_;refine⟨_,rfl,_,rfl,_,rfl,_,rfl,b,ll,xs1,L1,a,r,_,rfl,hb0,hL1,hx1,hm,st k1 hL1 hH1,h1,h2,λi hi=>by rw[I.wd i ⋯];omega,λxs2 L2 H2 k2 hL2 hx2 br=>?_⟩;obtain⟨A2,I2,hp⟩:∃A2,Dm.dD b L.length W u (λi k=>Pm.co (Dm.ln L i) k) c A2 hd r L2 last/\Pm.co (Dm.ln L2 r) c≠0:=by
     rcases br with⟨e1,e2⟩|⟨e0,e1,e2,e3,e4⟩
     .exact⟨A,by rw[e2];exact I,by rw[e2,<-e1];exact h3⟩
     .exact⟨_,I.bring e0 ⋯ ⋯ e2 e3 e4,by rw[e2];exact h3⟩
    have hrl:r<L.length:=⋯;have k12:=k1.trans k2;have hH2:=k2 _ _ hne hH1;have len2:=I2.len;have lx2:=hx2.len;obtain⟨bl,be⟩:=hu _ _ _ _ _ _ (gC mL) I2;have awu:last≠0:=by rw[I2.la];exact I2.nz
    have aqY:last=Rm.tk b last:=by
     have:=I2.la;rw[this,Rm.gR]
    refine⟨_,rfl,.ref ll,L.length,rfl,.inl ⟨_,au.of hL2,by rw[lx2,len2]⟩,(L.length:Int),rfl,(⋯:-(2^62)<=(L.length:Int)),(⋯:(L.length:Int)<2^62),?_⟩;refine lG (lo:=0) (n:=(L.length:Int).toNat) (λi σ' H'=>∃(o8:Option V) (L3:List (List Int)) (u9:List V),σ'=[some (.int b),some (.int wide),some (.ref ll),some (.ref lh),some (.int last),some (.int (0+(c:Int))),some (.int r),some (.int a),o8]/\Keep ll H H'/\H' lh=some (.lst ((Pm.aM r λh=>((hd h:Nat):Int)).map V.int))/\H' ll=some (.lst u9)/\cF H' (lh::ex) u9 L3/\L3.length=L.length/\
      (∀j,i<=j∨j=r->Dm.ln L3 j=Dm.ln L2 j)/\∀j,j<i->j≠r->(Dm.ln L3 j).length=W/\∀k,k<W->Pm.co (Dm.ln L3 j) k=Rm.tk b (Pm.co (Dm.ln L3 j) k)/\Rm.tk b (last*Pm.co (Dm.ln L3 j) k)=Rm.tk b (Pm.co (Dm.ln L2 r) c*Pm.co (Dm.ln L2 j) k-Pm.co (Dm.ln L2 j) c*Pm.co (Dm.ln L2 r) k))
     ⟨_,L2,xs2,rfl,k12,hH2,hL2,hx2,len2,λ_ _=>rfl,λj hj=>absurd hj (mH _)⟩ ?_ ?_
    .rintro i σ' H3 hi ⟨o8,L3,u9,rfl,k3,Ay,mD,pI,Hy,eq3,BX⟩;have hi':i<L.length:=⋯;have Ro:=pI.len;refine⟨_,rfl,_,rfl,_,rfl,?_⟩;by_cases e:i=r
     .refine Rb ⋯ ⟨_,L3,u9,rfl,k3,Ay,mD,pI,Hy,λj hj=>eq3 j ⋯,λj hj hj'=>BX j ⋯ hj'⟩
     .have hne':¬(0+(i:Int))=(r:Int):=⋯;rw[decide_eq_false hne'];refine qU ?_;obtain⟨ti,i1,i2,i3⟩:=pI.get (show i<L3.length by omega);obtain⟨tr,r1,r2,r3⟩:=pI.get (show r<L3.length by omega);rw[eq3 i ⋯]at i3;rw[eq3 r ⋯]at r3;have wi:=I2.wd i hi';have wr:=I2.wd r hrl;refine⟨_,rfl,_,rfl,_,rfl,_,.ref ti,.inl (au.of mD),uI i ⋯ i1,?_⟩;refine⟨_,rfl,_,rfl,_,.ref tr,.inl (au.of mD),uI r rfl r1,_,rfl,_,rfl,?_⟩;refine⟨b,last,ti,tr,_,_,c,0+(c:Int),rfl,⋯,hZ,i3,r3,⋯,⋯,⋯,awu,aqY,bl,λx hx=>(be i hi' x hx).mono ∅,λx hx=>(be r hrl x hx).mono ∅,λhb k hk=>?_,λt m H4 g4 ht4 h4 lm hmm=>?_⟩
      .have hen:=λj (hj:j<L.length) k (hk:k<W)=>I2.en j k hj hk;have s:=Dm.Bl (A:=A2) (hd:=hd) (r:=r) (c:=c) (λz=>hp (by rw[hen r hrl c mL,z];exact Pm.tk0 b)) (show i≠r by omega) k;refine⟨Dm.En A2 (Dm.more hd r c) (r+1) i k,?_⟩;rw[hen r hrl c mL,hen i hi' k ⋯,hen i hi' c mL,hen r hrl k ⋯,I2.la,hb];simp only[Rm.aY];exact s.symm
      .have tl:t∉lh::ex:=(st k3 mD Ay).fresh ht4;have vL:=g4 _ _ mD;have UC:=pI.same g4;refine⟨_,rfl,_,rfl,ll,_,_,i,rfl,rfl,vL,uK ⋯ (by rw[Ro];omega),?_⟩;have k5:=Keep.upd ll H4 (.lst (u9.set i (.ref t)));refine⟨_,L3.set i m,u9.set i (.ref t),rfl,(k3.trans (Keep.same g4)).trans k5,k5 _ _ hne (g4 _ _ Ay),aC,(cF.set tl h4 i UC).keep hm k5,by rw[nW];exact Hy,λj hj=>?_,λj hj hj'=>?_⟩
       .rw[xU _ ⋯,if_neg ⋯];exact eq3 j ⋯
       .rw[xU _ ⋯];by_cases ej:j=i
        .rw[if_pos ej,ej,lm,wi];exact⟨rfl,λk hk=>hmm k ⋯⟩
        .rw[if_neg ej];exact BX j ⋯ hj'
    .rintro σ' H3 ⟨o8,L3,u9,rfl,k3,Ay,mD,pI,Hy,eq3,BX⟩;rw[d9]at eq3 BX;have azq:=pI;obtain⟨tr,r1,r2,r3⟩:=pI.get (show r<L3.length by omega);rw[eq3 r (.inr rfl)]at r3;have wr:=I2.wd r hrl;refine⟨_,rfl,_,rfl,_,.ref tr,.inl (au.of mD),uI r rfl r1,_,rfl,_,_,.inl (au.of r3),eN (ns:=Dm.ln L2 r) (⋯:(0:Int)<=0+(c:Int)) ⋯,?_⟩;refine⟨_,rfl,.inl ⟨rfl,_,au.of Ay⟩,_,rfl,lh,_,_,rfl,rfl,Ay,by rw[Zr];exact dZ ⋯,?_⟩;have I3:=I2.free hD mL hrl hp Hy (eq3 r (.inr rfl)) λj hj hj'=>BX j hj hj';have ec:(0+(c:Int)).toNat=c:=⋯;refine⟨some (.int (0+(c:Int))),some (.int r),some (.int a),o8,A2,Dm.more hd r c,r+1,L3,Pm.co (Dm.ln L2 r) c,u9,?_,λx v nx hv=>?_,?_,?_,?_,I3⟩
     .rw[ec];rfl
     .by_cases z:x=lh
      .rw[z,CQ]at hv;cases hv
      .rw[bI z];exact k3 _ _ nx hv
     .rw[aC,Pm.Ux,yS];have e1:(Pm.aM r λh=>((Dm.more hd r c h:Nat):Int))=Pm.aM r λh=>((hd h:Nat):Int):=lJ λh hh=>by
       have:=iT.mp hh;unfold Dm.more;rw[if_neg ⋯]
      have e2:((Dm.more hd r c r:Nat):Int)=0+(c:Int):=by unfold Dm.more;rw[if_pos rfl];omega
      rw[e1,e2]
     .rw[bI hne.symm];exact mD
     .exact pI.keep hml (Keep.upd lh H3 _)
   ·-- none
    refine⟨_,rfl,_,rfl,?_⟩;rw[decide_eq_true rfl];exact kY ⟨_,_,_,_,A,hd,r,L1,last,xs1,rfl,k1,hH1,hL1,hx1,I.skip hD mL λi h1 h2=>hz i h1 ⋯⟩
  .rintro σ' H1 ⟨o5,o6,o7,o8,A,hd,r,L1,last,xs1,rfl,k1,hH1,hL1,hx1,I⟩;rw[d9]at I;refine⟨_,rfl,_,rfl,(by show 2<=sizeLine;decide),λt ht=>?_⟩;have kt:=Same.new ht (.tup [.ref lh,.int last]);exact q t lh A hd r L1 last xs1 _ (k1.trans (Keep.same kt)) aC (kt _ _ hH1) (kt _ _ hL1) ((hx1.less λa ha=>cZ _ ha).same kt) I
theorem amk(F:Fn K mg "common_divisor" Uq ["one","other"]):agR P w K mg base:=by
 refine F.cal yQ (λvs H Q E h=>?_) (λ_ _ _ _ _ H _ Q E hr h=>?_)
 .obtain⟨x,y,rfl,_⟩:=h;rfl
 .obtain⟨x,y,rfl,q⟩:=h;refine⟨_,(ao (aH 2 yQ.nd (jy wQ rfl B.xZ boot_abs (ak (pv 0) aj))) (ao (aH 3 yQ.nd (jy wQ rfl B.xZ boot_abs (ak (pv 1) aj))) (ao (oX PassesOwn.never (cT tQ (pv 3) aq) (ao (aH 4 yQ.nd (aK jg (pv 2) (pv 3))) (ao (aH 2 yQ.nd (pv 3)) (aD (aH 3 yQ.nd (pv 4)))))) (aD (bf (pv 2)))))),?_⟩;refine⟨_,rfl,x,rfl,?_⟩;refine⟨_,rfl,y,rfl,?_⟩;rw[CY,CY];refine⟨λt σ' H'=>∃(g w:Nat) (o4:Option V),w=t/\j6 g w=j6 x.natAbs y.natAbs/\σ'=[some (.int x),some (.int y),some (.int g),some (.int w),o4]/\H=H',⟨_,x.natAbs,y.natAbs,_,rfl,rfl,rfl,rfl⟩,?_⟩;rintro t σ' H' ⟨g,w,o4,rfl,hg,rfl,rfl⟩;refine⟨_,rfl,_,_,rfl,rfl,_,rfl,?_⟩;refine dM (λc=>?_) (λc=>?_)
  .have hw:0<w:=by have:=dec_true c;omega
   refine⟨_,λ_ _ z=>z,?_⟩;refine⟨_,rfl,_,rfl,_,_,rfl,rfl,(⋯:(0:Int)<(w:Int)),?_⟩;refine⟨_,rfl,?_⟩;refine⟨_,rfl,?_⟩;refine⟨g%w,Nat.mod_lt _ hw,w,g%w,some (.int ((g%w:Nat):Int)),rfl,?_,?_,rfl⟩
   .rw[<-hg,Iv w,<-Nat.gcd_rec,Iv]
   .rw[Br];rfl
  .have hw:w=0:=by have:=dec_false c;omega
   subst hw;rw[Yu]at hg;rw[<-hg]at q;exact⟨_,rfl,q⟩
theorem alX(F:Fn K mg "lowest" Tf ["by","bottom","tops"])(oB:Bp P w K mg base)(QV:agR P w K mg base):Mi P w K mg base:=by
 refine F.cal Dl (λvs H Q E h=>?_) (λ_ _ _ _ _ H _ Q E hr h=>?_)
 .obtain⟨bt,l,ts,rfl,_⟩:=h;rfl
 .obtain⟨bt,l,ts,rfl,n0,hL,hz,bb,q⟩:=h;refine⟨_,(ao (eY (cT (ni K hr) (pv 0) aq) (aD (bf (gh (fu aq (aL (fY (sc:=am5) (N:=["top","bottom","by"]) (ix:=[none,some 1,some 0]) dX rfl (fH K (pv 2)) (λcl C s₀ H₀ ex=>⟨(bD 0 dH),eO,(aJ oB hr (ak (pv 2) (ak (pv 0) (ak (pv 1) aj))))⟩)) aj))))) fB) (ao (gM (i:=4) Dl.nd rfl (fM rfl) (jy wQ rfl B.xZ boot_abs (ak (pv 1) aj))) (ao (gk PassesOwn.never rfl (fH K (pv 2)) (bD 3 Dl.nd) (aD (gM (i:=4) Dl.nd rfl (fM rfl) (aJ QV hr (ak (pv 4) (ak (pv 3) aj)))))) (ao (uc (eY (cT Aq (pv 1) aq) (aD (gM (i:=4) Dl.nd rfl (fM rfl) (aK dI aq (pv 4)))) fB)) (aD (bf (gh (fK (aK Dj (pv 1) (pv 4)) (aL (fY (sc:=ahO) (N:=["top","divisor"]) (ix:=[none,some 4]) dX rfl (fH K (pv 2)) (λcl C s₀ H₀ ex=>⟨(bD 0 dH),eO,(aK Dj (pv 0) (pv 1))⟩)) aj))))))))),?_⟩;refine⟨_,rfl,_,rfl,?_⟩
  .refine kY ?_;refine⟨_,rfl,bt,rfl,?_⟩;rw[CY];refine⟨_,rfl,l,rfl,.inl ⟨⟨_,au.of hL⟩,?_⟩⟩;refine GN (wG (au.of hL)) (λi σ' H'=>∃o3,σ'=[some (.int 0),some (.int bt),some (.ref l),o3,some (.int (Lm.dg bt.natAbs (ts.take i):Nat))]/\H=H') ⟨_,rfl,rfl⟩ (λi σ' H' ⟨_,_,z⟩=>z▸Same.refl _) ?_ ?_
   .rintro i x σ' H' hx ⟨o3,rfl,rfl⟩;obtain⟨rfl,hi⟩:=HJ hx;refine⟨_,rfl,_,rfl,_,_,rfl,some (.int (Pm.co ts i)),?_,rfl⟩;rw[AZ (xs:=ts) (n:=i+1) ⋯ ⋯,fR,Lm.ZF,uM];rfl
   rintro σ' H' ⟨o3,rfl,rfl⟩;rw[aB,mF];refine qO.by (λσ' H'=>σ'=[some (.int 0),some (.int bt),some (.ref l),o3,some (.int (Lm.low bt ts))]/\H=H') (λNN lF=>?_) ?_
   .refine⟨_,rfl,_,_,rfl,rfl,_,rfl,?_⟩;refine dM (λc=>?_) (λc=>?_)
    .refine⟨_,rfl,_,_,rfl,rfl,lF _ _ ⟨?_,rfl⟩⟩;unfold Lm.low;rw[if_pos (dec_true c)];rfl
    .refine lF _ _ ⟨?_,rfl⟩;unfold Lm.low;rw[if_neg (dec_false c)]
   .rintro _ _ ⟨rfl,rfl⟩;have adq:=axd (ts:=ts) n0 bb;have hne:=Lm.low_ne n0 ts;refine⟨_,rfl,_,rfl,_,_,rfl,rfl,⟨hne,adq⟩,?_⟩;refine⟨_,rfl,l,rfl,.inl ⟨⟨_,au.of hL⟩,?_⟩⟩;refine uT hL ⋯ rfl (λt=>t.fdiv (Lm.low bt ts)) ?_ ?_
    .intro H2 x g2 hx k hk;exact⟨_,rfl,_,rfl,_,_,rfl,rfl,⟨hne,adq⟩,hk⟩
    .intro D hD;have gD:=Same.new hD (.lst ((ts.map λt=>t.fdiv (Lm.low bt ts)).map V.int));refine⟨(by show 2<=sizeLine;decide),λt ht=>?_⟩;have gt:=Same.new ht (.tup [.int (bt.fdiv (Lm.low bt ts)),.ref D]);exact q t D _ _ _ (gD.trans gt) aC (gt _ _ aC) hD ⟨λP e h=>by have:=(zN P h).1;omega,λ_=>⟨rfl,rfl⟩,aB _⟩
theorem atU(F:Fn K mg "free_numbers" Qn ["by","wide","lines","heads","last"])(cN:jT P w K mg base)(Ds:Mi P w K mg base):Z0 P w K mg base:=by
 refine F.cal amm (λvs H Q E h=>?_) (λ_ _ _ _ _ H _ Q E hr h=>?_)
 .exact False.elim h
 .exact False.elim h
theorem akd(F:Fn K mg "solution" RK ["by","wide","table","wished"])(Np:afq P w K mg base)(MP:aeA P w K mg base)(Ds:Mi P w K mg base)(Nx:Z0 P w K mg base):Qp P w K mg base:=by
 refine F.cal v5 (λvs H Q E h=>?_) (λ_ _ _ _ _ H _ Q E hr h=>?_)
 .obtain⟨u,wide,ta,tw,xs,L,ws,ex,rfl,_⟩:=h;rfl
 .obtain⟨u,wide,ta,tw,xs,L,ws,ex,rfl,hT,hx,hW,lw,hn,hw,hsz,DM,bL,bW,⟨sx,sb,hs0,hs⟩,hI,qo⟩:=h;refine⟨_,(ao (uG (i:=4) (hN:=v5.nd) (hi':=rfl) (hx:=(pC rfl)) (sc:=avV) (N:=["i","by","table","wished"]) (ix:=[none,some 0,some 2,some 3]) dX rfl (iC rfl B.gG (aL (cH K B.cJ (ak (pv 2) aj)) aj)) (λcl C s₀ H₀ ex=>⟨(bD 0 dH),eO,(aJ Np hr (ak (pv 1) (fK (pad K (aO K (pv 2) (pv 0)) (gJ (aL (aO K (pv 3) (pv 0)) aj))) aj)))⟩)) (ao (aH 6 v5.nd (aJ MP hr (ak (pv 0) (ak (pv 1) (ak (pv 4) aj))))) (ao (aH 7 v5.nd (aO K (pv 6) aq)) (ao (aH 8 v5.nd (aO K (pv 6) aq)) (ao (eY (wW (jy (MN K rfl) rfl B.RH boot_any (aL (fY (sc:=aku) (N:=["line","wide"]) (ix:=[none,some 1]) dX rfl (fH K (wK (wD K) (pv 4) (uL (cH K B.cJ (ak (pv 7) aj))) yX)) (λcl C s₀ H₀ ex=>⟨(bD 0 dH),eO,(Ai (ni K hr) (aO K (pv 0) (pv 1)) aq (wz _))⟩)) aj))) (aD (bf Ua)) fB) (ao (aH 9 v5.nd (aK v_mul (gJ (fu aq aj)) (pv 1))) (ao (gk PassesOwn.never rfl (iC rfl B.gG (aL (cH K B.cJ (ak (pv 7) aj)) aj)) (bD 5 v5.nd) (aD (v8 (aO K (aO K (pv 4) (pv 5)) (pv 1)) (uP (pv 9) (aO K (pv 7) (pv 5)) set_list)))) (ao (aH 10 v5.nd (aJ Ds hr (ak (pv 0) (ak (pv 8) (ak (pv 9) aj))))) (ao (eY (cT (jh K hr) (cH K B.cJ (ak (pv 7) aj)) (pv 1)) (aD (bf (gh (fu DP (aL (aO K (pv 10) aq) (aL (aO K (pv 10) aq) aj)))))) fB) (aD (bf (gh (fu DP (aL (aO K (pv 10) aq) (aL (aO K (pv 10) aq) (aL (aJ Nx hr (ak (pv 0) (ak (pv 1) (ak (pv 4) (ak (pv 7) (ak (pv 8) aj)))))) aj)))))))))))))))),?_⟩;have hB:pB 0:= .inl rfl;have hDm:=hB.dom;have hb0:(0:Int)<=0:=Int.le_refl 0;have lx:=hx.len;have lWm:(ws.map V.int).length=ws.length:=aB _;refine⟨_,rfl,.ref ta,L.length,rfl,.inl ⟨_,au.of hT,⋯⟩,?_⟩;refine⟨(L.length:Int),rfl,(⋯:-(2^62)<=(L.length:Int)),(⋯:(L.length:Int)<2^62),?_⟩;rw[d9];refine afc zq (by rw[aB,mR];omega) rfl (Fw λi=>(Dm.ln L i++[Pm.co ws i]).map (Rm.tk 0)) ?_ ?_
  .intro H2 x g2 hx2 k hk;obtain⟨j,hj,rfl⟩:=bY.mp hx2;have hj':=iT.mp hj;obtain⟨t,e1,_,e2⟩:=(hx.same g2).get (i:=j) hj';refine⟨_,rfl,_,rfl,_,rfl,_,.ref t,.inl (au.of (g2 _ _ hT)),uI j ⋯ e1,?_⟩;refine⟨_,rfl,_,rfl,_,_,.inl (au.of (g2 _ _ hW)),eN (ns:=ws) (⋯:(0:Int)<=0+(j:Int)) ⋯,(by show 1<=sizeLine;decide),λl1 hl1=>?_⟩;have ej:(0+(j:Int)).toNat=j:=⋯;rw[ej];obtain⟨H3,uu,g3,h1⟩:=nw hl1 (.lst [.int (ws.getD j 0)]);rw[uu];have e3:=g3 _ _ e2;refine .inl ⟨_,_,e3,h1,?_,λl2 hl2=>?_⟩
   .rw[aB,DM j hj'];exact gC (dZ (by show wide+1<=1000;omega))
   have g4:=Same.new hl2 (.lst ((Dm.ln L j).map V.int++[.int (ws.getD j 0)]));refine⟨0,l2,Dm.ln L j++[Pm.co ws j],rfl,hb0,by rw[aC,fZ];rfl,by rw[dW,DM j hj'];show wide+1<=1000;omega,λt' H5 g5 hn5 h5=>?_⟩;refine hk t' H5 ((g3.trans g4).trans g5) ((g3.trans g4).free hn5) ?_;show H5 t'=some (.lst (((Dm.ln L (0+(j:Int)).toNat++[Pm.co ws (0+(j:Int)).toNat]).map (Rm.tk 0)).map V.int));rw[ej];exact h5
  intro D ys H1 hD g1 hD1 hy;rw[anu]at hy;have ly:=hy.len;rw[Dm.yr]at ly;have alL:∀i k,Rm.Bd u (Dm.aug 0 L ws i k):=λi k=>by
   by_cases hi:i<L.length
   .unfold Dm.aug;rw[Dm.Ci hi,Pm.lZ (Pm.tk0 0)];refine Rm.pJ hb0 (Rm.Bd.zero _) (Pm.jA (λx hx=>?_) k);rcases fP.mp hx with hx|hx
    .exact bL _ (ao9 hi) x hx
    .rw[eE.mp hx];exact Pm.jA bW i
   .have e:Dm.ln (Dm.pG 0 L ws) i=[]:=by
     unfold Dm.ln;rw[List.getD_eq_getElem?_getD,List.getElem?_eq_none (by rw[Dm.yr];omega)];rfl
    unfold Dm.aug;rw[e,Pm.fW];exact Rm.Bd.zero _
  refine⟨_,rfl,_,rfl,_,rfl,0,wide,D,ys,Dm.pG 0 L ws,wide+1,u,[D],rfl,rfl,hD1,hy,eE.mpr rfl,(λa' ha=>by rw[eE.mp ha];exact⟨_,hD1⟩),⋯,⋯,by rw[Dm.yr];omega,by rw[Dm.yr];exact hsz.2,λi hi=>?_,λi k=>Dm.amZ i k,λi k=>alL i k,λt th A hd r L' last xs' H2 k2 hTt hTh hL' hx' I=>?_⟩
  .rw[Dm.yr]at hi;rw[Dm.Ci hi,aB,dW,DM i hi];rfl
  rw[Dm.yr]at I;have gS:Same H H2:=λc u hu=>k2 _ _ (λz=>by rw[z,hD]at hu;cases hu) (g1 _ _ hu);have lh:((Pm.aM r λh=>((hd h:Nat):Int)).map V.int).length=r:=by rw[aB,Pm.cA]
  have lh0:(Pm.aM r λh=>((hd h:Nat):Int)).length=r:=Pm.cA ..;have lx':=hx'.len;have lL':=I.len;have hrn:=I.rn;refine⟨_,rfl,_,_,.inr (aA.of hTt),rfl,?_⟩;refine⟨_,rfl,_,_,.inr (aA.of hTt),rfl,?_⟩;refine⟨_,rfl,_,rfl,.ref th,r,rfl,.inl ⟨_,au.of hTh,lh.symm⟩,_,rfl,.inl ⟨_,au.of hL',λps hps=>?_⟩⟩;rw[axi xs' ⋯];obtain⟨H3,uu,gp,hp3⟩:=nw hps (.lst (xs'.drop r));rw[uu];have pI:=(cF.drop r hx').same gp;refine⟨ps,rfl,.inl ⟨⟨_,au.of hp3⟩,?_⟩⟩;refine aus hp3 pI (by rw[oU];omega) rfl (λp=> .bl (not (decide (p.getD wide 0=0)))) ?_ ?_
  .intro H4 t p g4 hp rN k hk;obtain⟨i,h1,h2,rfl⟩:=X6 hp;have:=I.wd i ⋯;refine⟨_,rfl,_,rfl,_,_,.inl (au.of rN),eN (ns:=Dm.ln L' i) (⋯:(0:Int)<=(wide:Int)) ⋯,?_⟩;rw[d9];exact hk _ (Same.refl _)
  intro D2 H4 hD2 g4 hD4;have gg:=(gS.trans gp).trans g4;have hbs:((L'.drop r).map λp=>V.bl (not (decide (p.getD wide 0=0))))=((L'.drop r).map λp=>not (decide (p.getD wide 0=0))).map V.bl:=by rw[cR];rfl
  rw[hbs]at hD4;refine⟨D2,_,rfl,au.of hD4,_,rfl,?_⟩;refine dM (λc=>?_) (λc=>?_)
  .obtain⟨x,hx1,hx2⟩:=sY.mp c;obtain⟨p,hp,rfl⟩:=bY.mp hx1;obtain⟨i,h1,h2,rfl⟩:=X6 hp;have hne:Rm.tk 0 (Dm.En A hd r i wide)≠0:=by
    rw[<-I.en i wide ⋯ ⋯];intro z;have z':(Dm.ln L' i).getD wide 0=0:=z;rw[decide_eq_true z']at hx2;cases hx2
   exact absurd (I.axP hDm hs0 hs i h1 ⋯) hne
  have hz:∀i,r<=i->i<L.length->Rm.tk 0 (Dm.En A hd r i wide)=0:=λi h1 h2=>by
   rw[<-I.en i wide ⋯ ⋯];by_cases z:Pm.co (Dm.ln L' i) wide=0
   .exact z
   .refine absurd (sY.mpr ⟨true,bY.mpr ⟨_,ap4 h1 ⋯,?_⟩,rfl⟩) c;have z':¬(Dm.ln L' i).getD wide 0=0:=z;rw[decide_eq_false z'];rfl
  have vL:=g4 _ _ (gp _ _ hL');have UC:=(hx'.same gp).same g4;have RN:=g4 _ _ (gp _ _ hTh);refine⟨(by show 1<=sizeLine;decide),λl1 hl1=>?_⟩;obtain⟨H5,uu,g5,h1⟩:=nw hl1 (.lst [.int 0]);rw[uu];refine⟨_,rfl,_,h1,⋯,⋯,?_,λl2 hl2=>?_⟩
  .show 1*(wide:Int).toNat<=sizeLine;rw[nJ];exact gC (dZ ⋯)
  rw[d9,J3];have g6:=Same.new hl2 (.lst ((Pm.aM wide λ_=>0).map V.int));have h2:(upd H5 l2 (.lst ((Pm.aM wide λ_=>0).map V.int))) l2=some (.lst ((Dm.qI (λh=>Rm.tk 0 (Dm.En A hd r h wide)) hd wide 0).map V.int)):=by rw[aC,Dm.alQ]
  have QY:=g5.trans g6;have f2:H4 l2=none:=g5.free hl2;generalize upd H5 l2 (.lst ((Pm.aM wide λ_=>0).map V.int))=H6 at g6 h2 QY;refine⟨_,rfl,.ref th,r,rfl,.inl ⟨_,au.of (QY _ _ RN),lh.symm⟩,?_⟩;refine⟨(r:Int),rfl,(⋯:-(2^62)<=(r:Int)),(⋯:(r:Int)<2^62),?_⟩;refine lG (lo:=0) (n:=(r:Int).toNat) (λi σ' H'=>∃(o5:Option V),σ'=[some (.int 0),some (.int wide),some (.ref ta),some (.ref tw),some (.ref D),o5,some (.ref t),some (.ref th),some (.int last),some (.ref l2),none]/\Same H4 H'/\H' l2=some (.lst ((Dm.qI (λh=>Rm.tk 0 (Dm.En A hd r h wide)) hd wide i).map V.int))) ⟨_,rfl,QY,h2⟩ ?_ ?_
  .rintro i σ' H' hi ⟨o5,rfl,g,hU⟩;have hi':i<r:=⋯;obtain⟨t4,e1,_,e2⟩:=(UC.same g).get (i:=i) ⋯;have hwi:=I.wd i ⋯;refine⟨_,rfl,_,rfl,_,.ref t4,.inl (au.of (g _ _ vL)),uI i ⋯ e1,_,rfl,_,_,.inl (au.of e2),eN (ns:=Dm.ln L' i) (⋯:(0:Int)<=(wide:Int)) ⋯,?_⟩;refine⟨_,rfl,_,rfl,_,rfl,_,_,.inl (au.of (g _ _ RN)),eN (ns:=Pm.aM r λh=>((hd h:Nat):Int)) (⋯:(0:Int)<=0+(i:Int)) (by rw[lh0];omega),?_⟩;have eh:(Pm.aM r λh=>((hd h:Nat):Int)).getD (0+(i:Int)).toNat 0=((hd i:Nat):Int):=by
    rw[show(0+(i:Int)).toNat=i by omega];have:=Pm.cX r (λh=>((hd h:Nat):Int)) i;rw[if_pos hi']at this;exact this
   rw[eh,d9];have hc:=I.hc i hi';refine⟨l2,_,_,hd i,rfl,rfl,hU,uK rfl (by rw[aB,Dm.zH];exact hc),?_⟩;rw[Cz];refine⟨_,rfl,g.upd f2 _,?_⟩;have en:(Dm.ln L' i).getD wide 0=Rm.tk 0 (Dm.En A hd r i wide):=I.en i wide ⋯ ⋯;rw[aC,en,Dm.akt hc (λh hh e=>by have:=I.up h i hh hi';omega)]
  rintro σ' H7 ⟨o5,rfl,g7,hU⟩;rw[d9]at hU;refine⟨_,rfl,_,rfl,_,rfl,last,l2,_,rfl,I.rW.1,hU,by rw[Dm.zH];omega,(hsz.2 _ _ _ _ _ _ ⋯ I).1,λtl lt bot us H8 g8 htl hlt frl low=>?_⟩;have so:Dm.wZ u 0 L.length wide (Dm.aug 0 L ws) bot us:=⟨A,hd,r,L',last,I,hz,low⟩;have awT:=g8 _ _ (g7 _ _ RN);have gA:=(gg.trans g7).trans g8;refine⟨_,rfl,.ref th,r,rfl,.inl ⟨_,au.of awT,lh.symm⟩,_,rfl,_,rfl,?_⟩;rw[(I.aiW hI).1,decide_eq_true rfl];refine qU ?_;refine⟨_,rfl,_,_,.inr (aA.of htl),rfl,_,rfl,_,_,.inr (aA.of htl),rfl,(by show 3<=sizeLine;decide),λt2 qx=>?_⟩;have g9:=Same.new qx (.tup [.str ("one" : Str),.int bot,.ref lt]);exact qo _ _ so t2 lt _ (gA.trans g9) aC (g9 _ _ hlt)
theorem apJ(F:Fn K mg "refuse_big" Q5 ["poly"]):adA P w K mg base dN:=by
 refine F.IY ajX (λvs H Q E h=>?_) (λ_ _ _ _ _ H _ Q E hr h=>?_)
 .obtain⟨a,P,rfl,_⟩:=h;rfl
 .obtain⟨a,P',rfl,hA,zP,q1,q2⟩:=h;refine⟨_,(aD (eY (wW (jy (MN K rfl) rfl B.RH boot_any (aL (fY (sc:=aqL) (N:=["number"]) (ix:=[none]) dX rfl (fH K (pv 0)) (λcl C s₀ H₀ ex=>⟨(bD 0 dH),eO,(Ai axO (jy wQ rfl B.xZ boot_abs (ak (pv 0) aj)) (Qf rfl B.Rz) (wz _))⟩)) aj))) (aD (abM M.at4 rfl (fu DP aj))) fB)),?_⟩;refine⟨_,rfl,a,rfl,.inr ⟨⟨_,aA.of hA⟩,?_⟩⟩;refine qT (Vo (aA.of hA)) (by rw[aB];exact gC (dZ ⋯)) rfl (λ_=>true) (λx=>match x with | .int k=> .bl (decide ((1000000:Int)<=(if k<0 then -k else k)))|_=> .non) ?_ ?_ ?_
  .intro H2 x g2 hx k hk;exact hk
  .intro H2 x g2 hx _ k hk;obtain⟨y,hy,rfl⟩:=bY.mp hx;exact⟨_,rfl,y,rfl,_,_,rfl,rfl,hk⟩
  intro D hD;have el:(((P'.map V.int).filter λ_=>true).map λx=>match x with | .int k=>V.bl (decide ((1000000:Int)<=(if k<0 then -k else k)))|_=>V.non)=(P'.map λk=>decide ((1000000:Int)<=(if k<0 then -k else k))).map V.bl:=by
   rw[sW.mpr (by simp),cR,cR];rfl
  rw[el];refine⟨D,_,rfl,au.of aC,_,rfl,?_⟩;refine dM (λc=>⟨(by show 1<=sizeLine;decide),q2 ?_ _ (Same.new hD _)⟩) (λc=>q1 (λx hx=>?_) _ (Same.new hD _))
  .obtain⟨b,hb,e⟩:=sY.mp c;obtain⟨x,hx,rfl⟩:=bY.mp hb;refine⟨x,hx,?_⟩;have:(1000000:Int)<=(if x<0 then -x else x):=of_decide_eq_true e;split at this<;>omega
  .by_cases z:x.natAbs<1000000
   .exact z
   .refine absurd (sY.mpr ⟨true,bY.mpr ⟨x,hx,decide_eq_true ?_⟩,rfl⟩) c;split<;>omega
theorem aq3(F:Fn K mg "whole_divisors" RV ["number"]):aag P w K mg base:=by
 refine F.cal DR (λvs H Q E h=>?_) (λ_ _ _ _ _ H _ Q E hr h=>?_)
 .obtain⟨n,rfl,_⟩:=h;rfl
 .obtain⟨n,rfl,hn,q⟩:=h;refine⟨_,(ao (aH 1 DR.nd (gJ aj)) (ao (aH 2 DR.nd (gJ aj)) (ao (aH 3 DR.nd aq) (ao (oX PassesOwn.never (cT Nv (aK v_mul (pv 3) (pv 3)) (pv 0)) (ao (eY (cT (jh K hr) (aK jg (pv 0) (pv 3)) aq) (ao (kZ (tX K (pv 1) (pv 3))) (aD (eY (cT Aq (aK v_mul (pv 3) (pv 3)) (pv 0)) (aD (kZ (tX K (pv 2) (aK AW (pv 0) (pv 3))))) fB))) fB) (aD (aH 3 DR.nd (pad K (pv 3) aq))))) (aD (bf (pad K (pv 1) (ah1 rfl rfl B.Gu rfl B.QZ (ak (pv 2) aj))))))))),?_⟩;refine⟨cD _,λls hls=>?_⟩;have g1:=Same.new hls (.lst []);refine⟨cD _,λlg EY=>?_⟩;have hne:ls≠lg:=λz=>by rw[z,aC]at EY;cases EY
  have g2:=Same.new EY (.lst []);have h1:(upd (upd H ls (.lst [])) lg (.lst [])) ls=some (.lst (([]:List Int).map V.int)):=g2 _ _ aC;have h2:(upd (upd H ls (.lst [])) lg (.lst [])) lg=some (.lst (([]:List Int).map V.int)):=aC;have arW:H lg=none:=g1.free EY;have fU:=g1.trans g2;generalize upd (upd H ls (.lst [])) lg (.lst [])=H2 at h1 h2 fU;refine⟨λm σ' H'=>∃(t:Nat) (s g:List Int),m=n+2-t/\1<=t/\t<=n+1/\σ'=[some (.int n),some (.ref ls),some (.ref lg),some (.int (t:Int))]/\Same H H'/\H' ls=some (.lst (s.map V.int))/\H' lg=some (.lst (g.map V.int))/\s.length+g.length<=2*t/\s.length<=t/\g.length<=t/\(t-1)*(t-1)<=n/\Pm.pO n (n+2-t) t s g=Pm.divs n,
   ⟨_,1,[],[],rfl,aN _,⋯,rfl,fU,h1,h2,∅,∅,∅,⋯,rfl⟩,?_⟩
  rintro m σ' H' ⟨t,s1,g,rfl,ht1,htn,rfl,gg,hs,hg,lsg,B3,lgg,W9,hw⟩;have abo:t<=1001:=by
   by_cases c:t<=1001
   .exact c
   .have:1001*1001<=(t-1)*(t-1):=ig ⋯ ⋯;omega
  refine⟨_,rfl,_,rfl,mulR ⋯ ⋯,_,rfl,_,_,rfl,rfl,_,rfl,?_⟩;obtain⟨f,hf⟩:∃f,n+2-t=f+1:=⟨n+1-t,⋯⟩;have hf2:n+2-(t+1)=f:=⋯;rw[hf]at hw;unfold Pm.pO at hw;have htt:((t:Int)*(t:Int))=((t*t:Nat):Int):=(adY ..).symm;have hts:t<=t*t:=Uk t ht1;rw[htt];refine dM (λc=>?_) (λc=>?_)
  .have c':t*t<=n:=by have:=dec_true c;omega
   rw[if_pos c']at hw;have tn:t<=n:=⋯;refine⟨_,λ_ _ z=>z,?_⟩;refine⟨_,rfl,_,rfl,_,_,rfl,rfl,(⋯:(0:Int)<(t:Int)),_,rfl,?_⟩;have em:((n:Int)%(t:Int))=((n%t:Nat):Int):=(Br ..).symm;rw[em];have OX:(t+1-1)*(t+1-1)<=n:=by rw[fR];exact c'
   refine dM (λc2=>?_) (λc2=>?_)
   .have c2':n%t=0:=by have:=dec_true c2;omega
    rw[if_pos c2']at hw;refine⟨_,rfl,.inl ⟨rfl,_,au.of hs⟩,_,rfl,ls,_,_,rfl,rfl,hs,(by rw[aB];exact qp B3 (qp abo ∅)),?_⟩;dsimp only;rw[<-yS];have ga:=gg.upd hls (.lst ((s1++[(t:Int)]).map V.int));have hs2:(upd H' ls (.lst ((s1++[(t:Int)]).map V.int))) ls=some (.lst ((s1++[(t:Int)]).map V.int)):=aC;have hg2:(upd H' ls (.lst ((s1++[(t:Int)]).map V.int))) lg=some (.lst (g.map V.int)):=by rw[bI hne.symm];exact hg
    generalize upd H' ls (.lst ((s1++[(t:Int)]).map V.int))=H3 at ga hs2 hg2;refine⟨_,rfl,_,rfl,mulR ⋯ ⋯,_,rfl,_,_,rfl,rfl,_,rfl,?_⟩;rw[htt];refine dM (λc3=>?_) (λc3=>?_)
    .have wV:t*t<n:=by have:=dec_true c3;omega
     rw[if_pos wV]at hw;refine⟨_,rfl,.inl ⟨rfl,_,au.of hg2⟩,_,rfl,_,rfl,_,_,rfl,rfl,⟨(⋯:(0:Int)<(t:Int)),(⋯:(t:Int)<1073741824)⟩,lg,_,_,rfl,rfl,hg2,(by rw[aB];exact qp lgg (qp abo ∅)),?_⟩;dsimp only;have ed:((n:Int)/(t:Int))=((n/t:Nat):Int):=(Int.natCast_ediv ..).symm;rw[ed,<-yS];refine⟨_,rfl,?_⟩;refine⟨f,⋯,t+1,s1++[(t:Int)],g++[((n/t:Nat):Int)],⋯,⋯,⋯,rfl,ga.upd arW _,(by rw[bI hne];exact hs2),aC,?_,?_,?_,OX,(by rw[hf2];exact hw)⟩
     .rw[dW,dW];show s1.length+1+(g.length+1)<=_;omega
     .rw[dW];show s1.length+1<=_;omega
     .rw[dW];show g.length+1<=_;omega
    .have wV:¬t*t<n:=by have:=dec_false c3;omega
     rw[if_neg wV]at hw;refine⟨_,rfl,?_⟩;refine⟨f,⋯,t+1,s1++[(t:Int)],g,⋯,⋯,⋯,rfl,ga,hs2,hg2,?_,?_,⋯,OX,(by rw[hf2];exact hw)⟩
     .rw[dW];show s1.length+1+g.length<=_;omega
     .rw[dW];show s1.length+1<=_;omega
   .have c2':¬n%t=0:=by have:=dec_false c2;omega
    rw[if_neg c2']at hw;refine⟨_,rfl,?_⟩;exact⟨f,⋯,t+1,s1,g,⋯,⋯,⋯,rfl,gg,hs,hg,⋯,⋯,⋯,OX,(by rw[hf2];exact hw)⟩
  .have c':¬t*t<=n:=by have:=dec_false c;omega
   rw[if_neg c']at hw;refine⟨_,rfl,_,rfl,lg,_,rfl,hg,λl1 hl1=>?_⟩;have g3:=Same.new hl1 (.lst (g.map V.int).reverse);have hs3:=g3 _ _ hs;have h3:(upd H' l1 (.lst (g.map V.int).reverse)) l1=some (.lst (g.reverse.map V.int)):=by rw[aC,QM]
   generalize upd H' l1 (.lst (g.map V.int).reverse)=H3 at g3 hs3 h3;refine .inl ⟨_,_,hs3,h3,?_,λl2 hl2=>?_⟩
   .rw[aB,aB,oY];exact fX (show s1.length+g.length<=5000 by omega) ∅
   refine q l2 _ (gg.trans (g3.trans (Same.new hl2 _))) ?_ ?_
   .rw[aC,<-fZ,hw]
   .rw[<-hw,dW,oY];omega
theorem amK(F:Fn K mg "perhaps_roots" Tp ["poly"])(RX:aag P w K mg base):adu P w K mg base:=by
 refine F.cal E6 (λvs H Q E h=>?_) (λ_ _ _ _ _ H _ Q E hr h=>?_)
 .obtain⟨a,P,rfl,_⟩:=h;rfl
 .obtain⟨a,P',rfl,hA,zP,hx,hs,q⟩:=h;refine⟨_,(ao (aH 1 E6.nd (aO K (fY (sc:=atp) (N:=["number"]) (ix:=[none]) dX rfl (fH K (pv 0)) (λcl C s₀ H₀ ex=>⟨(bD 0 dH),(aad (cT (ni K hr) (pv 0) aq)),(pv 0)⟩)) aq)) (ao (aH 2 E6.nd (aJ RX hr (aL (jy wQ rfl B.xZ boot_abs (ak (pv 1) aj)) aj))) (ao (uG (i:=3) (hN:=E6.nd) (hi':=rfl) (hx:=(pC rfl)) (sc:=auM) (N:=["divisor"]) (ix:=[none]) dX rfl (abX K rfl B.QZ (ak (pv 2) aj)) (λcl C s₀ H₀ ex=>⟨(bD 0 dH),eO,(aK dI aq (pv 0))⟩)) (aD (bf (pad K (pad K (pv 3) (gJ (fu aq aj))) (pv 2))))))),?_⟩;refine⟨_,rfl,a,rfl,.inr ⟨⟨_,aA.of hA⟩,?_⟩⟩;refine qT (Vo (aA.of hA)) (by rw[aB];exact gC (dZ ⋯)) rfl (λx=>match x with | .int k=>decide (k≠0)|_=>false) (λx=>x) ?_ ?_ ?_
  .intro H2 x g2 hx k hk;obtain⟨y,hy,rfl⟩:=bY.mp hx;refine⟨_,rfl,_,rfl,?_⟩;have e:(not (decide (y=0)))=decide (y≠0):=by by_cases z:y=0<;>simp[z]
   rw[e];exact hk
  .intro H2 x g2 hx _ k hk;exact⟨_,rfl,hk⟩
  intro D hD;have el:(((P'.map V.int).filter λx=>match x with | .int k=>decide (k≠0)|_=>false).map λx=>x)=(P'.filter λx=>decide (x≠0)).map V.int:=by
   rw[yg,ZQ];rfl
  rw[el];have hlow:Pm.iW P'=(P'.filter λx=>decide (x≠0)).headD 0:=rfl;obtain⟨y0,ys,hf⟩:∃y0 ys,(P'.filter λx=>decide (x≠0))=y0::ys:=by
   cases e:P'.filter λx=>decide (x≠0)with
   |nil=>
    obtain⟨x,hx1,hx2⟩:=hx;exact absurd (decide_eq_true hx2) (List.filter_eq_nil_iff.mp e x hx1)
   |cons y ys=>exact⟨y,ys,rfl⟩
  have hy0:y0∈P':=(pA.mp (hf▸cV ..:y0∈P'.filter λx=>decide (x≠0))).1;rw[hf,List.headD_cons]at hlow;rw[hf];have g1:=Same.new hD (.lst ((y0::ys).map V.int));refine⟨_,.int y0,.inl (au.of aC),eN (ns:=y0::ys) ∅ (by show(0:Int)<((ys.length+1:Nat):Int);omega),?_⟩;generalize upd H D (.lst ((y0::ys).map V.int))=H1 at g1;have hsm:=hs y0 hy0;have ea:(if y0<0 then -y0 else y0)=((y0.natAbs:Nat):Int):=by split<;>omega
  refine⟨_,rfl,y0,rfl,?_⟩;refine⟨y0.natAbs,(by rw[ea];rfl),⋯,λla H2 g2 h2 ld=>?_⟩;have ln2:((Pm.divs y0.natAbs).map V.int).reverse.length=(Pm.divs y0.natAbs).length:=by rw[oY,aB]
  refine⟨_,rfl,la,(Pm.divs y0.natAbs).map V.int,rfl,au.of h2,?_⟩;refine qT (aeU (au.of h2)) (by rw[ln2];exact fX ld ∅) rfl (λ_=>true) (λx=>match x with | .int k=> .int (0-k)|_=> .non) ?_ ?_ ?_
  .intro H3 x g3 hx k hk;exact hk
  .intro H3 x g3 hx _ k hk;obtain⟨y,hy,rfl⟩:=bY.mp (qK.mp hx);exact⟨_,rfl,_,_,rfl,rfl,hk⟩
  intro D2 hD2;have el2:((((Pm.divs y0.natAbs).map V.int).reverse.filter λ_=>true).map λx=>match x with | .int k=>V.int (0-k)|_=>V.non)=((Pm.divs y0.natAbs).reverse.map λx=>0-x).map V.int:=by
   rw[sW.mpr (by simp),<-QM,cR,cR];rfl
  rw[el2];obtain⟨H3,uu,g3,h3⟩:=nw hD2 (.lst (((Pm.divs y0.natAbs).reverse.map λx=>0-x).map V.int));rw[uu];have h23:=g3 _ _ h2;refine⟨_,rfl,(by show 1<=sizeLine;decide),λl0 hl0=>?_⟩;obtain⟨H4,uu,g4,h4⟩:=nw hl0 (.lst [.int 0]);rw[uu];have Ey:=g4 _ _ h3;have h24:=g4 _ _ h23;have lb:(((Pm.divs y0.natAbs).reverse.map λx=>0-x).map V.int).length=(Pm.divs y0.natAbs).length:=by rw[aB,aB,oY]
  refine .inl ⟨_,_,Ey,h4,?_,λl1 hl1=>?_⟩
  .rw[lb];exact fX (show _+1<=5000 by omega) ∅
  obtain⟨H5,uu,g5,h5⟩:=nw hl1 (.lst (((Pm.divs y0.natAbs).reverse.map λx=>0-x).map V.int++[.int 0]));rw[uu];have h25:=g5 _ _ h24;refine⟨_,rfl,.inl ⟨_,_,h5,h25,?_,λl2 hl2=>?_⟩⟩
  .rw[dW,lb,aB];exact fX (show(Pm.divs y0.natAbs).length+1+(Pm.divs y0.natAbs).length<=5000 by omega) ∅
  have ec:Pm.cands P'=((Pm.divs y0.natAbs).reverse.map λx=>0-x)++[0]++Pm.divs y0.natAbs:=by unfold Pm.cands;rw[hlow]
  refine q l2 _ (g1.trans (g2.trans (g3.trans (g4.trans (g5.trans (Same.new hl2 _)))))) ?_ ?_
  .rw[aC,ec,fZ,fZ];rfl
  .rw[ec,dW,dW,aB,oY];show _+1+_<=_;omega
theorem ajo(F:Fn K mg "divided_out" Mz ["poly","root"])(n8:DK P w K mg base):aeB P w K mg base:=by
 refine F.cal wk (λvs H Q E h=>?_) (λ_ _ _ _ _ H _ Q E hr h=>?_)
 .obtain⟨a,r,P,u,rfl,_⟩:=h;rfl
 .obtain⟨a,r,P',u,rfl,hA,zP,hP,hrb,bP,hu,q⟩:=h;refine⟨_,(ao (aH 2 wk.nd aq) (ao (aH 3 wk.nd (pv 0)) (ao (aH 4 wk.nd (aJ n8 hr (fu aq (ak (pv 3) (D9 (gh (fK (aK dI aq (pv 1)) (fu aq aj))) aj))))) (ao (oX PassesOwn.never (cT (jh K hr) (aO K (pv 4) aq) (gh aj)) (ao (aH 2 wk.nd (pad K (pv 2) aq)) (ao (aH 3 wk.nd (aO K (pv 4) aq)) (aD (aH 4 wk.nd (aJ n8 hr (fu aq (ak (pv 3) (D9 (gh (fK (aK dI aq (pv 1)) (fu aq aj))) aj))))))))) (aD (bf (gh (ak (pv 2) (ak (pv 3) aj))))))))),?_⟩;have hM:Pm.Mon [0-r,1]:=⟨by show 0<2;decide,rfl⟩;have bM:∀x∈[0-r,1],Rm.Bd 124000 x:=λx hx=>by
   rcases bJ.mp hx with rfl|hx
   .have:Rm.Bd 40 (0-r):=by unfold Rm.Bd at hrb ⊢;omega
    exact this.mono ∅
   .rw[eE.mp hx];exact(Rm.Bd.of (n:=10) ⋯ ⋯).mono ∅
  have one:∀{H1:Hp} {tl:Addr} {L:List Int} {Q1:VK} {E1:XK} {tm:Addr},H1 tl=some (.tup (L.map V.int))->H1 tm=some (.tup ([0-r,1].map V.int))->L.length<=40->(∀x∈L,Rm.Bd 200000 x)->(∀t x y H2,Same H1 H2->H2 t=some (.tup [.ref x,.ref y])->H2 x=some (.tup ((Pm.iz L r).map V.int))->H2 y=some (.tup ((Pm.trim [Pm.oV L r]).map V.int))->Q1 (.ref t) H2)->acH [.int 0,.ref tl,.ref tm] H1 Q1 E1:=λ{H1 tl L Q1 E1 tm} h1 h2 zL bL hq=>by
   refine⟨0,tl,tm,L,[0-r,1],rfl,∅,∅,h1,h2,zL,(by show 2<=40;decide),hM,λk=>Rm.aY _,(λx hx=>(bL x hx).mono ∅),bM,λt x y o l H2 g2 hT hX hY D _ _ _=>?_⟩;obtain⟨rfl,rfl⟩:=D.uniq hM (Pm.Vt L r);exact hq t x y H2 g2 hT hX hY
  refine⟨_,rfl,?_⟩;refine⟨_,rfl,_,rfl,_,_,rfl,rfl,(by show 2<=sizeLine;decide),λtm UO=>?_⟩;have g0:=Same.new UO (.tup ([0-r,1].map V.int));refine one (g0 _ _ hA) aC zP (λx hx=>(bP x hx).mono ⋯) λtt x y H1 g1 hT hX hY=>?_;refine⟨λm σ' H'=>∃(i:Nat) (L:List Int) (tl tt x y:Addr),m=L.length/\σ'=[some (.ref a),some (.int r),some (.int (i:Int)),some (.ref tl),some (.ref tt)]/\Same H H'/\H' tl=some (.tup (L.map V.int))/\H' tt=some (.tup [.ref x,.ref y])/\H' x=some (.tup ((Pm.iz L r).map V.int))/\H' y=some (.tup ((Pm.trim [Pm.oV L r]).map V.int))/\Pm.Mon L/\L.length+i=P'.length/\(Pm.outF P'.length P' r).1=(Pm.outF L.length L r).1+i/\(Pm.outF P'.length P' r).2=(Pm.outF L.length L r).2/\∀z∈L,Rm.Bd (u+i*1640) z,
   ⟨_,0,P',a,tt,x,y,rfl,rfl,g0.trans g1,g1 _ _ (g0 _ _ hA),hT,hX,hY,hP,rfl,rfl,rfl,λz hz=>(bP z hz).mono ⋯⟩,?_⟩
  rintro m σ' H' ⟨i,L,tl,tt,x,y,rfl,rfl,gg,hL,hT,hX,hY,hMo,hlen,o1,o2,bL⟩;have hi:u+i*1640<=200000:=by
   have:i*1640<=P'.length*1640:=qd _ ⋯;omega
  refine⟨_,rfl,_,_,.inr (aA.of hT),rfl,?_⟩;refine⟨cD _,λt0 ht0=>?_⟩;have g2:=Same.new ht0 (.tup []);refine Hv (ns:=Pm.trim [Pm.oV L r]) (ms:=[]) (aA.of (g2 _ _ hY)) (aA.of aC) ⟨_,rfl,?_⟩;have hX2:=g2 _ _ hX;have hT2:=g2 _ _ hT;have hL2:=g2 _ _ hL;have U9:=gg.trans g2;generalize upd H' t0 (.tup [])=H2 at hX2 hT2 hL2 U9;have et:Pm.trim [Pm.oV L r]=[]↔Pm.oV L r=0:=by
   rw[Pm.trim,Pm.trim];by_cases z:Pm.oV L r=0
   .rw[if_pos ⟨z,rfl⟩];exact⟨λ_=>z,λ_=>rfl⟩
   .rw[if_neg (λw=>z w.1)];exact⟨λw=>(by cases w),λw=>absurd w z⟩
  refine dM (λc=>?_) (λc=>?_)
  .have hz:=et.mp (dec_true c);have h2:2<=L.length:=by
    by_cases z:2<=L.length
    .exact z
    .exact absurd hz (Pm.Ju hMo ⋯ r)
   obtain⟨m1,l1⟩:=Pm.G7 (r:=r) hMo h2;have bQ:∀z∈Pm.iz L r,Rm.Bd (u+(i+1)*1640) z:=λz hz=>(Pm.adV hrb bL z hz).mono (by
    have:L.length*(40+1)<=40*41:=qd _ ⋯;rw[sV];omega)
   have hi1:u+(i+1)*1640<=200000:=by
    have:(i+1)*1640<=P'.length*1640:=qd _ ⋯;omega
   have eo:Pm.outF L.length L r=((Pm.outF (Pm.iz L r).length (Pm.iz L r) r).1+1,(Pm.outF (Pm.iz L r).length (Pm.iz L r) r).2):=by
    obtain⟨k,hk⟩:∃k,L.length=k+1:=⟨L.length-1,⋯⟩;rw[l1,hk,fR,Pm.outF,if_pos hz]
   refine⟨_,λ_ _ z=>z,?_⟩;refine⟨_,rfl,?_⟩;refine⟨_,rfl,_,_,.inr (aA.of hT2),rfl,?_⟩;refine⟨_,rfl,_,rfl,_,_,rfl,rfl,(by show 2<=sizeLine;decide),λtm UO=>?_⟩;have g3:=Same.new UO (.tup ([0-r,1].map V.int));refine one (g3 _ _ hX2) aC ⋯ (λz hz=>(bQ z hz).mono hi1) λtt' x' y' H3 g4 hT' hX' hY'=>?_;refine⟨(Pm.iz L r).length,⋯,i+1,Pm.iz L r,x,tt',x',y',rfl,?_,U9.trans (g3.trans g4),g4 _ _ (g3 _ _ hX2),hT',hX',hY',m1,⋯,?_,?_,bQ⟩
   .rw[ag6];rfl
   .rw[o1,eo];show _+1+i=_+(i+1);omega
   .rw[o2,eo]
  .have hz:¬Pm.oV L r=0:=λw=>(dec_false c) (et.mpr w);have eo:Pm.outF L.length L r=(0,L):=by
    cases hl:L.length with
    |zero=>rfl
    |succ k=>rw[Pm.outF,if_neg hz]
   rw[eo]at o1 o2;refine⟨_,rfl,_,rfl,(by show 2<=sizeLine;decide),λtz um=>?_⟩;have gz:=Same.new um (.tup [.int (i:Int),.ref tl]);refine q tz tl _ (U9.trans gz) ?_ ?_
   .rw[aC,o1];show some (HO.tup [V.int (i:Int),V.ref tl])=some (HO.tup [V.int ((0+i:Nat):Int),V.ref tl]);rw[GV]
   .rw[o2];exact gz _ _ hL2
theorem ajc(F:Fn K mg "whole_roots" Uh ["poly"])(Uc:adA P w K mg base dN)(Nq:adu P w K mg base)(Qz:aeB P w K mg base):acs P w K mg base dN:=by
 refine F.IY zG (λvs H Q E h=>?_) (λ_ _ _ _ _ H _ Q E hr h=>?_)
 .obtain⟨a,P,rfl,_⟩:=h;rfl
 .obtain⟨a,P',rfl,hA,zP,hP,q1,q2⟩:=h;refine⟨_,(ao (kZ (Ng Uc hr rfl (ak (pv 0) aj))) (ao (aH 1 zG.nd (gJ aj)) (ao (aH 2 zG.nd (pv 0)) (ao (gk PassesOwn.leaving rfl (fH K (aJ Nq hr (ak (pv 0) aj))) (bD 3 zG.nd) (ao (aH 4 zG.nd (aJ Qz hr (ak (pv 2) (ak (pv 3) aj)))) (aD (eY (cT tQ (aO K (pv 4) aq) aq) (ao (kZ (tX K (pv 1) (gh (ak (pv 3) (aL (aO K (pv 4) aq) aj))))) (aD (aH 2 zG.nd (aO K (pv 4) aq)))) fB)))) (aD (bf (gh (ak (pv 1) (ak (pv 2) aj))))))))),?_⟩;have hx1:∃x∈P',x≠0:=⟨Pm.co P' (P'.length-1),Pm.tE (by have:=hP.pos;omega),by rw[hP.one];decide⟩;refine⟨_,rfl,a,P',rfl,hA,⋯,λhs H1 g1=>?_,λhb H1 g1=>q2 hb H1 g1⟩;refine⟨cD _,λlr hlr=>?_⟩;obtain⟨H2,uu,g2,h2⟩:=nw hlr (.lst []);rw[uu];have fU:=g1.trans g2;have agz:H lr=none:=g1.free hlr;refine⟨_,rfl,?_⟩;refine⟨_,rfl,a,P',rfl,fU _ _ hA,⋯,hx1,hs,λlc H3 g3 h3 hcl=>?_⟩;refine⟨lc,rfl,.inl ⟨⟨_,au.of h3⟩,?_⟩⟩;have h23:=g3 _ _ h2;have mY:=fU.trans g3;have b0:∀z∈P',Rm.Bd 20 z:=λz hz=>by
   have:=hs z hz;exact Rm.Bd.of ⋯ ⋯
  have hcm:∀z∈Pm.cands P',Rm.Bd 40 z:=asS hs;refine xQ (xs:=(Pm.cands P').map V.int) (λi σ' H'=>∃(o3 o4:Option V) (tl:Addr) (L:List Int) (rs:List (List Int)) (xs:List V),σ'=[some (.ref a),some (.ref lr),some (.ref tl),o3,o4]/\Same H H'/\H' lc=some (.lst ((Pm.cands P').map V.int))/\H' lr=some (.lst xs)/\cO H' xs rs/\H' tl=some (.tup (L.map V.int))/\Pm.Mon L/\L.length<=P'.length/\(∀z∈L,Rm.Bd (20+(P'.length-L.length)*1640) z)/\xs.length<=i/\Pm.oW ((Pm.cands P').drop i) rs L=Pm.wr P')
   ⟨_,_,a,P',[],[],rfl,mY,h3,h23,.nil,mY _ _ hA,hP,aN _,λz hz=>(b0 z hz).mono ⋯,aN _,rfl⟩ (λi σ' H' ⟨_,_,_,_,_,_,_,_,z,_⟩=>au.of z) ?_ ?_
  .rintro i x σ' H4 hx ⟨o3,o4,tl,L,rs,xs,rfl,g4,hc4,Nu,rN,Ed,zK,hle,JR,hxl,hw⟩;obtain⟨rfl,hi⟩:=HJ hx;obtain⟨c,hcd⟩:∃c,c=Pm.co (Pm.cands P') i:=⟨_,rfl⟩;rw[<-hcd];have hcB:Rm.Bd 40 c:=hcm c (hcd▸Pm.tE hi);have ed:(Pm.cands P').drop i=c::(Pm.cands P').drop (i+1):=by
    rw[hcd,List.drop_eq_getElem_cons hi,<-Pm.jo hi]
   rw[ed,Pm.oW]at hw;have hu:20+(P'.length-L.length)*1640+L.length*1640<=200000:=by
    have:(P'.length-L.length)*1640+L.length*1640<=13*1640:=by rw[<-yu];exact qd _ ⋯
    omega
   have hok:=Pm.aeu hcB L.length (u:=20+(P'.length-L.length)*1640) zK ⋯ JR;refine⟨_,rfl,_,rfl,tl,c,L,20+(P'.length-L.length)*1640,rfl,Ed,⋯,zK,hcB,JR,hu,λt tl' H5 g5 ht htl=>?_⟩;generalize ho:Pm.outF L.length L c=oo at hw hok ht htl;obtain⟨o1,o2⟩:=oo;obtain⟨ok1,ok2,ok3⟩:=hok;replace ok2:o2.length+o1=L.length:=ok2;have Et:=g5 _ _ Nu;refine⟨_,rfl,_,_,.inr (aA.of ht),rfl,_,_,rfl,rfl,_,rfl,?_⟩;have azD:∀b ts,H5 b=some (HO.tup ts)->b≠lr:=λb ts e z=>by rw[z,Et]at e;cases e
   refine dM (λcc=>?_) (λcc=>?_)
   .have c':0<o1:=by have:=dec_true cc;omega
    rw[if_pos c']at hw;refine⟨_,rfl,.inl ⟨rfl,_,au.of Et⟩,_,rfl,_,rfl,_,_,.inr (aA.of ht),rfl,(by show 2<=sizeLine;decide),λtp htp=>?_⟩;obtain⟨H6,uu,g6,h6⟩:=nw htp (.tup [.int c,.int (o1:Int)]);rw[uu];have Dr:=g6 _ _ Et;have Bx:=g6 _ _ ht;have R3:=g6 _ _ htl;have hc6:=g6 _ _ (g5 _ _ hc4);have JH:=(rN.same g5).same g6;have Ek:=g4.trans (g5.trans g6);have hlc:lc≠lr:=λz=>by
     rw[z,h23]at h3;have e1:(Pm.cands P').map V.int=[]:=by injection h3 with h3;injection h3 with h3;exact h3.symm
     have e2:=congrArg tH e1;rw[aB]at e2;simp at e2;rw[e2]at hi;exact absurd hi (by simp)
    refine⟨lr,_,_,rfl,rfl,Dr,(qp hxl (jm hi (fX hcl ∅))),?_⟩;have hT7:cO (upd H6 lr (.lst (xs++[.ref tp]))) (xs++[.ref tp]) (rs++[[c,(o1:Int)]]):=cO.append (JH.set Dr) (.cons (by rw[bI (λz=>by rw[z,Dr]at h6;cases h6)];exact h6) .nil);refine⟨_,rfl,_,_,.inr (aA.of (by rw[bI (λz=>by rw[z,Dr]at Bx;cases Bx)];exact Bx)),rfl,?_⟩;refine⟨some (.int c),some (.ref t),tl',o2,rs++[[c,(o1:Int)]],xs++[.ref tp],rfl,Ek.upd agz _,(by rw[bI hlc];exact hc6),aC,hT7,(by rw[bI (λz=>by rw[z,Dr]at R3;cases R3)];exact R3),ok1,⋯,λz hz=>(ok3 z hz).mono ?_,by rw[dW];show xs.length+1<=_;omega,hw⟩;have:o1*1640+(P'.length-L.length)*1640=(P'.length-o2.length)*1640:=by rw[<-yu];congr 1;omega
    omega
   .have c':¬0<o1:=by have:=dec_false cc;omega
    rw[if_neg c']at hw;exact⟨some (.int c),some (.ref t),tl,L,rs,xs,rfl,g4.trans g5,g5 _ _ hc4,Et,rN.same g5,g5 _ _ Ed,zK,hle,JR,⋯,hw⟩
  .rintro σ' H4 ⟨o3,o4,tl,L,rs,xs,rfl,g4,hc4,Nu,rN,Ed,zK,hle,JR,hxl,hw⟩;rw[aB,List.drop_length,Pm.oW]at hw;refine⟨_,rfl,_,rfl,(by show 2<=sizeLine;decide),λtz um=>?_⟩;have gz:=Same.new um (.tup [.ref lr,.ref tl]);refine q1 hs tz lr tl xs _ (g4.trans gz) aC (gz _ _ Nu) agz ?_ ?_
   .rw[<-hw];exact rN.same gz
   .rw[<-hw];exact gz _ _ Ed
theorem awD(F:Fn K mg "refuse_prime" Pj ["row"]):Z4 P w K mg base eX:=by
 refine F.IY amU (λvs H Q E h=>?_) (λ_ _ _ _ _ H _ Q E hr h=>?_)
 .obtain⟨v,r,rfl,_⟩:=h;rfl
 .obtain⟨v,r,rfl,⟨a,p,p2,rfl,hA,hR,hS⟩,q1,q2⟩:=h;refine⟨_,(aD (eY (cT (ni K hr) (aO K (pv 0) aq) aq) (aD (abM M.atd rfl (fu DP aj))) fB)),?_⟩;refine⟨_,rfl,_,_,.inr (aA.of hA),rfl,_,rfl,?_⟩;refine dM (λc=>⟨(by show 1<=sizeLine;decide),q2 λz=>?_⟩) (λc=>q1 ?_)
  .rw[z]at c;exact absurd c ∅
  .by_cases z:r.b=0
   .exact z
   .exact absurd (by rw[decide_eq_false z];rfl) c
theorem auz(F:Fn K mg "power" RB ["number","exponent"]):XF P w K mg base:=by
 refine F.cal Jf (λvs H Q E h=>?_) (λ_ _ _ _ _ H _ Q E hr h=>?_)
 .obtain⟨a,e,u,rfl,_⟩:=h;rfl
 .obtain⟨a,e,u,rfl,e0,e1,hb,hu,q⟩:=h;refine⟨_,(ao (aH 2 Jf.nd aq) (ao (gk PassesOwn.never rfl (iC rfl B.gG (ak (pv 1) aj)) (bD 3 Jf.nd) (aD (aH 2 Jf.nd (aK v_mul (pv 2) (pv 0))))) (aD (bf (pv 2))))),?_⟩;refine⟨_,rfl,e,rfl,(⋯:-(2^62)<=e),(⋯:e<2^62),?_⟩;refine lG (lo:=0) (n:=e.toNat) (λi σ' H'=>∃o,σ'=[some (.int a),some (.int e),some (.int (a^i)),o]/\H=H') ⟨_,by rw[sG];rfl,rfl⟩ ?_ ?_
  .rintro i σ' H' hi ⟨o,rfl,rfl⟩;exact⟨_,rfl,_,rfl,auC hb hu ⋯,some (.int (0+(i:Int))),by rw[jf];rfl,rfl⟩
  .rintro σ' H' ⟨o,rfl,rfl⟩;exact⟨_,rfl,q⟩
theorem ai1(F:Fn K mg "form_line" Oh ["roots","n"])(EW:XF P w K mg base):afE P w K mg base:=by
 refine F.cal Rn (λvs H Q E h=>?_) (λ_ _ _ _ _ H _ Q E hr h=>?_)
 .obtain⟨lr,n,xs,l,rfl,_⟩:=h;rfl
 .obtain⟨lr,n,xs,l,rfl,hR,hT,n0,n1,hl,hb,q⟩:=h;refine⟨_,(ao (aH 2 Rn.nd (gJ aj)) (ao (gk PassesOwn.never rfl (fH K (pv 0)) (Iz (i:=3) Rn.nd rfl (fM rfl)) (aD (kZ (ao1 K (pv 2) (fY (sc:=aiF) (N:=["j","n","pair"]) (ix:=[none,some 1,some 3]) dX rfl (iC rfl B.gG (aL (aO K (pv 3) aq) aj)) (λcl C s₀ H₀ ex=>⟨(bD 0 dH),eO,(aK v_mul (aJ EW hr (aL (aO K (pv 2) aq) (ak (pv 1) aj))) (aJ EW hr (ak (pv 1) (ak (pv 0) aj))))⟩)))))) (aD (bf (pv 2))))),?_⟩;have lx:=hT.len;rw[aB]at lx;refine⟨cD _,λD hD=>?_⟩;obtain⟨H0,uu,g0,h0⟩:=nw hD (.lst []);rw[uu];refine⟨_,rfl,lr,rfl,.inl ⟨⟨_,au.of (g0 _ _ hR)⟩,?_⟩⟩;refine xQ (xs:=xs) (λi σ' H'=>∃o3,σ'=[some (.ref lr),some (.int n),some (.ref D),o3]/\Same H H'/\H' D=some (.lst ((Cf.gQ (l.take i) n.toNat).map V.int))) ⟨_,rfl,g0,h0⟩ (λi σ' H' ⟨_,_,g,_⟩=>au.of (g _ _ hR)) ?_ ?_
  .rintro i x σ' H1 hx ⟨o3,rfl,g1,h1⟩;obtain⟨t,p,rfl,ep,ht⟩:=hT.get hx;obtain⟨⟨r,m⟩,el,rfl⟩:=HN ep;have hm:=hb _ (List.mem_of_getElem? el);have hrb:Rm.Bd 20 r:=hm.1;have azx:m<=10:=hm.2;have ht1:H1 t=some (.tup [.int r,.int (m:Int)]):=g1 _ _ ht;refine⟨_,rfl,.inl ⟨rfl,_,au.of h1⟩,?_⟩;refine⟨_,rfl,_,_,.inr (aA.of ht1),rfl,(m:Int),rfl,(⋯:-(2^62)<=(m:Int)),(⋯:(m:Int)<2^62),?_⟩;rw[d9];refine BW (n:=m) ⋯ rfl (λj=>r^n.toNat*n^j) ?_ ?_
   .intro H2 k g2 hk kk hkk;refine⟨_,rfl,_,_,.inr (aA.of (g2 _ _ ht1)),rfl,_,rfl,r,n,20,rfl,n0,⋯,hrb,∅,?_⟩;refine⟨_,rfl,_,rfl,n,0+(k:Int),10,rfl,⋯,⋯,Rm.Bd.of ⋯ ⋯,∅,?_⟩;rw[show(0+(k:Int)).toNat=k by omega];refine⟨m6 (Cf.Al hrb _) (Cf.Al (n:=10) (Rm.Bd.of ⋯ ⋯) k) ⋯,hkk⟩
   intro D2 hD2;obtain⟨H2,uu,g2,h2⟩:=nw hD2 (.lst ((Pm.aM m λj=>r^n.toNat*n^j).map V.int));rw[uu];have h12:=g2 _ _ h1;have fU:=g1.trans g2;refine⟨D,D2,_,_,rfl,rfl,h12,h2,?_,_,rfl,fU.upd hD _,?_⟩
   .rw[aB,aB,Pm.cA];have:=at7 n.toNat (l:=l.take i) (by rw[iZ];omega) λx hx=>hb x (afk hx);exact gC (dZ ⋯)
   .rw[aC,take_one el,abB,fZ];congr 3;refine congrArg (m9 V.int) ?_;show _=((fj m).map λj=>r^n.toNat*((n.toNat:Nat):Int)^j)++[];rw[xu,Int.toNat_of_nonneg n0];rfl
  .rintro σ' H1 ⟨o3,rfl,g1,h1⟩;rw[rm ⋯]at h1;exact⟨_,rfl,q D H1 g1 hD h1⟩
theorem amt(F:Fn K mg "parts_of" UZ ["roots","tops"]):Yr P w K mg base:=by
 refine F.cal Af (λvs H Q E h=>?_) (λ_ _ _ _ _ H _ Q E hr h=>?_)
 .obtain⟨lr,lt,xs,l,us,rfl,_⟩:=h;rfl
 .obtain⟨lr,lt,xs,l,us,rfl,hR,hT,hU,lu,hl,q⟩:=h;refine⟨_,(ao (aH 2 Af.nd (gJ aj)) (ao (aH 3 Af.nd aq) (ao (gk PassesOwn.never rfl (fH K (pv 0)) (bD 4 Af.nd) (ao (aH 5 Af.nd (pad K (pv 3) (aO K (pv 4) aq))) (ao (kZ (tX K (pv 2) (gh (aL (aO K (pv 4) aq) (aL (wK (wD K) (pv 1) (uL (pv 3)) (uL (pv 5))) aj))))) (aD (aH 3 Af.nd (pv 5)))))) (aD (bf (pv 2)))))),?_⟩;have lx:=hT.len;rw[aB]at lx;have lU:(us.map V.int).length=us.length:=aB _;refine⟨cD _,λD hD=>?_⟩;obtain⟨H0,uu,g0,h0⟩:=nw hD (.lst []);rw[uu];refine⟨_,rfl,lr,rfl,.inl ⟨⟨_,au.of (g0 _ _ hR)⟩,?_⟩⟩;refine xQ (xs:=xs) (λi σ' H'=>∃o4 o5 ys,σ'=[some (.ref lr),some (.ref lt),some (.ref D),some (.int (Cf.aQ (l.take i):Nat)),o4,o5]/\Same H H'/\H' D=some (.lst ys)/\eG H' [D] ys (Cf.fG (l.take i) us)/\ys.length=i) ⟨_,_,[],rfl,g0,h0,.nil,rfl⟩ (λi σ' H' ⟨_,_,_,_,g,_⟩=>au.of (g _ _ hR)) ?_ ?_
  .rintro i x σ' H1 hx ⟨o4,o5,ys,rfl,g1,h1,hy,ly⟩;obtain⟨t,p,rfl,ep,ht⟩:=hT.get hx;obtain⟨⟨r,m⟩,el,rfl⟩:=HN ep;have hi:i<l.length:=by
    have:=(List.getElem?_eq_some_iff.mp el).1;exact this
   have ht1:H1 t=some (.tup [.int r,.int (m:Int)]):=g1 _ _ ht;have e2:Cf.aQ (l.take (i+1))=Cf.aQ (l.take i)+m:=by rw[take_one el,af9];rfl
   have e3:=aqo l (i+1);refine⟨_,rfl,_,rfl,_,_,.inr (aA.of ht1),rfl,?_⟩;refine⟨_,rfl,.inl ⟨rfl,_,au.of h1⟩,?_⟩;refine⟨_,rfl,_,_,.inr (aA.of ht1),rfl,?_⟩;refine⟨_,rfl,_,rfl,_,rfl,_,rfl,_,rfl,.inl ⟨_,au.of (g1 _ _ hU),λa ha=>?_⟩⟩;have ec:gU (us.map V.int) (some ((Cf.aQ (l.take i):Nat):Int)) (some (((Cf.aQ (l.take i):Nat):Int)+(m:Int)))=((us.drop (Cf.aQ (l.take i))).take m).map V.int:=by
    rw[show((Cf.aQ (l.take i):Nat):Int)+(m:Int)=((Cf.aQ (l.take i)+m:Nat):Int)by omega,ahR _ ⋯,show Cf.aQ (l.take i)+m-Cf.aQ (l.take i)=m by omega,wL,List.map_drop]
   rw[ec];obtain⟨H2,uu,g2,h2⟩:=nw ha (.lst (((us.drop (Cf.aQ (l.take i))).take m).map V.int));rw[uu];have na:a≠D:=λz=>by rw[z,h1]at ha;cases ha
   have h12:=g2 _ _ h1;have fU:=g1.trans g2;have hy2:=hy.same g2;refine⟨(by show 2<=sizeLine;decide),λt2 qx=>?_⟩;obtain⟨H3,uu,g3,h3⟩:=nw qx (.tup [.int r,.ref a]);rw[uu];have h13:=g3 _ _ h12;have h23:=g3 _ _ h2;have mY:=fU.trans g3;have hy3:=hy2.same g3;refine⟨D,_,_,rfl,rfl,h13,dZ ⋯,?_⟩;refine⟨_,rfl,?_⟩;refine⟨some (.ref t),some (.int (((Cf.aQ (l.take i):Nat):Int)+(m:Int))),ys++[.ref t2],?_,mY.upd hD _,aC,?_,by rw[dW];show ys.length+1=i+1;omega⟩
   .rw[e2,ag6];rfl
   .rw[take_one el,Xa];exact(hy3.append (.cons h3 (λz=>na (eE.mp z)) h23 .nil)).set h13 (eE.mpr rfl)
  .rintro σ' H1 ⟨o4,o5,ys,rfl,g1,h1,hy,ly⟩;rw[rm ⋯]at hy;exact⟨_,rfl,q D ys H1 g1 hD h1 hy⟩
theorem arf(F:Fn K mg "column_of" Rp ["table","column"]):ae7 P w K mg base:=by
 refine F.cal ank (λvs H Q E h=>?_) (λ_ _ _ _ _ H _ Q E hr h=>?_)
 .exact False.elim h
 .exact False.elim h
theorem akM(F:Fn K mg "paper_against" Tc ["by","wide","table","wished"])(W8:ae7 P w K mg base)(Dq:Qp P w K mg base):Xz P w K mg base:=by
 refine F.cal avw (λvs H Q E h=>?_) (λ_ _ _ _ _ H _ Q E hr h=>?_)
 .exact False.elim h
 .exact False.elim h
theorem apr(F:Fn K mg "solved" La ["by","wide","table","wished"])(Dq:Qp P w K mg base)(Pn:Xz P w K mg base):afR P w K mg base:=by
 refine F.cal abj (λvs H Q E h=>?_) (λ_ _ _ _ _ H _ Q E hr h=>?_)
 .obtain⟨u,wide,ta,tw,xs,L,ws,ex,rfl,_⟩:=h;rfl
 .obtain⟨u,wide,ta,tw,xs,L,ws,ex,rfl,hA,hx,hW,lw,lL,hw,cap,DM,bL,bW,hI,q⟩:=h;refine⟨_,(ao (aH 4 abj.nd (aJ Dq hr (ak (pv 0) (ak (pv 1) (ak (pv 2) (ak (pv 3) aj)))))) (ao (eY (Qu (asD (pv 4))) (aD (bf (gh (fu DP (aL (aJ Pn hr (ak (pv 0) (ak (pv 1) (ak (pv 2) (ak (pv 3) aj))))) aj))))) fB) (aD (bf (pv 4))))),?_⟩;refine⟨_,rfl,_,rfl,_,rfl,_,rfl,u,wide,ta,tw,xs,L,ws,ex,rfl,hA,hx,hW,⋯,⋯,⋯,by rw[lL];exact cap,DM,bL,bW,by rw[lL];exact Cf.an3 hI,by rw[lL];exact hI,λbot us so t lt H' g ht hlt=>?_⟩;rw[lL]at so;refine⟨_,rfl,_,rfl,kY ?_⟩;exact⟨_,rfl,q bot us so t lt H' g ht hlt⟩
theorem ajP(F:Fn K mg "closed" K6 ["row"])(Rf:Z4 P w K mg base eX)(PZ:acs P w K mg base dN)(zR:QF P w K mg base)(SM:afE P w K mg base)(Ti:afR P w K mg base)(Uy:Yr P w K mg base):aav P w K mg base eX dN:=by
 refine F.IY yF (λvs H Q E h=>?_) (λ_ _ _ _ _ H _ Q E hr h=>?_)
 .obtain⟨v,r,rfl,_⟩:=h;rfl
 .obtain⟨v,r,rfl,hR,h0,ok,tm,hat,hsm,Ey,qn,qf⟩:=h;refine⟨_,(ao (kZ (Ng Rf hr rfl (ak (pv 0) aj))) (ao (aH 1 yF.nd (Ng PZ hr rfl (aL (aJ zR hr (ak (pv 0) aj)) aj))) (ao (gM (i:=2) yF.nd rfl (fM rfl) (aO K (pv 1) aq)) (ao (eY (PW.pt (Vx (cT (ni K hr) (aO K (pv 1) aq) (gh (fu aq aj))) (abf (wW (jy (MN K rfl) rfl B.RH boot_any (aL (fY (sc:=auD) (N:=["pair"]) (ix:=[none]) dX rfl (fH K (pv 2)) (λcl C s₀ H₀ ex=>⟨(bD 0 dH),eO,(Ai (jh K hr) (aO K (pv 0) aq) aq (wz _))⟩)) aj)))))) (aD (bf Ua)) fB) (ao (aH 3 yF.nd (jy (PJ K rfl) rfl B.QW boot_sum (aL (fY (sc:=axh) (N:=["pair"]) (ix:=[none]) dX rfl (fH K (pv 2)) (λcl C s₀ H₀ ex=>⟨(bD 0 dH),eO,(aO K (pv 0) aq)⟩)) aj))) (ao (uG (i:=4) (hN:=yF.nd) (hi':=rfl) (hx:=(pC rfl)) (sc:=ajS) (N:=["n","roots"]) (ix:=[none,some 2]) dX rfl (iC rfl B.gG (ak (pv 3) aj)) (λcl C s₀ H₀ ex=>⟨(bD 0 dH),eO,(aJ SM hr (ak (pv 1) (ak (pv 0) aj)))⟩)) (ao (aH 5 yF.nd (aJ Ti hr (fu aq (ak (pv 3) (ak (pv 4) (aL (lB (xlist K) rfl B.Gu boot_list (aL (wK (wD K) (aO K (pv 0) aq) yX (uL (pv 3))) aj)) aj)))))) (aD (bf (gh (aL (aO K (pv 5) aq) (aL (aJ Uy hr (ak (pv 2) (aL (aO K (pv 5) aq) aj))) aj)))))))))))),?_⟩;have hB:pB r.b:=by rw[h0];exact .inl rfl
  refine⟨_,rfl,v,r,rfl,hR,λ_=>?_,λhne=>absurd h0 hne⟩;refine⟨_,rfl,v,r,rfl,hR,ok,hB,tm,λtL L H1 g1 hL lst ll=>?_⟩;rw[h0]at lst;obtain⟨l7,s7⟩:=hsm L lst;refine⟨tL,L,rfl,hL,⋯,lst.mon,λ_ t lr tl xs H2 g2 ht hlr _ hT htl=>?_,λ⟨x,hx,hx2⟩ H2 g2=>absurd (s7 x hx) ⋯⟩;obtain⟨l,w1,w2,w3,w4,w5,w6,w7⟩:=Pm.aeW lst.mon;have fU:=g1.trans g2;refine⟨_,rfl,_,_,.inr (aA.of ht),rfl,?_⟩;refine⟨_,rfl,_,_,.inr (aA.of ht),rfl,(by show 1<=sizeLine;decide),λt1 ht1=>?_⟩;have g3:=Same.new ht1 (.tup [.int 1]);refine Hv (ns:=(Pm.wr L).2) (ms:=[1]) (aA.of (g3 _ _ htl)) (aA.of aC) ⟨_,rfl,?_⟩;by_cases c:(Pm.wr L).2=[1];case neg=>
   rw[decide_eq_false c];refine qU ?_;exact qn L lst (.inl c) _ (fU.trans g3)
  rw[decide_eq_true c];refine kY ?_;have E9:=g3 _ _ hlr;have Bm:=hT.same g3;have mY:=fU.trans g3;generalize upd H2 t1 (.tup [.int 1])=H3 at g3 E9 Bm mY;rw[c]at w2;rw[w1]at Bm;have hlen:(Pm.RP l [1]).length=Cf.aQ l+1:=(Cf.v7 l).2;have hN:Cf.aQ l<=10:=by rw[<-w2]at hlen;omega
  have D5:=ad4 w5;have Ro:=Bm.len;rw[aB]at Ro;have two:∀{c:List Int},c∈l.map Pm.gw->∃x∈l,c=[x.1,(x.2:Int)]:=λ{c} hc=>by
   obtain⟨x,hx,rfl⟩:=bY.mp hc;exact⟨x,hx,rfl⟩
  refine⟨_,rfl,lr,rfl,.inl ⟨⟨_,au.of E9⟩,?_⟩⟩;refine awc E9 Bm (gC (dZ ⋯)) rfl (λx=>decide (x.headD 0=0)) ?_ ?_
  .intro H4 tt cc g4 hcc htt k hk;obtain⟨x,_,rfl⟩:=two hcc;exact⟨_,rfl,_,_,.inr (aA.of htt),rfl,hk⟩
  intro D hD;have g4:=Same.new hD (.lst (((l.map Pm.gw).map λx=>decide (x.headD 0=0)).map V.bl));refine⟨D,_,rfl,au.of aC,_,rfl,?_⟩;by_cases c2:((l.map Pm.gw).map λx=>decide (x.headD 0=0)).any id=true
  .rw[c2];refine qU ?_;refine qn L lst (.inr ?_) _ (mY.trans g4);obtain⟨b,hb,e⟩:=sY.mp c2;obtain⟨x,hx,rfl⟩:=bY.mp hb;exact⟨x,by rw[w1];exact hx,of_decide_eq_true e⟩
  have c2':((l.map Pm.gw).map λx=>decide (x.headD 0=0)).any id=false:=by
   cases e:((l.map Pm.gw).map λx=>decide (x.headD 0=0)).any id with
   |false=>rfl
   |true=>exact absurd e c2
  rw[c2'];refine kY ?_;have hne:∀x∈l,x.1≠0:=λx hx z=>c2 (sY.mpr ⟨true,bY.mpr ⟨Pm.gw x,iK hx,decide_eq_true z⟩,rfl⟩);have hrb:=anw s7 w7;have GR:=g4 _ _ E9;have rN:=Bm.same g4;have Ar:=mY.trans g4;generalize upd H3 D (.lst (((l.map Pm.gw).map λx=>decide (x.headD 0=0)).map V.bl))=H4 at g4 GR rN Ar;refine⟨_,rfl,lr,rfl,.inl ⟨⟨_,au.of GR⟩,?_⟩⟩;refine atu GR rN (gC (dZ ⋯)) rfl (λx=>x.getD 1 0) ?_ ?_
  .intro H5 tt cc g5 hcc htt k hk;obtain⟨x,_,rfl⟩:=two hcc;exact⟨_,rfl,_,_,.inr (aA.of htt),rfl,hk⟩
  intro D2 hD2;obtain⟨H5,uu,g5,h5⟩:=nw hD2 (.lst (((l.map Pm.gw).map λx=>x.getD 1 0).map V.int));rw[uu];have aax:=g5 _ _ GR;have hT5:=rN.same g5;have Sy:=Ar.trans g5;have es:=aqc l;refine⟨D2,_,rfl,au.of h5,?_⟩;rw[es];refine⟨_,rfl,(Cf.aQ l:Int),rfl,(⋯:-(2^62)<=((Cf.aQ l:Nat):Int)),(⋯:((Cf.aQ l:Nat):Int)<2^62),?_⟩;rw[d9];refine afc zq (by rw[aB,mR];omega) rfl (Fw λi=>Cf.gQ l i) ?_ ?_
  .intro H6 x g6 hx k hk;obtain⟨j,hj,rfl⟩:=bY.mp hx;have hj':=iT.mp hj;refine⟨_,rfl,_,rfl,lr,0+(j:Int),xs,l,rfl,g6 _ _ aax,hT5.same g6,⋯,⋯,⋯,λx hx=>⟨hrb x hx,?_⟩,λD3 H7 g7 hn7 h7=>hk D3 H7 g7 hn7 h7⟩;have:=Xu hx;omega
  intro D3 ys H6 hD3 g6 h6 hy;have et:((fj (Cf.aQ l)).map λi=>V.int (0+(i:Nat))).map (Fw λi=>Cf.gQ l i)=Cf.qw l:=by
   rw[cR];refine lJ λi _=>?_;show Cf.gQ l (0+(i:Int)).toNat=_;rw[show(0+(i:Int)).toNat=i by omega]
  rw[et]at hy;have Ek:=Sy.trans g6;obtain⟨xa,xp,xq,rfl,hxA,hxR,Rx⟩:=hR.same Ek;have lS:(r.starts.map V.int).length=r.rule.length:=by rw[aB];exact ok.len.symm
  have hLr:Cf.aQ l<=r.starts.length:=by
   rw[<-w2]at hlen;have:=ok.len;omega
  have Vd:(r.starts.take (Cf.aQ l)).length=Cf.aQ l:=by rw[iZ];omega
  have hco:∀n,n<Cf.aQ l->Pm.co (r.starts.take (Cf.aQ l)) n=r.at n:=λn hn=>by
   have e:r.at n=r.starts.getD n 0:=Rm.sS ⋯;rw[e];unfold Pm.co;rw[List.getD_eq_getElem?_getD,List.getElem?_take,if_pos hn,<-List.getD_eq_getElem?_getD]
  have hd:=Cf.rC w4;have hI:=Cf.aso (ws:=r.starts.take (Cf.aQ l)) hd hne;have hSz:Dm.Ax (Cf.aQ l) 190:=⟨∅,by
   have:(Cf.aQ l+1)*(190+(Cf.aQ l+1))<=11*201:=ig ⋯ ⋯;omega⟩
  have hcap:Vh 0 (Cf.aQ l) (Cf.aQ l+1) 190 (Dm.aug 0 (Cf.qw l) (r.starts.take (Cf.aQ l))):=⟨∅,arU (.inl rfl) (l:=10) (λc A hd r L last hc I=>by have:=I.rn;omega) ∅⟩;have bL:∀p∈Cf.qw l,∀x∈p,Rm.Bd 190 x:=λp hp=>by
   obtain⟨n,hn,rfl⟩:=bY.mp hp;have:=iT.mp hn;exactλx hx=>(alD ⋯ (λx hx=>(Ey L l lst w2 w5 x hx).1) (λx hx=>(Ey L l lst w2 w5 x hx).2) x hx).mono ∅
  have bW:∀x∈r.starts.take (Cf.aQ l),Rm.Bd 190 x:=λx hx=>by
   obtain⟨n,hn,e⟩:=jq.mp hx;rw[Vd]at hn;have:=hco n hn;rw[Pm.jo (by rw[Vd];exact hn),e]at this;rw[this];exact(hat n ⋯).mono ∅
  have fin:∀(H7:Hp) (lw:Addr) (Q7:VK) (E7:XK),Same H6 H7->H7 lw=some (.lst ((r.starts.take (Cf.aQ l)).map V.int))->(∀bot us,Form r.at L l bot us->∀t lt H8,Same H7 H8->H8 t=some (.tup [.str ("one" : Str),.int bot,.ref lt])->H8 lt=some (.lst (us.map V.int))->Q7 (.ref t) H8)->acE [.int 0,.int ((Cf.aQ l:Nat):Int),.ref D3,.ref lw] H7 Q7 E7:=λH7 lw Q7 E7 g7 hlw hq=>by
   refine⟨190,Cf.aQ l,D3,lw,ys,Cf.qw l,r.starts.take (Cf.aQ l),[D3],rfl,g7 _ _ h6,hy.same g7,hlw,Vd,Cf.Iu l,⋯,hcap,λi hi=>?_,bL,bW,hI,λbot us so t lt H8 g8 ht hlt=>hq bot us ?_ t lt H8 g8 ht hlt⟩
   .rw[Cf.Iu]at hi;rw[Cf.EJ hi];exact Cf.zx l i
   .have k:=so.ok (.inl rfl);obtain⟨b1,b2⟩:=so.bd (.inl rfl) hSz;refine⟨lst,Ir w1 c,w2,w4,w5,hne,hrb,hN,k.len,k.pos,k.ze rfl,λn=>?_,b1,b2⟩;exact Cf.anP (Cf.v7 l).1 (Cf.v7 l).2 k.len (λn=>by have:=lst.kp n;rwa [w2,Rm.aY]at this) (Cf.avS k.len hco k.sums) n
  have fin2:∀(H8:Hp) (t lt:Addr) (bot:Int) (us:List Int),Form r.at L l bot us->Same H6 H8->H8 t=some (.tup [.str ("one" : Str),.int bot,.ref lt])->H8 lt=some (.lst (us.map V.int))->∀lp yp H9,Same H8 H9->H9 lp=some (.lst yp)->eG H9 [lp] yp (Cf.fG l us)->∀tz,H9 tz=none->Q (.ref tz) (upd H9 tz (.tup [.int bot,.ref lp])):=λH8 t lt bot us F g8 ht hlt lp yp H9 g9 hlp hp tz um=>by
   have gz:=Same.new um (.tup [.int bot,.ref lp]);exact qf L l bot us F tz lp yp [lp] _ (Ek.trans (g8.trans (g9.trans gz))) aC (gz _ _ hlp) (hp.same gz)
  have aeJ:=g6 _ _ aax;have JH:=hT5.same g6;refine⟨_,rfl,_,rfl,_,rfl,_,_,.inr (aA.of hxA),rfl,_,rfl,_,rfl,?_⟩;by_cases hw:r.starts.length<=Cf.aQ l
  .refine .inr (.inr ⟨_,aA.of Rx,?_,?_⟩)
   .rw[HT.qe,HT.rP,aB];omega
   refine⟨xq,_,rfl,.inr (aA.of Rx),λl8 Eh=>?_⟩;have g8:=Same.new Eh (.lst (r.starts.map V.int));refine fin _ l8 _ _ g8 (by rw[aC,rm hw]) λbot us F ta lt H9 g9 wH hlt=>?_;refine⟨_,rfl,_,_,.inr (aA.of wH),rfl,_,rfl,_,rfl,_,_,.inr (aA.of wH),rfl,lr,lt,xs,l,us,rfl,g9 _ _ (g8 _ _ aeJ),(JH.same g8).same g9,hlt,F.len,⋯,λlp yp uo oH _ hlp hp=>?_⟩;exact⟨(by show 2<=sizeLine;decide),λtz um=>fin2 H9 ta lt bot us F (g8.trans g9) wH hlt lp yp uo oH hlp hp tz um⟩
  .refine .inr (.inl ⟨_,aA.of Rx,?_,λp3 hp3=>?_⟩)
   .rw[HT.qe,HT.rP,aB];omega
   rw[Gm,<-wL];have g7:=Same.new hp3 (.tup ((r.starts.take (Cf.aQ l)).map V.int));refine⟨p3,_,rfl,.inr (aA.of aC),λl8 Eh=>?_⟩;have g8:=Same.new Eh (.lst ((r.starts.take (Cf.aQ l)).map V.int));have Gz:=g7.trans g8;refine fin _ l8 _ _ Gz aC λbot us F ta lt H9 g9 wH hlt=>?_;refine⟨_,rfl,_,_,.inr (aA.of wH),rfl,_,rfl,_,rfl,_,_,.inr (aA.of wH),rfl,lr,lt,xs,l,us,rfl,g9 _ _ (Gz _ _ aeJ),(JH.same Gz).same g9,hlt,F.len,⋯,λlp yp uo oH _ hlp hp=>?_⟩;exact⟨(by show 2<=sizeLine;decide),λtz um=>fin2 H9 ta lt bot us F (Gz.trans g9) wH hlt lp yp uo oH hlp hp tz um⟩
theorem ah4(F:Fn K mg "shared_by" TR ["one","other"]):afC P w K mg base:=by
 refine F.cal al8 (λvs H Q E h=>?_) (λ_ _ _ _ _ H _ Q E hr h=>?_)
 .obtain⟨v1,v2,r1,r2,rfl,_⟩:=h;rfl
 .obtain⟨v1,v2,r1,r2,rfl,⟨a1,p1,q1,rfl,C7,_,_⟩,⟨a2,p2,q2,rfl,Js,_,_⟩,e,q⟩:=h;refine⟨_,(ao (eY (cT (ni K hr) (aO K (pv 0) aq) (aO K (pv 1) aq)) (aD IV) fB) (aD (bf (aO K (pv 0) aq)))),?_⟩;refine⟨_,rfl,_,_,.inr (aA.of C7),rfl,_,rfl,_,_,.inr (aA.of Js),rfl,_,rfl,?_⟩;rw[decide_eq_true e];refine kY ?_;exact⟨_,rfl,_,_,.inr (aA.of C7),rfl,q⟩
theorem ayw(F:Fn K mg "told_row" KP ["by","rule","starts"])(cN:jT P w K mg base)(xr:QT P w K mg base):Mw P w K mg base:=by
 refine F.cal Qj (λvs H Q E h=>?_) (λ_ _ _ _ _ H _ Q E hr h=>?_)
 .obtain⟨a,e,ns,ms,d,c,rfl,_⟩:=h;rfl
 .obtain⟨a,e,ns,ms,d,c,rfl,hA,hC,qu,q⟩:=h;have zn:ns.length<=1000:=by have:=qu.short;have:=qu.vN;show ns.length<=1000;exact fX qu.short ⋯
  have zm:ms.length<=1000:=by have:ns.length=ms.length:=qu.len;omega
  refine⟨_,(ao (aH 3 Qj.nd (lB (pF K) rfl B.oh boot_tuple (aL (fY (sc:=ahp) (N:=["number","by"]) (ix:=[none,some 0]) dX rfl (fH K (pv 1)) (λcl C s₀ H₀ ex=>⟨(bD 0 dH),eO,(aJ cN hr (ak (pv 1) (ak (pv 0) aj)))⟩)) aj))) (ao (aH 4 Qj.nd (lB (pF K) rfl B.oh boot_tuple (aL (fY (sc:=ahE) (N:=["number","by"]) (ix:=[none,some 0]) dX rfl (fH K (pv 2)) (λcl C s₀ H₀ ex=>⟨(bD 0 dH),eO,(aJ cN hr (ak (pv 1) (ak (pv 0) aj)))⟩)) aj))) (aD (bf (aJ xr hr (D9 (gh (ak (pv 0) (ak (pv 3) (ak (pv 4) aj)))) aj)))))),?_⟩;refine⟨_,rfl,a,rfl,.inr ⟨⟨_,aA.of hA⟩,DY hA zn rfl (λx=>x) ?_ ?_⟩⟩
  .intro H2 x g2 hx kk hkk;exact⟨_,rfl,_,rfl,0,x,rfl,∅,by rw[Rm.aY];exact hkk⟩
  intro D hD;rw[yg];have gD:=Same.new hD (.lst (ns.map V.int));refine⟨D,_,rfl,.inl ⟨au.of aC,λt1 ht1=>?_⟩⟩;have g1:=Same.new ht1 (.tup (ns.map V.int));have h1:(upd (upd H D (.lst (ns.map V.int))) t1 (.tup (ns.map V.int))) t1=some (.tup (ns.map V.int)):=aC;have Ut:=gD.trans g1;generalize upd (upd H D (.lst (ns.map V.int))) t1 (.tup (ns.map V.int))=H1 at Ut h1;have Bg:=Ut _ _ hC;refine⟨_,rfl,e,rfl,.inl ⟨⟨_,au.of Bg⟩,uT Bg zm rfl (λx=>x) ?_ ?_⟩⟩
  .intro H2 x g2 hx kk hkk;exact⟨_,rfl,_,rfl,0,x,rfl,∅,by rw[Rm.aY];exact hkk⟩
  intro D2 hD2;rw[yg];have gD2:=Same.new hD2 (.lst (ms.map V.int));refine⟨D2,_,rfl,.inl ⟨au.of aC,λt2 qx=>?_⟩⟩;have g2:=Same.new qx (.tup (ms.map V.int));have h2:(upd (upd H1 D2 (.lst (ms.map V.int))) t2 (.tup (ms.map V.int))) t2=some (.tup (ms.map V.int)):=aC;have ML:=gD2.trans g2;have h12:=ML _ _ h1;generalize upd (upd H1 D2 (.lst (ms.map V.int))) t2 (.tup (ms.map V.int))=H2 at ML h2 h12;refine⟨_,rfl,_,rfl,_,rfl,(by show 3<=sizeLine;decide),λt3 ht3=>?_⟩;have g3:=Same.new ht3 (.tup [.int 0,.ref t1,.ref t2]);refine⟨.ref t3,⟨0,ns,ms⟩,rfl,⟨t3,t1,t2,rfl,aC,g3 _ _ h12,g3 _ _ h2⟩,qu.ok,.inl rfl,qu.tame,λv' L H4 g4 hR lst ll=>?_⟩;obtain⟨k1,k2⟩:=qu.sh lst ll;exact q v' _ H4 (Ut.trans (ML.trans (g3.trans g4))) hR k1 k2
theorem ax3(F:Fn K mg "refuse_long" Mj ["length"]):agN P w K mg base:=by
 refine F.cal aoJ (λvs H Q E h=>?_) (λ_ _ _ _ _ H _ Q E hr h=>?_)
 .obtain⟨n,rfl,_⟩:=h;rfl
 .obtain⟨n,rfl,hn,q⟩:=h;refine⟨_,(aD (eY (cT tQ (pv 0) (Qf rfl B.Ra)) (aD IV) fB)),?_⟩;refine⟨_,rfl,_,_,rfl,rfl,_,rfl,?_⟩;rw[decide_eq_false (⋯:¬(12:Int)<n)];exact kY q
theorem axW(F:Fn K mg "sum_place" K9 ["ours","theirs","n"]):Ly P w K mg base:=by
 refine F.cal ajy (λvs H Q E h=>?_) (λ_ _ _ _ _ H _ Q E hr h=>?_)
 .obtain⟨l1,l2,m,a,c,n,rfl,_⟩:=h;rfl
 .obtain⟨l1,l2,m,a,c,n,rfl,h1,h2,hn,q⟩:=h;refine⟨_,(aD (bf (pad K (aO K (pv 0) (pv 2)) (aO K (pv 1) (pv 2))))),?_⟩;exact⟨_,rfl,_,rfl,_,_,.inl (au.of h1),ac0 hn,_,rfl,_,rfl,_,_,.inl (au.of h2),ac0 hn,q _ (Same.refl _)⟩
theorem ajK(F:Fn K mg "pair_row" Qq ["one","other","rule","pair_place"])(G6:agf P w K mg base)(zj:Mw P w K mg base)(zU:Ly P w K mg base):Wj P w K mg base:=by
 refine F.cal GD (λvs H Q E h=>?_) (λ_ _ _ _ _ H _ Q E hr h=>?_)
 .obtain⟨v1,v2,t,g,r1,r2,ns,d,c,rfl,_⟩:=h;rfl
 .obtain⟨v1,v2,t,g,r1,r2,ns,d,c,rfl,hg,qL,nQ,ok1,ok2,eb,hT,qu,q⟩:=h;refine⟨_,(ao (aH 4 GD.nd (cH K B.cJ (ak (pv 2) aj))) (ao (gM (i:=5) GD.nd rfl (fM rfl) (aJ G6 hr (ak (pv 0) (ak (pv 4) aj)))) (ao (gM (i:=6) GD.nd rfl (fM rfl) (aJ G6 hr (ak (pv 1) (ak (pv 4) aj)))) (aD (bf (aJ zj hr (aL (aO K (pv 0) aq) (ak (pv 2) (aL (fY (sc:=awA) (N:=["n","ours","pair_place","theirs"]) (ix:=[none,some 5,some 3,some 6]) dX rfl (iC rfl B.gG (ak (pv 4) aj)) (λcl C s₀ H₀ ex=>⟨(bD 0 dH),eO,(ai4 zU hr (pv 2) (ak (pv 1) (ak (pv 3) (ak (pv 0) aj))))⟩)) aj))))))))),?_⟩;have n12:ns.length<=10:=fX qu.short qu.vN;have lT:(ns.map V.int).length=ns.length:=aB _;refine⟨_,rfl,.ref t,ns.length,rfl,.inr ⟨_,aA.of hT,lT.symm⟩,?_⟩;refine⟨_,rfl,_,rfl,v1,r1,(ns.length:Int),rfl,qL,ok1,⋯,⋯,λl1 H1 g1 f1 h1=>?_⟩;rw[d9,adp]at h1;refine⟨_,rfl,_,rfl,v2,r2,(ns.length:Int),rfl,nQ.same g1,ok2,⋯,⋯,λl2 H2 g2 f2 h2=>?_⟩;rw[d9,adp]at h2;have fU:=g1.trans g2;obtain⟨a1,p1,q1,rfl,C7,Oo,hS1⟩:=id (qL.same fU);have h12:=g2 _ _ h1;rw[eb]at C7;refine⟨_,rfl,_,_,.inr (aA.of C7),rfl,_,rfl,_,rfl,(ns.length:Int),rfl,(⋯:-(2^62)<=(ns.length:Int)),(⋯:(ns.length:Int)<2^62),?_⟩;rw[d9];refine aky (n:=ns.length) ⋯ rfl (λn=>r1.at n+r2.at n) ?_ ?_
  .intro H8 k g8 hk kk hkk;exact⟨_,rfl,⟨g,hg,rfl⟩,_,rfl,_,rfl,_,rfl,l1,l2,ns.length,r1.at,r2.at,k,by rw[gY],g8 _ _ h12,g8 _ _ h2,hk,hkk⟩
  .intro D H8 hD g8 h8;exact⟨t,D,ns,_,d,c,rfl,(fU.trans g8) _ _ hT,h8,qu,λv' r' H' g' hR' hT' e'=>q v' r' H' (fU.trans (g8.trans g')) hR' hT' e'⟩
theorem av8(F:Fn K mg "joint_row" Tq ["one","other","pair_place"])(Vy:afC P w K mg base)(xr:QT P w K mg base)(SJ:agN P w K mg base)(Ue:ae1 P w K mg base)(wB:R5 P w K mg base)(Oe:Wj P w K mg base)(yC:Nf P w K mg base):abq P w K mg base:=by
 refine F.cal BK (λvs H Q E h=>?_) (λ_ _ _ _ _ H _ Q E hr h=>?_)
 .obtain⟨v1,v2,g,rfl,_⟩:=h;rfl
 .obtain⟨v1,v2,g,rfl,hg,r1,r2,c,qL,nQ,M1,M2,hc,q⟩:=h;refine⟨_,(ao (aH 3 BK.nd (aJ Vy hr (ak (pv 0) (ak (pv 1) aj)))) (ao (aH 4 BK.nd (aJ xr hr (ak (pv 0) aj))) (ao (aH 5 BK.nd (aJ xr hr (ak (pv 1) aj))) (ao (kZ (aJ SJ hr (fK (pad K (cH K B.cJ (aL (aO K (pv 4) aq) aj)) (cH K B.cJ (aL (aO K (pv 5) aq) aj))) aj))) (ao (aH 6 BK.nd (aJ Ue hr (ak (pv 3) (aL (aJ wB hr (ak (pv 3) (aL (aO K (pv 4) aq) aj))) (aL (aJ wB hr (ak (pv 3) (aL (aO K (pv 5) aq) aj))) aj))))) (aD (bf (aJ Oe hr (ak (pv 4) (ak (pv 5) (aL (aJ yC hr (ak (pv 3) (ak (pv 6) aj))) (ak (pv 2) aj)))))))))))),?_⟩;have e1:=M1.by_;have e2:=M2.by_;refine⟨_,rfl,_,rfl,v1,v2,r1,r2,rfl,qL,nQ,by rw[e1,e2],?_⟩;rw[e1];refine⟨_,rfl,v1,r1,rfl,qL,M1.ok,by rw[e1];exact .inl rfl,M1.tame,λx1 L1 H1 g1 hS1 u5 ll1=>?_⟩;refine⟨_,rfl,v2,r2,rfl,nQ.same g1,M2.ok,by rw[e2];exact .inl rfl,M2.tame,λx2 L2 H2 g2 hS2 uN ll2=>?_⟩;rw[e1]at u5;rw[e2]at uN;obtain⟨N1,ea1⟩:=M1.sh u5 ll1;obtain⟨N2,ea2⟩:=M2.sh uN ll2;have eP1:Pm.aV 0 (iB r1 L1).rule=L1:=by
   show Pm.aV 0 (Pm.fO r1.b L1)=L1;rw[e1];exact Pm.BP u5.nu u5.mon
  have eP2:Pm.aV 0 (iB r2 L2).rule=L2:=by
   show Pm.aV 0 (Pm.fO r2.b L2)=L2;rw[e2];exact Pm.BP uN.nu uN.mon
  have afU:=hS1.same g2;obtain⟨a1,p1,t1,rfl,Bg,Oo,hT1⟩:=id afU;obtain⟨a2,p2,t2,rfl,hC2,hP2,hT2⟩:=id hS2;have s1:(iB r1 L1).rule.length<=5:=N1.short;have s2:(iB r2 L2).rule.length<=5:=N2.short;have lS1:((iB r1 L1).rule.map V.int).length=(iB r1 L1).rule.length:=aB _;have lS2:((iB r2 L2).rule.map V.int).length=(iB r2 L2).rule.length:=aB _;refine⟨_,rfl,_,_,.inr (aA.of Bg),rfl,.ref p1,(iB r1 L1).rule.length,rfl,.inr ⟨_,aA.of Oo,lS1.symm⟩,_,rfl,_,_,.inr (aA.of hC2),rfl,.ref p2,(iB r2 L2).rule.length,rfl,.inr ⟨_,aA.of hP2,lS2.symm⟩,?_⟩;refine⟨((iB r1 L1).rule.length:Int)+((iB r2 L2).rule.length:Int),rfl,⋯,?_⟩;refine⟨_,rfl,_,rfl,_,rfl,_,_,.inr (aA.of Bg),rfl,0,p1,(iB r1 L1).rule,rfl,∅,Oo,⋯,λt3 H3 g3 h3=>?_⟩;refine⟨_,rfl,_,rfl,_,_,.inr (aA.of (g3 _ _ hC2)),rfl,0,p2,(iB r2 L2).rule,rfl,∅,g3 _ _ hP2,⋯,λt4 H4 g4 h4=>?_⟩;rw[eP1]at h3;rw[eP2]at h4;obtain⟨q1,b1⟩:=M1.small u5;obtain⟨q2,b2⟩:=M2.small uN;have B:∀{L:List Int},(∀x∈L,x.natAbs<1000000)->∀x∈L,Rm.Bd 1000000 x:=λh x hx=>(show Rm.Bd 20 x from vJ (h x hx) ∅).mono ∅;refine⟨0,t3,t4,L1,L2,rfl,∅,g4 _ _ h3,h4,⋯,⋯,B b1,B b2,λt5 H5 g5 h5=>?_⟩;have Kg:=g3.trans (g4.trans g5);obtain⟨hm,hl2⟩:=Pm.Kv (b:=0) rfl u5.mon uN.mon;have k1:=u5.mon.pos;have k2:=uN.mon.pos;refine⟨_,rfl,_,rfl,_,rfl,_,rfl,0,t5,Pm.mul 0 L1 L2,rfl,∅,h5,⋯,⋯,λt6 H6 g6 h6=>?_⟩;have yI:=Kg.trans g6;obtain⟨S1,S2⟩:=M1.sum M2 hc u5 uN (m:=(Pm.fO 0 (Pm.mul 0 L1 L2)).length) (Pm.nF ..);refine⟨_,rfl,.ref a1,.ref a2,t6,g,iB r1 L1,iB r2 L2,Pm.fO 0 (Pm.mul 0 L1 L2),10,c+1,rfl,hg,afU.same yI,hS2.same yI,N1.ok,N2.ok,e1,h6,by rw[ea1,ea2];exact S1,λv' r' H' g' hR' hT' e'=>?_⟩;rw[ea1,ea2,S2]at e';exact q v' r' H' (g1.trans (g2.trans (yI.trans g'))) hR' hT' e'
theorem aqP(F:Fn K mg "added" Qt ["one","other"])(Tg:abq P w K mg base)(zU:Ly P w K mg base):adf P w K mg base:=by
 refine F.cal alE (λvs H Q E h=>?_) (λ_ _ _ _ _ H _ Q E hr h=>?_)
 .obtain⟨v1,v2,rfl,_⟩:=h;rfl
 .obtain⟨v1,v2,rfl,q⟩:=h;refine⟨_,(aD (bf (aJ Tg hr (ak (pv 0) (ak (pv 1) (ak (arq zU rfl) aj)))))),?_⟩;exact⟨_,rfl,_,rfl,λg hg=>⟨v1,v2,g,rfl,hg,q⟩⟩
theorem ai7(F:Fn K mg "scaled" Rg ["row","number"])(zj:Mw P w K mg base):aaX P w K mg base:=by
 refine F.cal ari (λvs H Q E h=>?_) (λ_ _ _ _ _ H _ Q E hr h=>?_)
 .obtain⟨v,rule,ss,x,rfl,_⟩:=h;rfl
 .obtain⟨v,rule,ss,x,rfl,hR,hC,hM,hx,q⟩:=h;refine⟨_,(aD (bf (aJ zj hr (aL (aO K (pv 0) aq) (aL (aO K (pv 0) aq) (aL (fY (sc:=atw) (N:=["start","number"]) (ix:=[none,some 1]) dX rfl (fH K (aO K (pv 0) aq)) (λcl C s₀ H₀ ex=>⟨(bD 0 dH),eO,(aK v_mul (pv 1) (pv 0))⟩)) aj)))))),?_⟩;obtain⟨a,p,p2,rfl,hA,hP,hS⟩:=id hR;have hl:rule.length=ss.length:=hC.len;have h5:rule.length<=5:=hC.short;refine⟨_,rfl,_,_,.inr (aA.of hA),rfl,_,rfl,_,_,.inr (aA.of hA),rfl,_,rfl,_,_,.inr (aA.of hA),rfl,p2,rfl,.inr ⟨⟨_,aA.of hS⟩,DY hS (by show ss.length<=1000;omega) rfl (λs=>x*s) ?_ ?_⟩⟩
  .intro H2 y g2 hy kk hkk;exact⟨_,rfl,_,rfl,m6 hx (hC.ok.Gr y hy) ∅,hkk⟩
  intro D hD;have gD:=Same.new hD (.lst ((ss.map λs=>x*s).map V.int));exact⟨p,D,rule,ss.map λs=>x*s,5,33,rfl,gD _ _ hP,aC,hM,λv' r' H' g' hR' hT e=>q v' r' H' (gD.trans g') hR' hT e⟩
theorem apM(F:Fn K mg "_law_times" QL ["_law_one","_law_other"]):Wk P w K mg base:=by
 refine F.cal Fe (λvs H Q E h=>?_) (λ_ _ _ _ _ H _ Q E hr h=>?_)
 .obtain⟨a,c,p,r,rfl,_⟩:=h;rfl
 .obtain⟨a,c,p,r,rfl,hA,hC,p1,p10,r1,r10,bA,bC,q⟩:=h;refine⟨_,(ao (aH 2 Fe.nd (aK v_mul (gJ (fu aq aj)) (aK dI (pad K (cH K B.cJ (ak (pv 0) aj)) (cH K B.cJ (ak (pv 1) aj))) aq))) (ao (gk PassesOwn.never rfl (iC rfl B.gG (aL (cH K B.cJ (ak (pv 0) aj)) aj)) (bD 3 Fe.nd) (aD (gk PassesOwn.never rfl (iC rfl B.gG (aL (cH K B.cJ (ak (pv 1) aj)) aj)) (bD 4 Fe.nd) (aD (v8 (pad K (aO K (pv 2) (pad K (pv 3) (pv 4))) (aK v_mul (aO K (pv 0) (pv 3)) (aO K (pv 1) (pv 4)))) (uP (pv 2) (pad K (pv 3) (pv 4)) set_list)))))) (aD (bf (pv 2))))),?_⟩;have lP:(p.map V.int).length=p.length:=aB _;have lR:(r.map V.int).length=r.length:=aB _;refine⟨(by show 1<=sizeLine;decide),λl0 h0=>?_⟩;have g0:=Same.new h0 (.lst [.int 0]);refine⟨_,rfl,.ref a,p.length,rfl,.inl ⟨_,au.of (g0 _ _ hA),lP.symm⟩,_,rfl,.ref c,r.length,rfl,.inl ⟨_,au.of (g0 _ _ hC),lR.symm⟩,_,_,rfl,rfl,?_⟩;have en:((p.length:Int)+(r.length:Int)-1).toNat=p.length+r.length-1:=⋯;refine⟨_,aC,(⋯:-(2^63)<=(p.length:Int)+(r.length:Int)-1),(⋯:(p.length:Int)+(r.length:Int)-1<2^63),?_,λl hl=>?_⟩
  .rw[en];show 1*(p.length+r.length-1)<=sizeLine;rw[nJ];exact gC (dZ ⋯)
  have g1:=g0.trans (Same.new hl (.lst (bN ((p.length:Int)+(r.length:Int)-1).toNat [V.int 0]).flatten));have hl0:H l=none:=g0.free hl;refine⟨_,rfl,.ref a,p.length,rfl,.inl ⟨_,au.of (g1 _ _ hA),lP.symm⟩,?_⟩;refine⟨(p.length:Int),rfl,(⋯:-(2^62)<=(p.length:Int)),(⋯:(p.length:Int)<2^62),?_⟩;refine lG (lo:=0) (n:=(p.length:Int).toNat) (λi σ' H'=>∃o4 o5 L,σ'=[some (.ref a),some (.ref c),some (.ref l),o4,o5]/\Same H H'/\H' l=some (.lst (L.map V.int))/\L.length=p.length+r.length-1/\∀k,Pm.co L k=Pm.W (Pm.co p) (Pm.co r) i 0 k)
   ⟨_,_,Pm.aM (p.length+r.length-1) (λ_=>0),rfl,g1,(by rw[aC,en,J3]),Pm.cA _ _,λk=>by rw[Pm.cX,Pm.ab6];split<;>rfl⟩ ?_ ?_
  .rintro i σ' H' hi ⟨o4,o5,L,rfl,g,hL,zL,hW⟩;have hi':i<p.length:=⋯;refine⟨_,rfl,.ref c,r.length,rfl,.inl ⟨_,au.of (g _ _ hC),lR.symm⟩,?_⟩;refine⟨(r.length:Int),rfl,(⋯:-(2^62)<=(r.length:Int)),(⋯:(r.length:Int)<2^62),?_⟩;refine lG (lo:=0) (n:=(r.length:Int).toNat) (λk σ' H'=>∃o5 L,σ'=[some (.ref a),some (.ref c),some (.ref l),some (.int (0+(i:Int))),o5]/\Same H H'/\H' l=some (.lst (L.map V.int))/\L.length=p.length+r.length-1/\∀j,Pm.co L j=Pm.W (Pm.co p) (Pm.co r) i k j)
    ⟨_,L,rfl,g,hL,zL,hW⟩ ?_ ?_
   .rintro k σ' H2 hk ⟨o5,L,rfl,g,hL,zL,hW⟩;have hk':k<r.length:=⋯;have lL:(L.map V.int).length=L.length:=aB _;have e1:(0+(i:Int)+(0+(k:Int))).toNat=i+k:=⋯;have e2:(0+(i:Int)).toNat=i:=⋯;have e3:(0+(k:Int)).toNat=k:=⋯;refine⟨_,rfl,_,rfl,_,rfl,_,_,.inl (au.of hL),eN (ns:=L) (⋯:(0:Int)<=0+(i:Int)+(0+(k:Int))) ⋯,?_⟩;refine⟨_,rfl,_,rfl,_,_,.inl (au.of (g _ _ hA)),eN (ns:=p) (⋯:(0:Int)<=0+(i:Int)) ⋯,?_⟩;refine⟨_,rfl,_,rfl,_,_,.inl (au.of (g _ _ hC)),eN (ns:=r) (⋯:(0:Int)<=0+(k:Int)) ⋯,?_⟩;refine⟨m6 (Rm.Bd.getD bA _) (Rm.Bd.getD bC _) ∅,?_⟩;refine⟨_,rfl,_,rfl,_,rfl,l,_,_,i+k,rfl,rfl,hL,uK ⋯ (by rw[lL];omega),?_⟩;refine⟨_,L.set (i+k) _,rfl,g.upd hl0 _,(by rw[aC,Cz]),(by rw[nW];exact zL),λj=>?_⟩;rw[Pm.xg _ _ _ _ ⋯,Pm.aas,e1,e2,e3];by_cases ej:j=i+k
    .have hw:=hW j;rw[if_pos ej,if_pos ej];rw[ej]at hw⊢;rw[<-hw];rfl
    .rw[if_neg ej,if_neg ej,dj];exact hW j
   .rintro σ' H2 ⟨o5,L,rfl,g,hL,zL,hW⟩;refine⟨_,_,L,rfl,g,hL,zL,λk=>?_⟩;rw[hW k,d9,Pm.aeY λk hk=>Pm.aX hk]
  .rintro σ' H' ⟨o4,o5,L,rfl,g,hL,zL,hW⟩;have e:L=Pm.tu p r:=by
    refine Pm.uQ (by rw[zL,Pm.tu,Pm.cA]) λk=>?_;rw[Pm.tu,Pm.cX];split
    .rw[hW k,d9,Pm.Jo λk hk=>Pm.aX hk]
    .exact Pm.aX ⋯
   exact⟨_,rfl,q l H' g (e▸hL)⟩
theorem aji(F:Fn K mg "_law_at" Qw ["_law_script","_law_k"]):Jj P w K mg base:=by
 refine F.cal TN (λvs H Q E h=>?_) (λ_ _ _ _ _ H _ Q E hr h=>?_)
 .obtain⟨a,ns,k,rfl,_⟩:=h;rfl
 .obtain⟨a,ns,k,rfl,hS,hl,k0,k1,q⟩:=h;refine⟨_,(ao (eY (cT Aq (pv 1) (cH K B.cJ (ak (pv 0) aj))) (aD (bf (aO K (pv 0) (pv 1)))) fB) (ao (aH 2 TN.nd (pad K aq (aK v_mul (aK v_mul aq (pv 1)) (pv 1)))) (ao (uc (eY (cT tQ (cH K B.cJ (ak (pv 0) aj)) aq) (aD (aH 2 TN.nd (pad K (pv 2) (aK v_mul (aK jg (aO K (pv 0) (aK jg (pv 1) (cH K B.cJ (ak (pv 0) aj)))) aq) (pad K (aK AW (pv 1) (cH K B.cJ (ak (pv 0) aj))) aq))))) fB)) (aD (bf (aK jg (aK v_mul (pv 2) aq) aq)))))),?_⟩;have lL:(ns.map V.int).length=ns.length:=aB _;refine⟨_,rfl,_,rfl,.ref a,ns.length,rfl,.inl ⟨_,hS,lL.symm⟩,_,_,rfl,rfl,_,rfl,?_⟩;refine dM (λc=>⟨_,rfl,_,rfl,_,_,.inl hS,eN (ns:=ns) k0 (dec_true c),q _⟩) (λc=>?_);refine⟨_,rfl,mulR ⋯ ⋯,_,rfl,mulR ⋯ ⋯,?_⟩;refine qO.by (λσ' H'=>∃x:Int,σ'=[some (.ref a),some (.int k),some (.int x)]/\H'=H) (λNN lF=>?_) ?_
  .refine⟨_,rfl,.ref a,ns.length,rfl,.inl ⟨_,hS,lL.symm⟩,_,_,rfl,rfl,_,rfl,?_⟩;refine dM (λc2=>?_) (λc2=>lF _ _ ⟨_,rfl,rfl⟩);have c2':(0:Int)<(ns.length:Int):=by have:=dec_true c2;omega
   have e0:=pX k c2';have e1:=pQ k c2';have d0:0<=k/(ns.length:Int):=Int.ediv_nonneg k0 ⋯;have d1:k/(ns.length:Int)<=k:=Int.ediv_le_self _ k0;refine⟨_,rfl,_,rfl,_,rfl,_,rfl,.ref a,ns.length,rfl,.inl ⟨_,hS,lL.symm⟩,_,_,rfl,rfl,c2',_,_,.inl hS,eN (ns:=ns) e0 e1,_,_,rfl,rfl,(∅:(0:Int)<1000133),?_⟩;refine⟨_,rfl,_,rfl,.ref a,ns.length,rfl,.inl ⟨_,hS,lL.symm⟩,_,_,rfl,rfl,⟨c2',(⋯:(ns.length:Int)<1073741824)⟩,mulR ⋯ ⋯,?_⟩;exact lF _ _ ⟨_,rfl,rfl⟩
  rintro _ _ ⟨x,rfl,rfl⟩;exact⟨_,rfl,mulR ∅ ∅,_,_,rfl,rfl,(∅:(0:Int)<2147483647),q _⟩
theorem ai0(F:Fn K mg "_law_roots" Va ["_law_script","_law_at_here","_law_most","_law_wide"])(oM:Jj P w K mg base):aga P w K mg base:=by
 refine F.cal yx (λvs H Q E h=>?_) (λ_ _ _ _ _ H _ Q E hr h=>?_)
 .obtain⟨a,ns,hh,rfl,_⟩:=h;rfl
 .obtain⟨a,ns,hh,rfl,hS,hl,MR,hh1,q⟩:=h;refine⟨_,(ao (gM (i:=4) yx.nd rfl (fM rfl) SR) (ao (gk PassesOwn.never rfl (iC rfl B.gG (fK (aK jg (aJ oM hr (ak (pv 0) (ak (pv 1) aj))) aq) aj)) (bD 5 yx.nd) (ao (aH 6 yx.nd (aJ oM hr (ak (pv 0) (fK (pad K (pad K (pv 1) aq) (pv 5)) aj)))) (ao (aH 7 yx.nd (aK dI (aK jg (pv 6) (pad K (aK v_mul aq (pv 3)) aq)) (pv 3))) (ao (aH 8 yx.nd (pad K aq (aK jg (aK AW (pv 6) (pad K (aK v_mul aq (pv 3)) aq)) aq))) (aD (uc (eY (PW.pt (Lh (Qu (ao5 hr.hu (pv 7) (pv 4))) (K8 (cT Nv (pad K (jy (PJ K rfl) rfl B.QW boot_sum (aL (Zc (fY (sc:=ap2) (N:=["_law_one","_law_found"]) (ix:=[none,some 4]) dX rfl (Lj (pv 4)) (λcl C s₀ H₀ ex=>⟨(bD 0 dH),eO,(FJ hr.hu (pv 1) (pv 0) (λ_ _=>rfl))⟩))) aj)) (pv 8)) (pv 2))))) (aD (Tv hr.hu (pv 4) (pv 7) (pv 8) rfl)) fB))))))) (aD (bf (jy av7 rfl B.agL ab2 (aL (Zc (fY (sc:=asd) (N:=["_law_root","_law_found"]) (ix:=[none,some 4]) dX rfl (Lj (pv 4)) (λcl C s₀ H₀ ex=>⟨(bD 0 dH),eO,(gh (ak (pv 0) (aL (FJ hr.hu (pv 1) (pv 0) (λ_ _=>rfl)) aj)))⟩))) aj)))))),?_⟩;refineλd hd=>?_;have gd:=Same.new hd (.dK []);refine⟨_,rfl,_,rfl,a,ns,hh,rfl,gd.seq hS,hl,MR,⋯,λc0=>?_⟩;have m0:=pX c0 (show(0:Int)<5 by decide);have m1:=pQ c0 (show(0:Int)<5 by decide);refine⟨_,_,rfl,rfl,(∅:(0:Int)<5),?_⟩;obtain⟨n,en5⟩:∃n,n=c0%5:=⟨_,rfl⟩;rw[<-en5]at m0 m1⊢;refine⟨n,rfl,⋯,⋯,?_⟩;refine lG (lo:=0) (n:=n.toNat) (Yk H a d hh) ⟨_,_,_,_,[],rfl,gd,aC,⟨.nil,λx hx=>absurd hx gK,∅⟩,aN _⟩ ?_ ?_
  .rintro i σ' H1 hi ⟨o5,o6,o7,o8,M',rfl,g1,hD,hM,hz⟩;refine⟨_,rfl,_,rfl,_,rfl,a,ns,hh+1+(0+(i:Int)),rfl,g1.seq hS,hl,⋯,⋯,λc=>?_⟩;refine⟨_,rfl,_,rfl,mulL ∅ ∅,_,_,rfl,rfl,(∅:(0:Int)<9),_,rfl,_,_,rfl,rfl,?_⟩;refine⟨_,rfl,_,rfl,mulL ∅ ∅,_,_,rfl,rfl,⟨(∅:(0:Int)<9),(∅:(9:Int)<1073741824)⟩,_,_,rfl,rfl,(∅:(0:Int)<3),?_⟩;have r0:=pX c (show(0:Int)<9 by decide);have r1:=pQ c (show(0:Int)<9 by decide);have s0:=pX (c/9) (show(0:Int)<3 by decide);have s1:=pQ (c/9) (show(0:Int)<3 by decide);obtain⟨r,er⟩:∃r:Int,r=c%9-4:=⟨_,rfl⟩;obtain⟨m,em⟩:∃m:Nat,(m:Int)=1+c/9%3:=⟨(1+c/9%3).toNat,⋯⟩;have e7:c%(2*4+1)-4=r:=er.symm;have e8:1+c/(2*4+1)%3=(m:Int):=em.symm;rw[e7];change iD 8 (V.int (1+c/(2*4+1)%3)) _ _ _;rw[e8];refine qO.by (Yk H a d hh (i+1)) (λNN lF=>?_) λ_ _ z=>z;refine⟨_,rfl,_,rfl,d,_,rfl,oE.k (k:= .inl r) hD,_,rfl,?_⟩;by_cases cr:r∈M'.map (·.1)
   .rw[show(!(dU (cU M') (.inl r)).isSome)=false by rw[atX hM.nd cr];rfl];exact kY (kY (lF _ _ ⟨_,_,_,_,M',rfl,g1,hD,hM,⋯⟩))
   .rw[show(!(dU (cU M') (.inl r)).isSome)=true by rw[agQ cr];rfl];refine qU ?_;refine⟨d,cU M',hD,λo=>?_⟩;have hf:(upd H1 d (.dw o (.dK (cU M')))) d=some (.dw o (.dK (cU M'))):=aC;refine⟨_,rfl,d,o,cU M',rfl,hf,?_⟩;refine qT (VG hf) (by rw[aB,Rr];exact gC (dZ ⋯)) rfl (λ_=>true) (λx=>match x with | .int k=>(dU (cU M') (.inl k)).getD .non|_=> .non) ?_ ?_ ?_
    .intro H2 x g2 hx k hk;exact hk
    .intro H2 x g2 hx _ k hk;obtain⟨kv,hkv,rfl⟩:=bY.mp hx;obtain⟨y,hy,rfl⟩:=bY.mp hkv;refine⟨_,rfl,_,rfl,d,.int (y.2:Int),rfl,.inl ⟨cU M',.inl y.1,.inr ⟨o,g2 _ _ hf⟩,rfl,(wg hM.nd hy).symm⟩,?_⟩;have e:(match(kV (.inl y.1:Key))with | .int k=>(dU (cU M') (.inl k)).getD .non|_=>V.non) = .int (y.2:Int):=by
      show(dU (cU M') (.inl y.1)).getD .non=_;rw[wg hM.nd hy];rfl
     rw[<-e];exact hk
    intro D hD';have Mt:D≠d:=λz=>by rw[z,aC]at hD';cases hD'
    have el:((((cU M').map λkv=>kV kv.1).filter λ_=>true).map λx=>match x with | .int k=>(dU (cU M') (.inl k)).getD .non|_=>V.non)=(M'.map λx=>(x.2:Int)).map V.int:=by
     rw[sW.mpr (by simp)];unfold cU;rw[cR,cR,cR];refine lJ λy hy=>?_;show(dU (cU M') (.inl y.1)).getD .non = .int (y.2:Int);rw[wg hM.nd hy];rfl
    rw[el];have gf:Same (upd H1 d (.dw o (.dK (cU M')))) (upd (upd H1 d (.dw o (.dK (cU M')))) D (.lst ((M'.map λx=>(x.2:Int)).map V.int))):=Same.new hD' _;refine⟨gf _ _ hf,?_⟩;have g2:=Same.Lr hD gf;have hS2:(upd (upd (upd H1 d (.dw o (.dK (cU M')))) D (.lst ((M'.map λx=>(x.2:Int)).map V.int))) d (.dK (cU M'))) D=some (.lst ((M'.map λx=>(x.2:Int)).map V.int)):=by rw[bI Mt,aC]
    generalize upd (upd (upd H1 d (.dw o (.dK (cU M')))) D (.lst ((M'.map λx=>(x.2:Int)).map V.int))) d (.dK (cU M'))=H2 at g2 hS2;refine⟨D,_,rfl,au.of hS2,?_⟩;rw[ayI];refine⟨_,rfl,_,rfl,_,_,rfl,rfl,_,rfl,?_⟩;have hD2:=g2 _ _ hD;refine dM (λcc=>?_) (λcc=>lF _ _ ⟨_,_,_,_,M',rfl,g1.trans g2,hD2,hM,⋯⟩);have cc':(Pm.many M':Int)+(m:Int)<=5:=dec_true cc;refine⟨_,rfl,_,rfl,_,rfl,d,_,rfl,xJ.k (k:= .inl r) hD2 (by rw[Rr];exact dZ ⋯),lF _ _ ?_⟩;refine⟨_,_,_,_,M'++[(r,m)],rfl,(g1.trans g2).upd hd _,?_,⟨?_,λx hx=>?_,by rw[Vc];show Pm.many M'+m<=5;omega⟩,by rw[dW];show M'.length+1<=_;omega⟩
    .rw[aC,apq cr]
    .rw[fZ];exact M7.mpr ⟨hM.nd,DQ ..,λx hx y hy=>λz=>cr (by have hy':y=r:=eE.mp hy;rw[<-hy',<-z];exact hx)⟩
    .rcases fP.mp hx with hx|hx
     .exact hM.lo x hx
     .rw[eE.mp hx];exact⟨by show 1<=m;omega,by show m<=3;omega,by show -4<=r;omega,by show r<=4;omega⟩
  .rintro σ' H1 ⟨o5,o6,o7,o8,M',rfl,g1,hD,hM,hz⟩;refine⟨d,cU M',hD,λo=>?_⟩;have hf:(upd H1 d (.dw o (.dK (cU M')))) d=some (.dw o (.dK (cU M'))):=aC;refine⟨_,rfl,d,o,cU M',rfl,hf,?_⟩;refine alV (VG hf) (by rw[aB,Rr];omega) rfl (λx=>match x with | .int k=>[k,match dU (cU M') (.inl k)with|some (.int m)=>m|_=>0]|_=>[]) ?_ ?_
   .intro H2 x g2 hx k hk;obtain⟨kv,hkv,rfl⟩:=bY.mp hx;obtain⟨y,hy,rfl⟩:=bY.mp hkv;refine⟨_,rfl,_,rfl,_,rfl,d,.int (y.2:Int),rfl,.inl ⟨cU M',.inl y.1,.inr ⟨o,g2 _ _ hf⟩,rfl,(wg hM.nd hy).symm⟩,(by show 2<=sizeLine;decide),λt ht=>?_⟩;refine hk t _ (Same.new ht _) ?_;rw[aC];show _=some (HO.tup ([y.1,match dU (cU M') (.inl y.1)with|some (.int m)=>m|_=>0].map V.int))
    rw[wg hM.nd hy];rfl
   intro D H2 ys hD' g2 hl' hT;have eM:(((cU M').map λkv=>kV kv.1).map λx=>match x with | .int k=>[k,match dU (cU M') (.inl k)with|some (.int m)=>m|_=>0]|_=>([]:List Int))=M'.map Pm.gw:=by
    unfold cU;rw[cR,cR];refine lJ λy hy=>?_;show[y.1,match dU (cU M') (.inl y.1)with|some (.int m)=>m|_=>0]=Pm.gw y
    rw[wg hM.nd hy];rfl
   rw[eM]at hT;have Mt:D≠d:=λz=>by rw[z,aC]at hD';cases hD'
   refine⟨g2 _ _ hf,?_⟩;have g3:=Same.Lr hD g2;have hl2:(upd H2 d (.dK (cU M'))) D=some (.lst ys):=by rw[bI Mt];exact hl'
   have hT2:cO (upd H2 d (.dK (cU M'))) ys (M'.map Pm.gw):=hT.up λb ts e=>by rw[bI λz=>by rw[z,g2 _ _ hf]at e;cases e];exact e
   generalize upd H2 d (.dK (cU M'))=H3 at g3 hl2 hT2;have en:((M'.map λx=>(x.1,(x.2:Int))).map (·.1))=M'.map (·.1):=by rw[cR];rfl
   refine⟨D,ys,M'.map (λx=>(x.1,(x.2:Int))),rfl,hl2,hT2.prs,by rw[en];exact hM.nd,by rw[aB];omega,λl' π hp hw hn=>?_⟩;rw[aB]at hp;have hin:∀i∈π,i<M'.length:=λi hi=>iT.mp (hp.mem_iff.mp hi);have e1:(π.map λi=>(M'.map Pm.gw).getD i [])=(π.map λi=>M'.getD i (0,0)).map Pm.gw:=by
    rw[cR];exact lJ λi hi=>avN (hin i hi)
   have e3:(π.map λi=>M'.getD i (0,0)).Perm M':=by
    have h2:=hp.map λi=>M'.getD i (0,0)
    rwa [am2]at h2
   have J6:=hT2.pick (π:=π) (λi hi=>by rw[aB];exact hin i hi);rw[e1]at J6;have g4:=Same.new hn (.lst (π.map λi=>ys.getD i V.non));refine q l' _ _ _ ((g1.trans g3).trans g4) aC (J6.same g4) ⟨?_,λx hx=>hM.lo x (e3.mem_iff.mp hx),?_⟩ (by rw[e3.length_eq];omega)
   .exact(e3.map _).nodup_iff.mpr hM.nd
   .rw[auX e3];exact hM.all
theorem apU(F:Fn K mg "_law_product" RW ["_law_roots_here"])(TV:Wk P w K mg base):acL P w K mg base:=by
 refine F.cal zX (λvs H Q E h=>?_) (λ_ _ _ _ _ H _ Q E hr h=>?_)
 .obtain⟨l,xs,M',rfl,_⟩:=h;rfl
 .obtain⟨l,xs,M',rfl,hL,hT,zM,zA,bM,q⟩:=h;refine⟨_,(ao (aH 1 zX.nd (gJ (fu aq aj))) (ao (gk PassesOwn.never rfl (fH K (pv 0)) (BJ K (n:=2) rfl (rR (bD 2 zX.nd) (rR (bD 3 zX.nd) Dz))) (aD (gk PassesOwn.never rfl (iC rfl B.gG (ak (pv 3) aj)) (bD 4 zX.nd) (aD (aH 1 zX.nd (aJ TV hr (ak (pv 1) (aiJ (gJ (fK (aK dI aq (pv 2)) (fu aq aj))) aj)))))))) (aD (bf (pv 1))))),?_⟩;refine⟨(by show 1<=sizeLine;decide),λl0 h0=>?_⟩;have g0:=Same.new h0 (.lst [.int 1]);have hL0:=g0 _ _ hL;refine⟨_,rfl,l,rfl,.inl ⟨⟨_,au.of hL0⟩,?_⟩⟩;refine GN (wG (au.of hL0)) (λi σ' H'=>∃(lp:Addr) (o2 o3 o4:Option V),σ'=[some (.ref l),some (.ref lp),o2,o3,o4]/\Same (upd H l0 (.lst [.int 1])) H'/\H' lp=some (.lst ((Pm.jV (M'.take i) [1]).map V.int))/\∀z∈Pm.jV (M'.take i) [1],Rm.Bd (1+50*Pm.many (M'.take i)) z)
   ⟨l0,_,_,_,rfl,Same.refl _,aC,λz hz=>by rw[eE.mp hz];exact(Rm.Bd.of (n:=1) ∅ ∅).mono ⋯⟩ (λi σ' H' ⟨_,_,_,_,_,g,_⟩=>g) ?_ ?_
  .rintro i x σ' H1 hx ⟨lp,o2,o3,o4,rfl,g1,hp,bz⟩;obtain⟨t,p,rfl,ep,ht⟩:=hT.get hx;have ht1:=g1 _ _ (g0 _ _ ht);rw[List.getElem?_map]at ep;obtain⟨y,ey,rfl⟩:=Xx.mp ep;have ZJ:y∈M':=List.mem_of_getElem? ey;have et:M'.take (i+1)=M'.take i++[y]:=by rw[pL,ey];rfl
   have em:Pm.many (M'.take (i+1))=Pm.many (M'.take i)+y.2:=by rw[et,Vc]
   have el:Pm.many (M'.take (i+1))<=Pm.many M':=by
    have:Pm.many M'=Pm.many (M'.take (i+1))+Pm.many (M'.drop (i+1)):=by
     unfold Pm.many;rw[<-CZ,<-fZ,Ie]
    omega
   obtain⟨mA,Tj⟩:=Pm.IB (M'.take i) Pm.BD;replace Tj:(Pm.jV (M'.take i) [1]).length=1+Pm.many (M'.take i):=Tj;refine⟨t,_,rfl,aA.of ht1,rfl,_,_,rfl,_,_,rfl,rfl,?_⟩;refine⟨_,rfl,(y.2:Int),rfl,⋯,⋯,?_⟩;rw[et,Zu,Vc];generalize Pm.jV (M'.take i) [1]=AA at hp bz mA Tj;refine lG (lo:=0) (n:=(y.2:Int).toNat) (λj σ' H'=>∃(lp:Addr) (o4:Option V),σ'=[some (.ref l),some (.ref lp),some (.int y.1),some (.int (y.2:Int)),o4]/\Same (upd H l0 (.lst [.int 1])) H'/\H' lp=some (.lst ((Pm.cY y.1 j AA).map V.int))/\∀z∈Pm.cY y.1 j AA,Rm.Bd (1+50*(Pm.many (M'.take i)+j)) z)
    ⟨lp,_,rfl,g1,hp,bz⟩ ?_ ?_
   .rintro j σ' H2 hj ⟨lp,o4,rfl,g2,hp,bz⟩;have hj':j<y.2:=⋯;obtain⟨mJ,zJ⟩:=Pm.Kd (r:=y.1) mA j;refine⟨_,rfl,_,rfl,_,_,rfl,rfl,(by show 2<=sizeLine;decide),λl1 h1=>?_⟩;have g3:=Same.new h1 (.lst [.int (0-y.1),.int 1]);refine⟨lp,l1,Pm.cY y.1 j AA,Pm.lin y.1,rfl,g3 _ _ hp,aC,mJ.pos,⋯,(by show 1<=2;decide),(by show 2<=10;decide),λz hz=>(bz z hz).mono ⋯,λz hz=>?_,λl2 H3 g4 h2=>?_⟩
    .have hb:=bM y ZJ;rcases bJ.mp hz with e|hz
     .have hb2:Rm.Bd 40 (0-y.1):=by unfold Rm.Bd at hb ⊢;rw[show(0-y.1).natAbs=y.1.natAbs by omega];exact hb
      rw[e];exact hb2.mono ∅
     .rw[eE.mp hz];exact(Rm.Bd.of (n:=1) ∅ ∅).mono ⋯
    .have ee:=(Pm.YD mJ (Pm.Vp y.1)).1;rw[ee]at h2;exact⟨l2,_,rfl,(g2.trans g3).trans g4,h2,λz hz=>(asf bz (bM y ZJ) z hz).mono ⋯⟩
   .rintro σ' H2 ⟨lp,o4,rfl,g2,hp,bz⟩;rw[d9]at hp bz;exact⟨lp,_,_,_,rfl,g2,hp,bz⟩
  .rintro σ' H1 ⟨lp,o2,o3,o4,rfl,g1,hp,bz⟩;have e:=hT.len;rw[aB]at e;rw[e,mF]at hp bz;refine⟨_,rfl,q lp H1 (g0.trans g1) hp λz hz=>(bz z hz).mono ⋯⟩
theorem awi(F:Fn K mg "_law_closed_row" PN ["_law_script","_law_at_here"])(Pk:aga P w K mg base)(Vj:acL P w K mg base)(oM:Jj P w K mg base):acy P w K mg base:=by
 refine F.cal xM (λvs H Q E h=>?_) (λ_ _ _ _ _ H _ Q E hr h=>?_)
 .obtain⟨a,ns,hh,rfl,_⟩:=h;rfl
 .obtain⟨a,ns,hh,rfl,hS,hl,MR,hh1,q⟩:=h;refine⟨_,(ao (uG (i:=2) (hN:=xM.nd) (hi':=rfl) (hx:=(pC rfl)) (sc:=ahK) (N:=["_law_one"]) (ix:=[none]) dX rfl (fH K (aJ Pk hr (ak (pv 0) (ak (pv 1) (fu aq (fu aq aj)))))) (λcl C s₀ H₀ ex=>⟨(bD 0 dH),(aad (cT (ni K hr) (aO K (pv 0) aq) aq)),(pv 0)⟩)) (ao (aH 3 xM.nd (aJ Vj hr (ak (pv 2) aj))) (ao (aH 4 xM.nd (lB (pF K) rfl B.oh boot_tuple (aL (fY (sc:=auP) (N:=["_law_number"]) (ix:=[none]) dX rfl (abX K rfl B.QZ (aL (wK (wD K) (pv 3) yX (uL (G9 FN aq))) aj)) (λcl C s₀ H₀ ex=>⟨(bD 0 dH),eO,(aK dI aq (pv 0))⟩)) aj))) (ao (aH 5 xM.nd (gJ aj)) (ao (gk PassesOwn.never rfl (iC rfl B.gG (aL (cH K B.cJ (ak (pv 4) aj)) aj)) (bD 6 xM.nd) (ao (aH 7 xM.nd (aJ oM hr (ak (pv 0) (fK (pad K (pad K (pv 1) aq) (pv 6)) aj)))) (aD (kZ (tX K (pv 5) (aO K (gJ (fK (aK dI (aK jg (pv 7) aq) aq) (fK (aK dI (aK jg (pv 7) (aK v_mul aq (aK abR aq aq))) (aK abR aq aq)) aj))) (aK AW (aK jg (aK AW (pv 7) aq) aq) aq))))))) (aD (bf (gh (fu aq (ak (pv 4) (aL (lB (pF K) rfl B.oh boot_tuple (ak (pv 5) aj)) aj))))))))))),?_⟩;refine⟨_,rfl,_,rfl,a,ns,hh,rfl,hS,hl,MR,hh1,λl xs M1 H1 g1 h1 hT hM zK=>?_⟩;have lxs:=hT.len;rw[aB]at lxs;refine⟨l,rfl,.inl ⟨⟨_,au.of h1⟩,?_⟩⟩;refine amn h1 hT ⋯ rfl (λc=>!decide (c.headD 0=0)) ?_ ?_ ?_
  .intro H2 t c g2 hc ht kk hkk;obtain⟨x,_,rfl⟩:=bY.mp hc;exact⟨_,rfl,_,_,.inr (aA.of ht),rfl,_,rfl,hkk _ (Same.refl _)⟩
  .intro H2 t k hk;exact⟨_,rfl,hk⟩
  intro D H2 ys hD g2 h2 hT2;rw[alj]at hT2;have hm5:Pm.many (kE M1)<=5:=fX (Oz _ M1) hM.all;have Ed:(kE M1).length<=4:=fX (Qx _ _) zK;have G:=hM.g48;refine⟨_,rfl,D,ys,kE M1,rfl,h2,hT2,⋯,⋯,λx hx=>?_,λlp H3 g3 h3 _=>?_⟩
  .have:=hM.lo x (pA.mp hx).1;exact(Rm.Bd.of (n:=3) ⋯ ⋯).mono ∅
  rw[ayd]at h3;generalize Pm.RP (kE M1) [1]=P8 at h3 G;have hN:=G.short;have lP:P8.length<=6:=by have:=Gg P8;omega
  refine⟨_,rfl,1,rfl,_,rfl,.inl ⟨_,au.of h3,λl1 hl1=>?_⟩⟩;have g4:=Same.new hl1 (.lst (gU (P8.map V.int) none (some (-1))));have h4:(upd H3 l1 (.lst (gU (P8.map V.int) none (some (-1))))) l1=some (.lst (gU (P8.map V.int) none (some (-1)))):=aC;generalize upd H3 l1 (.lst (gU (P8.map V.int) none (some (-1))))=H4 at g4 h4;rw[aiY]at h4;refine⟨l1,_,rfl,au.of h4,?_⟩;refine qT (aeU (au.of h4)) (by rw[oY,aB,vB];exact fX (show P8.length-1<=1000 by omega) ∅) rfl (λ_=>true) adz (λ_ _ _ _ _ hk=>hk) (λ_ x _ hx _ k hk=>by
   obtain⟨y,hy,rfl⟩:=bY.mp (qK.mp hx);exact⟨_,rfl,_,_,rfl,rfl,hk⟩) λD2 hD2=>?_
  rw[aud];generalize u0 P8=rl at G hN⊢;have g5:=Same.new hD2 (.lst (rl.map V.int));refine⟨D2,_,rfl,.inl ⟨au.of aC,λt ht=>?_⟩⟩;have g6:=Same.new ht (.tup (rl.map V.int));have h6:(upd (upd H4 D2 (.lst (rl.map V.int))) t (.tup (rl.map V.int))) t=some (.tup (rl.map V.int)):=aC;have SQ:=g1.trans (g2.trans (g3.trans (g4.trans (g5.trans g6))));generalize upd (upd H4 D2 (.lst (rl.map V.int))) t (.tup (rl.map V.int))=H6 at h6 SQ;have lR:(rl.map V.int).length=rl.length:=aB _;refine⟨cD _,λls hls=>?_⟩;have g7:=Same.new hls (.lst []);have ayJ:=SQ.free hls;refine⟨_,rfl,.ref t,rl.length,rfl,.inr ⟨_,aA.of (g7 _ _ h6),lR.symm⟩,?_⟩;refine⟨(rl.length:Int),rfl,(⋯:-(2^62)<=(rl.length:Int)),(⋯:(rl.length:Int)<2^62),?_⟩;rw[d9];refine lG (lo:=0) (n:=rl.length) (λi σ' H'=>∃(o6 o7:Option V) (ss:List Int),σ'=[some (.ref a),some (.int hh),some (.ref D),some (.ref lp),some (.ref t),some (.ref ls),o6,o7]/\Same H H'/\H' t=some (.tup (rl.map V.int))/\H' ls=some (.lst (ss.map V.int))/\ss.length=i/\∀x∈ss,Rm.Bd 30 x)
   ⟨_,_,[],rfl,SQ.trans g7,g7 _ _ h6,aC,rfl,λx hx=>absurd hx gK⟩ ?_ ?_
  .rintro i σ' H8 hi ⟨o6,o7,ss,rfl,g8,CG,hL8,B3,SW⟩;refine⟨_,rfl,_,rfl,_,rfl,a,ns,hh+6+(0+(i:Int)),rfl,g8.seq hS,hl,⋯,⋯,λc=>?_⟩;refine⟨_,rfl,.inl ⟨rfl,_,au.of hL8⟩,?_⟩;refine⟨_,rfl,_,_,rfl,rfl,(∅:(0:Int)<19),_,_,rfl,rfl,?_⟩;refine⟨_,rfl,_,_,rfl,rfl,⟨∅,∅,∅⟩,mulR ∅ ∅,_,_,rfl,rfl,(∅:(0:Int)<2*10^(9:Int).toNat),?_⟩;refine⟨_,_,rfl,rfl,⟨∅,∅,∅⟩,_,_,rfl,rfl,(by show 2<=sizeLine;decide),λlz hlz=>?_⟩;have g9:=Same.new hlz (.lst [.int (c%19-9),.int (c%(2*10^(9:Int).toNat)-10^(9:Int).toNat)]);refine⟨_,rfl,_,_,rfl,rfl,⟨∅,∅⟩,_,_,rfl,rfl,(∅:(0:Int)<5),_,_,rfl,rfl,⟨∅,∅⟩,?_⟩;have d0:=pX (c/19) (show(0:Int)<5 by decide);have d1:=pQ (c/19) (show(0:Int)<5 by decide);have e0:=pX c (show(0:Int)<19 by decide);have e1:=pQ c (show(0:Int)<19 by decide);have f0:=pX c (show(0:Int)<2000000000 by decide);have f1:=pQ c (show(0:Int)<2000000000 by decide);refine⟨_,_,.inl (au.of (xs:=[c%19-9,c%2000000000-1000000000].map V.int) aC),eN (ns:=[c%19-9,c%2000000000-1000000000]) (⋯:(0:Int)<=c/19%5/4) (by show c/19%5/4<2;omega),?_⟩;have bx:Rm.Bd 30 (([c%19-9,c%2000000000-1000000000]:List Int).getD (c/19%5/4).toNat 0):=Rm.Bd.getD (λx hx=>by
    rcases bJ.mp hx with e|hx
    .exact(Rm.Bd.of (n:=5) ⋯ ⋯).mono ∅
    .rw[eE.mp hx];exact Rm.Bd.of (n:=30) ⋯ ⋯) _
   generalize ([c%19-9,c%2000000000-1000000000]:List Int).getD (c/19%5/4).toNat 0=x at bx;refine⟨ls,_,_,rfl,rfl,g9 _ _ hL8,by rw[aB];exact dZ ⋯,?_⟩;have nt:t≠ls:=λz=>by rw[z,hL8]at CG;cases CG
   refine⟨_,_,ss++[x],rfl,(g8.trans g9).upd ayJ _,by rw[bI nt];exact g9 _ _ CG,by rw[aC,fZ];rfl,by rw[dW,B3];rfl,λy hy=>?_⟩;rcases fP.mp hy with hy|hy
   .exact SW y hy
   .rw[eE.mp hy];exact bx
  .rintro σ' H8 ⟨o6,o7,ss,rfl,g8,CG,hL8,B3,SW⟩;refine⟨_,rfl,_,rfl,ls,_,rfl,.inl ⟨au.of hL8,λt5 ht5=>?_⟩⟩;have k5:=Same.new ht5 (.tup (ss.map V.int));refine⟨(by show 3<=sizeLine;decide),λt6 Bx=>?_⟩;have k6:=Same.new Bx (.tup [.int 0,.ref t,.ref t5]);exact q (.ref t6) rl ss _ (g8.trans (k5.trans k6)) ⟨t6,t,t5,rfl,aC,(k5.trans k6) _ _ CG,k6 _ _ aC⟩ G B3.symm SW
theorem alr(F:Fn K mg "_law_shared" MD ["_law_one","_law_other"]):abp P w K mg base:=by
 refine F.cal JV (λvs H Q E h=>?_) (λ_ _ _ _ _ H _ Q E hr h=>?_)
 .obtain⟨x,y,rfl,_⟩:=h;rfl
 .obtain⟨x,y,rfl,q⟩:=h;refine⟨_,(ao (aH 0 JV.nd (jy wQ rfl B.xZ boot_abs (ak (pv 0) aj))) (ao (aH 1 JV.nd (jy wQ rfl B.xZ boot_abs (ak (pv 1) aj))) (ao (oX PassesOwn.never (cT tQ (pv 1) aq) (aD (alJ (i:=0) (j:=1) rfl JV.nd rfl rfl ∅ rfl rfl (ak (pv 1) (fK (aK jg (pv 0) (pv 1)) aj)) (by rfl)))) (aD (bf (pv 0)))))),?_⟩;refine⟨_,rfl,x,rfl,?_⟩;refine⟨_,rfl,y,rfl,?_⟩;rw[CY,CY];refine⟨λt σ' H'=>∃(g w:Nat),w=t/\j6 g w=j6 x.natAbs y.natAbs/\σ'=[some (.int g),some (.int w)]/\H=H',⟨_,x.natAbs,y.natAbs,rfl,rfl,rfl,rfl⟩,?_⟩;rintro t σ' H' ⟨g,w,rfl,hg,rfl,rfl⟩;refine⟨_,rfl,_,_,rfl,rfl,_,rfl,?_⟩;refine dM (λc=>?_) (λc=>?_)
  .have hw:0<w:=by have:=dec_true c;omega
   refine⟨_,λ_ _ z=>z,?_⟩;refine⟨_,rfl,_,rfl,_,rfl,_,_,rfl,rfl,(⋯:(0:Int)<(w:Int)),?_⟩;refine⟨_,_,rfl,?_⟩;refine⟨g%w,Nat.mod_lt _ hw,w,g%w,rfl,?_,?_,rfl⟩
   .rw[<-hg,Iv w,<-Nat.gcd_rec,Iv]
   .rw[Br];rfl
  .have hw:w=0:=by have:=dec_false c;omega
   subst hw;rw[Yu]at hg;rw[<-hg]at q;exact⟨_,rfl,q⟩
theorem aqv(F:Fn K mg "_law_lowest" Og ["_law_tops","_law_bottom"])(Mr:abp P w K mg base):SD P w K mg base:=by
 refine F.cal uY (λvs H Q E h=>?_) (λ_ _ _ _ _ H _ Q E hr h=>?_)
 .obtain⟨d,kvs,T,bot,f,rfl,_⟩:=h;rfl
 .obtain⟨d,kvs,T,bot,f',rfl,hd,hK,hT,b1,bb,hs,q⟩:=h;refine⟨_,(ao (gM (i:=2) uY.nd rfl (fM rfl) (pv 1)) (ao (arT (gk PassesOwn.never rfl (Lj (pv 0)) (bD 3 uY.nd) (aD (gk PassesOwn.never rfl (fH K (FJ hr.hu (pv 0) (pv 3) (λ_ _=>rfl))) (bD 4 uY.nd) (aD (gM (i:=2) uY.nd rfl (fM rfl) (aJ Mr hr (ak (pv 2) (ak (pv 4) aj))))))))) (ao (aH 5 uY.nd (gJ aj)) (ao (gk PassesOwn.never rfl (fH K (jy (apj rfl) rfl B.agL ab2 (ak (pv 0) aj))) (bD 3 uY.nd) (ao (uG (i:=6) (hN:=uY.nd) (hi':=rfl) (hx:=(pC rfl)) (sc:=ahs) (N:=["_law_top","_law_part"]) (ix:=[none,some 2]) dX rfl (fH K (FJ hr.hu (pv 0) (pv 3) (λ_ _=>rfl))) (λcl C s₀ H₀ ex=>⟨(bD 0 dH),eO,(aK Dj (pv 0) (pv 1))⟩)) (ao (uc (oX PassesOwn.never (PW.pt (Lh (cT (ni K hr) (pv 6) (gJ aj)) (K8 (cT (jh K hr) (aO K (pv 6) (G9 FN aq)) aq)))) (aD (kZ (aic K (pv 6)))))) (aD (eY (cT (ni K hr) (pv 6) (gJ aj)) (aD (kZ (tX K (pv 5) (gh (ak (pv 3) (ak (pv 6) aj)))))) fB))))) (aD (bf (gh (fK (aK Dj (pv 1) (pv 2)) (ak (pv 5) aj))))))))),?_⟩;have lk:=hK.len;have few:=hT.few;have nb:((bot.natAbs:Nat):Int)=bot:=⋯;refine⟨_,rfl,?_⟩;refine⟨d,kvs,hd,λo=>?_⟩;obtain⟨H1,e1⟩:∃H1,H1=upd H d (.dw o (.dK kvs)):=⟨_,rfl⟩;have hf:H1 d=some (.dw o (.dK kvs)):=by rw[e1];exact aC
  have Wo:Dk H1 kvs T:=by rw[e1];exact hK.up (MF hd _)
  have Px:Same H (upd H1 d (.dK kvs)):=Same.Lr hd (by rw[<-e1];exact Same.refl _);generalize upd H d (.dw o (.dK kvs))=H1' at e1;subst e1;refine⟨_,rfl,d,o,kvs,rfl,hf,?_⟩;refine GN (VG hf) (λi σ' H'=>∃(o3 o4:Option V),σ'=[some (.ref d),some (.int bot),some (.int (Lm.dg bot.natAbs (Cf.eV (T.take i)):Nat)),o3,o4,none,none]/\H1=H') ⟨_,_,by show _=[some (V.ref d),some (V.int bot),some (V.int ((bot.natAbs:Nat):Int)),_,_,none,none];rw[nb];rfl,rfl⟩ (λi σ' H' ⟨_,_,_,z⟩=>z▸Same.refl _) ?_ ?_
  .rintro i x σ' _ hx ⟨o3,o4,rfl,rfl⟩;obtain⟨kv,ekv,rfl⟩:=HN hx;obtain⟨a,r,ts,rfl,eT,ha⟩:=Wo.get ekv;have hv:dU kvs (.inl r)=some (.ref a):=by
    have:∀{kvs:List (Key×V)},(kvs.map (·.1)).Nodup->∀{p:Key×V},p∈kvs->dU kvs p.1=some p.2:=λ{kvs}=>by
     induction kvs with
     |nil=>intro _ p h;cases h
     |cons x kvs ih=>
      intro hn p h;have hn':x.1∉kvs.map (·.1)/\(kvs.map (·.1)).Nodup:=mV.mp hn;rcases bJ.mp h with rfl|h
      .exact yL rfl
      .rw[wO λz=>hn'.1 (by rw[z];exact iK (f:=(·.1)) h)];exact ih hn'.2 h
    exact this (by rw[Wo.keys];exact uU.mpr (hT.nd.imp λh z=>h (vh z))) (List.mem_of_getElem? ekv)
   refine⟨_,rfl,_,rfl,d,.ref a,rfl,.inl ⟨kvs,.inl r,.inr ⟨o,hf⟩,rfl,hv.symm⟩,a,rfl,.inl ⟨⟨_,au.of ha⟩,?_⟩⟩;refine GN (wG (au.of ha)) (λj σ' H'=>∃(o4:Option V),σ'=[some (.ref d),some (.int bot),some (.int (Lm.dg bot.natAbs (Cf.eV (T.take i)++ts.take j):Nat)),some (.int r),o4,none,none]/\H1=H') ⟨_,by rw[show ts.take 0=[]from rfl,xu];rfl,rfl⟩ (λj σ' H' ⟨_,_,z⟩=>z▸Same.refl _) ?_ ?_
   .rintro j y σ' _ hy ⟨o4,rfl,rfl⟩;obtain⟨rfl,hj⟩:=HJ hy;refine⟨_,rfl,_,rfl,_,_,rfl,some (.int (Pm.co ts j)),?_,rfl⟩;rw[AZ (xs:=ts) (n:=j+1) ⋯ ⋯,fR,<-OJ,Lm.ZF,uM];rfl
   .rintro σ' _ ⟨o4,rfl,rfl⟩;rw[aB,mF];refine⟨some (.int r),o4,?_,rfl⟩;rw[take_one eT];have e2:Cf.eV (T.take i++[(r,ts)])=Cf.eV (T.take i)++ts:=by unfold Cf.eV;rw[List.flatMap_append];show _++(ts++[])=_;rw[xu]
    rw[e2]
  rintro σ' _ ⟨o3,o4,rfl,rfl⟩;rw[aB,rm ⋯];refine⟨hf,?_⟩;have gl:=atN (ts:=Cf.eV T) b1 bb;have F:=@Cf.aio f' bot T;generalize Lm.dg bot.natAbs (Cf.eV T)=g at gl F;have hg0:(0:Int)<=(g:Int):=⋯;generalize upd H1 d (.dK kvs)=H3 at Px;refine⟨cD _,λlp hlp=>?_⟩;have g4:=Same.new hlp (.lst []);have h4:(upd H3 lp (.lst [])) lp=some (.lst []):=aC;generalize upd H3 lp (.lst [])=H4 at g4 h4;have g04:=Px.trans g4;have apK:=Px.free hlp;refine⟨_,rfl,d,kvs,T.map (·.1),rfl,g04 _ _ hd,hK.keys,by rw[aB];omega,λlk ks hp hw hn=>?_⟩;have Fk:=F b1 hT.nd (λp hp=>(hT.ne p hp).1) hs hp hw;have lks:ks.length<=40:=by rw[hp.length_eq,aB];exact few
  have g5:=Same.new hn (.lst (ks.map V.int));have h5:(upd H4 lk (.lst (ks.map V.int))) lk=some (.lst (ks.map V.int)):=aC;generalize upd H4 lk (.lst (ks.map V.int))=H5 at g5 h5;have nlk:lk≠lp:=λz=>by rw[z,h4]at hn;cases hn
  refine⟨lk,rfl,.inl ⟨⟨_,au.of h5⟩,?_⟩⟩;refine xQ (xs:=ks.map V.int) (λi σ' H'=>∃(o3 o4 o6:Option V) (ys:List V),σ'=[some (.ref d),some (.int bot),some (.int (g:Int)),o3,o4,some (.ref lp),o6]/\Same H H'/\H' lk=some (.lst (ks.map V.int))/\H' lp=some (.lst ys)/\eG H' [lp] ys (Cf.lowP T g (ks.take i))/\ys.length<=i) ⟨_,_,_,[],rfl,g04.trans g5,h5,g5 _ _ h4,.nil,aN _⟩ (λi σ' H' ⟨_,_,_,_,_,_,z,_⟩=>au.of z) ?_ ?_
  .rintro i x σ' H6 hx ⟨o3,o4,o6,ys,rfl,g6,G3,D5,JX,ly⟩;obtain⟨rfl,hi⟩:=HJ hx;have et:ks.take (i+1)=ks.take i++[Pm.co ks i]:=by have:=AZ (xs:=ks) (n:=i+1) ⋯ ⋯;rwa [fR]at this
   have hrk:Pm.co ks i∈T.map (·.1):=hp.mem_iff.mp (Pm.tE hi);have hlow:=arV T (g:Int) (ks.take i) (Pm.co ks i);rw[<-et]at hlow;generalize Pm.co ks i=r at hrk hlow;have vl:=ay7 hT r;obtain⟨a,hv,ha⟩:=(hK.val r).resolve_right λz=>z.2.2 hrk;unfold Cf.je at hlow;generalize Cf.dz r T=cs at ha vl hlow;have J0:=g6 _ _ ha;refine⟨_,rfl,_,rfl,d,.ref a,rfl,by have z:=oE.k (k:= .inl r) (g6 _ _ hd);rw[hv]at z;exact z,a,rfl,.inl ⟨⟨_,au.of J0⟩,?_⟩⟩;refine uT J0 ⋯ rfl (λt=>t/(g:Int)) ?_ ?_
   .intro H2 x g2 hx k hk;refine⟨_,rfl,_,rfl,_,_,rfl,rfl,gl,?_⟩;rw[Vw _ hg0];exact hk
   intro D hD;have g7:=Same.new hD (.lst ((cs.map λt=>t/(g:Int)).map V.int));have h7:(upd H6 D (.lst ((cs.map λt=>t/(g:Int)).map V.int))) D=some (.lst ((cs.map λt=>t/(g:Int)).map V.int)):=aC;generalize upd H6 D (.lst ((cs.map λt=>t/(g:Int)).map V.int))=H7 at g7 h7;have lx:(cs.map λt=>t/(g:Int)).length<=40:=by rw[aB];exact vl
   generalize (cs.map λt=>t/(g:Int))=xs at h7 lx hlow;refine qO.by (λσ' H'=>σ'=[some (.ref d),some (.int bot),some (.int (g:Int)),some (.int r),o4,some (.ref lp),some (.ref D)]/\Same H6 H'/\H' D=some (.lst ((Pm.trim xs).map V.int))) (λNN lF=>?_) ?_
   .refine⟨λm σ' H'=>∃n:Nat,m=n/\n<=xs.length/\σ'=[some (.ref d),some (.int bot),some (.int (g:Int)),some (.int r),o4,some (.ref lp),some (.ref D)]/\Same H6 H'/\H' D=some (.lst ((xs.take n).map V.int))/\Pm.trim (xs.take n)=Pm.trim xs,
     ⟨_,xs.length,rfl,aN _,rfl,g7,by rw[mF];exact h7,by rw[mF]⟩,?_⟩
    rintro m σ' H8 ⟨n,e0,hn,rfl,g8,hN,ht⟩;refine⟨_,rfl,cD _,λe he=>?_⟩;have ge:=Same.new he (.lst []);refine Wb (ns:=xs.take n) (ms:=[]) (au.of (ge _ _ hN)) (au.of aC) ⟨_,rfl,?_⟩;have gH:=g8.trans ge;have Az:=ge _ _ hN;generalize upd H8 e (.lst [])=H9 at ge gH Az;by_cases h0:n=0
    .subst h0;rw[List.take_zero,decide_eq_true rfl];exact kY (kY (lF _ _ ⟨rfl,gH,by rw[<-Fq hn ht (.inl rfl)];exact Az⟩))
    .have hne:¬xs.take n=[]:=by
      intro z;have:=congrArg tH z;rw[iZ,M6]at this;omega
     rw[decide_eq_false hne];refine qU ?_;have es:=AZ (xs:=xs) (⋯:0<n) hn;have em:(xs.take n).map V.int=(xs.take (n-1)).map V.int++[.int (xs.getD (n-1) 0)]:=by rw[es,yS]
     refine⟨_,rfl,_,rfl,_,.int (xs.getD (n-1) 0),.inl (au.of Az),(by rw[em];exact aj0 _ _),_,rfl,?_⟩;refine dM (λc2=>?_) (λc2=>lF _ _ ⟨rfl,gH,by rw[<-Fq hn ht (.inr (dec_false c2))];exact Az⟩);refine⟨_,λ_ _ z=>z,?_⟩;refine⟨_,rfl,.inl ⟨rfl,_,au.of Az⟩,D,_,.int (xs.getD (n-1) 0),rfl,rfl,Az,?_,?_⟩
     .rw[em];simp
     .refine⟨n-1,⋯,n-1,rfl,⋯,rfl,gH.upd hD _,?_,aeO ⋯ hn ht (dec_true c2)⟩;rw[aC,em,List.dropLast_concat]
   rintro _ H8 ⟨rfl,g8,hN⟩;generalize Pm.trim xs=zs at hN hlow;refine⟨_,rfl,cD _,λe he=>?_⟩;have ge:=Same.new he (.lst []);have Ah:=g8.trans ge;have Mv:=ge _ _ hN;have hke:=Ah _ _ G3;have hle:=Ah _ _ D5;have Vu:=JX.same Ah;have nD:D≠lp:=λz=>by rw[z,D5]at hD;cases hD
   refine Wb (ns:=zs) (ms:=[]) (au.of Mv) (au.of aC) ⟨_,rfl,?_⟩;generalize upd H8 e (.lst [])=H9 at ge Ah Mv hke hle Vu;by_cases hne:zs=[]
   .rw[decide_eq_true hne];refine kY ⟨_,_,_,ys,rfl,g6.trans Ah,hke,hle,?_,⋯⟩;rw[hlow,if_neg (λz=>z hne),xu];exact Vu
   .rw[decide_eq_false hne];refine qU ?_;refine⟨_,rfl,.inl ⟨rfl,_,au.of hle⟩,_,rfl,_,rfl,(by show 2<=sizeLine;decide),λt2 qx=>?_⟩;have gt:=Same.new qx (.tup [.int r,.ref D]);refine⟨lp,_,_,rfl,rfl,gt _ _ hle,dZ ⋯,?_⟩;refine⟨_,_,_,ys++[.ref t2],rfl,((g6.trans Ah).trans gt).upd apK _,by rw[bI nlk];exact gt _ _ hke,aC,?_,by rw[dW];show ys.length+1<=_;omega⟩;rw[hlow,if_pos hne];exact((Vu.same gt).append (.cons aC (λz=>nD (eE.mp z)) (gt _ _ Mv) .nil)).set (gt _ _ hle) (eE.mpr rfl)
  rintro σ' H6 ⟨o3,o4,o6,ys,rfl,g6,G3,D5,JX,ly⟩;rw[aB,mF]at JX;refine⟨_,rfl,_,rfl,_,_,rfl,rfl,gl,_,rfl,(by show 2<=sizeLine;decide),λt ht=>?_⟩;have gt:=Same.new ht (.tup [.int (bot.fdiv (g:Int)),.ref lp]);rw[Vw _ hg0]at gt⊢;exact q t _ _ _ (g6.trans gt) ⟨lp,ys,[lp],aC,gt _ _ D5,JX.same gt⟩ Fk
theorem aj8(F:Fn K mg "_law_added" Qa ["_law_one","_law_other"])(Ab:SD P w K mg base):W4 P w K mg base:=by
 refine F.cal rF (λvs H Q E h=>?_) (λ_ _ _ _ _ H _ Q E hr h=>?_)
 .obtain⟨t1,t2,b1,b2,ps1,ps2,f1,f2,rfl,_⟩:=h;rfl
 .obtain⟨t1,t2,b1,b2,ps1,ps2,f1,f2,rfl,A1,A2,O1,O2,q⟩:=h;refine⟨_,(ao (aH 2 rF.nd SR) (ao (gk PassesOwn.never rfl (fH K (gJ (D9 (gh (ak (pv 0) (aL (aO K (pv 1) aq) aj))) (D9 (gh (ak (pv 1) (aL (aO K (pv 0) aq) aj))) aj)))) (BJ K (n:=2) rfl (rR (bD 3 rF.nd) (rR (Iz (i:=4) rF.nd rfl (fM rfl)) Dz))) (aD (gk PassesOwn.never rfl (fH K (aO K (pv 3) aq)) (BJ K (n:=2) rfl (rR (bD 5 rF.nd) (rR (bD 6 rF.nd) Dz))) (ao (aH 7 rF.nd (awU hr.hu (pv 2) (pv 5) (gJ aj) ⟨rfl,rfl,rfl,rfl⟩)) (ao (aH 8 rF.nd (jy (W2 rfl) rfl B.aft boot_max (aL (cH K B.cJ (ak (pv 7) aj)) (aL (cH K B.cJ (ak (pv 6) aj)) aj)))) (ao (aH 7 rF.nd (pad K (pv 7) (aK v_mul (gJ (fu aq aj)) (aK dI (pv 8) (cH K B.cJ (ak (pv 7) aj)))))) (ao (aH 9 rF.nd (pad K (fY (sc:=aqr) (N:=["_law_top","_law_times_it"]) (ix:=[none,some 4]) dX rfl (fH K (pv 6)) (λcl C s₀ H₀ ex=>⟨(bD 0 dH),eO,(aK v_mul (pv 0) (pv 1))⟩)) (aK v_mul (gJ (fu aq aj)) (aK dI (pv 8) (cH K B.cJ (ak (pv 6) aj)))))) (aD (Tv hr.hu (pv 2) (pv 5) (fY (sc:=aiI) (N:=["_law_a","_law_b"]) (ix:=[none,none]) dX rfl (apO K rfl B.anK (ak (pv 7) (ak (pv 9) aj))) (λcl C s₀ H₀ ex=>⟨(BJ K (n:=2) rfl (rR (bD 0 dH) (rR (bD 1 dH) Dz))),eO,(pad K (pv 0) (pv 1))⟩)) rfl))))))))) (aD (bf (aJ Ab hr (ak (pv 2) (fK (aK v_mul (aO K (pv 0) aq) (aO K (pv 1) aq)) aj))))))),?_⟩;obtain⟨lp1,ys1,ex1,ht1,hl1,hp1⟩:=id A1;obtain⟨lp2,ys2,ex2,qx,hl2,hp2⟩:=id A2;refineλd hd=>?_;have g0:=Same.new hd (.dK []);have h0:(upd H d (.dK [])) d=some (.dK []):=aC;generalize upd H d (.dK [])=H0 at g0 h0;refine⟨_,rfl,_,rfl,_,_,.inr (aA.of (g0 _ _ qx)),rfl,(by show 2<=sizeLine;decide),λu1 hu1=>?_⟩;have g1:=Same.new hu1 (.tup [.ref t1,.int b2]);have h1:(upd H0 u1 (.tup [.ref t1,.int b2])) u1=some (.tup [.ref t1,.int b2]):=aC;generalize upd H0 u1 (.tup [.ref t1,.int b2])=H1 at g1 h1;refine⟨_,rfl,_,rfl,_,_,.inr (aA.of (g1 _ _ (g0 _ _ ht1))),rfl,(by show 2<=sizeLine;decide),λu2 hu2=>?_⟩;have g2:=Same.new hu2 (.tup [.ref t2,.int b1]);have h2:(upd H1 u2 (.tup [.ref t2,.int b1])) u2=some (.tup [.ref t2,.int b1]):=aC;generalize upd H1 u2 (.tup [.ref t2,.int b1])=H2 at g2 h2;refine⟨(by show 2<=sizeLine;decide),λlz hlz=>?_⟩;have g3:=Same.new hlz (.lst [.ref u1,.ref u2]);have h3:(upd H2 lz (.lst [.ref u1,.ref u2])) lz=some (.lst [.ref u1,.ref u2]):=aC;generalize upd H2 lz (.lst [.ref u1,.ref u2])=H3 at g3 h3;have g02:=g1.trans (g2.trans g3);refine⟨lz,rfl,.inl ⟨⟨_,au.of h3⟩,?_⟩⟩;refine xQ (xs:=[.ref u1,.ref u2]) (λi=>Xm H t1 t2 d u1 u2 lz b1 b2 (10*i) (FS b1 b2 ps1 ps2 i))
   ⟨_,_,_,_,_,_,_,[],[],rfl,g0.trans g02,(g2.trans g3) _ _ h1,g3 _ _ h2,h3,g02 _ _ h0,.nil,⟨.nil,aN _,λp hp=>absurd hp gK,λn=>rfl⟩⟩ (λi σ' H' h=>by obtain⟨_,_,_,_,_,_,_,_,_,_,_,_,_,z,_,_,_⟩:=h;exact au.of z) ?_ ?_
  .rintro i x σ' H4 hx ⟨o3,o4,o5,o6,o7,o8,o9,kvs,T,rfl,g4,e1,e2,e3,hD,hK,hT⟩;obtain⟨u,t,c,b,ps,f,lp,ys,ex,rfl,hu,ht,hl,hp,O,bc,hF⟩:∃(u t:Addr) (c b:Int) (ps:List (Int×List Int)) (f:Nat->Int) (lp:Addr) (ys:List V) (ex:List Addr),x = .ref u/\H4 u=some (.tup [.ref t,.int c])/\H t=some (.tup [.int b,.ref lp])/\H lp=some (.lst ys)/\eG H ex ys ps/\FO f b ps/\Rm.Bd 2400 c/\
     FS b1 b2 ps1 ps2 (i+1)=λn=>FS b1 b2 ps1 ps2 i n+c*Cf.cj ps n:=by
    unfold FS
    match i,hx with
    |0,hx=>cases hx;exact⟨u1,t1,b2,b1,ps1,f1,lp1,ys1,ex1,rfl,e1,ht1,hl1,hp1,O1,O2.bb,funext λn=>by rw[if_pos ∅,if_neg ∅,if_neg ∅,if_neg ∅];omega⟩
    |1,hx=>cases hx;exact⟨u2,t2,b1,b2,ps2,f2,lp2,ys2,ex2,rfl,e2,qx,hl2,hp2,O2,O1.bb,funext λn=>by rw[if_pos ∅,if_pos ∅,if_pos ∅,if_neg ∅];omega⟩
   generalize FS b1 b2 ps1 ps2 i=F at hT hF;have ly:=hp.len;have few:=O.few;have hi2:i<2:=(List.getElem?_eq_some_iff.mp hx).1;refine⟨u,_,rfl,aA.of hu,rfl,_,_,rfl,_,_,rfl,rfl,?_⟩;refine⟨_,rfl,_,_,.inr (aA.of (g4 _ _ ht)),rfl,lp,rfl,.inl ⟨⟨_,au.of (g4 _ _ hl)⟩,?_⟩⟩;refine xQ (xs:=ys) (λj=>Zf H t1 t2 d u1 u2 lz b1 b2 t c (10*i+j) λn=>F n+c*Cf.cj (ps.take j) n)
    ⟨_,_,_,_,_,kvs,T,rfl,g4,e1,e2,e3,hD,hK,⟨hT.nd,hT.few,hT.ne,λn=>by rw[hT.sum];show _=_+c*0;rw[aP,dj]⟩⟩ (λj σ' H' h=>by obtain⟨_,_,_,_,_,_,_,_,z,_,_,_,_,_,_⟩:=h;exact au.of (z _ _ hl)) ?_ ?_
   .rintro j y σ' H5 hy ⟨o5,o6,o7,o8,o9,kvs,T,rfl,g5,e1,e2,e3,hD,hK,hT⟩;obtain⟨tt,a,r,ts,rfl,ep,htt,ha⟩:=hp.get hy;have hmem:=List.mem_of_getElem? ep;obtain⟨lt,bt⟩:=O.ok _ hmem;replace lt:ts.length<=10:=lt;replace bt:∀c∈ts,Rm.Bd 2400 c:=bt;have r0:r≠0:=O.fm.ne _ hmem;have hj:j<ys.length:=(List.getElem?_eq_some_iff.mp hy).1;refine⟨tt,[.int r,.ref a],rfl,aA.of (g5 _ _ htt),rfl,_,_,rfl,_,_,rfl,rfl,?_⟩;refine⟨_,rfl,d,rfl,.inl ⟨kvs,.inl hD⟩,_,rfl,cD _,λe he=>?_⟩;have g6:=Same.new he (.lst []);have h6:(upd H5 e (.lst [])) e=some (.lst []):=aC;generalize upd H5 e (.lst [])=H6 at g6 h6;refine⟨_,oE.k (k:= .inl r) (g6 _ _ hD),?_⟩;obtain⟨w,ew,hw⟩:∃w,(dU kvs (.inl r)).getD (.ref e) = .ref w/\H6 w=some (.lst ((Cf.dz r T).map V.int)):=by
     rcases hK.val r with⟨w,z1,z2⟩|⟨z1,z2,_⟩
     .exact⟨w,by rw[z1];rfl,g6 _ _ z2⟩
     .exact⟨e,by rw[z1];rfl,by rw[z2];exact h6⟩
    generalize (dU kvs (.inl r)).getD (.ref e)=ww at ew;subst ew;have lv:(Cf.dz r T).length<=40:=by
     by_cases z:Cf.dz r T=[]
     .rw[z];exact cD _
     .exact(hT.ne _ (Cf.Er z)).2
    have T':=hT.put (r:=r) (c:=Cf.Aj (Cf.dz r T) (ts.map λt=>t*c)) r0 (by rw[Cf.avs,aB];omega) (λn=>F n+c*Cf.cj (ps.take (j+1)) n) λn=>by
     rw[Cf.axL,aoU,take_one ep,gq];have:Cf.cj (ps.take j++[(r,ts)]) n=Cf.cj (ps.take j) n+r^n*Cf.pv ts n:=by
      unfold Cf.cj;rw[fZ,CZ];show _+(r^n*Cf.pv ts n+0)=_;rw[dj]
     rw[this,gq,eZ (r^n) c];omega
    have ndT:=hT.nd;have azU:=hT.few;unfold Cf.Aj at T';rw[aB]at T';generalize hvv:Cf.dz r T=cs at hw lv T';have lc:(cs.map V.int).length=cs.length:=aB _;have ls:(ts.map V.int).length=ts.length:=aB _;have J0:=(g5.trans g6) _ _ ha;refine⟨_,rfl,.ref w,cs.length,rfl,.inl ⟨_,au.of hw,lc.symm⟩,_,rfl,.ref a,ts.length,rfl,.inl ⟨_,au.of J0,ls.symm⟩,_,_,rfl,?_⟩;have em:=aqn cs.length ts.length;generalize hmm:max cs.length ts.length=m at T' em;generalize (if(ts.length:Int)>(cs.length:Int)then(ts.length:Int)else(cs.length:Int))=mx at em;subst em;refine⟨_,rfl,(by show 1<=sizeLine;decide),λz0 hz0=>?_⟩;have g7:=Same.new hz0 (.lst [.int 0]);have h7:(upd H6 z0 (.lst [.int 0])) z0=some (.lst [.int 0]):=aC;generalize upd H6 z0 (.lst [.int 0])=H7 at g7 h7;refine⟨_,rfl,_,rfl,.ref w,cs.length,rfl,.inl ⟨_,au.of (g7 _ _ hw),lc.symm⟩,_,_,rfl,rfl,?_⟩;have en:((m:Int)-(cs.length:Int)).toNat=m-cs.length:=⋯;refine⟨_,h7,(⋯:-(2^63)<=(m:Int)-(cs.length:Int)),(⋯:(m:Int)-(cs.length:Int)<2^63),?_,λl8 Eh=>?_⟩
    .rw[en];show 1*(m-cs.length)<=sizeLine;rw[nJ];exact gC (dZ ⋯)
    have g8:=Same.new Eh (.lst (bN ((m:Int)-(cs.length:Int)).toNat [V.int 0]).flatten);have h8:(upd H7 l8 (.lst (bN ((m:Int)-(cs.length:Int)).toNat [V.int 0]).flatten)) l8=some (.lst (bN ((m:Int)-(cs.length:Int)).toNat [V.int 0]).flatten):=aC;generalize upd H7 l8 (.lst (bN ((m:Int)-(cs.length:Int)).toNat [V.int 0]).flatten)=H8 at g8 h8;rw[en,YQ]at h8;refine .inl ⟨_,_,g8 _ _ (g7 _ _ hw),h8,?_,λl9 hl9=>?_⟩
    .rw[lc,aB,qP];exact gC (dZ ⋯)
    have g9:=Same.new hl9 (.lst (cs.map V.int++(bN (m-cs.length) (0:Int)).map V.int));have h9:(upd H8 l9 (.lst (cs.map V.int++(bN (m-cs.length) (0:Int)).map V.int))) l9=some (.lst (cs.map V.int++(bN (m-cs.length) (0:Int)).map V.int)):=aC;generalize upd H8 l9 (.lst (cs.map V.int++(bN (m-cs.length) (0:Int)).map V.int))=H9 at g9 h9;rw[<-fZ]at h9;have YV:=g6.trans (g7.trans (g8.trans g9));have Mq:=(g5.trans YV) _ _ ha;refine⟨_,rfl,a,rfl,.inl ⟨⟨_,au.of Mq⟩,?_⟩⟩;refine uT Mq ⋯ rfl (λt=>t*c) ?_ ?_
    .intro H' x g' hx k hk;exact⟨_,rfl,_,rfl,m6 (bt x hx) bc ∅,hk⟩
    intro Qy arJ;have oH:=Same.new arJ (.lst ((ts.map λt=>t*c).map V.int));have h10:(upd H9 Qy (.lst ((ts.map λt=>t*c).map V.int))) Qy=some (.lst ((ts.map λt=>t*c).map V.int)):=aC;generalize upd H9 Qy (.lst ((ts.map λt=>t*c).map V.int))=uo at oH h10;refine⟨(by show 1<=sizeLine;decide),λz1 hz1=>?_⟩;have pW:=Same.new hz1 (.lst [.int 0]);have h11:(upd uo z1 (.lst [.int 0])) z1=some (.lst [.int 0]):=aC;generalize upd uo z1 (.lst [.int 0])=wN at pW h11;have ayO:=(oH.trans pW) _ _ Mq;refine⟨_,rfl,_,rfl,.ref a,ts.length,rfl,.inl ⟨_,au.of ayO,ls.symm⟩,_,_,rfl,rfl,?_⟩;have en2:((m:Int)-(ts.length:Int)).toNat=m-ts.length:=⋯;refine⟨_,h11,(⋯:-(2^63)<=(m:Int)-(ts.length:Int)),(⋯:(m:Int)-(ts.length:Int)<2^63),?_,λlK avX=>?_⟩
    .rw[en2];show 1*(m-ts.length)<=sizeLine;rw[nJ];exact gC (dZ ⋯)
    have fU:=Same.new avX (.lst (bN ((m:Int)-(ts.length:Int)).toNat [V.int 0]).flatten);have h12:(upd wN lK (.lst (bN ((m:Int)-(ts.length:Int)).toNat [V.int 0]).flatten)) lK=some (.lst (bN ((m:Int)-(ts.length:Int)).toNat [V.int 0]).flatten):=aC;generalize upd wN lK (.lst (bN ((m:Int)-(ts.length:Int)).toNat [V.int 0]).flatten)=TX at fU h12;rw[en2,YQ]at h12;refine .inl ⟨_,_,fU _ _ (pW _ _ h10),h12,?_,λHr avP=>?_⟩
    .rw[aB,aB,aB,qP];exact gC (dZ ⋯)
    have mY:=Same.new avP (.lst ((ts.map λt=>t*c).map V.int++(bN (m-ts.length) (0:Int)).map V.int));have h13:(upd TX Hr (.lst ((ts.map λt=>t*c).map V.int++(bN (m-ts.length) (0:Int)).map V.int))) Hr=some (.lst ((ts.map λt=>t*c).map V.int++(bN (m-ts.length) (0:Int)).map V.int)):=aC;generalize upd TX Hr (.lst ((ts.map λt=>t*c).map V.int++(bN (m-ts.length) (0:Int)).map V.int))=H13 at mY h13;rw[<-fZ]at h13;have af0:=oH.trans (pW.trans (fU.trans mY));have adg:=af0 _ _ h9;refine⟨_,rfl,_,rfl,false,false,l9,Hr,_,_,rfl,au.of adg,au.of h13,?_⟩;refine ajn (t1:=false) (t2:=false) (au.of adg) (au.of h13) (by rw[aB,dW,qP];exact gC (dZ ⋯)) rfl acA ?_ ?_
    .intro H' k x y g' hx hy kk hkk;obtain⟨x,_,rfl⟩:=bY.mp (List.mem_of_getElem? hx);obtain⟨y,_,rfl⟩:=bY.mp (List.mem_of_getElem? hy);exact⟨_,rfl,_,rfl,hkk⟩
    intro D14 Pu azZ Ar h14;rw[aby]at h14;have yN:=YV.trans (af0.trans Ar);have hD':=yN _ _ hD;refine⟨_,rfl,_,rfl,d,_,rfl,xJ.k (k:= .inl r) hD' (by rw[hK.len];exact dZ ⋯),?_⟩;have nd:∀{b:Addr} {o:HO},Pu b=some o->(∀kv,o≠ .dK kv)->(upd Pu d (.dK (putK kvs (.inl r) (.ref D14)))) b=some o:=λ{b o} h no=>by
     rw[bI λz=>by rw[z,hD']at h;cases h;exact no _ rfl];exact h
    refine⟨_,_,_,_,_,_,_,rfl,(g5.trans yN).upd hd _,nd (yN _ _ e1) (λ_ z=>by cases z),nd (yN _ _ e2) (λ_ z=>by cases z),nd (yN _ _ e3) (λ_ z=>by cases z),aC,((hK.same yN).put h14 ndT).up (MF hD' _),T'⟩
   .rintro σ' H5 ⟨o5,o6,o7,o8,o9,kvs,T,rfl,g5,e1,e2,e3,hD,hK,hT⟩;rw[rm ⋯]at hT;exact⟨_,_,_,_,_,_,_,kvs,T,rfl,g5,e1,e2,e3,hD,hK,⟨hT.nd,by have:=hT.few;omega,hT.ne,by rw[hF];exact hT.sum⟩⟩
  rintro σ' H4 ⟨o3,o4,o5,o6,o7,o8,o9,kvs,T,rfl,g4,e1,e2,e3,hD,hK,hT⟩;refine⟨_,rfl,_,rfl,_,_,.inr (aA.of (g4 _ _ ht1)),rfl,_,rfl,_,_,.inr (aA.of (g4 _ _ qx)),rfl,m6 O1.bb O2.bb ∅,?_⟩;have p1:=O1.fm.pos;have p2:=O2.fm.pos;refine⟨d,kvs,T,b1*b2,λn=>f1 n+f2 n,rfl,hD,hK,⟨hT.nd,fX hT.few (show 10*2<=40 by decide),hT.ne⟩,?_,(O1.bb.mul O2.bb).mono ∅,λn=>?_,λt b ps H5 g5 hF hf=>q t b ps H5 (g4.trans g5) hF hf⟩
  .have:=Ke p1 p2 ⋯ ⋯;omega
  .rw[hT.sum];unfold FS;rw[O1.fm.sum,O2.fm.sum,gq];show(if 0<2 then _ else _)+(if 1<2 then _ else _)=_;rw[if_pos ∅,if_pos ∅,eZ b2,bU,bU]
theorem atE{f:Addr}{fd:FuncData}(F:tW K "law" "law" wY f fd)(Hq:acy P w K mg base)(oM:Jj P w K mg base)(xX:aav P w K mg base eX dN)(Us:adf P w K mg base)(NQ:W4 P w K mg base)(Ud:aaX P w K mg base)(Ab:SD P w K mg base):rB P w K mg base (rG P w) MB f fd ["_law_script"] (Sx K):=by
 refine F.okN (k:=14) uh (λvs H Q E h=>?_) (λcdv A outer s H vs Q E hr h=>?_)
 .obtain⟨a,ns,rfl,_⟩:=h;rfl
 .obtain⟨a,ns,rfl,hS,hlen,q⟩:=h;refine⟨_,(ao (aH 1 uh.nd (aJ Hq hr (ak (pv 0) (fu aq aj)))) (ao (aH 2 uh.nd (aJ Hq hr (ak (pv 0) (fu aq aj)))) (ao (uc (eY (cT (jh K hr) (aK jg (aJ oM hr (ak (pv 0) (fu aq aj))) aq) aq) (aD (aH 2 uh.nd (gh (fu aq (aL (aO K (pv 1) aq) (aL (lB (pF K) rfl B.oh boot_tuple (aL (fY (sc:=anW) (N:=["_law_k","_law_script"]) (ix:=[none,some 0]) dX rfl (iC rfl B.gG (aL (cH K B.cJ (aL (aO K (pv 1) aq) aj)) aj)) (λcl C s₀ H₀ ex=>⟨(bD 0 dH),eO,(aK dI (aK jg (aJ oM hr (ak (pv 1) (fK (pad K aq (pv 0)) aj))) aq) aq)⟩)) aj)) aj)))))) fB)) (ao (eY (cT (ni K hr) (aJ xX hr (aL (aJ Us hr (ak (pv 1) (ak (pv 2) aj))) aj)) (aJ NQ hr (aL (aJ xX hr (ak (pv 1) aj)) (aL (aJ xX hr (ak (pv 2) aj)) aj)))) (aD (bf Ad)) fB) (ao (gM (i:=3) uh.nd rfl (fM rfl) (aK dI (aK jg (aJ oM hr (ak (pv 0) (fu aq aj))) aq) aq)) (ao (aH 4 uh.nd (aJ xX hr (ak (pv 1) aj))) (ao (aH 5 uh.nd SR) (ao (gk PassesOwn.never rfl (fH K (aO K (pv 4) aq)) (BJ K (n:=2) rfl (rR (bD 6 uh.nd) (rR (bD 7 uh.nd) Dz))) (aD (Tv hr.hu (pv 5) (pv 6) (fY (sc:=ajV) (N:=["_law_top","_law_number"]) (ix:=[none,some 3]) dX rfl (fH K (pv 7)) (λcl C s₀ H₀ ex=>⟨(bD 0 dH),eO,(aK v_mul (pv 0) (pv 1))⟩)) rfl))) (aD (bf (Ai (jh K hr) (aJ xX hr (aL (aJ Ud hr (ak (pv 1) (ak (pv 3) aj))) aj)) (aJ Ab hr (ak (pv 5) (aL (aO K (pv 4) aq) aj))) (wz _)))))))))))),?_⟩;refine⟨_,rfl,a,ns,0,rfl,hS,hlen,∅,∅,λv1 rule ss H1 g1 qL G1 l1 b1=>?_⟩;refine⟨_,rfl,a,ns,20,rfl,g1.seq hS,hlen,∅,∅,λv2 azL ss2 H2 g2 nQ G2 l2 b2=>?_⟩;have C1:=G1.c ∅ l1 b1;have s5:=G1.short;have fU:=g1.trans g2;have adF:=qL.same g2;refine qO.by (λσ' H'=>∃v2 r2,σ'=[some (.ref a),some v1,some v2,none,none,none,none,none]/\Same H2 H'/\iu H' v2 r2/\d8 5 30 r2) (λNN lF=>?_) ?_
  .refine⟨_,rfl,a,ns,40,rfl,fU.seq hS,hlen,∅,∅,λc=>?_⟩;refine⟨_,_,rfl,rfl,(∅:(0:Int)<3),_,rfl,?_⟩;refine dM (λcc=>?_) (λcc=>lF _ _ ⟨v2,_,rfl,Same.refl _,nQ,G2.c ∅ l2 b2⟩);obtain⟨ra,p,p2,rfl,hA,hP,hSt⟩:=id adF;have lr:(rule.map V.int).length=rule.length:=aB _;refine⟨_,rfl,_,_,.inr (aA.of hA),rfl,?_⟩;refine⟨_,rfl,_,_,.inr (aA.of hA),rfl,.ref p,rule.length,rfl,.inr ⟨_,aA.of hP,lr.symm⟩,?_⟩;refine⟨(rule.length:Int),rfl,(⋯:-(2^62)<=(rule.length:Int)),(⋯:(rule.length:Int)<2^62),?_⟩;rw[d9];refine aqB (n:=rule.length) ⋯ rfl (λx=>Rm.Bd 30 x) ?_ ?_
   .intro H' k g' hk kk hkk;refine⟨_,rfl,_,rfl,a,ns,41+(0+(k:Int)),rfl,(fU.trans g').seq hS,hlen,⋯,⋯,λc=>?_⟩;have d0:=pX c (show(0:Int)<9 by decide);have d1:=pQ c (show(0:Int)<9 by decide);exact⟨_,_,rfl,rfl,(∅:(0:Int)<9),_,_,rfl,rfl,hkk _ ((Rm.Bd.of (n:=4) ⋯ ⋯).mono ∅)⟩
   intro D H3 xs hD g3 h3 lx bx;refine⟨D,_,rfl,.inl ⟨au.of h3,λtx htx=>?_⟩⟩;have g4:=Same.new htx (.tup (xs.map V.int));refine⟨(by show 3<=sizeLine;decide),λty hty=>?_⟩;have g5:=Same.new hty (.tup [.int 0,.ref p,.ref tx]);exact lF _ _ ⟨.ref ty,⟨0,rule,xs⟩,rfl,g3.trans (g4.trans g5),⟨ty,p,tx,rfl,aC,(g3.trans (g4.trans g5)) _ _ hP,g5 _ _ aC⟩,G1.c ∅ lx.symm bx⟩
  rintro _ H3 ⟨v2,r2,rfl,g3,nQ,C2⟩;have qL:=adF.same g3;have g03:=fU.trans g3;refine⟨_,rfl,_,rfl,v1,v2,rfl,⟨0,rule,ss⟩,r2,30,qL,nQ,C1,C2,∅,λv4 r4 H4 g4 hR4 C4 e4=>?_⟩;refine C4.closed hR4 λt5 b5 ps5 H5 g5 A5 O5=>?_;have Kg:=g4.trans g5;refine⟨_,rfl,C1.closed (qL.same Kg) λt6 b6 ps6 H6 g6 A6 O6=>?_⟩;have yI:=Kg.trans g6;refine⟨_,rfl,C2.closed (nQ.same yI) λt7 b7 ps7 H7 g7 A7 O7=>?_⟩;refine⟨t6,t7,b6,b7,ps6,ps7,_,_,rfl,A6.same g7,A7,O6,O7,λt8 b8 ps8 H8 g8 A8 F8=>?_⟩;rw[e4]at O5;obtain⟨rfl,rfl⟩:=O5.fm.uniq F8;have g37:=yI.trans (g7.trans g8);refine aeM (A5.same (g6.trans (g7.trans g8))) A8 ⟨_,rfl,kY ?_⟩;have hR8:=qL.same g37;refine⟨_,rfl,a,ns,50,rfl,(g03.trans g37).seq hS,hlen,∅,∅,λc=>?_⟩;refine⟨_,_,rfl,rfl,(∅:(0:Int)<13),_,_,rfl,rfl,?_⟩;have m0:=pX c (show(0:Int)<13 by decide);have m1:=pQ c (show(0:Int)<13 by decide);have bx:Rm.Bd 3 (c%13-6):=Rm.Bd.of ⋯ ⋯;generalize c%13-6=x at bx;refine⟨_,rfl,C1.closed hR8 λt9 b9 ps9 H9 g9 A9 O9=>?_⟩;refineλd hd=>?_;have oH:=Same.new hd (.dK []);have h10:(upd H9 d (.dK [])) d=some (.dK []):=aC;generalize upd H9 d (.dK [])=uo at oH h10;obtain⟨lp,ys,ex,ht,hl,hp⟩:=id A9;have ly:=hp.len;have few:=O9.few;refine⟨_,rfl,_,_,.inr (aA.of (oH _ _ ht)),rfl,lp,rfl,.inl ⟨⟨_,au.of (oH _ _ hl)⟩,?_⟩⟩;refine xQ (xs:=ys) (λj σ' H'=>∃(o6 o7:Option V) (kvs:List (Key×V)) (T:List (Int×List Int)),σ'=[some (.ref a),some v1,some v2,some (.int x),some (.ref t9),some (.ref d),o6,o7]/\Same H9 H'/\H' d=some (.dK kvs)/\Dk H' kvs T/\T=(ps9.take j).map λp=>(p.1,p.2.map λt=>t*x))
   ⟨_,_,[],[],rfl,oH,h10,.nil,rfl⟩ (λj σ' H' ⟨_,_,_,_,_,z,_⟩=>au.of (z _ _ hl)) ?_ ?_
  .rintro j y σ' wN hy ⟨o6,o7,kvs,T,rfl,pW,hD,hK,eT⟩;obtain⟨tt,b,r,ts,rfl,ep,htt,hb⟩:=hp.get hy;have hmem:=List.mem_of_getElem? ep;obtain⟨lt,bt⟩:=O9.ok _ hmem;replace lt:ts.length<=10:=lt;have hj:j<ys.length:=(List.getElem?_eq_some_iff.mp hy).1;refine⟨tt,[.int r,.ref b],rfl,aA.of (pW _ _ htt),rfl,_,_,rfl,_,_,rfl,rfl,?_⟩;have YC:=pW _ _ hb;refine⟨_,rfl,b,rfl,.inl ⟨⟨_,au.of YC⟩,?_⟩⟩;refine uT YC ⋯ rfl (λt=>t*x) ?_ ?_
   .intro H' z g' hz k hk;exact⟨_,rfl,_,rfl,m6 (bt z hz) bx ∅,hk⟩
   intro NS alZ;have fU:=Same.new alZ (.lst ((ts.map λt=>t*x).map V.int));have h12:(upd wN NS (.lst ((ts.map λt=>t*x).map V.int))) NS=some (.lst ((ts.map λt=>t*x).map V.int)):=aC;generalize upd wN NS (.lst ((ts.map λt=>t*x).map V.int))=TX at fU h12;have hD':=fU _ _ hD;have hn:r∉T.map (·.1):=λz=>by
    rw[eT,cR]at z;obtain⟨p,hpm,e⟩:=bY.mp z;obtain⟨i,hi,e2⟩:=jq.mp hpm;rw[iZ]at hi;rw[List.getElem_take]at e2;obtain⟨hj2,e3⟩:=List.getElem?_eq_some_iff.mp ep;have:=YM.mp (uU.mp O9.fm.up) i j ⋯ hj2 ⋯;rw[e2,e3]at this;have e':p.1=r:=e;have t':p.1<r:=this;omega
   have lT:kvs.length<=10:=by rw[hK.len,eT,aB,iZ];omega
   refine⟨_,rfl,_,rfl,d,_,rfl,xJ.k (k:= .inl r) hD' (dZ ⋯),?_⟩;have arx:Cf.ou r (ts.map λt=>t*x) T=T++[(r,ts.map λt=>t*x)]:=by
    clear hK eT lT;induction T with
    |nil=>rfl
    |cons p T ih=>
     have h':r≠p.1/\r∉T.map (·.1):=by simpa[not_or]using hn
     unfold Cf.ou;rw[if_neg (λz=>h'.1 z.symm),ih h'.2];rfl
   have hdn:(T.map (·.1)).Nodup:=by
    rw[eT,cR];exact WW (afu _ (ags _ _)) (Cf.rC O9.fm.up)
   refine⟨_,_,_,_,rfl,(pW.trans fU).upd (hd) _,aC,((hK.same fU).put h12 hdn).up (MF hD' _),?_⟩;rw[arx,eT,take_one ep,fZ];rfl
  rintro σ' wN ⟨o6,o7,kvs,T,rfl,pW,hD,hK,eT⟩;rw[rm ⋯]at eT;have b33:∀s∈ss.map (λs=>x*s),Rm.Bd 33 s:=λs hs=>by
   obtain⟨y,hy,rfl⟩:=bY.mp hs;exact bx.mul (b1 y hy)
  have C33:=G1.c (ss:=ss.map λs=>x*s) (∅:33<=36) (by rw[aB];exact l1) b33;refine⟨_,rfl,_,rfl,v1,rule,ss,x,rfl,hR8.same (g9.trans pW),C1,C33,bx,λv13 r13 H13 mY aqj C13 e13=>?_⟩;refine C13.closed aqj λZV b14 azg Pu Ar A14 O14=>?_;have Tr:=mY.trans Ar;refine⟨_,rfl,_,rfl,_,_,.inr (aA.of ((pW.trans Tr) _ _ ht)),rfl,d,kvs,T,b9,r13.at,rfl,Tr _ _ hD,hK.same Tr,⟨?_,?_,λp hp=>?_⟩,O9.fm.pos,O9.bb.mono ∅,λn=>?_,λAK b15 azr H15 Sy A15 UW=>?_⟩
  .rw[eT,cR];exact Cf.rC O9.fm.up
  .rw[eT,aB];omega
  .rw[eT]at hp;obtain⟨p',hp',rfl⟩:=bY.mp hp;exact⟨O9.fm.ne p' hp',by show(p'.2.map _).length<=40;rw[aB];have:=(O9.ok p' hp').1;omega⟩
  .have es:T=Cf.pK x ps9:=by rw[eT];unfold Cf.pK;rw[show(λt=>t*x)=λt=>x*t from funext λt=>cC t x]
   rw[es,Cf.GX,O9.fm.sum,e13,awg l1,eZ]
  obtain⟨rfl,rfl⟩:=O14.fm.uniq UW;exact aeM (A14.same Sy) A15 (q _)
end
def all_mk{P:Program}{w:World}{K:aF}{h:Heap}{mg:Str->Option Value}{fa:Addr}(X:K.In h)(G:h.Ns mainGlobals mg)(hfa:mg "law" = some (.ref fa))
  (F0:bB K "is_prime" Ri) (F1:bB K "taken" QH) (F2:bB K "inverse" QJ) (F3:bB K "over" Rj) (F4:bB K "shared_by" TR) (F5:bB K "refuse_prime" Pj) (F6:bB K "next_place" Uo) (F7:bB K "first_places" Qo) (F8:bB K "trimmed" LD) (F9:bB K "times" K4) (F10:bB K "divided" Vg) (F11:bB K "monic" OV) (F12:bB K "greatest" K1) (F13:bB K "of_rule" Ln) (F14:bB K "rule_of" LC) (UW:bB K "prime_above" KZ) (F16:bB K "divides" Ov) (F17:bB K "taken_poly" M9) (F18:bB K "nearest" PB) (F19:bB K "joined" Ph) (F20:bB K "whole_greatest" VH) (F21:bB K "shared_divisor" N6) (F22:bB K "top_of" U8) (F23:bB K "least_of" VF) (F24:bB K "shortest" Tt) (F25:bB K "line_taken" RD) (F26:bB K "head_line" Ls) (F27:bB K "bring_up" Uu) (F28:bB K "freed" Mf) (F29:bB K "clear" TY) (F30:bB K "common_divisor" Uq) (F31:bB K "lowest" Tf) (F32:bB K "free_numbers" Qn) (F33:bB K "solution" RK) (F34:bB K "column_of" Rp) (F35:bB K "paper_against" Tc) (F36:bB K "solved" La) (F37:bB K "refuse_big" Q5) (F38:bB K "whole_divisors" RV) (F39:bB K "perhaps_roots" Tp) (F40:bB K "divided_out" Mz) (F41:bB K "whole_roots" Uh) (F42:bB K "power" RB) (F43:bB K "form_line" Oh) (F44:bB K "parts_of" UZ) (F45:bB K "closed" K6) (F46:bB K "refuse_long" Mj) (F47:bB K "told_row" KP) (F48:bB K "sum_place" K9) (F49:bB K "pair_row" Qq) (F50:bB K "joint_row" Tq) (F51:bB K "added" Qt) (F52:bB K "scaled" Rg) (F53:bB K "_law_at" Qw) (F54:bB K "_law_times" QL) (F55:bB K "_law_roots" Va) (F56:bB K "_law_product" RW) (F57:bB K "_law_closed_row" PN) (F58:bB K "_law_shared" MD) (F59:bB K "_law_lowest" Og) (F60:bB K "_law_added" Qa) (FL:bB K "law" wY) (ar7:jk K mainGlobals "abs" = some none) (alx:jk K mainGlobals "any" = some none) (arn:jk K mainGlobals "len" = some none) (ake:jk K mainGlobals "list" = some none) (ali:jk K mainGlobals "max" = some none) (auS:jk K mainGlobals "range" = some none) (akS:jk K mainGlobals "reversed" = some none) (apn:jk K mainGlobals "sorted" = some none) (anT:jk K mainGlobals "sum" = some none) (ak0:jk K mainGlobals "tuple" = some none) (aoH:jk K mainGlobals "zip" = some none) (Rz:∃t,jk K mainGlobals "ABOVE_ALL_NUMBERS" = some (some (.int 1000000 t))) (UH:∃t,jk K mainGlobals "BELOW_THE_PRIMES" = some (some (.int 1000000 t))) (Ra:∃t,jk K mainGlobals "LONGEST" = some (some (.int 12 t))) {eX:Addr} (afh:jk K mainGlobals "NoBy" = some (some (.ref eX))) {dN:Addr} (Xf:jk K mainGlobals "TooBig" = some (some (.ref dN))) (ave:Ga K eX [.type "ValueError",.type "Exception",.type "BaseException",.type "object"] "ValueError.__new__" = true) (avf:uf K (.ref eX) "__getattribute__" = some (some (.builtin "BaseException.__getattribute__"))) (akE:uf K (.ref eX) "__getattr__" = some none) (aob:uf K (.ref eX) "__class__" = some (some (.builtin "object.__class__"))) (aj6:Ao K eX (.type "BaseException")=some true) (aie:Ao K eX (.type "object")=some true) (aps:(W.clsIn K eX).isSome=true) (ad2:oZ K (.ref eX) (.ref eX)=some true) (agS:oZ K (.ref eX) (.ref dN)=some false) (Zy:oZ K (.ref eX) (.type "ValueError")=some true) (aom:Ga K dN [.type "ValueError",.type "Exception",.type "BaseException",.type "object"] "ValueError.__new__" = true) (anV:uf K (.ref dN) "__getattribute__" = some (some (.builtin "BaseException.__getattribute__"))) (apg:uf K (.ref dN) "__getattr__" = some none) (ayN:uf K (.ref dN) "__class__" = some (some (.builtin "object.__class__"))) (axS:Ao K dN (.type "BaseException")=some true) (ayV:Ao K dN (.type "object")=some true) (an1:(W.clsIn K dN).isSome=true) (aaw:oZ K (.ref dN) (.ref eX)=some false) (afW:oZ K (.ref dN) (.ref dN)=some true) (adb:oZ K (.ref dN) (.type "ValueError")=some true):
  ∃fd:FuncData,(∀(s:Shared) (v:Value),BindsTo s fd ⟨[v],[]⟩ [("_law_script",v)])/\∀base:Heap,K.In base->base.Ns mainGlobals mg->rB P w K mg base (rG P w) MB fa fd ["_law_script"] (Sx K):=by
 obtain⟨f,oc,od,kV,doc,pm,an,cdv,ct,sl,e1,e2,e3,e4⟩:=FL.ex;have e:=hfa.symm.trans (vp X G e1);cases e;have FF:=XR (st:=wY) e2 e3 e4;have B:Bt mg:=⟨qb X G ar7,qb X G alx,qb X G arn,qb X G ake,qb X G ali,qb X G auS,qb X G akS,qb X G apn,qb X G anT,qb X G ak0,qb X G aoH,(let⟨t,q⟩:=Rz;⟨t,vp X G q⟩),(let⟨t,q⟩:=UH;⟨t,vp X G q⟩),(let⟨t,q⟩:=Ra;⟨t,vp X G q⟩)⟩;refine⟨qz "law" "law" (qM wY) (lN wY) (aU wY) .none kV doc pm an cdv ct,λs v=> .of_eq rfl,λbase kB gB=>?_⟩;have M:Ms K mg base eX dN:=⟨vp X G afh,vp X G Xf,X5 kB gB afh ave Oc ∅,⟨avf,akE,aob,aj6,aie,aps⟩,ad2,agS,Zy,X5 kB gB Xf aom Oc ∅,⟨anV,apg,ayN,axS,ayV,an1⟩,aaw,afW,adb⟩;have Tw:=ara (P:=P) (w:=w) B M (F0.bK X G);have cN:=anh (P:=P) (w:=w) B M (F1.bK X G);have TQ:=ajv (P:=P) (w:=w) B M (F2.bK X G) cN;have oB:=asq (P:=P) (w:=w) B M (F3.bK X G) cN TQ;have Vy:=ah4 (P:=P) (w:=w) B M (F4.bK X G);have Rf:=awD (P:=P) (w:=w) B M (F5.bK X G);have Vq:=apH (P:=P) (w:=w) B M (F6.bK X G) cN;have G6:=au9 (P:=P) (w:=w) B M (F7.bK X G) Vq;have n6:=axE (P:=P) (w:=w) B M (F8.bK X G);have Ue:=amo (P:=P) (w:=w) B M (F9.bK X G) cN n6;have n8:=ayT (P:=P) (w:=w) B M (F10.bK X G) cN n6;have B4:=aoj (P:=P) (w:=w) B M (F11.bK X G) oB;have Av:=aqa (P:=P) (w:=w) B M (F12.bK X G) B4 n8;have wB:=aq4 (P:=P) (w:=w) B M (F13.bK X G) cN;have yC:=ak3 (P:=P) (w:=w) B M (F14.bK X G) cN;have NZ:=ajp (P:=P) (w:=w) B M (UW.bK X G) Tw;have GJ:=aru (P:=P) (w:=w) B M (F16.bK X G) n8;have Ja:=aqy (P:=P) (w:=w) B M (F17.bK X G) n6 cN;have zy:=auo (P:=P) (w:=w) B M (F18.bK X G);have SX:=avM (P:=P) (w:=w) B M (F19.bK X G) oB cN zy;have Nb:=aot (P:=P) (w:=w) B M (F20.bK X G) GJ NZ Av Ja zy SX;have Uj:=ato (P:=P) (w:=w) B M (F21.bK X G) Nb Av;have M4:=ap9 (P:=P) (w:=w) B M (F22.bK X G) cN n6;have zR:=avz (P:=P) (w:=w) B M (F23.bK X G) wB M4 n8 Uj;have xr:=aon (P:=P) (w:=w) B M (F24.bK X G) zR yC;have Np:=amq (P:=P) (w:=w) B M (F25.bK X G) cN;have Pg:=asZ (P:=P) (w:=w) B M (F26.bK X G);have Qg:=aqJ (P:=P) (w:=w) B M (F27.bK X G) cN;have Qd:=awE (P:=P) (w:=w) B M (F28.bK X G) oB cN;have MP:=arw (P:=P) (w:=w) B M (F29.bK X G) Pg Qg Qd;have QV:=amk (P:=P) (w:=w) B M (F30.bK X G);have Ds:=alX (P:=P) (w:=w) B M (F31.bK X G) oB QV;have Nx:=atU (P:=P) (w:=w) B M (F32.bK X G) cN Ds;have Dq:=akd (P:=P) (w:=w) B M (F33.bK X G) Np MP Ds Nx;have W8:=arf (P:=P) (w:=w) B M (F34.bK X G);have Pn:=akM (P:=P) (w:=w) B M (F35.bK X G) W8 Dq;have Ti:=apr (P:=P) (w:=w) B M (F36.bK X G) Dq Pn;have Uc:=apJ (P:=P) (w:=w) B M (F37.bK X G);have RX:=aq3 (P:=P) (w:=w) B M (F38.bK X G);have Nq:=amK (P:=P) (w:=w) B M (F39.bK X G) RX;have Qz:=ajo (P:=P) (w:=w) B M (F40.bK X G) n8;have PZ:=ajc (P:=P) (w:=w) B M (F41.bK X G) Uc Nq Qz;have EW:=auz (P:=P) (w:=w) B M (F42.bK X G);have SM:=ai1 (P:=P) (w:=w) B M (F43.bK X G) EW;have Uy:=amt (P:=P) (w:=w) B M (F44.bK X G);have xX:=ajP (P:=P) (w:=w) B M (F45.bK X G) Rf PZ zR SM Ti Uy;have SJ:=ax3 (P:=P) (w:=w) B M (F46.bK X G);have zj:=ayw (P:=P) (w:=w) B M (F47.bK X G) cN xr;have zU:=axW (P:=P) (w:=w) B M (F48.bK X G);have Oe:=ajK (P:=P) (w:=w) B M (F49.bK X G) G6 zj zU
 have Tg:=av8 (P:=P) (w:=w) B M (F50.bK X G) Vy xr SJ Ue wB Oe yC;have Us:=aqP (P:=P) (w:=w) B M (F51.bK X G) Tg zU;have Ud:=ai7 (P:=P) (w:=w) B M (F52.bK X G) zj;have oM:=aji (P:=P) (w:=w) B M (F53.bK X G);have TV:=apM (P:=P) (w:=w) B M (F54.bK X G);have Pk:=ai0 (P:=P) (w:=w) B M (F55.bK X G) oM;have Vj:=apU (P:=P) (w:=w) B M (F56.bK X G) TV;have Hq:=awi (P:=P) (w:=w) B M (F57.bK X G) Pk Vj oM;have Mr:=alr (P:=P) (w:=w) B M (F58.bK X G);have Ab:=aqv (P:=P) (w:=w) B M (F59.bK X G) Mr;have NQ:=aj8 (P:=P) (w:=w) B M (F60.bK X G) Ab;exact atE B M FF Hq oM xX Us NQ Ud Ab
end K48
namespace L2
open PySem PySem.W W.X
def aph{q:Program}{loose:List Str}{XP:(Str->Option Value)->Heap->Prop}{K:Params->Frag}{as:List Addr}{n t:Nat}{r:RowW}{d:DefRec}{kwd:List (Str×PySem.Expr)}{run:Value->List Value->Sem Value}(keys:∀P,as=(K P).map (·.1))
  (W:WalkO q loose XP (λw h=>(K w.params).In h) r d kwd run):WalkX q loose XP (obsZ as) (valZ K n t) r d kwd run:=
 λw s0 s1 mg mb G y a o pm cd doc dV kV h1 h2 h3 h4 h5 h6 args vals as' L p1 p2 p3 p4 p5=>W w s0 s1 mg mb G (InK.keeps w _ _ (z_facts keys y).2.1 L.keeps) a o pm cd doc dV kV h1 h2 h3 h4 h5 h6 args vals as' p1 p2 p3 p4 p5
end L2
namespace K48
def topF(i:Nat):PySem.Stmt:=PySem.Challenge.pw_nextbyrule_k48_whole_closed_forms_added.main.body.getD i (.Pass ⟨0,0,0,0⟩)
def pwL:PySem.Program:={ PySem.Challenge.pw_nextbyrule_k48_whole_closed_forms_added with main:={ PySem.Challenge.pw_nextbyrule_k48_whole_closed_forms_added.main with body:=[topF 0,topF 1,topF 2,topF 3,topF 4,topF 5,topF 6,topF 7,topF 8,topF 9,topF 10,topF 11,topF 12,topF 13,topF 14,topF 15,topF 16,topF 17,topF 18,topF 19,topF 20,topF 21,topF 22,topF 23,topF 24,topF 25,topF 26,topF 27,topF 28,topF 29,topF 30,topF 31,topF 32,topF 33,topF 34,topF 35,topF 36,topF 37,topF 38,topF 39,topF 40,topF 41,topF 42,topF 43,topF 44,topF 45,topF 46,topF 47,topF 48,topF 49,topF 50,topF 51,topF 52,topF 53,topF 54,topF 55,topF 56,topF 57,topF 58,topF 59,topF 60,topF 61,topF 62,topF 63,topF 64,topF 65,topF 66,topF 67,topF 68,topF 69,topF 70,topF 71,topF 72,topF 73,topF 74,topF 75,topF 76,topF 77,topF 78,topF 79,topF 80] } }
def rwL:PySem.W.OpenLaw:={ PySem.Challenge.rw_nextbyrule_k48_whole_closed_forms_added with prog:=pwL }
end K48
namespace K48
namespace H
noncomputable section
open PySem PySem.W PySem.Calls PyProof.Rows
theorem warm:(K48.pwL.main.body.isEmpty||true)=true:=by k_qdec
abbrev kh:=PyData.keyHash
abbrev tt(i:Nat):Stmt:=PySem.W.Fast.tw15146489478007629594 i
def zs(n:Nat):Str:=⟨⟨Nat.rec (motive:=λ_=>Nat->List Nat) (λ_=>[]) (λ_ f n=>cond (EG n 0) [] (Nat.mod n 128::f (Nat.div n 128))) 64 n⟩⟩
def z0:=zs 53901559791857631
def z1:=zs 3208179332650860456210638676591681512506558178069465056296689482437491271843500411968155884
def z2:=zs 421105403244511
def z3:=zs 113039760542812094607327
def z4:=zs 883130438894441148383
def z5:=zs 53901488956436447
def z6:=zs 30344151541145318921183520387039
def z7:=zs 14469218985635115783729119
def z8:=zs 53901559540068319
def z9:=zs 2357460733860917196365705647
def HC:=zs 883122557733039566815
def iw:=zs 8277558478201633490
def vD:=zs 64623894148134862
def vM:=zs 254851022
def vg:=zs 456808319416276
def wj:=zs 3567379019732
def E4:=zs 57340970975885801
def FW:=zs 29741478132
def JD:=zs 448184882935657
def Jl:=zs 240745327
def z20:=zs 372306437449676
def Fx:=zs 8774559251769619571
def Ks:=zs 15392349691394191890428658
def Ib:=zs 938749362540629603054
def Hf:=zs 17498468575365494965318886
def Je:=zs 443304474474868
def JC:=zs 31083689204
def J9:=zs 443302050378980
def Fz:=zs 26797127661
def E5:=zs 65811471622830439
def J5:=zs 447945196958575
def GZ:=zs 452440390056690
def z32:=zs 3388939034338339719930224380682946
def FT:=zs 120336165584743079508336
def KL:=zs 509272748045540
def Jh:=zs 1123873219935479722228
def Gh:=zs 514152117859054
def Kh:=zs 3463318239210
def IG:=zs 289441913161409316528838145143
def Km:=zs 284414884579460083709784913011
def Fj:=zs 3534690727924
def GQ:=zs 57912373968138988
def Ht:=zs 65811471658644595
def Gf:=zs 1021909407318828365036
def Jk:=zs 7340207024155161320
def ED:=zs 63568258281404770
def Ej:=zs 27057027430
def J4:=zs 30806734435
def FZ:=zs 284414884579460084056056362979
def Ij:=zs 4016813504492
def Jd:=zs 17513834785821938975078758
def Ih:=zs 62416317197268979
def JY:=zs 7412783660194805731
def Ky:=zs 2261275470442055200019329264
def Fd:=zs 3463335065587
def z55:=zs 434308986316663104229769186100109633
def Gj:=zs 957628957581328888562
def KC:=zs 286948200321414495131064333431
def Gy:=zs 2242085010208081143823905520
def GY:=zs 138035814848017555371236
def HM:=zs 136846008923829311370359
def Dc:=zs 30815418352
def Jm:=zs 7340207024174315494
def Jg:=zs 57912373702078704
def Ft:=zs 3463328822883
def Kr:=zs 122623567470796438352626
def Hw:=zs 67483170342909940
def G5:=zs 7333979394848553715
def Fl:=zs 67483170372219120
def Ku:=zs 8637845808191535082
def HD:=zs 27057009249
def Gb:=zs 3463313912307
def Hj:=zs 513532042442335
def Fb:=zs 1068027428587418711647
def G8:=zs 940052543510452663903
def Kw:=zs 1069109444717454063199
def KH:=zs 17647389358143558729102943
def Gp:=zs 37989647601199336359529683646047
def Fg:=zs 118998992280703227950687
def Jp:=zs 138016661087420065281631
def Jw:=zs 929671758841948698207
def E3:=zs 1962220
def Xl:=zs 35350842279982780
def z83:=zs 53901867955744735
def jc:=zs 883123151916293124063
def ji:=zs 601773989896021678643699154943881966
def qQ:=zs 14469089781839015725264863
def iY:=zs 30344074158132277796980072755167
def jd:=zs 133454983862861831018029446609853876543483871
def Pa:=zs 113039831549272488013791
def u6:=zs 3944329476846
def z91:=zs 505222325449956
def Gd:=zs 77026659975835991945842263041131819758
def oG:=zs 15586
def z94:=zs 27342305648
def z95:=zs 3501140572403
def yW:=zs 244953836
def tZ:=zs 1668975
def uq:=zs 30815173231
def BH:=zs 36741748820606704607921507807982
def G4:=zs 1964018
def Sv:=zs 213596914
def aoK:=zs 3501169685218
def ad9:=zs 29196367860
def Qc:=zs 107
def ahW:=zs 31371130851
def auU:=zs 3982749104755
def HW:=zs 27076163558
def amG:=zs 509719678253806
def ael:=zs 1652581
def xG:=zs 4703570198577737512948329283990254
def Vf:=zs 105
def Ss:=zs 1849332
def WG:=zs 29741626223
def aj2:=zs 31354156147
def ak2:=zs 3947051413734
def PK:=zs 31343606119
def NT:=zs 29219124979
def vd:=zs 601245688890028280284136002178396910
def asJ:=zs 7340232966842071021
def Ea:=zs 255539184
def acn:=zs 509824676214765
def aa3:=zs 245166834
def anr:=zs 213694445
def LV:=zs 9945148414371482049252864243888973296366
def aiD:=zs 31381287660
def nM:=zs 601245656567734219885054901293560558
def af8:=zs 31083705580
def aej:=zs 29749801698
def agC:=zs 3809077835747
def aed:=zs 213464311
def apm:=zs 31081394920
def ay3:=zs 245166316
def arC:=zs 14945
def aoZ:=zs 27340091636
def anm:=zs 3463305819383
def rK:=zs 4701993063269919393381765093405422
def WZ:=zs 27057092980
def X3:=zs 245102578
def adS:=zs 31115180018
def axK:=zs 65789479809203301
def akq:=zs 513606627883376
def asp:=zs 232569588
def av9:=zs 243021812
def akZ:=zs 31115227376
def apc:=zs 240808176
def ale:=zs 3604769125100
def wX:=zs 4697261539627313349707556634637038
def af3:=zs 243055343
def Ym:=zs 3982193423476
def alc:=zs 110
def atD:=zs 938749362540625162480
def aip:=zs 137989276334399845594719
def Jv:=zs 3702244537951
def amE:=zs 929683040243566540383
def XS:=zs 57345570095265375
def agk:=zs 1058801290007509759583
def asx:=zs 930329895887808525919
def aup:=zs 3667884799583
def adv:=zs 8780259530764744287
def awh:=zs 135526128861644626359903
def ax0:=zs 1003179560991236585055
def ajf:=zs 32292397438105324734265880507999
def au6:=zs 8421660479154845279
def atO:=zs 8781323754941216351
noncomputable abbrev t0:String:=PySem.W.SL.s14018661285674007319x4
noncomputable abbrev t1:String:=PySem.W.SL.s7097527257260152453x26
noncomputable abbrev t2:String:=PySem.W.SL.s2766695959194262286x5
noncomputable abbrev t3:String:=PySem.W.SL.s5856160107412720595x4
noncomputable abbrev t4:String:=PySem.W.SL.s658472552662922059x5
noncomputable abbrev t5:String:=PySem.W.SL.s6070975301684473832x10
noncomputable abbrev t6:String:=PySem.W.SL.s11030030927630378310x26
noncomputable abbrev t7:String:=PySem.W.SL.s10062305145149207511x16
noncomputable abbrev t8:String:=PySem.W.SL.s17162191345867700912x4
noncomputable abbrev t9:String:=PySem.W.SL.s4209523147560561109x18
noncomputable abbrev t10:String:=PySem.W.SL.s5946037652744460706x9
noncomputable abbrev t11:String:=PySem.W.SL.s4278001404047624695x13
noncomputable abbrev tM:String:=PySem.W.SL.s2742458400755230247x6
noncomputable abbrev t13:String:=PySem.W.SL.s14755015743595814543x17
noncomputable abbrev ZV:String:=PySem.W.SL.s10220274742760427390x26
noncomputable abbrev AK:String:=PySem.W.SL.s4290257624100764138x5
noncomputable abbrev Ec:String:=PySem.W.SL.s4860613602091757760x24
noncomputable abbrev t17:String:=PySem.W.SL.s7174869446012820540x8
def cd(z:Str)(i:Nat):Obj:=⟨.none,.none,.func ⟨z,z,L2.qM (tt i),.stmts (L2.lN (tt i)),L2.aU (tt i),0,[],.none,.none,.none,.none,.none,.none,.none,0⟩,⟨[]⟩⟩
def fo(z:Str)(i:Nat)(y:Str)(t c:Nat):Obj:=⟨.type t17,.none,.func ⟨z,z,L2.qM (tt i),.stmts (L2.lN (tt i)),L2.aU (tt i),3,[],.none,.none,.none,.str y t,.none,.ref c,.none,0⟩,⟨[]⟩⟩
def cf(z:Str)(a:Nat)(l n:Int)(r:Nat)(x y:Value)(c e:Nat):Obj:=⟨.type t3,.none,.fields ⟨[.str z a,.str z (a+1),.str z9 (a+2),.int l 0,.int n 0,.int 0 0,.int 0 0,.int 3 0,.ref r,.bool true,.int 181 0,.ref (r+1),.none,x,y,.ref c,.int e 0,.int l 0,.str z9 (e+1)]⟩,⟨[]⟩⟩
def cg(z:Str)(a:Nat)(l n:Int)(r c e:Nat):Obj:=cf z a l n r (.ref (r+2)) (.ref (r+3)) c e
def ts(l:List Str)(a:Nat):Obj:=⟨.type t2,.none,.seq ⟨List.rec (motive:=λ_=>Nat->List Value) (λ_=>[]) (λz _ f a=> .str z a::f (a+1)) l a⟩ 0,⟨[]⟩⟩
def er(P:Params)(z:Str)(t r:Nat):DictEntry:=⟨kh P z,.str z t,.ref r⟩
def l3(P:Params):List DictEntry:=[⟨kh P z0,.str z0 165,.str z1 742⟩,⟨kh P z2,.str z2 166,.none⟩,⟨kh P z3,.str z3 167,.none⟩,⟨kh P z4,.str z4 168,.builtin t1⟩,⟨kh P z5,.str z5 169,.none⟩,er P z6 170 6,er P z7 171 4,⟨kh P z8,.str z8 173,.str z9 172⟩,⟨kh P HC,.str HC 174,.none⟩,er P iw 206 24,er P vD 222 37,er P vM 238 49,er P vg 254 61,er P wj 270 73,er P E4 280 82,er P FW 288 89,er P JD 299 96,er P Jl 308 103,⟨kh P z20,.str z20 312,.int 12 311⟩,er P Fx 320 110,er P Ks 327 117,er P Ib 338 124,er P Hf 350 131,er P Je 360 138,er P JC 372 145,er P J9 387 152,er P Fz 393 157,er P E5 405 164,er P J5 411 169,er P GZ 417 174,⟨kh P z32,.str z32 421,.int 1000000 420⟩,er P FT 429 181,er P KL 437 188,er P Jh 443 193,er P Gh 452 200,er P Kh 463 207,er P IG 469 212,er P Km 478 219,er P Fj 486 224,er P GQ 496 231,er P Ht 505 238,er P Gf 513 243,er P Jk 523 250,er P ED 529 255,er P Ej 535 260,er P J4 550 267,er P FZ 561 274,er P Ij 567 279,er P Jd 573 284,er P Ih 579 289,er P JY 585 294,er P Ky 591 299,er P Fd 602 306,⟨kh P z55,.str z55 606,.int 1000000 605⟩,er P Gj 612 311,er P KC 622 318,er P Gy 628 323,er P GY 639 330,er P HM 650 337,er P Dc 660 344,er P Jm 666 349,er P Jg 678 356,er P Ft 684 361,er P Kr 693 368,er P Hw 699 373,er P G5 708 380,er P Fl 714 385,er P Ku 727 392,er P HD 735 399,er P Gb 741 404,er P Hj 752 411,er P Fb 763 418,er P G8 773 425,er P Kw 779 430,er P KH 790 437,er P Gp 796 442,er P Fg 804 449,er P Jp 810 454,er P Jw 816 459,er P E3 822 464]
def hv(P:Params)(z:Str)(t n:Nat):Obj:=⟨.type t0,.none,.dict ⟨⟨kh P z0,.str z0 165,.str z t⟩::((l3 P).take n).drop 1⟩ n,⟨[]⟩⟩
def o3(P:Params):Obj:=⟨.type t0,.none,.dict ⟨l3 P⟩ 80,⟨[]⟩⟩
def auL(P:Params):=hv P ji 187 10
def axZ(P:Params):=hv P ji 187 11
def auF(P:Params):=hv P ji 187 12
def ajZ(P:Params):=hv P ji 187 13
def axT(P:Params):=hv P BH 309 20
def aiP(P:Params):=hv P vd 418 33
def ay0(P:Params):=hv P nM 506 45
def apP(P:Params):=hv P rK 603 58
def asY(P:Params):Obj:=⟨.type t0,.none,.dict ⟨(l3 P).take 70⟩ 70,⟨[]⟩⟩
def aG:Obj:=⟨.type t2,.none,.seq ⟨[]⟩ 0,⟨[]⟩⟩
def fl(l:List (Int×Nat)):List Value:=l.flatMap λx=>[.int x.1 0,.int 0 0,.ref x.2]
def lK:=fl [(2,20),(4,33),(6,45),(8,57),(10,69),(13,81),(22,88),(26,95),(36,102),(44,109),(48,116),(51,123),(56,130),(65,137),(70,144),(76,151),(86,156),(91,163),(99,168),(103,173),(108,180),(113,187),(115,192),(117,199),(120,206),(123,211),(141,218),(144,223),(152,230),(157,237),(162,242),(164,249),(169,254),(174,259),(182,266),(196,273),(204,278),(213,283),(220,288),(234,293),(236,298),(242,305),(249,310),(252,317),(263,322),(268,329),(277,336),(287,343),(292,348),(297,355),(305,360),(316,367),(319,372),(323,379),(325,384),(330,391),(337,398),(339,403),(342,410),(349,417),(355,424),(360,429),(369,436),(375,441),(384,448),(390,453),(403,458),(413,463)]
def o12:Obj:=⟨.none,.none,.fields ⟨lK⟩,⟨[]⟩⟩
def Zt:Obj:=⟨.none,.none,.fields ⟨lK.take 0⟩,⟨[]⟩⟩
def asC:Obj:=⟨.none,.none,.fields ⟨lK.take 3⟩,⟨[]⟩⟩
def ax4:Obj:=⟨.none,.none,.fields ⟨lK.take 6⟩,⟨[]⟩⟩
def ajg:Obj:=⟨.none,.none,.fields ⟨lK.take 9⟩,⟨[]⟩⟩
def ai8:Obj:=⟨.none,.none,.fields ⟨lK.take 12⟩,⟨[]⟩⟩
def awx:Obj:=⟨.none,.none,.fields ⟨lK.take 30⟩,⟨[]⟩⟩
def ate:Obj:=⟨.none,.none,.fields ⟨lK.take 66⟩,⟨[]⟩⟩
def ayy:Obj:=⟨.none,.none,.fields ⟨lK.take 102⟩,⟨[]⟩⟩
def awQ:Obj:=⟨.none,.none,.fields ⟨lK.take 138⟩,⟨[]⟩⟩
def ak7:Obj:=⟨.none,.none,.fields ⟨lK.take 174⟩,⟨[]⟩⟩
def R9:Obj:=⟨.type t3,.none,.fields ⟨[.str Xl 182,.str Xl 183,.str z9 184,.int 1 0,.int 0 0,.int 0 0,.int 0 0,.int 0 0,.ref 11,.bool false,.int 181 0,.ref 12,.none,.none,.none,.none,.int 185 0,.int 1 0,.str z9 186]⟩,⟨[]⟩⟩
def Ol:Obj:=⟨.type t4,.none,.plain,⟨[.some (.ref 13),.some (.ref 3),.some (.ref 3),.none,.some (.str z83 164),.none,.some (.ref 0)]⟩⟩
def YJ:Obj:=⟨.type t2,.none,.seq ⟨[.type t5]⟩ 0,⟨[]⟩⟩
def Ei:Obj:=⟨.type t6,.none,.fields ⟨[.builtin t7,.type t8]⟩,⟨[]⟩⟩
def o17(P:Params):Obj:=⟨.type t0,.none,.dict ⟨[⟨kh P jc,.str jc 196,.str ji 187⟩,⟨kh P qQ,.str qQ 198,.str iw 197⟩,⟨kh P iY,.str iY 200,.int 2 199⟩,⟨kh P jd,.str jd 201,.ref 22⟩]⟩ 4,⟨[]⟩⟩
def bh:Obj:=⟨.none,.none,.fields ⟨[]⟩,⟨[]⟩⟩
def o20:Obj:=⟨.type t3,.none,.fields ⟨[.str iw 191,.str iw 192,.str z9 193,.int 2 0,.int 0 0,.int 0 0,.int 0 0,.int 0 0,.ref 18,.bool false,.int 181 0,.ref 19,.none,.none,.none,.none,.int 194 0,.int 2 0,.str z9 195]⟩,⟨[]⟩⟩
def o21:Obj:=⟨.type t4,.none,.plain,⟨[.some (.ref 20),.some (.ref 3),.some (.ref 17),.none,.some (.str ji 187),.none,.some (.ref 0)]⟩⟩
def o23(P:Params):Obj:=⟨.type t0,.none,.dict ⟨[⟨kh P jc,.str jc 196,.str ji 187⟩,⟨kh P iY,.str iY 200,.int 2 199⟩,⟨kh P jd,.str jd 201,.ref 22⟩,⟨kh P Pa,.str Pa 203,.ref 25⟩,⟨kh P z2,.str z2 204,.none⟩]⟩ 3,⟨[]⟩⟩
def o24:Obj:=⟨.type t8,.none,.cls ⟨iw,[.type t5],[.ref 24,.type t5,.type t10,.type t11,.type tM],23,iw,true,[],[.ref 37,.ref 49,.ref 61,.ref 73],false,.none,false⟩,⟨[.some (.ref 15),.none,.some (.str iw 189),.some (.str iw 197),.some (.builtin t9),.some (.bool true)]⟩⟩
def aiX:Obj:=⟨.type t8,.none,.cls ⟨iw,[.type t5],[.ref 24,.type t5,.type t10,.type t11,.type tM],23,iw,true,[],[],false,.none,false⟩,⟨[.some (.ref 15),.none,.some (.str iw 189),.some (.str iw 197),.some (.builtin t9),.some (.bool true)]⟩⟩
def akv:Obj:=⟨.type t8,.none,.cls ⟨iw,[.type t5],[.ref 24,.type t5,.type t10,.type t11,.type tM],23,iw,true,[],[.ref 37],false,.none,false⟩,⟨[.some (.ref 15),.none,.some (.str iw 189),.some (.str iw 197),.some (.builtin t9),.some (.bool true)]⟩⟩
def avo:Obj:=⟨.type t8,.none,.cls ⟨iw,[.type t5],[.ref 24,.type t5,.type t10,.type t11,.type tM],23,iw,true,[],[.ref 37,.ref 49],false,.none,false⟩,⟨[.some (.ref 15),.none,.some (.str iw 189),.some (.str iw 197),.some (.builtin t9),.some (.bool true)]⟩⟩
def anb:Obj:=⟨.type t8,.none,.cls ⟨iw,[.type t5],[.ref 24,.type t5,.type t10,.type t11,.type tM],23,iw,true,[],[.ref 37,.ref 49,.ref 61],false,.none,false⟩,⟨[.some (.ref 15),.none,.some (.str iw 189),.some (.str iw 197),.some (.builtin t9),.some (.bool true)]⟩⟩
def o25:Obj:=⟨.type t13,.none,.fields ⟨[.str Pa 202,.ref 24,.builtin ZV,.none]⟩,⟨[]⟩⟩
def o26:Obj:=⟨.type AK,.none,.fields ⟨[.ref 24,.ref 24,.ref 24]⟩,⟨[]⟩⟩
def o27:Obj:=⟨.type t6,.none,.fields ⟨[.builtin Ec,.ref 24]⟩,⟨[]⟩⟩
def uW:Obj:=⟨.type t2,.none,.seq ⟨[.ref 24]⟩ 0,⟨[]⟩⟩
def o30(P:Params):Obj:=⟨.type t0,.none,.dict ⟨[⟨kh P jc,.str jc 214,.str ji 187⟩,⟨kh P qQ,.str qQ 216,.str vD 215⟩,⟨kh P iY,.str iY 218,.int 4 217⟩,⟨kh P jd,.str jd 219,.ref 35⟩]⟩ 4,⟨[]⟩⟩
def o33:Obj:=⟨.type t3,.none,.fields ⟨[.str vD 209,.str vD 210,.str z9 211,.int 4 0,.int 0 0,.int 0 0,.int 0 0,.int 0 0,.ref 31,.bool false,.int 181 0,.ref 32,.none,.none,.none,.none,.int 212 0,.int 4 0,.str z9 213]⟩,⟨[]⟩⟩
def o34:Obj:=⟨.type t4,.none,.plain,⟨[.some (.ref 33),.some (.ref 3),.some (.ref 30),.none,.some (.str ji 187),.none,.some (.ref 0)]⟩⟩
def WR(P:Params):Obj:=⟨.type t0,.none,.dict ⟨[⟨kh P jc,.str jc 214,.str ji 187⟩,⟨kh P iY,.str iY 218,.int 4 217⟩,⟨kh P jd,.str jd 219,.ref 35⟩,⟨kh P z2,.str z2 220,.none⟩]⟩ 2,⟨[]⟩⟩
def o37:Obj:=⟨.type t8,.none,.cls ⟨vD,[.ref 24],[.ref 37,.ref 24,.type t5,.type t10,.type t11,.type tM],36,vD,true,[],[],false,.none,false⟩,⟨[.some (.ref 28),.none,.some (.str vD 207),.some (.str vD 215),.some (.builtin t9),.some (.bool true)]⟩⟩
def o38:Obj:=⟨.type AK,.none,.fields ⟨[.ref 37,.ref 37,.ref 37]⟩,⟨[]⟩⟩
def o39:Obj:=⟨.type t6,.none,.fields ⟨[.builtin Ec,.ref 37]⟩,⟨[]⟩⟩
def o42(P:Params):Obj:=⟨.type t0,.none,.dict ⟨[⟨kh P jc,.str jc 230,.str ji 187⟩,⟨kh P qQ,.str qQ 232,.str vM 231⟩,⟨kh P iY,.str iY 234,.int 6 233⟩,⟨kh P jd,.str jd 235,.ref 47⟩]⟩ 4,⟨[]⟩⟩
def o45:Obj:=⟨.type t3,.none,.fields ⟨[.str vM 225,.str vM 226,.str z9 227,.int 6 0,.int 0 0,.int 0 0,.int 0 0,.int 0 0,.ref 43,.bool false,.int 181 0,.ref 44,.none,.none,.none,.none,.int 228 0,.int 6 0,.str z9 229]⟩,⟨[]⟩⟩
def o46:Obj:=⟨.type t4,.none,.plain,⟨[.some (.ref 45),.some (.ref 3),.some (.ref 42),.none,.some (.str ji 187),.none,.some (.ref 0)]⟩⟩
def Xh(P:Params):Obj:=⟨.type t0,.none,.dict ⟨[⟨kh P jc,.str jc 230,.str ji 187⟩,⟨kh P iY,.str iY 234,.int 6 233⟩,⟨kh P jd,.str jd 235,.ref 47⟩,⟨kh P z2,.str z2 236,.none⟩]⟩ 2,⟨[]⟩⟩
def YB:Obj:=⟨.type t8,.none,.cls ⟨vM,[.ref 24],[.ref 49,.ref 24,.type t5,.type t10,.type t11,.type tM],48,vM,true,[],[],false,.none,false⟩,⟨[.some (.ref 40),.none,.some (.str vM 223),.some (.str vM 231),.some (.builtin t9),.some (.bool true)]⟩⟩
def o50:Obj:=⟨.type AK,.none,.fields ⟨[.ref 49,.ref 49,.ref 49]⟩,⟨[]⟩⟩
def o51:Obj:=⟨.type t6,.none,.fields ⟨[.builtin Ec,.ref 49]⟩,⟨[]⟩⟩
def o54(P:Params):Obj:=⟨.type t0,.none,.dict ⟨[⟨kh P jc,.str jc 246,.str ji 187⟩,⟨kh P qQ,.str qQ 248,.str vg 247⟩,⟨kh P iY,.str iY 250,.int 8 249⟩,⟨kh P jd,.str jd 251,.ref 59⟩]⟩ 4,⟨[]⟩⟩
def o57:Obj:=⟨.type t3,.none,.fields ⟨[.str vg 241,.str vg 242,.str z9 243,.int 8 0,.int 0 0,.int 0 0,.int 0 0,.int 0 0,.ref 55,.bool false,.int 181 0,.ref 56,.none,.none,.none,.none,.int 244 0,.int 8 0,.str z9 245]⟩,⟨[]⟩⟩
def o58:Obj:=⟨.type t4,.none,.plain,⟨[.some (.ref 57),.some (.ref 3),.some (.ref 54),.none,.some (.str ji 187),.none,.some (.ref 0)]⟩⟩
def o60(P:Params):Obj:=⟨.type t0,.none,.dict ⟨[⟨kh P jc,.str jc 246,.str ji 187⟩,⟨kh P iY,.str iY 250,.int 8 249⟩,⟨kh P jd,.str jd 251,.ref 59⟩,⟨kh P z2,.str z2 252,.none⟩]⟩ 2,⟨[]⟩⟩
def o61:Obj:=⟨.type t8,.none,.cls ⟨vg,[.ref 24],[.ref 61,.ref 24,.type t5,.type t10,.type t11,.type tM],60,vg,true,[],[],false,.none,false⟩,⟨[.some (.ref 52),.none,.some (.str vg 239),.some (.str vg 247),.some (.builtin t9),.some (.bool true)]⟩⟩
def o62:Obj:=⟨.type AK,.none,.fields ⟨[.ref 61,.ref 61,.ref 61]⟩,⟨[]⟩⟩
def o63:Obj:=⟨.type t6,.none,.fields ⟨[.builtin Ec,.ref 61]⟩,⟨[]⟩⟩
def o66(P:Params):Obj:=⟨.type t0,.none,.dict ⟨[⟨kh P jc,.str jc 262,.str ji 187⟩,⟨kh P qQ,.str qQ 264,.str wj 263⟩,⟨kh P iY,.str iY 266,.int 10 265⟩,⟨kh P jd,.str jd 267,.ref 71⟩]⟩ 4,⟨[]⟩⟩
def o69:Obj:=⟨.type t3,.none,.fields ⟨[.str wj 257,.str wj 258,.str z9 259,.int 10 0,.int 0 0,.int 0 0,.int 0 0,.int 0 0,.ref 67,.bool false,.int 181 0,.ref 68,.none,.none,.none,.none,.int 260 0,.int 10 0,.str z9 261]⟩,⟨[]⟩⟩
def o70:Obj:=⟨.type t4,.none,.plain,⟨[.some (.ref 69),.some (.ref 3),.some (.ref 66),.none,.some (.str ji 187),.none,.some (.ref 0)]⟩⟩
def Xb(P:Params):Obj:=⟨.type t0,.none,.dict ⟨[⟨kh P jc,.str jc 262,.str ji 187⟩,⟨kh P iY,.str iY 266,.int 10 265⟩,⟨kh P jd,.str jd 267,.ref 71⟩,⟨kh P z2,.str z2 268,.none⟩]⟩ 2,⟨[]⟩⟩
def Wt:Obj:=⟨.type t8,.none,.cls ⟨wj,[.ref 24],[.ref 73,.ref 24,.type t5,.type t10,.type t11,.type tM],72,wj,true,[],[],false,.none,false⟩,⟨[.some (.ref 64),.none,.some (.str wj 255),.some (.str wj 263),.some (.builtin t9),.some (.bool true)]⟩⟩
def o74:Obj:=⟨.type AK,.none,.fields ⟨[.ref 73,.ref 73,.ref 73]⟩,⟨[]⟩⟩
def o75:Obj:=⟨.type t6,.none,.fields ⟨[.builtin Ec,.ref 73]⟩,⟨[]⟩⟩
def o78:=ts [u6,z91] 276
def o80:=cd E4 7
def o81:=cg E4 273 13 1 76 80 278
def Wc:=fo E4 7 Gd 271 81
def o85:=ts [oG,u6] 284
def o87:=cd FW 8
def o88:=cg FW 281 22 2 83 87 286
def o89:=fo FW 8 Gd 271 88
def o92:=ts [z94,u6,Dc,z95,yW] 292
def o94:=cd JD 9
def o95:=cg JD 289 26 2 90 94 297
def o96:=fo JD 9 Gd 271 95
def o99:=ts [oG,tZ,uq] 303
def aiz:=cd Jl 10
def Yh:=cg Jl 300 36 3 97 101 306
def afr:=fo Jl 10 Gd 271 102
def awI:=ts [tZ,uq] 316
def aq7:=cd Fx 13
def aeE:=cg Fx 313 44 2 104 108 318
def afj:=fo Fx 13 BH 309 109
def anI:=ts [G4] 324
def awd:=cd Ks 14
def aaA:=cg Ks 321 48 1 111 115 325
def Zb:=fo Ks 14 BH 309 116
def atZ:=ts [oG,Sv,aoK,ad9,Qc] 331
def anB:=cd Ib 15
def agn:=cg Ib 328 51 3 118 122 336
def acp:=fo Ib 15 BH 309 123
def ahT:=ts [G4,ahW,oG,Sv,auU,HW] 342
def ak6:=cd Hf 16
def Xq:=cg Hf 339 56 2 125 129 348
def afO:=fo Hf 16 BH 309 130
def aol:=ts [amG,ael] 356
def ahP:=cd Je 18
def ago:=cg Je 353 65 1 132 136 358
def agw:=fo Je 18 xG 351 137
def ai5:=ts [oG,tZ,uq,ad9,Vf,Qc] 364
def ayh:=cd JC 19
def adZ:=cg JC 361 70 3 139 143 370
def abe:=fo JC 19 xG 351 144
def aty:=ts [oG,tZ,uq,Ss,WG,yW,aj2,ak2,Qc] 376
def aj4:=cd J9 20
def aer:=cg J9 373 76 3 146 150 385
def aeN:=fo J9 20 xG 351 151
def ayr:=cd Fz 21
def V8:=cf Fz 388 86 2 153 .none .none 155 391
def ach:=fo Fz 21 xG 351 156
def as3:=ts [oG,tZ,uq,PK,NT,yW] 397
def aiN:=cd E5 22
def afN:=cg E5 394 91 3 158 162 403
def adn:=fo E5 22 xG 351 163
def akj:=cd J5 23
def abF:=cf J5 406 99 2 165 .none .none 167 409
def ZR:=fo J5 23 xG 351 168
def asQ:=cd GZ 24
def ad0:=cf GZ 412 103 2 170 .none .none 172 415
def Wd:=fo GZ 24 xG 351 173
def ame:=ts [u6,HW] 425
def aum:=cd FT 27
def Zd:=cg FT 422 108 1 175 179 427
def aaR:=fo FT 27 vd 418 180
def ajF:=ts [asJ,Ea] 433
def ayW:=cd KL 28
def agx:=cg KL 430 113 2 182 186 435
def agV:=fo KL 28 vd 418 187
def apQ:=cd Jh 29
def aaI:=cf Jh 438 115 2 189 .none .none 191 441
def ZD:=fo Jh 29 vd 418 192
def akz:=ts [acn,u6,aa3] 447
def aro:=cd Gh 30
def aaE:=cg Gh 444 117 2 194 198 450
def o200:=fo Gh 30 vd 418 199
def awy:=ts [acn,u6,z94,aa3,anr] 456
def ap5:=cd Kh 31
def Zh:=cg Kh 453 120 4 201 205 461
def agm:=fo Kh 31 vd 418 206
def apk:=cd IG 32
def aaZ:=cf IG 464 123 2 208 .none .none 210 467
def Ys:=fo IG 32 vd 418 211
def aq2:=ts [oG,tZ,uq] 473
def alY:=cd Km 33
def acr:=cg Km 470 141 3 213 217 476
def agX:=fo Km 33 vd 418 218
def aks:=cd Fj 35
def ag3:=cf Fj 481 144 2 220 .none .none 222 484
def Zg:=fo Fj 35 LV 479 223
def auQ:=ts [G4,oG,Ea,Ss] 490
def akT:=cd GQ 36
def V3:=cg GQ 487 152 1 225 229 494
def Y9:=fo GQ 36 LV 479 230
def aw0:=ts [G4,aiD,Sv] 500
def awH:=cd Ht 37
def Ye:=cg Ht 497 157 1 232 236 503
def Ws:=fo Ht 37 LV 479 237
def aoL:=cd Gf 39
def adB:=cf Gf 508 162 2 239 .none .none 241 511
def Xe:=fo Gf 39 nM 506 242
def avb:=ts [af8,aej,agC,Vf] 517
def arO:=cd Jk 40
def ac6:=cg Jk 514 164 3 244 248 521
def acB:=fo Jk 40 nM 506 249
def aqp:=cd ED 41
def ac8:=cf ED 524 169 4 251 .none .none 253 527
def Zj:=fo ED 41 nM 506 254
def ahi:=cd Ej 42
def ae3:=cf Ej 530 174 5 256 .none .none 258 533
def afZ:=fo Ej 42 nM 506 259
def ak9:=ts [oG,aed,af8,apm,ay3,agC,Ss,arC,Vf] 539
def ak4:=cd J4 43
def WL:=cg J4 536 182 3 261 265 548
def Y6:=fo J4 43 nM 506 266
def auq:=ts [tZ,uq,PK,NT,yW] 554
def aoS:=cd FZ 44
def ac3:=cg FZ 551 196 2 268 272 559
def agH:=fo FZ 44 nM 506 273
def ahU:=cd Ij 45
def V6:=cf Ij 562 204 3 275 .none .none 277 565
def aeX:=fo Ij 45 nM 506 278
def axH:=cd Jd 46
def aeK:=cf Jd 568 213 5 280 .none .none 282 571
def YS:=fo Jd 46 nM 506 283
def axQ:=cd Ih 47
def V1:=cf Ih 574 220 4 285 .none .none 287 577
def Yv:=fo Ih 47 nM 506 288
def ape:=cd JY 48
def aaB:=cf JY 580 234 2 290 .none .none 292 583
def afS:=fo JY 48 nM 506 293
def anH:=cd Ky 49
def agh:=cf Ky 586 236 4 295 .none .none 297 589
def aae:=fo Ky 49 nM 506 298
def ayx:=ts [oG,aed,aoZ,anm,HW] 595
def atx:=cd Fd 50
def XJ:=cg Fd 592 242 4 300 304 600
def ag5:=fo Fd 50 nM 506 305
def ayg:=cd Gj 53
def WY:=cf Gj 607 249 1 307 .none .none 309 610
def ag7:=fo Gj 53 rK 603 310
def arz:=ts [u6,NT,PK,WZ] 616
def au5:=cd KC 54
def WQ:=cg KC 613 252 1 312 316 620
def XM:=fo KC 54 rK 603 317
def ax9:=cd Gy 55
def adI:=cf Gy 623 263 1 319 .none .none 321 626
def abK:=fo Gy 55 rK 603 322
def ajh:=ts [Ea,X3,WG,yW,WZ] 632
def asn:=cd GY 56
def aaO:=cg GY 629 268 2 324 328 637
def agJ:=fo GY 56 rK 603 329
def awC:=ts [Ea,adS,yW,X3,HW] 643
def ajC:=cd HM 57
def afI:=cg HM 640 277 1 331 335 648
def aaS:=fo HM 57 rK 603 336
def aho:=ts [u6,axK,akq,asp] 654
def ajm:=cd Dc 58
def Z2:=cg Dc 651 287 2 338 342 658
def acf:=fo Dc 58 rK 603 343
def amh:=cd Jm 59
def Y4:=cf Jm 661 292 2 345 .none .none 347 664
def X4:=fo Jm 59 rK 603 348
def aiL:=ts [adS,av9,akZ,aej,apc,ael] 670
def avn:=cd Jg 60
def agW:=cg Jg 667 297 2 350 354 676
def ZS:=fo Jg 60 rK 603 355
def ap7:=cd Ft 61
def aau:=cf Ft 679 305 1 357 .none .none 359 682
def aeC:=fo Ft 61 rK 603 360
def atQ:=ts [ale] 690
def akx:=cd Kr 63
def aeI:=cg Kr 687 316 1 362 366 691
def Zm:=fo Kr 63 wX 685 367
def ays:=cd Hw 64
def acR:=cf Hw 694 319 3 369 .none .none 371 697
def aeS:=fo Hw 64 wX 685 372
def aiB:=ts [af3,Ym,alc] 703
def avI:=cd G5 65
def afV:=cg G5 700 323 3 374 378 706
def aex:=fo G5 65 wX 685 379
def air:=cd Fl 66
def Zi:=cf Fl 709 325 4 381 .none .none 383 712
def V5:=fo Fl 66 wX 685 384
def axB:=ts [tZ,uq,atD,oG,af3,Ym,Ea] 718
def axF:=cd Ku 67
def ag0:=cg Ku 715 330 3 386 390 725
def aeR:=fo Ku 67 wX 685 391
def atB:=ts [tZ,uq] 731
def anG:=cd HD 68
def abh:=cg HD 728 337 2 393 397 733
def abd:=fo HD 68 wX 685 398
def ayA:=cd Gb 69
def abU:=cf Gb 736 339 2 400 .none .none 402 739
def YK:=fo Gb 69 wX 685 403
def aij:=ts [aip,Jv,amE] 747
def atc:=cd Hj 71
def agr:=cg Hj 744 342 2 405 409 750
def Xn:=fo Hj 71 z1 742 410
def ax5:=ts [XS,agk,asx,Jv,aup] 756
def aii:=cd Fb 72
def Zx:=cg Fb 753 349 2 412 416 761
def aa5:=fo Fb 72 z1 742 417
def auv:=ts [adv,awh,ax0,Jv] 767
def asy:=cd G8 73
def anF:=cg G8 764 355 2 419 423 771
def atm:=fo G8 73 z1 742 424
def arY:=cd Kw 74
def afg:=cf Kw 774 360 4 426 .none .none 428 777
def agT:=fo Kw 74 z1 742 429
def avL:=ts [ajf,adv,au6,atO,Jv] 783
def aoy:=cd KH 75
def af6:=cg KH 780 369 1 431 435 788
def abx:=fo KH 75 z1 742 436
def atG:=cd Gp 76
def afT:=cf Gp 791 375 2 438 .none .none 440 794
def afv:=fo Gp 76 z1 742 441
def axl:=ts [XS,agk] 800
def aju:=cd Fg 77
def Za:=cg Fg 797 384 2 443 447 802
def aaP:=fo Fg 77 z1 742 448
def akJ:=cd Jp 78
def agu:=cf Jp 805 390 2 450 .none .none 452 808
def Xv:=fo Jp 78 z1 742 453
def aln:=cd Jw 79
def ZY:=cf Jw 811 403 2 455 .none .none 457 814
def acG:=fo Jw 79 z1 742 458
def asO:=cd E3 80
def Xw:=cf E3 817 413 1 460 .none .none 462 820
def Y8:=fo E3 80 z1 742 463
def HL(P:Params):List Obj:=[PySem.W.boot_o_0 P,PySem.W.boot_o_1 P,PySem.W.boot_o_2 P,o3 P,PySem.W.boot_o_4 P,PySem.W.boot_o_5 P,PySem.W.boot_o_6 P,PySem.W.boot_o_7 P,PySem.W.boot_o_8 P,PySem.W.boot_o_9 P,PySem.W.boot_o_10 P,aG,o12,R9,Ol,YJ,Ei,o17 P,aG,bh,o20,o21,aG,o23 P,o24,o25,o26,o27,uW,Ei,o30 P,aG,bh,o33,o34,aG,WR P,o37,o38,o39,uW,Ei,o42 P,aG,bh,o45,o46,aG,Xh P,YB,o50,o51,uW,Ei,o54 P,aG,bh,o57,o58,aG,o60 P,o61,o62,o63,uW,Ei,o66 P,aG,bh,o69,o70,aG,Xb P,Wt,o74,o75,aG,bh,o78,aG,o80,o81,Wc,aG,bh,o85,aG,o87,o88,o89,aG,bh,o92,aG,o94,o95,o96,aG,bh,o99,aG,aiz,Yh,afr,aG,bh,awI,aG,aq7,aeE,afj,aG,bh,anI,aG,awd,aaA,Zb,aG,bh,atZ,aG,anB,agn,acp,aG,bh,ahT,aG,ak6,Xq,afO,aG,bh,aol,aG,ahP,ago,agw,aG,bh,ai5,aG,ayh,adZ,abe,aG,bh,aty,aG,aj4,aer,aeN,aG,bh,ayr,V8,ach,aG,bh,as3,aG,aiN,afN,adn,aG,bh,akj,abF,ZR,aG,bh,asQ,ad0,Wd,aG,bh,ame,aG,aum,Zd,aaR,aG,bh,ajF,aG,ayW,agx,agV,aG,bh,apQ,aaI,ZD,aG,bh,akz,aG,aro,aaE,o200,aG,bh,awy,aG,ap5,Zh,agm,aG,bh,apk,aaZ,Ys,aG,bh,aq2,aG,alY,acr,agX,aG,bh,aks,ag3,Zg,aG,bh,auQ,aG,akT,V3,Y9,aG,bh,aw0,aG,awH,Ye,Ws,aG,bh,aoL,adB,Xe,aG,bh,avb,aG,arO,ac6,acB,aG,bh,aqp,ac8,Zj,aG,bh,ahi,ae3,afZ,aG,bh,ak9,aG,ak4,WL,Y6,aG,bh,auq,aG,aoS,ac3,agH,aG,bh,ahU,V6,aeX,aG,bh,axH,aeK,YS,aG,bh,axQ,V1,Yv,aG,bh,ape,aaB,afS,aG,bh,anH,agh,aae,aG,bh,ayx,aG,atx,XJ,ag5,aG,bh,ayg,WY,ag7,aG,bh,arz,aG,au5,WQ,XM,aG,bh,ax9,adI,abK,aG,bh,ajh,aG,asn,aaO,agJ,aG,bh,awC,aG,ajC,afI,aaS,aG,bh,aho,aG,ajm,Z2,acf,aG,bh,amh,Y4,X4,aG,bh,aiL,aG,avn,agW,ZS,aG,bh,ap7,aau,aeC,aG,bh,atQ,aG,akx,aeI,Zm,aG,bh,ays,acR,aeS,aG,bh,aiB,aG,avI,afV,aex,aG,bh,air,Zi,V5,aG,bh,axB,aG,axF,ag0,aeR,aG,bh,atB,aG,anG,abh,abd,aG,bh,ayA,abU,YK,aG,bh,aij,aG,atc,agr,Xn,aG,bh,ax5,aG,aii,Zx,aa5,aG,bh,auv,aG,asy,anF,atm,aG,bh,arY,afg,agT,aG,bh,avL,aG,aoy,af6,abx,aG,bh,atG,afT,afv,aG,bh,axl,aG,aju,Za,aaP,aG,bh,akJ,agu,Xv,aG,bh,aln,ZY,acG,aG,bh,asO,Xw,Y8]
def ev(l:List Obj):Bool->List Obj:=List.rec (motive:=λ_=>Bool->List Obj) (λ_=>[]) (λo _ f b=>cond b (o::f false) (f true)) l
def bt(n:Nat):List Obj->BT:=Nat.rec (motive:=λ_=>List Obj->BT) (λ_=> .nil) (λ_ f l=>List.casesOn l .nil λo l=> .node o (f (ev l true)) (f (ev l false))) n
def TF(P:Params):BT:=bt 16 (HL P)
def HF(P:Params):Heap:=⟨⟨HL P⟩,{}⟩
def K(P:Params):Frag:=(nat_lit 0,PySem.W.boot_o_0 P)::(nat_lit 1,PySem.W.boot_o_1 P)::(nat_lit 2,PySem.W.boot_o_2 P)::(nat_lit 3,o3 P)::(nat_lit 4,PySem.W.boot_o_4 P)::(nat_lit 5,PySem.W.boot_o_5 P)::(nat_lit 6,PySem.W.boot_o_6 P)::(nat_lit 7,PySem.W.boot_o_7 P)::(nat_lit 8,PySem.W.boot_o_8 P)::(nat_lit 9,PySem.W.boot_o_9 P)::(nat_lit 10,PySem.W.boot_o_10 P)::(nat_lit 11,aG)::(nat_lit 12,o12)::(nat_lit 13,R9)::(nat_lit 14,Ol)::(nat_lit 15,YJ)::(nat_lit 22,aG)::(nat_lit 23,o23 P)::(nat_lit 24,o24)::(nat_lit 25,o25)::(nat_lit 28,uW)::(nat_lit 35,aG)::(nat_lit 36,WR P)::(nat_lit 37,o37)::(nat_lit 40,uW)::(nat_lit 47,aG)::(nat_lit 48,Xh P)::(nat_lit 49,YB)::(nat_lit 52,uW)::(nat_lit 59,aG)::(nat_lit 60,o60 P)::(nat_lit 61,o61)::(nat_lit 64,uW)::(nat_lit 71,aG)::(nat_lit 72,Xb P)::(nat_lit 73,Wt)::(nat_lit 81,o81)::(nat_lit 82,Wc)::(nat_lit 88,o88)::(nat_lit 89,o89)::(nat_lit 95,o95)::(nat_lit 96,o96)::(nat_lit 102,Yh)::(nat_lit 103,afr)::(nat_lit 109,aeE)::(nat_lit 110,afj)::(nat_lit 116,aaA)::(nat_lit 117,Zb)::(nat_lit 123,agn)::(nat_lit 124,acp)::(nat_lit 130,Xq)::(nat_lit 131,afO)::(nat_lit 137,ago)::(nat_lit 138,agw)::(nat_lit 144,adZ)::(nat_lit 145,abe)::(nat_lit 151,aer)::(nat_lit 152,aeN)::(nat_lit 156,V8)::(nat_lit 157,ach)::(nat_lit 163,afN)::(nat_lit 164,adn)::(nat_lit 168,abF)::(nat_lit 169,ZR)::(nat_lit 173,ad0)::(nat_lit 174,Wd)::(nat_lit 180,Zd)::(nat_lit 181,aaR)::(nat_lit 187,agx)::(nat_lit 188,agV)::(nat_lit 192,aaI)::(nat_lit 193,ZD)::(nat_lit 199,aaE)::(nat_lit 200,o200)::(nat_lit 206,Zh)::(nat_lit 207,agm)::(nat_lit 211,aaZ)::(nat_lit 212,Ys)::(nat_lit 218,acr)::(nat_lit 219,agX)::(nat_lit 223,ag3)::(nat_lit 224,Zg)::(nat_lit 230,V3)::(nat_lit 231,Y9)::(nat_lit 237,Ye)::(nat_lit 238,Ws)::(nat_lit 242,adB)::(nat_lit 243,Xe)::(nat_lit 249,ac6)::(nat_lit 250,acB)::(nat_lit 254,ac8)::(nat_lit 255,Zj)::(nat_lit 259,ae3)::(nat_lit 260,afZ)::(nat_lit 266,WL)::(nat_lit 267,Y6)::(nat_lit 273,ac3)::(nat_lit 274,agH)::(nat_lit 278,V6)::(nat_lit 279,aeX)::(nat_lit 283,aeK)::(nat_lit 284,YS)::(nat_lit 288,V1)::(nat_lit 289,Yv)::(nat_lit 293,aaB)::(nat_lit 294,afS)::(nat_lit 298,agh)::(nat_lit 299,aae)::(nat_lit 305,XJ)::(nat_lit 306,ag5)::(nat_lit 310,WY)::(nat_lit 311,ag7)::(nat_lit 317,WQ)::(nat_lit 318,XM)::(nat_lit 322,adI)::(nat_lit 323,abK)::(nat_lit 329,aaO)::(nat_lit 330,agJ)::(nat_lit 336,afI)::(nat_lit 337,aaS)::(nat_lit 343,Z2)::(nat_lit 344,acf)::(nat_lit 348,Y4)::(nat_lit 349,X4)::(nat_lit 355,agW)::(nat_lit 356,ZS)::(nat_lit 360,aau)::(nat_lit 361,aeC)::(nat_lit 367,aeI)::(nat_lit 368,Zm)::(nat_lit 372,acR)::(nat_lit 373,aeS)::(nat_lit 379,afV)::(nat_lit 380,aex)::(nat_lit 384,Zi)::(nat_lit 385,V5)::(nat_lit 391,ag0)::(nat_lit 392,aeR)::(nat_lit 398,abh)::(nat_lit 399,abd)::(nat_lit 403,abU)::(nat_lit 404,YK)::(nat_lit 410,agr)::(nat_lit 411,Xn)::(nat_lit 417,Zx)::(nat_lit 418,aa5)::(nat_lit 429,afg)::(nat_lit 430,agT)::(nat_lit 436,af6)::(nat_lit 437,abx)::(nat_lit 441,afT)::(nat_lit 442,afv)::(nat_lit 448,Za)::(nat_lit 449,aaP)::(nat_lit 453,agu)::(nat_lit 454,Xv)::(nat_lit 458,ZY)::(nat_lit 459,acG)::(nat_lit 463,Xw)::(nat_lit 464,Y8)::[]
def as:List Nat:=[0,1,2,3,4,5,6,7,8,9,10,11,12,13,14,15,22,23,24,25,28,35,36,37,40,47,48,49,52,59,60,61,64,71,72,73,81,82,88,89,95,96,102,103,109,110,116,117,123,124,130,131,137,138,144,145,151,152,156,157,163,164,168,169,173,174,180,181,187,188,192,193,199,200,206,207,211,212,218,219,223,224,230,231,237,238,242,243,249,250,254,255,259,260,266,267,273,274,278,279,283,284,288,289,293,294,298,299,305,306,310,311,317,318,322,323,329,330,336,337,343,344,348,349,355,356,360,361,367,368,372,373,379,380,384,385,391,392,398,399,403,404,410,411,417,418,429,430,436,437,441,442,448,449,453,454,458,459,463,464]
def cut(n:Nat)(t:BT):Nat->Nat->BT:=BT.rec (motive:=λ_=>Nat->Nat->BT) (λ_ _=> .nil) (λv _ _ l r a b=>cond (Nat.blt b n) (.node v (l (Nat.mul 2 a) (Nat.add a b)) (r (Nat.mul 2 a) (Nat.add (Nat.mul 2 a) b))) .nil) t
def HA(P:Params):Heap:=⟨⟨[PySem.W.boot_o_0 P,PySem.W.boot_o_1 P,PySem.W.boot_o_2 P,PySem.W.boot_o_3 P,PySem.W.boot_o_4 P,PySem.W.boot_o_5 P,PySem.W.boot_o_6 P,PySem.W.boot_o_7 P,PySem.W.boot_o_8 P,PySem.W.boot_o_9 P,PySem.W.boot_o_10 P,aG,Zt,R9,Ol]⟩,{}⟩
def SA(w:World)(os:OsState):Shared:=⟨HA w.params,⟨[]⟩,{},187,os⟩
def T1(P:Params):BT:=((cut 15 (TF P) 1 0).set 3 λ_=>PySem.W.boot_o_3 P).set 12 λ_=>Zt
def S1(w:World)(os:OsState):SharedT:=⟨T1 w.params,15,{},⟨[]⟩,{},187,os⟩
def T2(P:Params):BT:=(((cut 28 (TF P) 1 0).set 3 λ_=>auL P).set 12 λ_=>asC).set 24 λ_=>aiX
def S2(w:World)(os:OsState):SharedT:=⟨T2 w.params,28,{},⟨[]⟩,{},207,os⟩
def T3(P:Params):BT:=(((cut 40 (TF P) 1 0).set 3 λ_=>axZ P).set 12 λ_=>ax4).set 24 λ_=>akv
def S3(w:World)(os:OsState):SharedT:=⟨T3 w.params,40,{},⟨[]⟩,{},223,os⟩
def T4(P:Params):BT:=(((cut 52 (TF P) 1 0).set 3 λ_=>auF P).set 12 λ_=>ajg).set 24 λ_=>avo
def S4(w:World)(os:OsState):SharedT:=⟨T4 w.params,52,{},⟨[]⟩,{},239,os⟩
def T5(P:Params):BT:=(((cut 64 (TF P) 1 0).set 3 λ_=>ajZ P).set 12 λ_=>ai8).set 24 λ_=>anb
def S5(w:World)(os:OsState):SharedT:=⟨T5 w.params,64,{},⟨[]⟩,{},255,os⟩
def T6(P:Params):BT:=((cut 111 (TF P) 1 0).set 3 λ_=>axT P).set 12 λ_=>awx
def S6(w:World)(os:OsState):SharedT:=⟨T6 w.params,111,{},⟨[]⟩,{},321,os⟩
def T7(P:Params):BT:=((cut 189 (TF P) 1 0).set 3 λ_=>aiP P).set 12 λ_=>ate
def S7(w:World)(os:OsState):SharedT:=⟨T7 w.params,189,{},⟨[]⟩,{},438,os⟩
def T8(P:Params):BT:=((cut 261 (TF P) 1 0).set 3 λ_=>ay0 P).set 12 λ_=>ayy
def S8(w:World)(os:OsState):SharedT:=⟨T8 w.params,261,{},⟨[]⟩,{},536,os⟩
def T9(P:Params):BT:=((cut 331 (TF P) 1 0).set 3 λ_=>apP P).set 12 λ_=>awQ
def S9(w:World)(os:OsState):SharedT:=⟨T9 w.params,331,{},⟨[]⟩,{},640,os⟩
def T10(P:Params):BT:=((cut 405 (TF P) 1 0).set 3 λ_=>asY P).set 12 λ_=>ak7
def Wf(w:World)(os:OsState):SharedT:=⟨T10 w.params,405,{},⟨[]⟩,{},744,os⟩
def T11(P:Params):BT:=cut 465 (TF P) 1 0
def S11(w:World)(os:OsState):SharedT:=⟨T11 w.params,465,{},⟨[]⟩,{},823,os⟩
def SF(w:World)(os:OsState):Shared:=⟨HF w.params,⟨[]⟩,{},823,os⟩
def ann:Option Value:=some (.ref 6)
def env:Env:={ scope:=pwL.main.scope,locals:=mainNs,globals:=mainNs,cells:=[],code:= .ref 13,frame:=some 14 }
def cE:Code:= .body (behindTheImports pwL) env
abbrev BB:List Frame:=[topFrame ⟨0,0,0,0⟩]
def q:Program:={ pwL with main:={ pwL.main with body:=[topF 1,topF 2,topF 3,topF 4,topF 5,topF 7,topF 8,topF 9,topF 10,topF 12,topF 13,topF 14,topF 15,topF 16,topF 18,topF 19,topF 20,topF 21,topF 22,topF 23,topF 24,topF 26,topF 27,topF 28,topF 29,topF 30,topF 31,topF 32,topF 33,topF 35,topF 36,topF 37,topF 39,topF 40,topF 41,topF 42,topF 43,topF 44,topF 45,topF 46,topF 47,topF 48,topF 49,topF 50,topF 52,topF 53,topF 54,topF 55,topF 56,topF 57,topF 58,topF 59,topF 60,topF 61,topF 63,topF 64,topF 65,topF 66,topF 67,topF 68,topF 69,topF 71,topF 72,topF 73,topF 74,topF 75,topF 76,topF 77,topF 78,topF 79,topF 80] } }
theorem warm2:((λ(_:Env) (_:Code) (_:Program)=>true) env cE q)=true:=by k_qdec
theorem a0:@segRunT=PySem.W.Fast.tw10110043849684766642:=PySem.W.Fast.te10110043849684766642
theorem a1:@treeTable=PySem.W.Fast.tw14364793385576792824:=PySem.W.Fast.te14364793385576792824
theorem a2:@topGo=PySem.W.Fast.tw15667345088766844465:=PySem.W.Fast.te15667345088766844465
theorem a3:@topRun=PySem.W.Fast.tw14082659384304107361:=PySem.W.Fast.te14082659384304107361
theorem a4:@segRun=PySem.W.Fast.tw14374325043358763698:=PySem.W.Fast.te14374325043358763698
theorem a5:@denote=PySem.W.Fast.tw11892475500146522536:=PySem.W.Fast.te11892475500146522536
theorem a6:@cE=PySem.W.Fast.tw7355519265585826011:=PySem.W.Fast.te7355519265585826011
theorem a7:@env=PySem.W.Fast.tw638331092393445792:=PySem.W.Fast.te638331092393445792
theorem a8:@q=PySem.W.Fast.tw13654841151508904784:=PySem.W.Fast.te13654841151508904784
theorem a9:@pwL=PySem.W.Fast.tw5457224468540051584:=PySem.W.Fast.te5457224468540051584
theorem a10:@topF=PySem.W.Fast.tw15146489478007629594:=PySem.W.Fast.te15146489478007629594
theorem a11:@importedModules=PySem.W.Fast.tw5923862056798008813:=PySem.W.Fast.te5923862056798008813
theorem a12:@openSeen=PySem.W.Fast.tw4187177175401517315:=PySem.W.Fast.te4187177175401517315
theorem a13:@Heap.nsMap=PySem.W.Fast.tw8920871248978507458:=PySem.W.Fast.te8920871248978507458
set_option maxHeartbeats 0
theorem pre(w:World)(os:OsState):topGo treeTable pwL w 11 ann 12 ⟨boot_heap w.params,⟨[]⟩,boot_drawn,boot_toks,os⟩ (topStub pwL)=some (SA w os,⟨denote treeTable cE,cE,⟨0,0,0,0⟩,BB⟩):=by
 rw[a1,a2,a5,a6,a9];kernel_rfl
theorem blk(w:World)(os:OsState):segRun treeTable pwL w 11 ann 1 1 (SA w os) (blockOf (behindTheImports pwL) env cE ⟨0,0,0,0⟩ BB)=some (.next,(S1 w os).abs,cE,⟨0,0,0,0⟩):=by
 rw[a1,a4,a6,a7,a9];kernel_rfl
abbrev c1:List Stmt:=[topF 0,topF 1]
theorem p1(w:World)(os:OsState):segRunT treeTable pwL w 11 ann 1 196 (S1 w os) (piecesOf c1 env cE ⟨0,0,0,0⟩ BB)=some (.next,S2 w os,cE,⟨2,0,3,8⟩):=by
 unfold c1;rw[a0,a1,a6,a7,a9,a10];kernel_rfl
abbrev c2:List Stmt:=[topF 2]
theorem p2(w:World)(os:OsState):segRunT treeTable pwL w 11 ann 1 214 (S2 w os) (piecesOf c2 env cE ⟨2,0,3,8⟩ BB)=some (.next,S3 w os,cE,⟨4,0,5,8⟩):=by
 unfold c2;rw[a0,a1,a6,a7,a9,a10];kernel_rfl
abbrev c3:List Stmt:=[topF 3]
theorem p3(w:World)(os:OsState):segRunT treeTable pwL w 11 ann 1 214 (S3 w os) (piecesOf c3 env cE ⟨4,0,5,8⟩ BB)=some (.next,S4 w os,cE,⟨6,0,7,8⟩):=by
 unfold c3;rw[a0,a1,a6,a7,a9,a10];kernel_rfl
abbrev c4:List Stmt:=[topF 4]
theorem p4(w:World)(os:OsState):segRunT treeTable pwL w 11 ann 1 214 (S4 w os) (piecesOf c4 env cE ⟨6,0,7,8⟩ BB)=some (.next,S5 w os,cE,⟨8,0,9,8⟩):=by
 unfold c4;rw[a0,a1,a6,a7,a9,a10];kernel_rfl
abbrev c5:List Stmt:=[topF 5,topF 6,topF 7,topF 8,topF 9,topF 10,topF 11,topF 12,topF 13]
theorem p5(w:World)(os:OsState):segRunT treeTable pwL w 11 ann 1 395 (S5 w os) (piecesOf c5 env cE ⟨8,0,9,8⟩ BB)=some (.next,S6 w os,cE,⟨44,0,47,17⟩):=by
 unfold c5;rw[a0,a1,a6,a7,a9,a10];kernel_rfl
abbrev c6:List Stmt:=[topF 14,topF 15,topF 16,topF 17,topF 18,topF 19,topF 20,topF 21,topF 22,topF 23,topF 24,topF 25,topF 26,topF 27,topF 28]
theorem p6(w:World)(os:OsState):segRunT treeTable pwL w 11 ann 1 397 (S6 w os) (piecesOf c6 env cE ⟨44,0,47,17⟩ BB)=some (.next,S7 w os,cE,⟨113,0,114,47⟩):=by
 unfold c6;rw[a0,a1,a6,a7,a9,a10];kernel_rfl
abbrev c7:List Stmt:=[topF 29,topF 30,topF 31,topF 32,topF 33,topF 34,topF 35,topF 36,topF 37,topF 38,topF 39,topF 40,topF 41,topF 42]
theorem p7(w:World)(os:OsState):segRunT treeTable pwL w 11 ann 1 365 (S7 w os) (piecesOf c7 env cE ⟨113,0,114,47⟩ BB)=some (.next,S8 w os,cE,⟨174,0,181,58⟩):=by
 unfold c7;rw[a0,a1,a6,a7,a9,a10];kernel_rfl
abbrev c8:List Stmt:=[topF 43,topF 44,topF 45,topF 46,topF 47,topF 48,topF 49,topF 50,topF 51,topF 52,topF 53,topF 54,topF 55,topF 56]
theorem p8(w:World)(os:OsState):segRunT treeTable pwL w 11 ann 1 369 (S8 w os) (piecesOf c8 env cE ⟨174,0,181,58⟩ BB)=some (.next,S9 w os,cE,⟨268,0,276,24⟩):=by
 unfold c8;rw[a0,a1,a6,a7,a9,a10];kernel_rfl
abbrev c9:List Stmt:=[topF 57,topF 58,topF 59,topF 60,topF 61,topF 62,topF 63,topF 64,topF 65,topF 66,topF 67,topF 68,topF 69,topF 70]
theorem p9(w:World)(os:OsState):segRunT treeTable pwL w 11 ann 1 373 (S9 w os) (piecesOf c9 env cE ⟨268,0,276,24⟩ BB)=some (.next,Wf w os,cE,⟨341,0,341,8⟩):=by
 unfold c9;rw[a0,a1,a6,a7,a9,a10];kernel_rfl
abbrev Lp:List Stmt:=[topF 71,topF 72,topF 73,topF 74,topF 75,topF 76,topF 77,topF 78,topF 79,topF 80]
theorem p10(w:World)(os:OsState):segRunT treeTable pwL w 11 ann 1 290 (Wf w os) (piecesOf Lp env cE ⟨341,0,341,8⟩ BB)=some (.next,S11 w os,cE,⟨413,0,425,88⟩):=by
 unfold Lp;rw[a0,a1,a6,a7,a9,a10];kernel_rfl
theorem fin(w:World)(os:OsState):topRun treeTable pwL w 11 ann 2 (S11 w os).abs ⟨doneF .next,cE,⟨413,0,425,88⟩,BB⟩=some (SF w os):=by
 rw[a1,a3,a6,a9];kernel_rfl
theorem body:behindTheImports pwL=c1++(c2++(c3++(c4++(c5++(c6++(c7++(c8++(c9++(Lp++([])))))))))):=by
 rw[a9];kernel_rfl
theorem run(w:World)(os:OsState):topRun treeTable pwL w 11 ann (12+(1+(196+(214+(214+(214+(395+(397+(365+(369+(373+(290+(2))))))))))))) ⟨boot_heap w.params,⟨[]⟩,boot_drawn,boot_toks,os⟩ (topStub pwL)=some (SF w os):=
 go_top (pre w os) (piece_block (blk w os) (by rw[body];exact piece_app (segRun_of (p1 w os)) (piece_app (segRun_of (p2 w os)) (piece_app (segRun_of (p3 w os)) (piece_app (segRun_of (p4 w os)) (piece_app (segRun_of (p5 w os)) (piece_app (segRun_of (p6 w os)) (piece_app (segRun_of (p7 w os)) (piece_app (segRun_of (p8 w os)) (piece_app (segRun_of (p9 w os)) (piece_app (segRun_of (p10 w os)) (piece_nil (fin w os)))))))))))))
theorem size(w:World):((boot_heap w.params).isNs mainGlobals&&(Array.mk ([]:List GenState)).size==0,(boot_heap w.params).objs.size,(boot_heap w.params).nsMap mainGlobals "__annotations__")=(true,11,ann):=by
 rw[a13];kernel_rfl
abbrev Xt(s:Shared):Bool:=xlAt q [] s&&recOk [] s
theorem lk1(w:World)(os:OsState):(staticsOk (importedModules pwL.main.body) (boot_heap w.params) (HF w.params)&&namesBound pwL (HF w.params)&&gensDone (SF w os)&&laidKept (boot_heap w.params) (HF w.params))=true:=by
 rw[a9,a11];kernel_rfl
theorem lk2(w:World)(os:OsState):openSeen q [] (importedModules pwL.main.body) Xt true (SF w os)=openGood q []:=by
 rw[a8,a9,a11,a12];kernel_rfl
theorem lk3(w:World)(os:OsState):Ze as (SF w os)=aez K 465 823 w:=by
 kernel_rfl
theorem imports:opening pwL=plainProg pwL.main.scope.names:=by kernel_rfl
theorem left:LeftO pwL q [] Xt (Ze as) (aez K 465 823) 6160:=
 LeftO.of_pieces (boot_open imports (by rfl) (λs=>by kernel_rfl)) size run (by rfl) λw=>funext λos=>looks_pair (lk1 w os) (looks_pair (lk2 w os) (lk3 w os))
end
end H
end K48
open PySem PySem.W PyProof.Rows
set_option maxRecDepth 100000 in
set_option maxHeartbeats 0 in
theorem PySem.Challenge.cw_nextbyrule_k48_whole_closed_forms_added_holds : PySem.Challenge.rw_nextbyrule_k48_whole_closed_forms_added.Holds := by
 change K48.rwL.Holds
 w_on;o_law;rename_i said
 refine holds_openX (d:=?d) (kwd:=?kwd) K48.H.left (λs h=>xl_of s (KD.mp h).1) XL.keeps (by rfl) (by rfl) (by rfl) (λs h=>recFacts_of (KD.mp h).2) (by rfl) said (by decide +kernel) ⟨rfl,rfl,rfl,rfl,rfl,by decide +kernel⟩ ?hw ?hc;case hw=>w_witness2
 k_fill
 refine L2.aph (λ_=>by kernel_rfl) ?_;refine L2.arS (l:=K48.rwL) (n:=63) (k:=K48.MB) (x:= "_law_script") (CX:=λw=>L2.rG K48.rwL.prog w) (sp:=λ_=>K48.Sx _) rfl (by decide) rfl ⟨rfl,by decide,by decide⟩ (by kernel_rfl) rfl (λw h Y=>Y) ?F (λw H a ns hl _ hS=>⟨a,ns,rfl,hS,hl,λ_=>rfl⟩) (λ_ _ _ _ _ z=>L2.adH z);case F=>
  intro w mg fa h KX G hmg;apply K48.all_mk KX G hmg;all_goals first|(refine' L2.aw3 ?a ?l ?c ?k;(case a|l|c|k=>k_is))|k_is|exact⟨_,by k_is⟩|k_exc|kernel_rfl|kit_is
