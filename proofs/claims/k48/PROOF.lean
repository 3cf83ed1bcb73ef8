import PyProof.Rows.All
import Wide.All
import OpenK.AllK
import Wide.FinOn
import Lean
import PyProof.EqAt
import PyProof.EqKinds
import PyProof.TupleCall
import PySem.Challenge.RW_nextbyrule_k48_whole_closed_forms_added
local macro_rules | `(tactic| omega)=>`(tactic| lia)
local macro_rules | `(⋯)=>`(by omega)
local macro_rules | `(∅)=>`(by decide)
set_option Elab.async false
set_option linter.all false
set_option maxRecDepth 100000
noncomputable section
open List renaming length_map->aB,mem_cons_of_mem->cZ,mem_cons_self->cV,map_cons->bG,mem_cons->bN,length_append->dW,replicate->cN,mem_map->bZ,mem_singleton->eV,size_toArray->eU,map_map->cR,mem_append->fM,mem_map_of_mem->iJ,map_append->fW,not_mem_nil->gR,mem_iff_getElem->jA,length_cons->iK,length_take->jd,sum_cons->gF,map_congr_left->lG,mem_append_right->nJ,eq_nil_of_length_eq_zero->sE,range->eX,mem_range->iV,length_range->mK,length_reverse->oR,take_of_length_le->qY,all_eq_true->lZ,take_length->lY,length_replicate->rP,nodup_cons->mL,length_drop->pC,length_set->nF,take_add_one->qd,mem_filter->pA,filter_eq_self->uw,mem_reverse->pO,length_dropLast->vX,any_eq_true->tX,filter_cons->sO,replicate_succ->xQ,pairwise_map->vd,pairwise_singleton->BZ,length_pos_iff->Aa,getElem_mem->wA,pairwise_append->DF,append_nil->xg,filter_append->CP,length->sZ,zipWith->uH,take_append_drop->JW,flatten_cons->D5,map_take->wB,mem_append_left->Hw,map->mX,map_id'->xK,sum_append->C7,count_append->Jp,length_filter_le->OB,any_cons->DK,filterMap_cons->RB,forIn_cons->Fx,mem_filterMap->LD,pairwise_iff_getElem->adv,append_assoc->Oj,nodup_append->TQ,mem_flatMap->Qw,map_reverse->Mg,of_mem_zip->QW,length_singleton->aeb,length_nil->K8,range_succ->MH,pairwise_reverse->ace,take_eq_take_iff->aau,perm_cons_erase->agM,count_replicate->aeX,mem_of_mem_take->aaA,drop_zero->Nj,length_zipWith->adV,mem_replicate->Wx,count_pos_iff->adS,count_eq_zero->Yq,take_sublist->af3,reverse_cons->aam,getElem_drop->Zm,map_nil->TN,zipIdx_cons->W6,ext_getElem->agD,zipIdx_nil->aaW,count_cons->abf,filter_map->ZW,forIn_nil->aen,foldl->OJ,range'->adn
open Nat renaming le_refl->aN,zero_le->cB,add_sub_cancel->fU,lt_of_lt_of_le->jo,mul_le_mul->gU,le_trans->fY,le_of_lt->gG,mul_le_mul_right->qe,not_lt_zero->mO,lt_of_le_of_lt->qw,ne_of_lt->jQ,lt_irrefl->lA,mul_le_mul_left->v8,strongRecOn->rQ,pow_le_pow_right->wj,le_of_dvd->pI,one_mul->m6,add_sub_cancel_left->Bx,mul_comm->pU,sub_self->rT,succ_mul->tY,lt_trans->uG,lt_or_ge->vg,sub_zero->vf,mul_lt_mul_of_pos_right->SD,lt_succ_self->DC,le_add_right->DQ,gcd->j7,pow_succ->wH,lt_or_gt_of_ne->GY,mul_div_cancel_left->Nt,le_mul_of_pos_left->Qq,eq_of_beq_eq_true->U9,dvd_trans->Bq,mul_add->yC,add_mul->yI,eq_zero_or_pos->SW,add_mul_mod_self_left->VF,eq_of_mul_eq_mul_left->WT,gcd_dvd_right->RQ,pow_lt_pow_iff_right->aeO,mul_assoc->Il,mul_one->DB,gcd_dvd_left->Ro,dvd_of_mod_eq_zero->aa1,mod_eq_zero_of_dvd->aeW,zero_add->J6,pow_zero->Fj,min_eq_left->PB,gcd_comm->Ik,gcd_zero_right->aan,lt_succ_of_lt->ZR,dvd_mul_right->abo,ne_of_gt->SY,le_of_eq->RJ,add_zero->Ug,zero_mul->OD,mul_zero->Tn,min_le_right->afL,le_of_not_lt->aaH,le_max_right->YH,succ_ne_zero->acY,le_max_left->agL,log2_lt->Ru,add_assoc->aaK,add_comm->YJ,dvd_refl->aeh,beq->J9
open Int renaming mul_zero->aP,mul_assoc->bU,mul_comm->cA,toNat_natCast->d9,mul_left_comm->fj,add_zero->dj,zero_mul->gh,emod_emod_of_dvd->nO,mul_add->f9,zero_add->ig,neg_mul->gM,one_mul->iG,mul_sub->iH,mul_eq_zero->kZ,natAbs_mul->jT,pow_succ->jj,emod_lt_of_pos->rK,mul_one->jr,mul_emod->mD,zero_sub->mR,emod_nonneg->rY,natAbs_natCast->uU,dvd_refl->nZ,add_comm->n6,mul_le_mul_of_nonneg_left->G4,dvd_of_emod_eq_zero->DX,mul_neg->qp,eq_of_mul_eq_mul_left->Gw,pow_zero->tK,add_mul->rZ,neg_one_mul->zZ,dvd_add->sI,dvd_mul_right->Di,emod_eq_of_lt->Cv,fdiv_eq_ediv_of_nonneg->RV,natAbs_neg->za,natCast_emod->Cw,mul_fdiv_cancel_left->LK,neg_neg->wZ,sub_mul->wC,natAbs_dvd_natAbs->U4,mul_ediv_cancel'->Ou,dvd_trans->Ca,ofNat_dvd->Cm,sub_zero->Dc,sub_eq_add_neg->Nx,ofNat_dvd_left->ML,mul_le_mul->Jv,add_assoc->Ie,natCast_dvd_natCast->Xa,dvd_self_sub_emod->Yv,natAbs->C8,pow_add->EG,zero_emod->K4,sub_add_cancel->Zb,dvd_mul_left->Yd,mul_ne_zero->Xc,natCast_mul->afJ,natCast_pow->aaX,natCast_add->ac7,ediv_one->abC,sub_self->Zu,le_trans->agb,dvd_zero->ae1
open Bool renaming false_ne_true->fX,and_eq_true->rN,or_eq_true->vU,and_eq_true_iff->HZ,eq_iff_iff->B4,false_eq_true->QN,and_true->Io,false_or->KY,true_and->SQ,true_or->Wn
open PySem.Heap renaming lt_size->cW,size_push->HD,SameBut->HM,IsTuple->JR,IsList->Es
open PySem.W renaming Frag->aG,mg_none_of->qx,kitOne->oJ,nsIn->jk,findIn->sU,kas_sort->Ah,fnOf->qL,mg_of->uR,keepIn->Av,cellsFrom_some->ada,codeIn->C5,methodObj->Lg,hideAll->Fw,mroIn->zF,excIn->IW
open PyProof.Rows renaming callWith_type1->u6,slot_tuple_getitem->Ar,callWith_builtin1->ajG
open Classical renaming byContradiction->uW,not_forall->Eh,not_imp->Ob,skolem->Pn,choose->acB
open Ne renaming symm->dF
open PySem renaming mem_of_lookup->uL,call->Wd
open Option.some renaming inj->rO
open PySem.Obj renaming mapSeq->j8,data_mapFields->V0
open PySem.F renaming slot_tuple_iterator_next->Jm,args_tuple_add_2->Qj,entry_tuple_add->La,plainAttrs_list->Rb,slot_tuple_add->Qv,slot_dict_get->QY,excBase_ValueError->SG,args_tuple_iterator_next_1->afV,entry_tuple_iterator_next->ad2,slot_zip_next->Iz,args_dict_get_3->abK,entry_dict_get->agZ,args_zip_next_1->afO,entry_zip_next->X7,slot_int_rmul->agc
open Or renaming inr->fP,inl->oX
open PySem.PyData renaming eqv->oG,depthAll->wK,canLayAll0->DM,canLay0->CN,eqvAll->BF,depth->Dt,int->Ij
open Sum.inl renaming inj->vm
open PySem.Shared renaming heap->uT
open PySem.Calls renaming spliced_cons->Jf,callWith_builtin->Pj,evalArgs_plain->TR,Name_function_global->aeS,call_function_entry->Y8,spliced_nil->Vv
open Sum renaming inl->nY,inr->yh
open Array renaming length_toList->Q5,append_assoc->Za,toList->V4
open List.Pairwise renaming imp_of_mem->abj,nil->atv
open PyProof renaming noPylong_small->YX
open Option renaming map_eq_some_iff->abg,isSome_map->Xd,getD_none->adP,none->Lz
open PySem.Heap.SameBut renaming update->ad0
open List.Nodup renaming sublist->afA
open List.Sublist renaming map->aeZ,slnil->ax7
open PySem.EqNone renaming eq_none_none->alZ,eq_none_bool->aqK,eq_bool_none->apa,ne_none_none->aie,ne_none_bool->anV,ne_bool_none->arb,eq_none_int->ahc,eq_none_str->aiE,eq_int_none->ayE,eq_str_none->aqx,ne_none_int->akh,ne_none_str->avt,ne_int_none->arU,ne_str_none->avf
open PySem.EqMixed renaming eq_bool_str->amL,eq_str_bool->auL,ne_bool_str->ala,ne_str_bool->au2,eq_int_str->amk,eq_str_int->avs,ne_int_str->axT,ne_str_int->axV
open PySem.W.X renaming obsZ->Zn,valZ->agB
open Prod renaming ext->Kq
open PySem.Heap.IsSliceOf renaming new->auK
namespace L2
open PySem PySem.Spec PyProof.Rows
abbrev Key:=Sum Int Str
def zU:Key->Value->Bool
 |.inl k,v=>Value.isInt k v
 |.inr x,v=>Value.isStrOf x v
def asV(w:World):Key->Int
 |.inl k=>hashInt k
 |.inr x=>hashStr w x
def rW:∀{k:Key} {v:Value},zU k v=true->(∃i t,k=nY i/\v=Value.int i t)∨(∃x t,k=yh x/\v=Value.str x t)
 |.inl i,v,h=>by
  obtain⟨t,e⟩:=Value.isInt_shape (k:=i) (v:=v) h;exact .inl ⟨i,t,rfl,e⟩
 |.inr x,v,h=>by
  obtain⟨t,e⟩:=Value.isStrOf_shape (x:=x) (v:=v) h;exact .inr ⟨x,t,rfl,e⟩
def aiV(i:Int)(t:Tok):zU (.inl i) (.int i t)=true:=by simp[zU,Value.isInt]
def avo(x:Str)(t:Tok):zU (.inr x) (.str x t)=true:=by simp[zU,Value.isStrOf]
def ap2(a b:Int):decide ((nY a:Key)=nY b)=(a==b):=by
 by_cases e:a=b
 .subst e;simp
 .have h:¬(nY a:Key)=nY b:=λq=>e (vm q);rw[decide_eq_false h];exact(beq_eq_false_iff_ne.mpr e).symm
def atp(a b:Str):decide ((yh a:Key)=yh b)=decide (a=b):=by
 by_cases e:a=b
 .subst e;simp
 .have h:¬(yh a:Key)=yh b:=λq=>e (Sum.inr.inj q);rw[decide_eq_false h,decide_eq_false e]
def ayt(a:Int)(b:Str):decide ((nY a:Key)=yh b)=false:=decide_eq_false (λq=>nomatch q)
def ahS(a:Str)(b:Int):decide ((yh a:Key)=nY b)=false:=decide_eq_false (λq=>nomatch q)
def gY(prog:Program)(w:World):PySem.KeyKind prog w Key where
 is:=zU
 hash:=asV w
 inj:=λv a b ha hb=>by
  rcases rW ha with⟨i,t,rfl,rfl⟩|⟨x,t,rfl,rfl⟩
  .rcases rW hb with⟨j,u,rfl,e⟩|⟨y,u,rfl,e⟩
   .injection e with e1 _;rw[e1]
   .exact nomatch e
  .rcases rW hb with⟨j,u,rfl,e⟩|⟨y,u,rfl,e⟩
   .exact nomatch e
   .injection e with e1 _;rw[e1]
 byValue:=λk v h=>by
  rcases rW h with⟨i,t,rfl,rfl⟩|⟨x,t,rfl,rfl⟩<;>rfl
 pyHash:=λhv h=>by
  rcases rW hv with⟨i,t,rfl,rfl⟩|⟨x,t,rfl,rfl⟩
  .exact wpAny_pyHash_int h
  .exact wpAny_pyHash_str h
 eqBool:=λhu hv h=>by
  rcases rW hu with⟨i,t,rfl,rfl⟩|⟨x,t,rfl,rfl⟩
  .rcases rW hv with⟨j,u,rfl,rfl⟩|⟨y,u,rfl,rfl⟩
   .rw[ap2]at h;exact wpAny_eqBool_int h
   .rw[ayt]at h;exact SeqAt.EqAt.int_str i t y u _ _ _ _ h
  .rcases rW hv with⟨j,u,rfl,rfl⟩|⟨y,u,rfl,rfl⟩
   .rw[ahS]at h;exact SeqAt.EqAt.str_int x t j u _ _ _ _ h
   .rw[atp]at h;exact wpAny_eqBool_str h
 «strs»:=λk x t v h=>by
  rcases rW h with⟨i,u,rfl,e⟩|⟨y,u,rfl,e⟩
  .exact nomatch e
  .injection e with e1 _;subst e1;cases v<;>rfl
def arL(prog:Program)(w:World)(i:Int)(t:Tok):(gY prog w).is (.inl i) (.int i t)=true:=aiV i t
def awK(prog:Program)(w:World)(x:Str)(t:Tok):(gY prog w).is (.inr x) (.str x t)=true:=avo x t
inductive V where
 |non|bl (b:Bool)|int (i:Int)|str (x:Str)|lQ (b:Array UInt8)|flt (b:UInt64)|ref (a:Addr)|ty (n:String)
 deriving DecidableEq
def RelV:V->Value->Prop
 |.non,u=>u=Value.none
 |.bl b,u=>u=Value.bool b
 |.int i,u=>∃t,u=Value.int i t
 |.str x,u=>∃t,u=Value.str x t
 |.lQ b,u=>∃t,u=Value.bytes b t
 |.flt b,u=>∃t,u=Value.float b t
 |.ref a,u=>u=Value.ref a
 |.ty n,u=>u=Value.type n
abbrev Vals:List V->List Value->Prop:=Paired RelV
theorem Vals.length{xs:List V}{us:List Value}(r:Vals xs us):xs.length=us.length:=Paired.length r
theorem Vals.get:∀{xs:List V} {us:List Value} {i:Nat} {x:V},Vals xs us->xs[i]?=some x->∃u,us[i]?=some u/\RelV x u
 |_,_,_,_,.nil,e=>by simp at e
 |_,_,0,_,.cons r _,e=>by simp at e;subst e;exact⟨_,rfl,r⟩
 |_,_,i+1,x,.cons _ t,e=>by
  obtain⟨u,h1,h2⟩:=Vals.get (i:=i) (x:=x) t (by simpa using e);exact⟨u,by simpa using h1,h2⟩
theorem Vals.set{x:V}{u:Value}(r:RelV x u):∀{xs:List V} {us:List Value} (i:Nat),Vals xs us->Vals (xs.set i x) (us.set i u)
 |_,_,_,.nil=> .nil
 |_,_,0,.cons _ t=> .cons r t
 |_,_,i+1,.cons q t=> .cons q (Vals.set r i t)
theorem Vals.append:∀{xs ys:List V} {us ws:List Value},Vals xs us->Vals ys ws->Vals (xs++ys) (us++ws)
 |_,_,_,_,.nil,s=>s
 |_,_,_,_,.cons r t,s=> .cons r (Vals.append t s)
theorem Vals.take:∀{xs:List V} {us:List Value} (n:Nat),Vals xs us->Vals (xs.take n) (us.take n)
 |_,_,0,_=> .nil
 |_,_,_+1,.nil=> .nil
 |_,_,n+1,.cons r t=> .cons r (Vals.take n t)
theorem Vals.drop:∀{xs:List V} {us:List Value} (n:Nat),Vals xs us->Vals (xs.drop n) (us.drop n)
 |_,_,0,r=>r
 |_,_,_+1,.nil=> .nil
 |_,_,n+1,.cons _ t=>Vals.drop n t
def kE:Option V->Option Value->Prop
 |some v,some u=>RelV v u
 |none,none=>True
 |_,_=>False
def KV{κ:Type}:List (κ×V)->List (κ×Value)->Prop:=Paired λ(p:κ×V) (q:κ×Value)=>p.1=q.1/\RelV p.2 q.2
def kV:Key->V
 |.inl i=> .int i
 |.inr x=> .str x
inductive HO where
 /-- a list -/
 |lst (xs:List V)
 /-- a tuple (never changes) -/
 |tup (xs:List V)
 /-- a dict whose keys are ints and texts;one whose keys are tuples of ints and texts (the empty one is both) -/
 |dK (kvs:List (Key×V))|dT (kvs:List (List Key×V))
 /-- a set of ints: its members,its size -/
 |set (S:Int->Bool) (n:Nat)
 /-- an instance of the class at C,its dict at dx,its attributes -/
 |ins (C dx:Addr) (fs:List (Str×V))
 /-- the dict of the instance at x -/
 |own (x:Addr)
 /-- the dict of an exception -/
 |xd (fs:List (Str×V))
 /-- a bound method,f of x -/
 |met (f x:Addr)
 /-- a range object lo,lo+1,.. below hi -/
 |rng (lo hi:Int)
 /-- a thing that is known to the object (the script;a dict while a loop walks it): read,never written while it is so -/
 |dw (o:Obj) (u:HO)
 /-- a code object's table -/
 |rG (ps:Array Value)
 /-- any other thing,by what is true of its one object (a def of ay1 own: azG a S n:=HO.ext λh=> ..) -/
 |ext (φ:Heap->Prop)
abbrev Hp:=Addr->Option HO
def upd(H:Hp)(a:Addr)(o:HO):Hp:=λb=>if b=a then some o else H b
def aC{H:Hp}{a:Addr}{o:HO}:upd H a o a=some o:=by unfold upd;rw[if_pos rfl]
def bF{H:Hp}{a b:Addr}{o:HO}(h:b≠a):upd H a o b=H b:=by unfold upd;rw[if_neg h]
def axH{H:Hp}{a:Addr}{o u:HO}:upd (upd H a o) a u=upd H a u:=by
 funext b;unfold upd;split<;>rfl
def awP{H:Hp}{a b:Addr}{o u:HO}(h:H a=some o)(h':H b=some u)(d:o≠u):a≠b:=by
 intro e;subst e;rw[h]at h';exact d (rO h')
def jq{H:Hp}{a b:Addr}{o:HO}(h:H a=some o)(h':H b=none):a≠b:=by
 intro e;subst e;rw[h]at h';cases h'
section
variable (P:Program) (w:World)
def dz(H:Hp)(h:Heap)(a:Addr):HO->Prop
 |.lst xs=>xs.length<=sizeLine/\∃(its:List Value) (n:Nat),Vals xs its/\h.get? a=some { cls:= .type "list",data:= .seq its.toArray n }
 |.tup xs=>xs.length<=sizeLine/\∃its:List Value,Vals xs its/\IsTup h a its.toArray
 |.dK kvs=>kvs.length<=sizeLine/\(a==sysModules)=false/\∃vs,KV kvs vs/\h.DictOf (gY P w) a vs
 |.dT kvs=>kvs.length<=sizeLine/\(a==sysModules)=false/\∃xs:List (List Key×Addr×Value),
   Paired (λ(p:List Key×V) (q:List Key×Addr×Value)=>p.1=q.1/\H q.2.1=some (.tup (p.1.map kV))/\RelV p.2 q.2.2) kvs xs/\
   ∃o es ep,h.get? a=some o/\o.ExactDict/\o.data = .dict es ep/\es.toList=xs.map (entryOfKey (tupleKind (gY P w)))/\(xs.map (·.1)).Nodup
 |.set S n=>h.SetOf (intKind P w) a S n
 |.ins C dx fs=>H dx=some (.own a)/\fs.length<=1000/\dx≠a/\h.get? a=some (W.instObj C dx)/\
   ∃mA,h.Ns1 dx mA/\(∀f,kE (fs.lookup f) (mA f))/\PySem.Within mA (fs.map (·.1))
 |.own _=>∃o,h.get? a=some o
 |.xd fs=>∃mA,h.Ns1 a mA/\∀f,kE (fs.lookup f) (mA f)
 |.rng lo hi=>∃t u v,h.get? a=some { cls:= .type "range",data:= .fields #[.int lo t,.int hi u,.int 1 v] }
 |.dw o u=>h.get? a=some o/\dz H h a u
 |.rG ps=>h.get? a=some { cls:= .none,data:= .fields ps }
 |.met f x=>h.get? a=some (Lg (.ref f) (.ref x))
 |.ext φ=>φ h/\(∃o,h.get? a=some o)/\∀h1 h2:Heap,φ h1->(∀o,h1.get? a=some o->h2.get? a=some o)->φ h2
def fJ(H:Hp)(h:Heap):Prop:=∀a o,H a=some o->dz P w H h a o
end
section
variable {P:Program} {w:World} {H H':Hp} {h h':Heap} {a:Addr} {o:HO}
theorem dz.lt(x:dz P w H h a o):a<h.objs.size:=by
 cases o with
 |lst xs=>obtain⟨_,_,_,_,e⟩:=x;exact cW e
 |tup xs=>obtain⟨_,_,_,p⟩:=x;exact p.lt
 |dK kvs=>obtain⟨_,_,_,_,o,_,_,e,_⟩:=x;exact cW e
 |dT kvs=>obtain⟨_,_,_,_,o,_,_,e,_⟩:=x;exact cW e
 |set S n=>obtain⟨o,_,_,_,e,_⟩:=x;exact cW e
 |ins C dx fs=>obtain⟨_,_,_,e,_⟩:=x;exact cW e
 |own y=>obtain⟨_,e⟩:=x;exact cW e
 |xd fs=>obtain⟨_,⟨_,_,_,e,_⟩,_⟩:=x;exact cW e
 |rng lo hi=>obtain⟨_,_,_,e⟩:=x;exact cW e
 |dw ob u=>obtain⟨e,_⟩:=x;exact cW e
 |rG ps=>exact cW (show h.get? a=some _ from x)
 |met f y=>exact cW (show h.get? a=some _ from x)
 |ext φ=>obtain⟨_,⟨_,e⟩,_⟩:=x;exact cW e
theorem Paired.Qt{α β:Type}{F G:α->β->Prop}:∀{l₁:List α} {l₂:List β},Paired F l₁ l₂->(∀a b,F a b->G a b)->Paired G l₁ l₂
 |_,_,.nil,_=> .nil
 |_,_,.cons r t,f=> .cons (f _ _ r) (Paired.Qt t f)
def dz.stay(x:dz P w H h a o)(k:∀b u,(b=a∨H b=some (.own a))->h.get? b=some u->h'.get? b=some u)
  (ho:∀b,H b=some (.own a)->H' b=some (.own a)) (ht:∀b xs,H b=some (.tup xs)->H' b=some (.tup xs)):dz P w H' h' a o:=by
 induction o with
 |lst xs=>obtain⟨z,its,n,r,e⟩:=x;exact⟨z,its,n,r,k _ _ (.inl rfl) e⟩
 |tup xs=>obtain⟨z,its,r,ob,e,c⟩:=x;exact⟨z,its,r,ob,k _ _ (.inl rfl) e,c⟩
 |dK kvs=>obtain⟨z,y,vs,r,ob,es,ep,e,c⟩:=x;exact⟨z,y,vs,r,ob,es,ep,k _ _ (.inl rfl) e,c⟩
 |dT kvs=>
  obtain⟨z,y,xs,r,ob,es,ep,e,c⟩:=x;exact⟨z,y,xs,Paired.Qt r λp q z=>⟨z.1,ht _ _ z.2.1,z.2.2⟩,ob,es,ep,k _ _ (.inl rfl) e,c⟩
 |set S n=>obtain⟨ob,es,ep,t,e,c⟩:=x;exact⟨ob,es,ep,t,k _ _ (.inl rfl) e,c⟩
 |ins C dx fs=>
  obtain⟨d,z,ne,e,mA,⟨od,es,ep,e2,c⟩,r⟩:=x;exact⟨ho _ d,z,ne,k _ _ (.inl rfl) e,mA,⟨od,es,ep,k _ _ (.inr d) e2,c⟩,r⟩
 |own y=>obtain⟨ob,e⟩:=x;exact⟨ob,k _ _ (.inl rfl) e⟩
 |xd fs=>obtain⟨mA,⟨od,es,ep,e,c⟩,r⟩:=x;exact⟨mA,⟨od,es,ep,k _ _ (.inl rfl) e,c⟩,r⟩
 |rng lo hi=>obtain⟨t,u,v,e⟩:=x;exact⟨t,u,v,k _ _ (.inl rfl) e⟩
 |dw ob u ih=>obtain⟨e,q⟩:=x;exact⟨k _ _ (.inl rfl) e,ih q⟩
 |rG ps=>
  have e:h.get? a=some { cls:= .none,data:= .fields ps }:=x;show h'.get? a=some { cls:= .none,data:= .fields ps };exact k a _ (.inl rfl) e
 |met f y=>
  have e:h.get? a=some (Lg (.ref f) (.ref y)):=x;show h'.get? a=some (Lg (.ref f) (.ref y));exact k a _ (.inl rfl) e
 |ext φ=>obtain⟨p,⟨o,e⟩,st⟩:=x;exact⟨st _ _ p λo q=>k _ _ (.inl rfl) q,⟨o,k _ _ (.inl rfl) e⟩,st⟩
theorem fJ.lt(x:fJ P w H h)(e:H a=some o):a<h.objs.size:=(x a o e).lt
def fJ.fresh(x:fJ P w H h)(e:h.objs.size<=a):H a=none:=by
 cases q:H a with
 |none=>rfl
 |some u=>exact absurd (jo (x.lt q) e) (lA _)
def fJ.kept(x:fJ P w H h)(k:∀b u,h.get? b=some u->h'.get? b=some u):fJ P w H h':=λa o e=>
 (x a o e).stay (λb u _ q=>k b u q) (λ_ q=>q) λ_ _ q=>q
def fJ.laid(x:fJ P w H h)(k:∀b u,h.get? b=some u->h'.get? b=some u)(hp:h.objs.size<=a)(new:dz P w (upd H a o) h' a o):fJ P w (upd H a o) h':=λb u e=>by
 have hn:=x.fresh hp;by_cases hb:b=a
 .subst hb;rw[aC]at e;cases e;exact new
 .rw[bF hb]at e;exact(x b u e).stay (λc v _ q=>k c v q) (λc q=>by rw[bF (jq q hn)];exact q) λc xs q=>by rw[bF (jq q hn)];exact q
end
def Rd(H:Hp)(a:Addr)(u:HO):Prop:=H a=some u∨∃o,H a=some (.dw o u)
def Rd.ok{P:Program}{w:World}{H:Hp}{h:Heap}{a:Addr}{u:HO}(r:Rd H a u)(x:fJ P w H h):dz P w H h a u:=by
 rcases r with r|⟨o,r⟩
 .exact x a u r
 .obtain⟨_,q⟩:=x a _ r;exact q
def Ds:Option HO->Prop
 |some (.lst _)=>True
 |some (.dK _)=>True
 |some (.dT _)=>True
 |some (.set _ _)=>True
 |some (.ins _ _ _)=>True
 |some (.ext _)=>True
 |_=>False
section
variable {P:Program} {w:World} {H:Hp} {h h':Heap} {x e:Addr} {o':HO}
def fJ.write(ok:fJ P w H h)(mu:Ds (H x))(he:e=x∨H e=some (.own x))(k:∀b u,b≠e->h.get? b=some u->h'.get? b=some u)(heo:∃u,h'.get? e=some u)
  (new:dz P w (upd H x o') h' x o'):fJ P w (upd H x o') h':=λb u q=>by
 have X3:∀c y,H c=some (.own y)->c≠x:=λc y r z=>by subst z;rw[r]at mu;exact mu
 have anT:∀c xs,H c=some (.tup xs)->c≠x:=λc xs r z=>by subst z;rw[r]at mu;exact mu
 by_cases hb:b=x
 .subst hb;rw[aC]at q;cases q;exact new
 .rw[bF hb]at q;by_cases hbe:b=e
  .have q':H b=some (.own x):=by
    rcases he with z|z
    .exact absurd (hbe.trans z) hb
    .rw[hbe];exact z
   rw[q]at q';cases q';obtain⟨v,hv⟩:=heo;exact⟨v,by rw[hbe];exact hv⟩
  .refine(ok b u q).stay (λc v hc r=>k c v ?_ r) (λc r=>by rw[bF (X3 c b r)];exact r) λc xs r=>by rw[bF (anT c xs r)];exact r
   rcases hc with rfl|hc
   .exact hbe
   .rintro rfl;rcases he with z|z
    .exact X3 c b hc z
    .rw[hc]at z;cases z;exact hb rfl
end
structure Un(fs ex:List Addr)(H H':Hp)(h h':Heap):Prop where
 keep:∀b o,h.get? b=some o->H b=none->b∉fs->b∉ex->h'.get? b=some o
 slot:∀b o,h.get? b=some o->H b=none->b∈fs->b∉ex->∃sl,h'.get? b=some { o with slots:=sl }
 free:∀b o,h.get? b=some o->H b=none->b∉ex->H' b=none
 there:∀b o,h.get? b=some o->b∉ex->∃o',h'.get? b=some o'
 tups:∀b xs,H b=some (.tup xs)->H' b=some (.tup xs)
 jR:∀b o u,H b=some (.dw o u)->H' b=some (.dw o u)
 nM:∀b ps,H b=some (.rG ps)->∃more,H' b=some (.rG (ps++more))
section
variable {fs fs' ex ex':List Addr} {H H1 H2:Hp} {h h1 h2 h':Heap} {a x e:Addr} {o:HO}
def Un.any(u:Un fs ex H H1 h h1){b:Addr}{ob:Obj}(q:h.get? b=some ob)(n:H b=none)(hx:b∉ex):∃sl,h1.get? b=some { ob with slots:=sl }:=by
 by_cases hb:b∈fs
 .exact u.slot b ob q n hb hx
 .exact⟨ob.slots,u.keep b ob q n hb hx⟩
def Un.kept(k:∀b u,h.get? b=some u->h'.get? b=some u):Un fs ex H H h h':=
 ⟨λb ob q _ _ _=>k b ob q,λb ob q _ _ _=>⟨ob.slots,k b ob q⟩,λ_ _ _ n _=>n,λb ob q _=>⟨ob,k b ob q⟩,λ_ _ q=>q,λ_ _ _ q=>q,λ_ ps q=>⟨#[],by rw[q];simp⟩⟩
def Un.refl:Un fs ex H H h h:=Un.kept λ_ _ q=>q
def Un.laid(k:∀b u,h.get? b=some u->h'.get? b=some u)(hp:h.objs.size<=a)(hn:H a=none):Un fs ex H (upd H a o) h h' where
 keep:=λb u q _ _ _=>k b u q
 slot:=λb u q _ _ _=>⟨u.slots,k b u q⟩
 free:=λb u q n _=>by rw[bF (jQ (jo (cW q) hp))];exact n
 there:=λb u q _=>⟨u,k b u q⟩
 tups:=λb xs q=>by rw[bF (jq q hn)];exact q
 jR:=λb u xs q=>by rw[bF (jq q hn)];exact q
 nM:=λb ps q=>⟨#[],by rw[bF (jq q hn),q];simp⟩
def Un.write(mu:Ds (H x))(he:e=x∨H e=some (.own x))(k:∀b u,b≠e->h.get? b=some u->h'.get? b=some u)(heo:∃u,h'.get? e=some u):Un fs ex H (upd H x o) h h':=by
 have hx:∀b,H b=none->b≠x:=λb n z=>by subst z;rw[n]at mu;exact mu
 have hb:∀b,H b=none->b≠e:=λb n z=>by
  subst z;rcases he with r|r
  .exact hx b n r
  .rw[n]at r;cases r
 have hm:∀b u,H b=some u->¬Ds (some u)->b≠x:=λb u q nm z=>by subst z;rw[q]at mu;exact nm mu
 refine⟨λb u q n _ _=>k b u (hb b n) q,λb u q n _ _=>⟨u.slots,k b u (hb b n) q⟩,λb u q n _=>by rw[bF (hx b n)];exact n,λb u q _=>?_,
  λb xs q=>by rw[bF (hm b _ q λz=>z)];exact q,λb u xs q=>by rw[bF (hm b _ q λz=>z)];exact q,λb ps q=>⟨#[],by rw[bF (hm b _ q λz=>z),q];simp⟩⟩
 by_cases hbe:b=e
 .subst hbe;exact heo
 .exact⟨u,k b u hbe q⟩
end
def Jd(h:Heap)(H:Hp):List Addr:=(eX h.objs.size).filter λa=>(H a).isSome
def tZ(h:Heap)(H:Hp):Heap:=Fw h (Jd h H)
def aht(h:Heap)(H:Hp):(tZ h H).objs.size=h.objs.size:=W.hideAll_size _ _
def ahJ{h:Heap}{H:Hp}{b:Addr}{o:Obj}(e:h.get? b=some o)(n:H b=none):(tZ h H).get? b=some o:=
 W.hideAll_get _ e λhm=>by
  have q:(H b).isSome=true:=(pA.mp hm).2;rw[n]at q;simp at q
def aw7{h:Heap}{H:Hp}{b:Addr}{o:Obj}(e:(tZ h H).get? b=some o):h.get? b=some o/\H b=none:=by
 have e':h.get? b=some o:=W.of_hideAll (Jd h H) e;refine⟨e',?_⟩;cases q:H b with
 |none=>rfl
 |some x=>
  have hm:b∈Jd h H:=pA.mpr ⟨iV.mpr (cW e'),by simp[q]⟩;have z:(tZ h H).get? b=none:=W.hideAll_none (Jd h H) hm;rw[z]at e;cases e
structure Mod(K:aG)(mg:Str->Option Value)(base:Heap):Prop where
 JY:K.In base
 glob:base.Ns mainGlobals mg
 blt:∃mb,base.Ns builtinsNs mb/\∀x:Str,x≠ "__name__" -> mb x=bootBuiltins x
 nolimit:base.NoLimit
 digits:base.NoDigits
structure Cx where
 prog:Program
 w:World
 K:aG
 mg:Str->Option Value
 base:Heap
 A:Around
 N:List Str
 s₀:Shared
 H₀:Hp
 env:Env
 outer:List Env
 stack:List Env
 ex:List Addr
 fn:Str->Bool
 calm:Bool
 pn:List (Addr×Obj)
 xe:Value->Shared->Prop
def frs(l:List Env):List Addr:=l.filterMap (·.frame)
abbrev Cx.fs(X:Cx):List Addr:=frs X.outer
def Hj(sc:Scope)(x:Str):Prop:=sc.names.lookup x=some .local∨sc.names.lookup x=some .cell∨sc.names.lookup x=some .free
def Loc(sc:Scope)(x:Str):Prop:=sc.names.lookup x=some .local∨sc.names.lookup x=some .cell
def Look(env:Env)(h:Heap)(m:Str->Option Value)(x:Str)(u:Value):Prop:=
 (env.kindOf x=some .local/\m x=some u)∨((env.kindOf x=some .cell∨env.kindOf x=some .free)/\∃c,env.cells.lookup x=some c/\h.IsCell c (some u))
structure Cx.Ok(X:Cx):Prop where
 mod:Mod X.K X.mg X.base
 kind:X.env.scope.kind = .function
 glob:X.env.globals=mainGlobals
 blt:X.env.builtins=builtinsNs
 above:X.s₀.heap.objs.size<=X.env.locals
 inj:∀x y c,X.env.cells.lookup x=some c->X.env.cells.lookup y=some c->x=y
 has:∀x,(X.env.kindOf x=some .cell∨X.env.kindOf x=some .free)->∃c,X.env.cells.lookup x=some c
 cab:∀x c,X.fn x=true->X.env.cells.lookup x=some c->X.s₀.heap.objs.size<=c
 hd:X.calm=true->X.A.handled=none
 frames:X.A.frames=some X.stack
 stk:X.stack=X.outer∨(X.stack=X.env::X.outer/\X.env.frame=some X.env.locals)
 Xf:∀b∈X.ex,b≠X.env.locals/\∀x c,X.env.cells.lookup x=some c->c≠b
 bs:∀b o,X.base.get? b=some o->X.s₀.heap.get? b=some o/\X.H₀ b=none
 vW:X.base.objs.size<=X.s₀.heap.objs.size
 CD:∀b o,X.base.get? b=some o->b∉X.ex
 Ed:∀b∈X.ex,b∉X.fs
 qz:X.s₀.heap.FunFrames X.base X.outer
 yw:∀b∈X.fs,X.H₀ b=none
structure Inv(X:Cx)(pins:List (Addr×Obj))(σ:List (Option V))(H:Hp)(s:Shared):Prop where
 ok:X.Ok
 os:s.os=X.s₀.os
 bare:AllBare s.gens
 base:Un X.fs X.ex X.H₀ H X.s₀.heap s.heap
 loc:∃m,s.heap.Ns X.env.locals m/\∀(i:Nat) (x:Str) (v:V),X.N[i]?=some x->σ[i]?=some (some v)->Hj X.env.scope x->∃u,RelV v u/\Look X.env s.heap m x u
 cell:∀x c,X.env.cells.lookup x=some c->∃v,s.heap.IsCell c v
 free:H X.env.locals=none
 pZ:∀x c,X.env.cells.lookup x=some c->H c=none
 pin:∀p∈X.pn++pins,s.heap.get? p.1=some p.2/\H p.1=none/\p.1≠X.env.locals/\p.1∉X.fs/\∀v,p.2.data≠ .cell v
 hok:fJ X.prog X.w H s.heap
 len:σ.length=X.N.length
section
variable {X:Cx} {pins:List (Addr×Obj)} {σ:List (Option V)} {H H':Hp} {s:Shared} {h':Heap}
def Cx.Ok.ao4(ok:X.Ok){b:Addr}{o:Obj}(e:X.base.get? b=some o):b∉X.fs:=λhb=>by
 have:=(ok.qz.mem hb).1;rw[e]at this;cases this
theorem Inv.bs(I:Inv X pins σ H s):∀b o,X.base.get? b=some o->s.heap.get? b=some o/\H b=none:=λb o e=>
 ⟨I.base.keep b o (I.ok.bs b o e).1 (I.ok.bs b o e).2 (I.ok.ao4 e) (I.ok.CD b o e),I.base.free b o (I.ok.bs b o e).1 (I.ok.bs b o e).2 (I.ok.CD b o e)⟩
def Inv.bk(I:Inv X pins σ H s):∀b o,X.base.get? b=some o->s.heap.get? b=some o:=λb o e=>(I.bs b o e).1
theorem Inv.mod(I:Inv X pins σ H s):Mod X.K X.mg X.base:=I.ok.mod
def Inv.wQ(I:Inv X pins σ H s):X.K.In s.heap:=I.ok.mod.JY.keeps I.bk
theorem Inv.lt(I:Inv X pins σ H s):X.env.locals<s.heap.objs.size:=let⟨_,hn,_⟩:=I.loc;hn.lt
def Inv.sz(I:Inv X pins σ H s):X.s₀.heap.objs.size<=s.heap.objs.size:=fY I.ok.above (gG I.lt)
def Inv.asA(I:Inv X pins σ H s){a:Addr}(h:s.heap.objs.size<=a):a∉X.fs:=λhb=>by
 obtain⟨_,o,ho,_⟩:=I.ok.qz.mem hb;exact absurd (jo (cW ho) (fY I.sz h)) (lA _)
def Inv.xu(I:Inv X pins σ H s):∀x c,X.env.cells.lookup x=some c->c≠X.env.locals:=λx c e z=>by
 obtain⟨v,o,ho,hd⟩:=I.cell x c e;obtain⟨m,⟨o',es,ep,ho',hd',_⟩,_⟩:=I.loc;rw[z,ho']at ho;cases ho;rw[hd']at hd;cases hd
theorem Inv.qz(I:Inv X pins σ H s):s.heap.FunFrames X.base X.outer:=by
 have all:∀(l:List Env),(∀b∈frs l,b∈X.fs)->X.s₀.heap.FunFrames X.base l->s.heap.FunFrames X.base l:=by
  intro l;induction l with
  |nil=>intro _ _;trivial
  |cons env r ih=>
   intro hs hl;obtain⟨hk,⟨L,o,hf,hn,ho,hd⟩,hr⟩:=hl;have hL:L∈X.fs:=hs L (by unfold frs;rw[RB,hf];exact cV);obtain⟨sl,e⟩:=I.base.slot L o ho (I.ok.yw L hL) hL λz=>I.ok.Ed L z hL;exact⟨hk,⟨L,_,hf,hn,e,hd⟩,ih (λb hb=>hs b (by unfold frs;rw[RB,hf];exact cZ _ hb)) hr⟩
 exact all X.outer (λ_ hb=>hb) I.ok.qz
theorem Inv.stack(I:Inv X pins σ H s):s.heap.FunFrames X.base X.stack:=by
 rcases I.ok.stk with e|⟨e,hf⟩
 .rw[e];exact I.qz
 .rw[e];obtain⟨m,hn,_⟩:=I.loc;refine .cons (by rw[I.ok.kind];decide) hf hn ?_ I.qz;exact Heap.get?_none_of_le (fY I.ok.vW I.ok.above)
def Inv.J5(I:Inv X pins σ H s):∀b∈frs X.stack,b∈X.env.locals::X.fs:=λb hb=>by
 rcases I.ok.stk with e|⟨e,hf⟩
 .rw[e]at hb;exact cZ _ hb
 .rw[e]at hb;unfold frs at hb;rw[RB,hf]at hb;exact hb
def Inv.Vj(I:Inv X pins σ H s):∀b∈frs X.stack,H b=none:=λb hb=>by
 rcases bN.mp (I.J5 b hb)with e|hb
 .rw[e];exact I.free
 .obtain⟨_,o,ho,_⟩:=I.ok.qz.mem hb;exact I.base.free b o ho (I.ok.yw b hb) λz=>I.ok.Ed b z hb
def Inv.step{g':Array GenState}{t':Nat}{d':Drawn}{ch:List Addr}(I:Inv X pins σ H s)
  (hch:∀b∈ch,(b∈X.ex∨X.s₀.heap.objs.size<=b)/\b≠X.env.locals/\(∀x c,X.env.cells.lookup x=some c->c≠b)/\∀p∈X.pn++pins,p.1≠b)
  (keep:∀b o,b≠X.env.locals->b∉X.fs->b∉ch->s.heap.get? b=some o->H b=none->h'.get? b=some o)
  (slot:∀b o,b≠X.env.locals->b∈X.fs->b∉ch->s.heap.get? b=some o->H b=none->∃sl,h'.get? b=some { o with slots:=sl }) (free:∀b o,b∉ch->s.heap.get? b=some o->H b=none->H' b=none)
  (there:∀b o,b∉ch->s.heap.get? b=some o->∃o',h'.get? b=some o')
  (tups:∀b xs,H b=some (.tup xs)->H' b=some (.tup xs)) (jR:∀b o u,H b=some (.dw o u)->H' b=some (.dw o u)) (nM:∀b ps,H b=some (.rG ps)->∃more,H' b=some (.rG (ps++more)))
  (ns:∀m,s.heap.Ns X.env.locals m->h'.Ns X.env.locals m) (hok:fJ X.prog X.w H' h') (hg:AllBare g'):
  Inv X pins σ H' { s with heap:=h',gens:=g',drawn:=d',toks:=t' }:=by
 have ZC:∀b o,X.s₀.heap.get? b=some o->b≠X.env.locals:=λb o e=>jQ (jo (cW e) I.ok.above);have HJ:∀b o,X.s₀.heap.get? b=some o->b∉X.ex->b∉ch:=λb o e hx hb=>by
  rcases(hch b hb).1 with z|z
  .exact hx z
  .exact absurd (jo (cW e) z) (lA _)
 have cellK:∀x c,X.env.cells.lookup x=some c->∀v,s.heap.IsCell c v->h'.IsCell c v:=λx c e v ⟨o,ho,hd⟩=>by
  have Du:c∉ch:=λz=>(hch c z).2.2.1 x c e rfl;by_cases hc:c∈X.fs
  .obtain⟨sl,q⟩:=slot c o (I.xu x c e) hc Du ho (I.pZ x c e);exact⟨_,q,hd⟩
  .exact⟨o,keep c o (I.xu x c e) hc Du ho (I.pZ x c e),hd⟩
 refine⟨I.ok,I.os,hg,⟨λb o e n hb hx=>?_,λb o e n hb hx=>?_,λb o e n hx=>?_,λb o e hx=>?_,λb xs e=>tups b xs (I.base.tups b xs e),λb o xs e=>jR b o xs (I.base.jR b o xs e),λb ps e=>?_⟩,?_,λx c e=>?_,?_,λx c e=>?_,λp hp=>?_,hok,I.len⟩
 .exact keep b o (ZC b o e) hb (HJ b o e hx) (I.base.keep b o e n hb hx) (I.base.free b o e n hx)
 .obtain⟨sl,e1⟩:=I.base.slot b o e n hb hx;obtain⟨sl',e2⟩:=slot b _ (ZC b o e) hb (HJ b o e hx) e1 (I.base.free b o e n hx);exact⟨sl',e2⟩
 .obtain⟨o',e1⟩:=I.base.there b o e hx;exact free b o' (HJ b o e hx) e1 (I.base.free b o e n hx)
 .obtain⟨o',e1⟩:=I.base.there b o e hx;exact there b o' (HJ b o e hx) e1
 .obtain⟨m1,e1⟩:=I.base.nM b ps e;obtain⟨m2,e2⟩:=nM b _ e1;exact⟨m1++m2,by rw[e2,Za]⟩
 .obtain⟨m,hn,hl⟩:=I.loc;refine⟨m,ns m hn,λi x v e1 e2 e3=>?_⟩;obtain⟨u,r,l⟩:=hl i x v e1 e2 e3;refine⟨u,r,?_⟩;rcases l with l|⟨k,c,e,z⟩
  .exact .inl l
  .exact .inr ⟨k,c,e,cellK x c e _ z⟩
 .obtain⟨v,z⟩:=I.cell x c e;exact⟨v,cellK x c e v z⟩
 .obtain⟨m,⟨o,_,_,ho,_⟩,_⟩:=I.loc;exact free _ o (λz=>(hch _ z).2.1 rfl) ho I.free
 .obtain⟨v,o,ho,hd⟩:=I.cell x c e;exact free c o (λz=>(hch c z).2.2.1 x c e rfl) ho (I.pZ x c e)
 .obtain⟨e,n,ne,nf,d⟩:=I.pin p hp;have Du:p.1∉ch:=λz=>(hch p.1 z).2.2.2 p hp rfl;exact⟨keep p.1 p.2 ne nf Du e n,free p.1 p.2 Du e n,ne,nf,d⟩
def Inv.un{t':Nat}(I:Inv X pins σ H s)(u:Un X.fs [] H H' s.heap h')(hok:fJ X.prog X.w H' h'):Inv X pins σ H' { s with heap:=h',toks:=t' }:=by
 obtain⟨m,⟨o,es,ep,ho,r⟩,_⟩:=id I.loc;obtain⟨sl,hL⟩:=u.any ho I.free (by simp);exact I.step (g':=s.gens) (d':=s.drawn) (ch:=[]) (λ_ z=>nomatch z) (λb o _ hb _ e n=>u.keep b o e n hb (by simp)) (λb o _ hb _ e n=>u.slot b o e n hb (by simp)) (λb o _ e n=>u.free b o e n (by simp)) (λb o _ e=>u.there b o e (by simp)) u.tups u.jR u.nM (λm' hm=>by
  obtain⟨o',es',ep',ho',r'⟩:=hm;rw[ho]at ho';cases ho';exact⟨_,es',ep',hL,r'⟩) hok I.bare
def Inv.call{g':Array GenState}{t':Nat}{d':Drawn}{ch:List Addr}(I:Inv X pins σ H s)(u:Un (frs X.stack) ch H H' s.heap h')(hok:fJ X.prog X.w H' h')(hg:AllBare g')
  (hch:∀b∈ch,(b∈X.ex∨X.s₀.heap.objs.size<=b)/\b≠X.env.locals/\(∀x c,X.env.cells.lookup x=some c->c≠b)/\∀p∈X.pn++pins,p.1≠b):
  Inv X pins σ H' { s with heap:=h',gens:=g',drawn:=d',toks:=t' }:=by
 obtain⟨m,⟨o,es,ep,ho,r⟩,_⟩:=id I.loc;obtain⟨sl,hL⟩:=u.any ho I.free λz=>(hch _ z).2.1 rfl;exact I.step (ch:=ch) hch (λb o hL hb hc e n=>u.keep b o e n (λz=>(bN.mp (I.J5 b z)).elim hL hb) hc) (λb o _ _ hc e n=>u.any e n hc) (λb o hc e n=>u.free b o e n hc) (λb o hc e=>u.there b o e hc) u.tups u.jR u.nM (λm' hm=>by
  obtain⟨o',es',ep',ho',r'⟩:=hm;rw[ho]at ho';cases ho';exact⟨_,es',ep',hL,r'⟩) hok hg
def Inv.turned{t':Nat}{it:Addr}(I:Inv X pins σ H s)(k:∀b o,b≠it->s.heap.get? b=some o->h'.get? b=some o)(hn:H it=none)(hL:it≠X.env.locals)
  (h1:it∈X.ex∨X.s₀.heap.objs.size<=it) (h2:∀x c,X.env.cells.lookup x=some c->c≠it) (h3:∀p∈X.pn++pins,p.1≠it):Inv X pins σ H { s with heap:=h',toks:=t' }:=by
 have nit:∀b u,H b=some u->b≠it:=λb u e z=>by rw[z,hn]at e;cases e
 refine I.step (g':=s.gens) (d':=s.drawn) (ch:=[it]) (λb hb=>?_) (λb o _ _ hc e _=>k b o (λz=>hc (by simp[z])) e) (λb o _ _ hc e _=>⟨o.slots,k b o (λz=>hc (by simp[z])) e⟩) (λ_ _ _ _ n=>n)
  (λb o hc e=>⟨o,k b o (λz=>hc (by simp[z])) e⟩) (λ_ _ e=>e) (λ_ _ _ e=>e) (λb ps e=>⟨#[],by rw[e];simp⟩) (λm hm=>?_) (λb u e=>?_) I.bare
 .have e:b=it:=by simpa using hb
  subst e;exact⟨h1,hL,h2,h3⟩
 .obtain⟨o,es,ep,ho,r⟩:=hm;exact⟨o,es,ep,k _ o (dF hL) ho,r⟩
 .refine(I.hok b u e).stay (λc v hc q=>k c v ?_ q) (λ_ q=>q) λ_ _ q=>q;rcases hc with z|z
  .rw[z];exact nit b u e
  .exact nit c _ z
def Inv.tok(I:Inv X pins σ H s)(t:Nat):Inv X pins σ H { s with toks:=t }:=I.un (h':=s.heap) (t':=t) Un.refl I.hok
theorem Inv.kept{t':Nat}(I:Inv X pins σ H s)(k:∀b u,s.heap.get? b=some u->h'.get? b=some u):Inv X pins σ H { s with heap:=h',toks:=t' }:=I.un (Un.kept k) (I.hok.kept k)
theorem Inv.laid{a:Addr}{o:HO}{t':Nat}(I:Inv X pins σ H s)(k:∀b u,s.heap.get? b=some u->h'.get? b=some u)(hp:s.heap.objs.size<=a)(new:dz X.prog X.w (upd H a o) h' a o):
  Inv X pins σ (upd H a o) { s with heap:=h',toks:=t' }:=I.un (Un.laid k hp (I.hok.fresh hp)) (I.hok.laid k hp new)
theorem Inv.write{x e:Addr}{o:HO}{t':Nat}(I:Inv X pins σ H s)(mu:Ds (H x))(he:e=x∨H e=some (.own x))(k:∀b u,b≠e->s.heap.get? b=some u->h'.get? b=some u)(heo:∃u,h'.get? e=some u)
  (new:dz X.prog X.w (upd H x o) h' x o):Inv X pins σ (upd H x o) { s with heap:=h',toks:=t' }:=I.un (Un.write mu he k heo) (I.hok.write mu he k heo new)
def Inv.aaE{Yz:List (Addr×Obj)}(I:Inv X pins σ H s)(h:∀p∈Yz,s.heap.get? p.1=some p.2/\H p.1=none/\p.1≠X.env.locals/\p.1∉X.fs/\∀v,p.2.data≠ .cell v):Inv X Yz σ H s:=
 ⟨I.ok,I.os,I.bare,I.base,I.loc,I.cell,I.free,I.pZ,λp hp=>(fM.mp hp).elim (λz=>I.pin p (Hw _ z)) (h p),I.hok,I.len⟩
def afj{N:List Str}(hN:N.Nodup){i j:Nat}{x:Str}(a:N[i]?=some x)(b:N[j]?=some x):i=j:=by
 obtain⟨h1,e1⟩:=List.getElem?_eq_some_iff.mp a;obtain⟨h2,e2⟩:=List.getElem?_eq_some_iff.mp b;exact(List.getElem_inj hN).mp (e1.trans e2.symm)
def arq{M:Model}{A:Around}{E:Value->Shared->Prop}{i:Nat}{x:Str}{v:V}{u:Value}{Q:Unit->Shared->Prop}(I:Inv X pins σ H s)(hN:X.N.Nodup)(hi:X.N[i]?=some x)(hx:Loc X.env.scope x)(r:RelV v u)
  (h:∀s',Inv X pins (σ.set i (some v)) H s'->(∃a,HM a s.heap s'.heap/\(a=X.env.locals∨X.env.cells.lookup x=some a))->Q () s') (hf:X.fn x=true∨X.env.scope.names.lookup x=some .local:=by first|exact .inl rfl|exact .inr rfl|assumption):wpAny M A (storeName X.env x u) Q E s:=by
 obtain⟨m,hn,hl⟩:=id I.loc;have hcls:(X.env.scope.kind== .class||(X.env.scope.kind== .module&&X.env.locals != X.env.globals))=false:=by rw[I.ok.kind];rfl
 have hiσ:i < σ.length:=by rw[I.len];exact(List.getElem?_eq_some_iff.mp hi).1
 have xu:=I.xu;have tracked:∀{a:Addr} {h':Heap},(∃o,s.heap.get? a=some o/\H a=none)->HM a s.heap h'->fJ X.prog X.w H h':=λ{a h'} ha hs b ob e=>by
  obtain⟨_,_,hfree⟩:=ha;refine(I.hok b ob e).stay (λc w' hc q=>(hs.2 c ?_).trans q) (λ_ q=>q) λ_ _ q=>q;rintro rfl;rcases hc with rfl|hc
  .rw[hfree]at e;cases e
  .rw[hfree]at hc;cases hc
 rcases hx with hk|hk
 .refine wpAny_storeName_local hk hn (λh' hn' hs=>?_) hcls;obtain⟨oL,_,_,hoL,_⟩:=id hn;refine h _ ⟨I.ok,I.os,I.bare,⟨λb o e n hb hx=>?_,λb o e n hb hx=>?_,I.base.free,λb o e hx=>?_,I.base.tups,I.base.jR,I.base.nM⟩,⟨_,hn',λj y v' e1 e2 e3=>?_⟩,λy c e=>?_,I.free,I.pZ,λp hp=>?_,tracked ⟨oL,hoL,I.free⟩ hs,by simpa using I.len⟩ ⟨_,hs,.inl rfl⟩
  .exact(hs.2 b (jQ (jo (cW e) I.ok.above))).trans (I.base.keep b o e n hb hx)
  .obtain⟨sl,e1⟩:=I.base.slot b o e n hb hx;exact⟨sl,(hs.2 b (jQ (jo (cW e) I.ok.above))).trans e1⟩
  .obtain⟨o',e1⟩:=I.base.there b o e hx;exact⟨o',(hs.2 b (jQ (jo (cW e) I.ok.above))).trans e1⟩
  .by_cases hj:j=i
   .subst hj;rw[hi]at e1;cases e1;rw[List.getElem?_set_self hiσ]at e2;cases e2;exact⟨u,r,.inl ⟨hk,by simp⟩⟩
   .rw[List.getElem?_set_ne (dF hj)]at e2;obtain⟨u',r',q⟩:=hl j y v' e1 e2 e3;refine⟨u',r',?_⟩;rcases q with⟨k,e⟩|⟨k,c,e,z⟩
    .refine .inl ⟨k,?_⟩;have:y≠x:=λe=>hj (afj hN e1 (e▸hi));simp[this,e]
    .exact .inr ⟨k,c,e,z.sameBut hs (xu y c e)⟩
  .obtain⟨w',z⟩:=I.cell y c e;exact⟨w',z.sameBut hs (xu y c e)⟩
  .obtain⟨e,n,ne,nf,d⟩:=I.pin p hp;exact⟨(hs.2 p.1 ne).trans e,n,ne,nf,d⟩
 .have hfn:X.fn x=true:=by
   rcases hf with z|z
   .exact z
   .rw[z]at hk;cases hk
  obtain⟨c,hc⟩:=I.ok.has x (.inl hk);obtain⟨w',z⟩:=I.cell x c hc;refine wpAny_storeName_cell I.ok.kind hk hc z (λh' hc' hs=>?_);obtain⟨oc,hoc,aym⟩:=id z;refine h { s with heap:=h' } ⟨I.ok,I.os,I.bare,⟨λb o e n hb hx=>?_,λb o e n hb hx=>?_,I.base.free,λb o e hx=>?_,I.base.tups,I.base.jR,I.base.nM⟩,⟨m,hn.sameBut hs (dF (xu x c hc)),λj y v' e1 e2 e3=>?_⟩,λy c' e=>?_,I.free,I.pZ,λp hp=>?_,tracked ⟨oc,hoc,I.pZ x c hc⟩ hs,by simpa using I.len⟩ ⟨c,hs,.inr hc⟩
  .exact(hs.2 b (jQ (jo (cW e) (I.ok.cab x c hfn hc)))).trans (I.base.keep b o e n hb hx)
  .obtain⟨sl,e1⟩:=I.base.slot b o e n hb hx;exact⟨sl,(hs.2 b (jQ (jo (cW e) (I.ok.cab x c hfn hc)))).trans e1⟩
  .obtain⟨o',e1⟩:=I.base.there b o e hx;exact⟨o',(hs.2 b (jQ (jo (cW e) (I.ok.cab x c hfn hc)))).trans e1⟩
  .by_cases hj:j=i
   .subst hj;rw[hi]at e1;cases e1;rw[List.getElem?_set_self hiσ]at e2;cases e2;exact⟨u,r,.inr ⟨.inl hk,c,hc,hc'⟩⟩
   .rw[List.getElem?_set_ne (dF hj)]at e2;obtain⟨u',r',q⟩:=hl j y v' e1 e2 e3;refine⟨u',r',?_⟩;rcases q with q|⟨k,c',e,z'⟩
    .exact .inl q
    .refine .inr ⟨k,c',e,z'.sameBut hs ?_⟩;rintro rfl;exact hj (afj hN e1 (I.ok.inj _ _ _ e hc▸hi))
  .by_cases hcc:c'=c
   .subst hcc;exact⟨_,hc'⟩
   .obtain⟨w2,z2⟩:=I.cell y c' e;exact⟨w2,z2.sameBut hs hcc⟩
  .obtain⟨e,n,ne,nf,d⟩:=I.pin p hp;refine⟨(hs.2 p.1 ?_).trans e,n,ne,nf,d⟩;intro q;rw[q,hoc]at e;have q':oc=p.2:=rO e;exact d w' (by rw[<-q'];exact aym)
def C6{M:Model}{A:Around}{E:Value->Shared->Prop}{i:Nat}{x:Str}{v:V}{u:Value}{Q:Unit->Shared->Prop}(I:Inv X pins σ H s)(hN:X.N.Nodup)(hi:X.N[i]?=some x)(hx:Loc X.env.scope x)(r:RelV v u)
  (h:∀s',Inv X pins (σ.set i (some v)) H s'->Q () s') (hf:X.fn x=true∨X.env.scope.names.lookup x=some .local:=by first|exact .inl rfl|exact .inr rfl|assumption):wpAny M A (storeName X.env x u) Q E s:=
 arq I hN hi hx r (λs' I' _=>h s' I') hf
def Inv.aqh{s':Shared}{ch:List Addr}(I:Inv X pins σ H s)(ho:s'.os=s.os)(u:Un (frs X.stack) ch H H' s.heap s'.heap)(hok:fJ X.prog X.w H' s'.heap)(hg:AllBare s'.gens)
  (hch:∀b∈ch,(b∈X.ex∨X.s₀.heap.objs.size<=b)/\b≠X.env.locals/\(∀x c,X.env.cells.lookup x=some c->c≠b)/\∀p∈X.pn++pins,p.1≠b):Inv X pins σ H' s':=by
 obtain⟨h',g',d',t',o'⟩:=s';have e:o'=s.os:=ho;subst e;exact I.call (g':=g') (t':=t') (d':=d') u hok hg hch
end
abbrev XK:=Value->Option Addr->Hp->Prop
abbrev St:=List (Option V)
abbrev VK:=V->Hp->Prop
abbrev TE:=St->Hp->VK->Prop
abbrev TT:=St->Hp->(Bool->Hp->Prop)->Prop
abbrev TA:=St->Hp->(List V->Hp->Prop)->Prop
structure Ends where
 nx:St->Hp->Prop
 rt:VK
 bk:St->Hp->Prop:=λ_ _=>False
 ct:St->Hp->Prop:=λ_ _=>False
abbrev TS:=Ends->St->Hp->Prop
def EP(X:Cx)(pins:List (Addr×Obj))(σ:St)(Q:VK)(u:Value)(s':Shared):Prop:=∃v H',Inv X pins σ H' s'/\RelV v u/\Q v H'
def TP(X:Cx)(pins:List (Addr×Obj))(σ:St)(Q:Bool->Hp->Prop)(b:Bool)(s':Shared):Prop:=∃H',Inv X pins σ H' s'/\Q b H'
def AP(X:Cx)(pins:List (Addr×Obj))(σ:St)(Q:List V->Hp->Prop)(us:List Value)(s':Shared):Prop:=∃vs H',Inv X pins σ H' s'/\Vals vs us/\Q vs H'
def SP(X:Cx)(pins:List (Addr×Obj))(D:Ends)(f:Flow)(s':Shared):Prop:=
 match f with
 |.next=>∃σ' H',Inv X pins σ' H' s'/\D.nx σ' H'
 |.brk=>∃σ' H',Inv X pins σ' H' s'/\D.bk σ' H'
 |.cont=>∃σ' H',Inv X pins σ' H' s'/\D.ct σ' H'
 |.ret u=>∃v σ' H',Inv X pins σ' H' s'/\RelV v u/\D.rt v H'
def PE(X:Cx)(e:Expr)(t:TE):Prop:=
 ∀(pins:List (Addr×Obj)) (s:Shared) (σ:St) (H:Hp) (Q:VK),Inv X pins σ H s->t σ H Q->wpAny (model X.prog X.w) X.A (eval e X.env) (EP X pins σ Q) X.xe s
def PT(X:Cx)(e:Expr)(t:TT):Prop:=
 ∀(pins:List (Addr×Obj)) (s:Shared) (σ:St) (H:Hp) (Q:Bool->Hp->Prop),Inv X pins σ H s->t σ H Q->wpAny (model X.prog X.w) X.A (isTrue e X.env (eval e X.env)) (TP X pins σ Q) X.xe s
def PW(X:Cx)(e:Expr)(t:TT):Prop:=
 ∀(whole:Sem Value) (pins:List (Addr×Obj)) (s:Shared) (σ:St) (H:Hp) (Q:Bool->Hp->Prop),Inv X pins σ H s->t σ H Q->wpAny (model X.prog X.w) X.A (isTrue e X.env whole) (TP X pins σ Q) X.xe s
def PW.pt{X:Cx}{e:Expr}{t:TT}(h:PW X e t):PT X e t:=h _
def PA(X:Cx)(es:List Expr)(t:TA):Prop:=
 ∀(pos:Pos) (pins:List (Addr×Obj)) (s:Shared) (σ:St) (H:Hp) (Q:List V->Hp->Prop),Inv X pins σ H s->t σ H Q->wpAny (model X.prog X.w) X.A (spliced (backTo pos (starEach es X.env))) (AP X pins σ Q) X.xe s
def PS(X:Cx)(st:Stmt)(t:TS):Prop:=
 ∀(pins:List (Addr×Obj)) (s:Shared) (σ:St) (H:Hp) (D:Ends),Inv X pins σ H s->t D σ H->wpAny (model X.prog X.w) X.A (exec st X.env) (SP X pins D) X.xe s
def jK(X:Cx)(st:List Stmt)(t:TS):Prop:=
 ∀(pins:List (Addr×Obj)) (s:Shared) (σ:St) (H:Hp) (D:Ends),Inv X pins σ H s->t D σ H->wpAny (model X.prog X.w) X.A (execs st X.env) (SP X pins D) X.xe s
def aW{α:Type}{t:Sem α}{Q Q':α->Shared->Prop}{M:Model}{A:Around}{E:Value->Shared->Prop}{s:Shared}(h:wpAny M A t Q E s)(hQ:∀a s,Q a s->Q' a s):wpAny M A t Q' E s:=wpAny_mono h hQ λ_ _ x=>x
section
variable {X:Cx}
inductive aib(i:Nat)(σ:St)(H:Hp)(Q:VK):Prop|mk (v:V) (h:σ[i]?=some (some v)) (q:Q v H)
def agN(i:Nat):TE:=λσ H Q=>aib i σ H Q
def tC(v:V):TE:=λ_ H Q=>Q v H
def aqb{i:Nat}{x:Str}{pos:Pos}(hN:X.N[i]?=some x)(hv:Hj X.env.scope x)(hd:(x==("__debug__" : Str))=false:=by decide)(hcd:(x==("__classdict__" : Str))=false:=by decide):PE X (.Name x pos) (agN i):=by
 intro pins s σ H Q I h;obtain⟨v,e,h⟩:=h;obtain⟨m,hn,hl⟩:=I.loc;obtain⟨u,r,l⟩:=hl i x v hN e hv;have fin:EP X pins σ Q u s:=⟨v,H,I,r,h⟩;rcases l with⟨hk,hm⟩|⟨hk,c,hc,hcell⟩
 .exact wpAny_Name (wpAny_loadName_local I.ok.kind hk hn hm fin) hd
 .rcases hk with hk|hk
  .exact wpAny_Name (wpAny_loadName_cell I.ok.kind hk hc hcell fin) hd
  .exact wpAny_Name (wpAny_loadName_free I.ok.kind hk hc hcell fin hcd) hd
def aq{i j pos}:PE X (.Constant (.int i) j pos) (tC (.int i)):=λ_ _ _ H _ I h=>wpAny_Constant_int ⟨.int i,H,I.tok _,⟨_,rfl⟩,h⟩
def Bb{b j pos}:PE X (.Constant (.bool b) j pos) (tC (.bl b)):=λ_ _ _ H _ I h=>Constant_bool ⟨.bl b,H,I,rfl,h⟩
def Vp{j pos}:PE X (.Constant .none j pos) (tC .non):=λ_ _ _ H _ I h=>Constant_none ⟨.non,H,I,rfl,h⟩
def Ea{x j pos}:PE X (.Constant (.str x) j pos) (tC (.str x)):=λ_ _ _ H _ I h=>Calls.Constant_str ⟨.str x,H,I.tok _,⟨_,rfl⟩,h⟩
def Gl(X:Cx)(x:Str):Prop:=X.env.kindOf x=some .globalImplicit
def PX{E:Value->Shared->Prop}{pins:List (Addr×Obj)}{s:Shared}{σ:St}{H:Hp}{x:Str}{u:Value}{pos:Pos}{Q:Value->Shared->Prop}(I:Inv X pins σ H s)(hg:Gl X x)(hm:X.mg x=some u)(h:Q u s)
  (hd:(x==("__debug__" : Str))=false:=by decide):wpAny (model X.prog X.w) X.A (eval (.Name x pos) X.env) Q E s:=
 aeS I.ok.kind hg (Calls.loadGlobal_global (by rw[I.ok.glob];exact I.mod.glob.keeps I.bk) hm h) hd
def sH{E:Value->Shared->Prop}{pins:List (Addr×Obj)}{s:Shared}{σ:St}{H:Hp}{x:Str}{u:Value}{pos:Pos}{Q:Value->Shared->Prop}(I:Inv X pins σ H s)(hg:Gl X x)(hm:X.mg x=none)(hv:bootBuiltins x=some u)(h:Q u s)
  (hn:x≠ "__name__" := by decide) (hd:(x==("__debug__" : Str))=false:=by decide):wpAny (model X.prog X.w) X.A (eval (.Name x pos) X.env) Q E s:=by
 obtain⟨mb,h1,h2⟩:=I.mod.blt;exact aeS I.ok.kind hg (Calls.loadGlobal_builtin (by rw[I.ok.glob];exact I.mod.glob.keeps I.bk) hm (by rw[I.ok.blt];exact h1.keeps I.bk) ((h2 x hn).trans hv) h) hd
def Wj{x:Str}{v:V}{u:Value}{pos:Pos}(hg:Gl X x)(hm:X.mg x=some u)(r:RelV v u)(hd:(x==("__debug__" : Str))=false:=by decide):PE X (.Name x pos) (tC v):=
 λ_ _ _ H _ I h=>PX I hg hm ⟨v,H,I,r,h⟩ hd
variable {a b:Expr} {ta tb:TE} {pos:Pos}
def PC(X:Cx)(op:CmpOp)(a b:Expr)(t:TE):Prop:=
 ∀(pins:List (Addr×Obj)) (s:Shared) (σ:St) (H:Hp) (Q:VK),Inv X pins σ H s->t σ H Q->
  wpAny (model X.prog X.w) X.A (eval a X.env) (λv s₁=>wpAny (model X.prog X.w) X.A (eval b X.env) (λu s₂=>wpAny (model X.prog X.w) X.A (compareOp op v u) (EP X pins σ Q) X.xe s₂) X.xe s₁) X.xe s
def awv(b:Expr){op:CmpOp}(h:op≠ .In)(h2:op≠ .NotIn):behindInMarks op b=false:=by
 have e1:(op==CmpOp.In)=false:=by cases op<;>first|rfl|exact absurd rfl h
 have e2:(op==CmpOp.NotIn)=false:=by cases op<;>first|rfl|exact absurd rfl h2
 cases b<;>simp[behindInMarks,e1,e2]
def asQ(ta:TE):TE:=λσ H Q=>ta σ H λx H1=>Q (.bl (decide (x = .non))) H1
def arp(ta:TE):TE:=λσ H Q=>ta σ H λx H1=>Q (.bl (!decide (x = .non))) H1
def RelV.X6{x:V}{v:Value}(r:RelV x v):(v==Value.none)=decide (x = .non):=by
 cases x with
 |non=>cases r;rfl
 |bl _=>cases r;rfl
 |int _=>obtain⟨t,rfl⟩:=r;rfl
 |str _=>obtain⟨t,rfl⟩:=r;rfl
 |lQ _=>obtain⟨t,rfl⟩:=r;rfl
 |flt _=>obtain⟨t,rfl⟩:=r;rfl
 |ref _=>cases r;rfl
 |ty _=>cases r;rfl
def avD{j pos'}(ha:PE X a ta):PC X .Is a (.Constant .none j pos') (asQ ta):=by
 intro pins s σ H Q I h;refine aW (ha pins s σ H _ I h) λv s1 ⟨x,H1,I1,r1,q1⟩=>?_;exact Constant_none (is_none_gen ⟨.bl _,H1,I1,by rw[r1.X6];rfl,q1⟩)
def awB{j pos'}(ha:PE X a ta):PC X .IsNot a (.Constant .none j pos') (arp ta):=by
 intro pins s σ H Q I h;refine aW (ha pins s σ H _ I h) λv s1 ⟨x,H1,I1,r1,q1⟩=>?_;exact Constant_none (isnot_none_gen ⟨.bl _,H1,I1,by rw[r1.X6];rfl,q1⟩)
def tB(t:TE):TT:=λσ H Q=>t σ H λx H1=>∃c,x = .bl c/\Q c H1
def Qn{op:CmpOp}{t:TE}(h:PC X op a b t)(h1:behindInMarks op b=false:=by first|exact awv _ ∅ ∅ | rfl):PT X (.Compare a [op] [b] pos) (tB t):=by
 intro pins s σ H Q I hw;refine wpAny_isTrue_Compare1 (aW (h pins s σ H _ I hw) λv s1 h1=>aW h1 λu s2 h2=>aW h2 λc s3 ⟨x,H1,I1,r1,q1⟩=>?_) h1;obtain⟨d,rfl,q⟩:=q1;cases r1;exact wpAny_truthy_bool ⟨H1,I1,q⟩
def wY{e:Expr}{t:TE}(h:PE X e t)(he:∀whole,isTrue e X.env whole=(do let v<-whole;standAt e.pos;holding [v] (truthy v)):=by intro _;rfl):PT X e (tB t):=by
 intro pins s σ H Q I hw;refine isTrue_plain (aW (h pins s σ H _ I hw) λv s1 ⟨x,H1,I1,r1,q1⟩=>?_) (he _);obtain⟨d,rfl,q⟩:=q1;cases r1;exact wpAny_truthy_bool ⟨H1,I1,q⟩
variable {tA Ib:TT} {rest:List Expr}
def aqn(t u:TT):TT:=λσ H Q=>t σ H λc H1=>if c=true then u σ H1 Q else Q false H1
def tOr(t u:TT):TT:=λσ H Q=>t σ H λc H1=>if c=true then Q true H1 else u σ H1 Q
def atG(t:TT):TT:=λσ H Q=>t σ H λc H1=>Q (!c) H1
def Uu(ha:PT X a tA):PW X (.BoolOp .And [a] pos) tA:=by
 intro wh pins s σ H Q I h;refine isTrue_and (aW (ha pins s σ H Q I h) λc s1 e=>?_);cases c with
 |true=>exact isTrue_and_nil e
 |false=>exact e
def V2(ha:PT X a tA):PW X (.BoolOp .Or [a] pos) tA:=by
 intro wh pins s σ H Q I h;refine isTrue_or (aW (ha pins s σ H Q I h) λc s1 e=>?_);cases c with
 |false=>exact isTrue_or_nil e
 |true=>exact e
def UC(ha:PT X a tA)(hb:PW X (.BoolOp .And (b::rest) pos) Ib):PW X (.BoolOp .And (a::b::rest) pos) (aqn tA Ib):=by
 intro wh pins s σ H Q I h;refine isTrue_and (aW (ha pins s σ H _ I h) λc s1 ⟨H1,I1,q1⟩=>?_);cases c with
 |true=>exact hb wh pins s1 σ H1 Q I1 q1
 |false=>exact⟨H1,I1,q1⟩
def Vo(ha:PT X a tA)(hb:PW X (.BoolOp .Or (b::rest) pos) Ib):PW X (.BoolOp .Or (a::b::rest) pos) (tOr tA Ib):=by
 intro wh pins s σ H Q I h;refine isTrue_or (aW (ha pins s σ H _ I h) λc s1 ⟨H1,I1,q1⟩=>?_);cases c with
 |true=>exact⟨H1,I1,q1⟩
 |false=>exact hb wh pins s1 σ H1 Q I1 q1
def Kh(ha:PT X a tA):PT X (.UnaryOp .Not a pos) (atG tA):=by
 intro pins s σ H Q I h;exact isTrue_not (ha pins s σ H (λc H1=>Q (!c) H1) I h)
def tIf(t:TT)(ta tb:TE):TE:=λσ H Q=>t σ H λc H1=>if c=true then ta σ H1 Q else tb σ H1 Q
def Wb{c:Expr}(hc:PT X c tA)(ha:PE X a ta)(hb:PE X b tb):PE X (.IfExp c a b pos) (tIf tA ta tb):=by
 intro pins s σ H Q I h;refine wpAny_IfExp (aW (hc pins s σ H _ I h) λd s1 ⟨H1,I1,q1⟩=>?_);cases d with
 |true=>exact ha pins s1 σ H1 Q I1 q1
 |false=>exact hb pins s1 σ H1 Q I1 q1
end
def au(K:aG)(H:Hp)(a:Addr)(xs:List V):Prop:=
 Rd H a (.lst xs)∨
  ∃(o:Obj) (its:Array Value) (n:Nat),K.lookup a=some o/\o.cls = .type "list" /\ o.dict=none/\o.data = .seq its n/\its.size<=sizeLine/\Vals xs its.toList
def aA(K:aG)(H:Hp)(a:Addr)(xs:List V):Prop:=
 Rd H a (.tup xs)∨
  ∃(o:Obj) (its:Array Value) (n:Nat),K.lookup a=some o/\o.cls = .type "tuple" /\ o.data = .seq its n/\its.size<=sizeLine/\Vals xs its.toList
def ahN:Value->Option V
 |.none=>some .non
 |.bool b=>some (.bl b)
 |.int i _=>some (.int i)
 |.str x _=>some (.str x)
 |.bytes b _=>some (.lQ b)
 |.float b _=>some (.flt b)
 |.ref a=>some (.ref a)
 |.type n=>some (.ty n)
 |_=>none
def RelV.abs{x:V}{u:Value}(r:RelV x u):ahN u=some x:=by
 cases x with
 |non=>cases r;rfl
 |bl _=>cases r;rfl
 |int _=>obtain⟨t,rfl⟩:=r;rfl
 |str _=>obtain⟨t,rfl⟩:=r;rfl
 |lQ _=>obtain⟨t,rfl⟩:=r;rfl
 |flt _=>obtain⟨t,rfl⟩:=r;rfl
 |ref _=>cases r;rfl
 |ty _=>cases r;rfl
theorem RelV.inj{x y:V}{u:Value}(r:RelV x u)(q:RelV y u):x=y:=rO (r.abs.symm.trans q.abs)
theorem Vals.inj{xs ys:List V}{us:List Value}(h:Vals xs us)(h':Vals ys us):xs=ys:=by
 induction h generalizing ys with
 |nil=>cases h';rfl
 |cons r t ih=>
  cases h' with
  |cons r' t'=>rw[r.inj r',ih t']
section
variable {X:Cx} {pins:List (Addr×Obj)} {σ:St} {H:Hp} {s:Shared} {a:Addr} {xs ys:List V}
def au.of{K:aG}(h:H a=some (.lst xs)):au K H a xs:= .inl (.inl h)
def aA.of{K:aG}(h:H a=some (.tup xs)):aA K H a xs:= .inl (.inl h)
def Inv.list(I:Inv X pins σ H s)(h:au X.K H a xs):∃its:List Value,Vals xs its/\PlainL s.heap a its.toArray/\xs.length<=sizeLine:=by
 rcases h with h|⟨o,its,n,hk,hc,hd,hs,hz,r⟩
 .obtain⟨z,its,n,r,e⟩:=h.ok I.hok;exact⟨its,r,⟨_,n,e,rfl,rfl,rfl⟩,z⟩
 .refine⟨its.toList,r,⟨o,n,I.wQ a o hk,hc,hd,by simpa using hs⟩,?_⟩;have e:=r.length;simp only[Q5]at e;omega
def Inv.tuple(I:Inv X pins σ H s)(h:aA X.K H a xs):∃its:List Value,Vals xs its/\IsTup s.heap a its.toArray/\xs.length<=sizeLine:=by
 rcases h with h|⟨o,its,n,hk,hc,hs,hz,r⟩
 .obtain⟨z,its,r,p⟩:=h.ok I.hok;exact⟨its,r,p,z⟩
 .refine⟨its.toList,r,⟨o,I.wQ a o hk,hc,n,by simpa using hs⟩,?_⟩;have e:=r.length;simp only[Q5]at e;omega
def Inv.QT(I:Inv X pins σ H s)(h:au X.K H a xs)(h':au X.K H a ys):xs=ys:=by
 obtain⟨its,r,⟨o,n,e,_,_,d⟩,_⟩:=I.list h;obtain⟨its',r',⟨o',n',e',_,_,d'⟩,_⟩:=I.list h';rw[e]at e';cases e';rw[d]at d';injection d' with d1 _;have:its=its':=by simpa using congrArg V4 d1
 subst this;exact r.inj r'
def Inv.afE(I:Inv X pins σ H s)(h:aA X.K H a xs)(h':aA X.K H a ys):xs=ys:=by
 obtain⟨its,r,⟨o,e,_,n,d⟩,_⟩:=I.tuple h;obtain⟨its',r',⟨o',e',_,n',d'⟩,_⟩:=I.tuple h';rw[e]at e';cases e';rw[d]at d';injection d' with d1 _;have:its=its':=by simpa using congrArg V4 d1
 subst this;exact r.inj r'
end
abbrev Cx.wish(X:Cx)(E:Value->Shared->Prop):Cx:={ X with xe:=E }
abbrev Cx.Dp(X:Cx):Cx:=X.wish λ_ _=>False
theorem Cx.Ok.wish{X:Cx}(ok:X.Ok)(E:Value->Shared->Prop):(X.wish E).Ok:=
 ⟨ok.mod,ok.kind,ok.glob,ok.blt,ok.above,ok.inj,ok.has,ok.cab,ok.hd,ok.frames,ok.stk,ok.Xf,ok.bs,ok.vW,ok.CD,ok.Ed,ok.qz,ok.yw⟩
def Cx.Ok.vB{X:Cx}{E:Value->Shared->Prop}(ok:(X.wish E).Ok):X.Ok:=
 ⟨ok.mod,ok.kind,ok.glob,ok.blt,ok.above,ok.inj,ok.has,ok.cab,ok.hd,ok.frames,ok.stk,ok.Xf,ok.bs,ok.vW,ok.CD,ok.Ed,ok.qz,ok.yw⟩
section
variable {X:Cx} {pins:List (Addr×Obj)} {σ:St} {H:Hp} {s:Shared} {E:Value->Shared->Prop}
theorem Inv.wish(I:Inv X pins σ H s)(E:Value->Shared->Prop):Inv (X.wish E) pins σ H s:=⟨I.ok.wish E,I.os,I.bare,I.base,I.loc,I.cell,I.free,I.pZ,I.pin,I.hok,I.len⟩
theorem Inv.vB(I:Inv (X.wish E) pins σ H s):Inv X pins σ H s:=⟨I.ok.vB,I.os,I.bare,I.base,I.loc,I.cell,I.free,I.pZ,I.pin,I.hok,I.len⟩
theorem SP.vB{D:Ends}{f:Flow}{s':Shared}(h:SP (X.wish E) pins D f s'):SP X pins D f s':=by
 cases f with
 |next=>obtain⟨σ',H',I,q⟩:=h;exact⟨σ',H',I.vB,q⟩
 |brk=>obtain⟨σ',H',I,q⟩:=h;exact⟨σ',H',I.vB,q⟩
 |cont=>obtain⟨σ',H',I,q⟩:=h;exact⟨σ',H',I.vB,q⟩
 |ret u=>obtain⟨v,σ',H',I,r,q⟩:=h;exact⟨v,σ',H',I.vB,r,q⟩
theorem jK.Dp{st:List Stmt}{t:TS}(h:jK X.Dp st t):jK X st t:=λpins s σ H D I hw=>
 wpAny_mono (h pins s σ H D (I.wish _) hw) (λ_ _ q=>q.vB) λ_ _ z=>False.elim z
end
section
variable {X:Cx} {st:Stmt} {rest:List Stmt} {t u:TS} {e:Expr} {te:TE} {pos:Pos}
def ahD:TS:=λD σ H=>D.nx σ H
def aio(t u:TS):TS:=λD σ H=>t { D with nx:=u D } σ H
def fB:jK X [] ahD:=λ_ _ σ H _ I h=>wpAny_execs_nil ⟨σ,H,I,h⟩
def ao(h1:PS X st t)(h2:jK X rest u):jK X (st::rest) (aio t u):=by
 intro pins s σ H D I h;refine wpAny_execs_cons (aW (h1 pins s σ H { D with nx:=u D } I h) λf s1 q=>?_);cases f with
 |next=>
  obtain⟨σ',H',I',q⟩:=q;exact h2 pins s1 σ' H' D I' q
 |ret v=>exact q
 |brk=>exact q
 |cont=>exact q
def aD(h1:PS X st t):jK X [st] t:=by
 intro pins s σ H D I h;refine wpAny_execs_cons (aW (h1 pins s σ H D I h) λf s1 q=>?_);cases f with
 |next=>exact wpAny_execs_nil q
 |ret v=>exact q
 |brk=>exact q
 |cont=>exact q
def Inv.quiet{pins:List (Addr×Obj)}{σ:St}{H:Hp}{s:Shared}(I:Inv X pins σ H s):interactive X.env=false:=by simp[interactive,I.ok.kind]
def anU(te:TE):TS:=λD σ H=>te σ H λ_ H1=>D.nx σ H1
def lB(he:PE X e te)(hs:swapsWith e none pos.line X.env=pure false:=by rfl):PS X (.Expr e pos) (anU te):=by
 intro pins s σ H D I h;exact wpAny_Expr_any (aW (he pins s σ H _ I h) λv s1 ⟨x,H1,I1,r1,q1⟩=>⟨σ,H1,I1,q1⟩) I.quiet hs
def ahe(te:TE):TS:=λD σ H=>te σ H D.rt
def bh(he:PE X e te):PS X (.Return (some e) pos) (ahe te):=by
 intro pins s σ H D I h;exact wpAny_Return_some (aW (he pins s σ H _ I h) λv s1 ⟨x,H1,I1,r1,q1⟩=>⟨x,σ,H1,I1,r1,q1⟩)
def avz(c:TT)(t u:TS):TS:=λD σ H=>c σ H λb H1=>if b=true then t D σ H1 else u D σ H1
def eZ{c:Expr}{a b:List Stmt}{tc:TT}(hc:PT X c tc)(ha:jK X a t)(hb:jK X b u):PS X (.If c a b pos) (avz tc t u):=by
 intro pins s σ H D I h;refine wpAny_If (aW (hc pins s σ H _ I h) λd s1 ⟨H1,I1,q1⟩=>?_);cases d with
 |true=>exact ha pins s1 σ H1 D I1 q1
 |false=>exact hb pins s1 σ H1 D I1 q1
def ak3:TS:=λ_ _ _=>False
def Gk:PS X st ak3:=λ_ _ _ _ _ _ h=>h.elim
end
abbrev TG:=V->St->Hp->(St->Hp->Prop)->Prop
abbrev sW:=List V->St->Hp->(St->Hp->Prop)->Prop
def PG(X:Cx)(target:Expr)(t:TG):Prop:=
 ∀(pins:List (Addr×Obj)) (s:Shared) (σ:St) (H:Hp) (v:V) (u:Value) (Q:St->Hp->Prop),Inv X pins σ H s->RelV v u->t v σ H Q->
  wpAny (model X.prog X.w) X.A (assign target X.env u) (λ_ s'=>∃σ' H',Inv X pins σ' H' s'/\Q σ' H') X.xe s
def zG(X:Cx)(ts:List Expr)(t:sW):Prop:=
 ∀(pins:List (Addr×Obj)) (s:Shared) (σ:St) (H:Hp) (vs:List V) (us:List Value) (Q:St->Hp->Prop),Inv X pins σ H s->Vals vs us->t vs σ H Q->
  wpAny (model X.prog X.w) X.A (assignInOrder ((assignEach ts X.env).map (·.2)) us) (λ_ s'=>∃σ' H',Inv X pins σ' H' s'/\Q σ' H') X.xe s
abbrev Ve:=V->V->V->Hp->(Hp->Prop)->Prop
def aa2(X:Cx)(t:Ve):Prop:=
 ∀(pins:List (Addr×Obj)) (s:Shared) (σ:St) (H:Hp) (o i v:V) (ov iv u:Value) (Q:Hp->Prop),Inv X pins σ H s->RelV o ov->RelV i iv->RelV v u->t o i v H Q->
  wpAny (model X.prog X.w) X.A (setItem ov iv u) (λ_ s'=>∃H',Inv X pins σ H' s'/\Q H') X.xe s
section
variable {X:Cx} {pos:Pos}
def iB(i:Nat):TG:=λv σ H Q=>Q (σ.set i (some v)) H
def HY{i:Nat}{x:Str}(hN:X.N.Nodup)(hi:X.N[i]?=some x)(hx:Loc X.env.scope x)(hf:X.fn x=true∨X.env.scope.names.lookup x=some .local:=by first|exact .inl rfl|exact .inr rfl|assumption):PG X (.Name x pos) (iB i):=by
 intro pins s σ H v u Q I r h;exact wpAny_assign_Name (C6 I hN hi hx r (λs' I'=>⟨_,H,I',h⟩) hf)
def aeL:sW:=λvs σ H Q=>vs=[]/\Q σ H
inductive ajf(t:TG)(u:sW)(vs:List V)(σ:St)(H:Hp)(Q:St->Hp->Prop):Prop|mk (v:V) (r:List V) (h:vs=v::r) (q:t v σ H λσ' H'=>u r σ' H' Q)
def Qm(t:TG)(u:sW):sW:=λvs σ H Q=>ajf t u vs σ H Q
def B7:zG X [] aeL:=by
 intro pins s σ H vs us Q I r h;obtain⟨e,h⟩:=h;subst e;cases r;exact assignInOrder_nil ⟨σ,H,I,h⟩
def rM{e:Expr}{es:List Expr}{t:TG}{u:sW}(h1:PG X e t)(h2:zG X es u)
  (hs:(assignEach (e::es) X.env).map (·.2)=assign e X.env::(assignEach es X.env).map (·.2):=by rfl):zG X (e::es) (Qm t u):=by
 intro pins s σ H vs us Q I r h;obtain⟨v,vr,e1,h⟩:=h;subst e1;cases r with
 |cons r rr=>
  rw[hs];refine assignInOrder_cons (aW (h1 pins s σ H _ _ _ I r h) λ_ s1 ⟨σ1,H1,I1,q1⟩=>?_);exact h2 pins s1 σ1 H1 _ _ Q I1 rr q1
def KN(K:aG)(n:Nat)(t:sW):TG:=λv σ H Q=>∃a xs,v = .ref a/\aA K H a xs/\xs.length=n/\t xs σ H Q
def apT{es:List Expr}{k:Nat}{t:sW}{n:Nat}(hc:X.calm=true)(h:zG X es t)
  (hn:(assignEach es X.env).length=n:=by rfl) (hst:(assignEach es X.env).findIdx? (·.1)=none:=by rfl):PG X (.Tuple es k pos) (KN X.K n t):=by
 intro pins s σ H v u Q I r hw;obtain⟨a,xs,e1,hq,hl,hw⟩:=hw;subst e1;cases r;obtain⟨its,rv,ht,hz⟩:=I.tuple hq;refine assign_Tuple_tuple (I.ok.hd hc) ht (by simp[hn,<-hl,rv.length]) hst λh' hx=>?_;have I1:Inv X pins σ H { s with heap:=h' }:=I.kept (t':=s.toks) λb o e=>hx b o (jQ (cW e)) e;exact h pins _ σ H xs _ Q I1 (by simpa using rv) hw
def atl(to ti:TE)(t:Ve):TG:=λv σ H Q=>to σ H λo H1=>ti σ H1 λi H2=>t o i v H2 λH3=>Q σ H3
def vG{o i:Expr}{to ti:TE}{t:Ve}(ho:PE X o to)(hi:PE X i ti)(hs:aa2 X t)
  (ha:∀v,assign (.Subscript o i pos) X.env v=(do
   let ov<-holding [v] (eval o X.env)
   let iv<-holding [v,ov] (eval i X.env)
   standAt pos
   holding [v,ov,iv] (setItem ov iv v)
   release [v,ov,iv] []):=by intro _;rfl):PG X (.Subscript o i pos) (atl to ti t):=by
 intro pins s σ H v u Q I r h;rw[ha];refine wpAny_bind (wpAny_holding (aW (ho pins s σ H _ I h) λov s1 ⟨x,H1,I1,r1,q1⟩=>?_));refine wpAny_bind (wpAny_holding (aW (hi pins s1 σ H1 _ I1 q1) λiv s2 ⟨y,H2,I2,r2,q2⟩=>?_));refine wpAny_bind (wpAny_standAt (wpAny_bind (wpAny_holding (aW (hs pins s2 σ H2 x y v ov iv u _ I2 r1 r2 r q2) λ_ s3 ⟨H3,I3,q3⟩=>?_))));exact wpAny_release ⟨σ,H3,I3,q3⟩
def Fd(te:TE)(g:TG):TS:=λD σ H=>te σ H λx H1=>g x σ H1 D.nx
def u9{tg e:Expr}{te:TE}{g:TG}(he:PE X e te)(hg:PG X tg g)(hs:swapsWithSole [tg] e pos.line X.env=pure false:=by rfl)(hw:swappedStores [tg] e X.env=pure none:=by rfl)
  (h1:(assignEach [tg] X.env).map (·.2)=[assign tg X.env]:=by rfl):PS X (.Assign [tg] e pos) (Fd te g):=by
 intro pins s σ H D I h;refine wpAny_Assign_stores (aW (he pins s σ H _ I h) λv s1 ⟨x,H1,I1,r1,q1⟩=>?_) hs hw;rw[h1];exact aW (hg pins s1 σ H1 x v _ I1 r1 q1) λ_ s2 q=>q
def gP{i:Nat}{x:Str}{e:Expr}{te:TE}{pos':Pos}(hN:X.N.Nodup)(hi:X.N[i]?=some x)(hx:Loc X.env.scope x)(he:PE X e te)(hs:swapsWith e (some (.Name x pos')) pos.line X.env=pure false:=by rfl)(hf:X.fn x=true∨X.env.scope.names.lookup x=some .local:=by first|exact .inl rfl|exact .inr rfl|assumption):
  PS X (.Assign [.Name x pos'] e pos) (Fd te (iB i)):=by
 intro pins s σ H D I h;refine wpAny_Assign_Name (aW (he pins s σ H _ I h) λv s1 ⟨y,H1,I1,r1,q1⟩=>?_) hs;exact C6 I1 hN hi hx r1 (λs2 I2=>⟨_,H1,I2,q1⟩) hf
def awQ(i j:Nat)(ta:TA):TS:=λD σ H=>ta σ H λvs H1=>∃v w,vs=[v,w]/\D.nx ((σ.set i (some v)).set j (some w)) H1
def ajs{i j:Nat}{x y:Str}{a b:Expr}{ta:TA}{px py pt:Pos}{kt k2 Pq}(hc:X.calm=true)(hN:X.N.Nodup)(hi:X.N[i]?=some x)(hj:X.N[j]?=some y)(hij:i≠j)
  (hx:X.env.scope.names.lookup x=some .local) (hy:X.env.scope.names.lookup y=some .local) (ha:PA X [a,b] ta)
  (hw:swappedStores [.Tuple [.Name x px,.Name y py] kt pt] (.Tuple [a,b] k2 Pq) X.env=pure (some [x,y]))
  (hs:swapsWithSole [.Tuple [.Name x px,.Name y py] kt pt] (.Tuple [a,b] k2 Pq) pos.line X.env=pure false:=by rfl):
  PS X (.Assign [.Tuple [.Name x px,.Name y py] kt pt] (.Tuple [a,b] k2 Pq) pos) (awQ i j ta):=by
 intro pins s σ H D I h;rw[exec_Assign_arm];refine wpAny_bind (wpAny_standAt ?_);rw[hs];refine wpAny_bind (wpAny_pure ?_);rw[if_neg ∅];refine wpAny_bind (Tuple_ (aW (ha _ pins s σ H _ I h) λus s1 ⟨vs,H1,I1,r1,q1⟩=>?_));obtain⟨v,w,e1,q1⟩:=q1;subst e1;obtain⟨u1,u2,rfl,rv,nK⟩:∃u1 u2,us=[u1,u2]/\RelV v u1/\RelV w u2:=by
  cases r1 with
  |cons p q=>
   cases q with
   |cons p' q'=>
    cases q';exact⟨_,_,rfl,p,p'⟩
 refine wpAny_newObj_type ?_ (by show 2<=sizeLine;decide);have I2:Inv X pins σ H1 { s1 with heap:=s1.heap.push { cls:= .type "tuple",data:= .seq [u1,u2].toArray } }:=I1.kept (t':=s1.toks) λb o e=>Heap.get?_push_of_some _ e;rw[hw];refine wpAny_bind (wpAny_pure ?_);show wpAny (model X.prog X.w) X.A (do rule "assign.swapped-stores";let items<-unpackItems (.ref s1.heap.objs.size) 2 none;assignInOrder [λv=>bindName X.env y v,λv=>bindName X.env x v] items.reverse;pure Flow.next) _ _ _
 refine wpAny_bind (wpAny_rule (wpAny_bind (unpackItems_tuple (items:=#[u1,u2]) (I.ok.hd hc) (IsTup.new s1.heap _) λh' hx'=>?_)));have I3:=I2.kept (h':=h') (t':=s1.toks) λb o e=>hx' b o (jQ (cW e)) e;show wpAny _ _ (assignInOrder [λv=>bindName X.env y v,λv=>bindName X.env x v] [u2,u1]>>=λ_=>pure Flow.next) _ _ _;refine wpAny_bind (assignInOrder_cons (wpAny_bindName (C6 I3 hN hj (.inl hy) nK (λs2 I4=>?_) (.inr hy))));refine assignInOrder_cons (wpAny_bindName (C6 I4 hN hi (.inl hx) rv (λs3 I5=>assignInOrder_nil (wpAny_pure ?_)) (.inr hx)));rw[List.set_comm _ _ (dF hij)]at I5;exact⟨_,H1,I5,q1⟩
end
section
variable {X:Cx} {pos:Pos}
def anS(c:TT)(tb:TS):TS:=λD σ H=>∃W:Nat->St->Hp->Prop,(∃m,W m σ H)/\∀m σ H,W m σ H->
 c σ H λb H1=>if b=true then ∃N:St->Hp->Prop,(∀σ' H',N σ' H'->∃m',m'<m/\W m' σ' H')/\tb { D with nx:=N,ct:=N,bk:=D.nx } σ H1 else D.nx σ H1
def ou{c:Expr}{body:List Stmt}{tc:TT}{tb:TS}(hp:PassesOwn (model X.prog X.w) X.A X.env X.xe)(hc:PT X c tc)(hb:jK X body tb):PS X (.While c body [] pos) (anS tc tb):=by
 intro pins s σ H D I h;obtain⟨W,⟨m0,w0⟩,turn⟩:=h;refine wpAny_While (codeAny_whileLoop (λn s'=>∃σ' H',Inv X pins σ' H' s'/\W n σ' H') ?_ m0 ⟨σ,H,I,w0⟩);rintro n s1 ⟨σ1,H1,I1,w1⟩;refine wpAny_passesOwn hp (aW (hc pins s1 σ1 H1 _ I1 (turn n σ1 H1 w1)) λb s2 ⟨H2,I2,q2⟩=>?_);cases b with
 |true=>
  obtain⟨N,hN,q2⟩:=q2;rw[if_pos rfl];refine wpAny_passesOwn hp (aW (hb pins s2 σ1 H2 _ I2 q2) λf s3 q3=>?_);cases f with
  |next=>
   obtain⟨σ3,H3,I3,n3⟩:=q3;obtain⟨m',hm,w3⟩:=hN σ3 H3 n3;exact⟨m',hm,σ3,H3,I3,w3⟩
  |cont=>
   obtain⟨σ3,H3,I3,n3⟩:=q3;obtain⟨m',hm,w3⟩:=hN σ3 H3 n3;exact⟨m',hm,σ3,H3,I3,w3⟩
  |brk=>exact q3
  |ret v=>exact q3
 |false=>
  rw[if_neg fX];exact wpAny_execs_nil ⟨σ1,H2,I2,q2⟩
end
structure It where
 go:Nat->Hp->Prop
 jO:Nat->Hp->V->Hp->Prop
 stop:Nat->Hp->Prop
def oW(X:Cx)(pins:List (Addr×Obj))(H:Hp)(b:Addr):Prop:=
 H b=none/\b≠X.env.locals/\b∉X.fs/\(b∈X.ex∨X.s₀.heap.objs.size<=b)/\(∀x c,X.env.cells.lookup x=some c->c≠b)/\∀p∈X.pn++pins,p.1≠b
def Inv.pJ{X:Cx}{pins:List (Addr×Obj)}{σ:St}{H H':Hp}{s:Shared}{b:Addr}(I:Inv X pins σ H s)(hb:s.heap.objs.size<=b)(hn:H' b=none):oW X pins H' b:=by
 refine⟨hn,SY (jo I.lt hb),I.asA hb,.inr (fY I.sz hb),λx c e z=>?_,λp hp z=>?_⟩
 .obtain⟨v,q⟩:=I.cell x c e;exact absurd (jo q.lt (by rw[z];exact hb)) (lA _)
 .exact absurd (jo (cW (I.pin p hp).1) (by rw[z];exact hb)) (lA _)
structure Turn(P:Program)(w:World)(K:aG)(tg:Expr)(J:It)(fp:List Addr)(it:Addr)(tn:Nat->Heap->Prop):Prop where
 mem:it∈fp
 obj:∀i h,tn i h->∀b∈fp,∃o,h.get? b=some o/\∀v,o.data≠ .cell v
 keep:∀i h h',tn i h->(∀b∈fp,∀o,h.get? b=some o->h'.get? b=some o)->tn i h'
 item:∀(X:Cx),X.prog=P->X.w=w->X.K=K->X.calm=true->∀(i:Nat) (pins:List (Addr×Obj)) (s:Shared) (σ:St) (H:Hp) (E:Value->Shared->Prop),Inv X pins σ H s->(∀b∈fp,oW X pins H b)->tn i s.heap->J.go i H->
  wpAny (model P w) X.A (pyNext (.ref it)) (λr s1=>∃u,r=some u/\
   wpAny (model P w) X.A (letOwnedTupleGo tg (.ref it) u) (λ_ s2=>∃x H',Inv X pins σ H' s2/\RelV x u/\J.jO i H x H'/\tn (i+1) s2.heap/\∀b∈fp,H' b=none) E s1) E s
 done:∀(X:Cx),X.prog=P->X.w=w->X.K=K->X.calm=true->∀(i:Nat) (pins:List (Addr×Obj)) (s:Shared) (σ:St) (H:Hp) (E:Value->Shared->Prop),Inv X pins σ H s->(∀b∈fp,oW X pins H b)->tn i s.heap->J.stop i H->
  wpAny (model P w) X.A (pyNext (.ref it)) (λr s1=>r=none/\Inv X pins σ H s1) E s
 self:∀(A:Around) (i:Nat) (s:Shared) (Q:Value->Shared->Prop) (E:Value->Shared->Prop),tn i s.heap->Q (.ref it) s->wpAny (model P w) A (pyIter (.ref it)) Q E s
abbrev TI:=St->Hp->(It->Hp->Prop)->Prop
def MS(X:Cx)(pins:List (Addr×Obj))(σ:St)(tg:Expr)(R:It->Hp->Prop)(itv:Value)(s2:Shared):Prop:=
 ∃(it:Addr) (fp:List Addr) (tn:Nat->Heap->Prop) (J:It) (H':Hp),itv = .ref it/\Inv X pins σ H' s2/\Turn X.prog X.w X.K tg J fp it tn/\tn 0 s2.heap/\(∀b∈fp,oW X pins H' b)/\R J H'
def PI(X:Cx)(tg iter:Expr)(wi:TI):Prop:=
 ∀(pins:List (Addr×Obj)) (s:Shared) (σ:St) (H:Hp) (R:It->Hp->Prop),Inv X pins σ H s->wi σ H R->
  wpAny (model X.prog X.w) X.A (eval iter X.env) (λv s1=>wpAny (model X.prog X.w) X.A (pyIter v) (MS X pins σ tg R) X.xe s1) X.xe s
def zy{M:Model}{A:Around}{E:Value->Shared->Prop}{s:Shared}{tg:Expr}{it:Addr}{u:Value}{o:Obj}{n:String}{vs:Array Value}{Q:Unit->Shared->Prop}(ho:s.heap.get? it=some o)(hc:o.cls = .type n)(hd:o.data = .fields vs)
  (hn:["enumerate","zip","dict_itemiterator","dict_reverseitemiterator","odict_iterator","itertools.zip_longest","itertools.pairwise"].contains n=false) (hQ:Q () s):wpAny M A (letOwnedTupleGo tg (.ref it) u) Q E s:=by
 unfold letOwnedTupleGo;cases tg<;>first
  |exact wpAny_pure hQ
  |(cases u<;>first
    |exact wpAny_pure hQ
    |(refine wpAny_bind (wpAny_load ho ?_);rw[hc,hd];show wpAny M A (if(["enumerate","zip","dict_itemiterator","dict_reverseitemiterator","odict_iterator","itertools.zip_longest","itertools.pairwise"].contains n&&vs[0]?==some (rawInt _))=true then _ else _) Q E s;rw[if_neg (by intro h;rw[hn,Bool.false_and]at h;cases h)];exact wpAny_pure hQ))
def nj(K:aG)(a:Addr):It:=
 ⟨λi H=>∃xs x,au K H a xs/\xs[i]?=some x,λi H x H'=>H'=H/\∀xs,au K H a xs->xs[i]?=some x,λi H=>∃xs,au K H a xs/\xs.length<=i⟩
def Er(K:aG)(a:Addr):It:=
 ⟨λi H=>∃xs x,aA K H a xs/\xs[i]?=some x,λi H x H'=>H'=H/\∀xs,aA K H a xs->xs[i]?=some x,λi H=>∃xs,aA K H a xs/\xs.length<=i⟩
def nA(lo:Int)(n:Nat):It:=⟨λi _=>i<n,λi H x H'=>H'=H/\x = .int (lo+i),λi _=>n<=i⟩
def awT{P:Program}{w:World}{K:aG}{tg:Expr}(a it:Addr):Turn P w K tg (nj K a) [it] it (λi h=>h.IsListIter it a i) where
 mem:=by simp
 obj:=λi h st b hb=>by
  have e:b=it:=by simpa using hb
  subst e;obtain⟨o,e,c,d⟩:=st;exact⟨o,e,λv z=>by rw[d]at z;cases z⟩
 keep:=λi h h' st k=>st.at λo e=>k it (by simp) o e
 item:=by
  intro X hP hw hK hc i pins s σ H E I hf st hg;subst hP hw hK;obtain⟨xs,x,hq,hx⟩:=hg;obtain⟨its,rv,p,hz⟩:=I.list hq;obtain⟨u,hu,ru⟩:=rv.get hx;obtain⟨f0,f1,f2,f3,f4,f5⟩:=hf it (by simp);refine wpAny_pyNext_list_item st p.isList (x:=u) (by simpa using hu) λh' st' sb=>?_;have I1:Inv X pins σ H { s with heap:=h' }:=I.turned (t':=s.toks) (λb o hb e=>(sb.2 b hb).trans e) f0 f1 f3 f4 f5;obtain⟨o,e,c,d⟩:=id st';exact⟨u,rfl,zy (s:={ s with heap:=h' }) e c d ∅ ⟨x,H,I1,ru,⟨rfl,λys hy=>by rw[I.QT hy hq];exact hx⟩,st',λb hb=>(hf b hb).1⟩⟩
 done:=by
  intro X hP hw hK hc i pins s σ H E I hf st hg;subst hP hw hK;obtain⟨xs,hq,hx⟩:=hg;obtain⟨its,rv,p,hz⟩:=I.list hq;obtain⟨f0,f1,f2,f3,f4,f5⟩:=hf it (by simp);have hl:=rv.length;exact wpAny_pyNext_list_end (I.ok.hd hc) st p.isList (by simp;omega) λh' eb=>⟨rfl,I.turned (t':=s.toks) (λb o hb e=>eb b o hb e) f0 f1 f3 f4 f5⟩
 self:=λ_ _ _ _ _ st h=>wpAny_pyIter_listiter st h
def atu{P:Program}{w:World}{K:aG}{tg:Expr}(a it:Addr):Turn P w K tg (Er K a) [it] it (λi h=>h.IsTupleIter it a i) where
 mem:=by simp
 obj:=λi h st b hb=>by
  have e:b=it:=by simpa using hb
  subst e;obtain⟨o,e,c,d⟩:=st;exact⟨o,e,λv z=>by rw[d]at z;cases z⟩
 keep:=λi h h' st k=>st.at λo e=>k it (by simp) o e
 item:=by
  intro X hP hw hK hc i pins s σ H E I hf st hg;subst hP hw hK;obtain⟨xs,x,hq,hx⟩:=hg;obtain⟨its,rv,p,hz⟩:=I.tuple hq;obtain⟨u,hu,ru⟩:=rv.get hx;obtain⟨f0,f1,f2,f3,f4,f5⟩:=hf it (by simp);refine wpAny_pyNext_tuple_item st (show s.heap.IsTuple a its.toArray from p) (x:=u) (by simpa using hu) λh' st' sb=>?_;have I1:Inv X pins σ H { s with heap:=h' }:=I.turned (t':=s.toks) (λb o hb e=>(sb.2 b hb).trans e) f0 f1 f3 f4 f5;obtain⟨o,e,c,d⟩:=id st';exact⟨u,rfl,zy (s:={ s with heap:=h' }) e c d ∅ ⟨x,H,I1,ru,⟨rfl,λys hy=>by rw[I.afE hy hq];exact hx⟩,st',λb hb=>(hf b hb).1⟩⟩
 done:=by
  intro X hP hw hK hc i pins s σ H E I hf st hg;subst hP hw hK;obtain⟨xs,hq,hx⟩:=hg;obtain⟨its,rv,p,hz⟩:=I.tuple hq;obtain⟨f0,f1,f2,f3,f4,f5⟩:=hf it (by simp);have hl:=rv.length;exact wpAny_pyNext_tuple_end (I.ok.hd hc) st (show s.heap.IsTuple a its.toArray from p) (by simp;omega) λh' eb=>⟨rfl,I.turned (t':=s.toks) (λb o hb e=>eb b o hb e) f0 f1 f3 f4 f5⟩
 self:=λ_ _ _ _ _ st h=>wpAny_pyIter_tupleiter st h
def ayO{P:Program}{w:World}{K:aG}{tg:Expr}(it:Addr)(lo:Int)(n:Nat):Turn P w K tg (nA lo n) [it] it (λi h=>IsRangeIter h it (lo+(i:Nat)*1) ((n:Int)-(i:Nat)) 1) where
 mem:=by simp
 obj:=λi h st b hb=>by
  have e:b=it:=by simpa using hb
  subst e;exact⟨_,st,λv z=>by
   have z':Data.fields _=Data.cell v:=z;cases z'⟩
 keep:=λi h h' st k=>k it (by simp) _ st
 item:=by
  intro X hP hw hK hc i pins s σ H E I hf st hg;subst hP hw hK;obtain⟨f0,f1,f2,f3,f4,f5⟩:=hf it (by simp);have W:=Walks.range (prog:=X.prog) (w:=X.w) (I.ok.hd hc) it lo 1 n;refine W.item i s _ _ hg st λv h' tk hv st' kk=>?_;obtain⟨t,rfl⟩:=hv;have I1:Inv X pins σ H { s with heap:=h',toks:=tk }:=I.turned (λb o hb e=>kk b o (by simpa using hb) e) f0 f1 f3 f4 f5;refine⟨_,rfl,zy (s:={ s with heap:=h',toks:=tk }) (n:= "range_iterator") st' rfl rfl ∅ ⟨.int (lo+i),H,I1,⟨t,?_⟩,⟨rfl,rfl⟩,st',λb hb=>(hf b hb).1⟩⟩;rw[jr]
 done:=by
  intro X hP hw hK hc i pins s σ H E I hf st hg;subst hP hw hK;obtain⟨f0,f1,f2,f3,f4,f5⟩:=hf it (by simp);exact wpAny_pyNext_range_end (I.ok.hd hc) st (by have:n<=i:=hg;omega) λh' eb=>⟨rfl,I.turned (t':=s.toks) (λb o hb e=>eb b o hb e) f0 f1 f3 f4 f5⟩
 self:=λ_ _ _ _ _ st h=>wpAny_pyIter_rangeiter st h
section
variable {X:Cx} {tg:Expr}
def ax5(K:aG)(tl:TE):TI:=λσ H R=>tl σ H λx H1=>∃a,x = .ref a/\(∃xs,au K H1 a xs)/\R (nj K a) H1
def W4{pins:List (Addr×Obj)}{σ:St}{H:Hp}{s:Shared}{R:It->Hp->Prop}{E:Value->Shared->Prop}{lo hi:Int}{t u v:Tok}{tk:Nat}(I:Inv X pins σ H s)(h1:-(2^62)<=lo)(h2:lo<2^62)(h3:-(2^62)<=hi)(h4:hi<2^62)
  (q:R (nA lo (hi-lo).toNat) H):wpAny (model X.prog X.w) X.A (pyIter (.ref s.heap.objs.size)) (MS X pins σ tg R) E { s with heap:=s.heap.push { cls:= .type "range",data:= .fields #[.int lo t,.int hi u,.int 1 v] },toks:=tk }:=by
 refine wpAny_pyIter_range (IsRange.new ..) (small_one h1 h2 h3 h4) ?_;have I1:Inv X pins σ H { s with heap:=s.heap.push { cls:= .type "range",data:= .fields #[.int lo t,.int hi u,.int 1 v] },toks:=tk }:=I.kept λb o e=>Heap.get?_push_of_some _ e;refine⟨(s.heap.push { cls:= .type "range",data:= .fields #[.int lo t,.int hi u,.int 1 v] }).objs.size,[(s.heap.push { cls:= .type "range",data:= .fields #[.int lo t,.int hi u,.int 1 v] }).objs.size],_,_,H,rfl,
  I1.kept (t':=tk) λb o e=>Heap.get?_push_of_some _ e,ayO _ lo (hi-lo).toNat,?_,λb hb=>?_,q⟩
 .have e1:lo+((0:Nat):Int)*1=lo:=by simp
  have e2:(((hi-lo).toNat:Nat):Int)-((0:Nat):Int)=Builtin.Range.rangeSize lo hi 1:=by rw[rangeSize_one];split<;>omega
  show IsRangeIter _ _ (lo+((0:Nat):Int)*1) ((((hi-lo).toNat:Nat):Int)-((0:Nat):Int)) 1;rw[e1,e2];exact Heap.get?_push_size _ rfl
 .have e:b=(s.heap.push { cls:= .type "range",data:= .fields #[.int lo t,.int hi u,.int 1 v] }).objs.size:=by simpa using hb
  subst e;exact I1.pJ (aN _) (I1.hok.fresh (aN _))
inductive ajR(vs:List V)(H:Hp)(R:It->Hp->Prop):Prop|mk (j:Int) (h:vs=[.int j]) (h1:-(2^62)<=j) (h2:j<2^62) (q:R (nA 0 j.toNat) H)
def anP(ta:TA):TI:=λσ H R=>ta σ H λvs H1=>ajR vs H1 R
def ajM(ta:TA):TI:=λσ H R=>ta σ H λvs H1=>∃i j:Int,vs=[.int i,.int j]/\(-(2^62)<=i/\i<2^62/\-(2^62)<=j/\j<2^62)/\R (nA i (j-i).toNat) H1
def iz{a:Expr}{ta:TA}{p pos:Pos}(hg:Gl X "range")(hm:X.mg "range" = none)(ha:PA X [a] ta)(hs:starEach [a] X.env=[(false,eval a X.env)]:=by rfl):PI X tg (.Call (.Name "range" p) [a] [] pos) (anP ta):=by
 intro pins s σ H R I h;refine Call_ (sH I hg hm boot_range (u6 (aW (ha pos pins s σ H _ I h) λus s1 ⟨vs,H1,I1,r1,q1⟩=>?_) hs rfl));obtain⟨j,e,q1,q2,q⟩:=q1;subst e;cases r1 with
 |cons r rr=>
  cases rr;obtain⟨t,rfl⟩:=r;exact call_range_1 (W4 I1 ⋯ ⋯ q1 q2 (by simpa using q))
def WK{a b:Expr}{ta:TA}{p pos:Pos}(hg:Gl X "range")(hm:X.mg "range" = none)(ha:PA X [a,b] ta)(hs:starEach [a,b] X.env=[(false,eval a X.env),(false,eval b X.env)]:=by rfl)(hs2:starEach [b] X.env=[(false,eval b X.env)]:=by rfl):
  PI X tg (.Call (.Name "range" p) [a,b] [] pos) (ajM ta):=by
 intro pins s σ H R I h;refine Call_ (sH I hg hm boot_range (u6 (aW (ha pos pins s σ H _ I h) λus s1 ⟨vs,H1,I1,r1,q1⟩=>?_) (by rw[hs,hs2]) (by rw[hs2];rfl)));obtain⟨i,j,e,⟨q1,q2,q3,q4⟩,q⟩:=q1;subst e;cases r1 with
 |cons r rr=>
  cases rr with
  |cons r' rr=>
   cases rr;obtain⟨t,rfl⟩:=r;obtain⟨t',rfl⟩:=r';exact call_range_2 (W4 I1 q1 q2 q3 q4 q)
def ayA(wi:TI)(g:TG)(tb:TS):TS:=λD σ H=>wi σ H λJ H1=>∃W:Nat->Nat->St->Hp->Prop,(∃m,W 0 m σ H1)/\∀i m σ H,W i m σ H->
 (J.stop i H/\D.nx σ H)∨(J.go i H/\∃N:St->Hp->Prop,(∀σ' H',N σ' H'->∃m',m'<m/\W (i+1) m' σ' H')/\∀x H',J.jO i H x H'->g x σ H' λσ2 H2=>tb { D with nx:=N,ct:=N,bk:=D.nx } σ2 H2)
def Bg(fp:List Addr)(h:Heap):List (Addr×Obj):=fp.filterMap λb=>(h.get? b).map λo=>(b,o)
def DG{fp:List Addr}{h:Heap}{b:Addr}{o:Obj}(hb:b∈fp)(e:h.get? b=some o):(b,o)∈Bg fp h:=LD.mpr ⟨b,hb,by rw[e];rfl⟩
def avw{fp:List Addr}{h:Heap}{p:Addr×Obj}(hp:p∈Bg fp h):p.1∈fp/\h.get? p.1=some p.2:=by
 obtain⟨b,hb,e⟩:=LD.mp hp;cases q:h.get? b with
 |none=>rw[q]at e;cases e
 |some o=>
  rw[q]at e;have e':(b,o)=p:=rO e;subst e';exact⟨hb,q⟩
def Inv.pinned{pins:List (Addr×Obj)}{σ:St}{H:Hp}{s:Shared}{fp:List Addr}(I:Inv X pins σ H s)(hf:∀b∈fp,oW X pins H b)(ho:∀b∈fp,∃o,s.heap.get? b=some o/\∀v,o.data≠ .cell v):Inv X (pins++Bg fp s.heap) σ H s:=
 I.aaE λp hp=>(fM.mp hp).elim (λz=>I.pin p (nJ _ z)) λz=>by
  obtain⟨hb,e⟩:=avw z;obtain⟨f0,f1,f2,_⟩:=hf p.1 hb;obtain⟨o,e',d⟩:=ho p.1 hb;rw[e]at e';cases e';exact⟨e,f0,f1,f2,d⟩
def Inv.D9{pins pl:List (Addr×Obj)}{σ:St}{H:Hp}{s:Shared}(I:Inv X (pins++pl) σ H s):Inv X pins σ H s:=I.aaE λp hp=>I.pin p (nJ _ (Hw _ hp))
def gb{iter:Expr}{body:List Stmt}{wi:TI}{g:TG}{tb:TS}{pos:Pos}(hp:PassesOwn (model X.prog X.w) X.A X.env X.xe)(hc:X.calm=true)(hi:PI X tg iter wi)(hg:PG X tg g)(hb:jK X body tb)
  (hs:∀x,foldedSetIterable iter X.env x=pure x:=by intro _;rfl):PS X (.For tg iter body [] pos) (ayA wi g tb):=by
 intro pins s σ H D I h;refine wpAny_For (aW (hi pins s σ H _ I h) λv s1 h1=>aW h1 λitv s2 h2=>?_) hs;obtain⟨it,fp,tn,J,H2,e,I2,T,st2,f2,W,⟨m0,w0⟩,turn⟩:=h2;subst e;have stat:∀{H':Hp},(∀b∈fp,H' b=none)->∀b∈fp,oW X pins H' b:=λhn b hb=>⟨hn b hb,(f2 b hb).2⟩;refine codeAny_forLoop_any (λn s'=>∃i σ' H',Inv X pins σ' H' s'/\tn i s'.heap/\(∀b∈fp,H' b=none)/\W i n σ' H') ?_ m0 ⟨0,σ,H2,I2,st2,λb hb=>(f2 b hb).1,w0⟩;rintro n s3 ⟨i,σ3,H3,I3,st3,fr3,w3⟩;rcases turn i n σ3 H3 w3 with⟨stop,qn⟩|⟨go,N,hN,step⟩
 .refine wpAny_passesOwn hp (aW (T.done X rfl rfl rfl hc i pins s3 σ3 H3 X.xe I3 (stat fr3) st3 stop) λr s4 ⟨hr,I4⟩=>?_);subst hr;exact wpAny_execs_nil ⟨σ3,H3,I4,qn⟩
 .refine wpAny_passesOwn hp (aW (T.item X rfl rfl rfl hc i pins s3 σ3 H3 X.xe I3 (stat fr3) st3 go) λr s4 ⟨u,hr,h4⟩=>?_);subst hr;refine wpAny_passesOwn hp (aW h4 λ_ s5 ⟨x,H5,I5,r5,y5,yX,Jj⟩=>?_);have I5':=I5.pinned (stat Jj) (T.obj _ _ yX);refine wpAny_passesOwn hp (aW (hg _ s5 σ3 H5 x u _ I5' r5 (step x H5 y5)) λ_ s6 ⟨σ6,H6,I6,q6⟩=>?_);refine wpAny_passesOwn hp (aW (hb _ s6 σ6 H6 _ I6 q6) λf s7 q7=>?_);have again:∀{σ7:St} {H7:Hp},Inv X (pins++Bg fp s5.heap) σ7 H7 s7->N σ7 H7->∃m,m<n/\∃i σ' H',Inv X pins σ' H' s7/\tn i s7.heap/\(∀b∈fp,H' b=none)/\W i m σ' H':=λ{σ7 H7} I7 n7=>by
   obtain⟨m',hm,w7⟩:=hN σ7 H7 n7;refine⟨m',hm,i+1,σ7,H7,I7.D9,T.keep _ _ _ yX λb hb o e=>(I7.pin (b,o) (nJ _ (nJ _ (DG hb e)))).1,λb hb=>?_,w7⟩;obtain⟨o,e,d⟩:=T.obj _ _ yX b hb;exact(I7.pin (b,o) (nJ _ (nJ _ (DG hb e)))).2.1
  cases f with
  |next=>obtain⟨σ7,H7,I7,n7⟩:=q7;exact again I7 n7
  |cont=>obtain⟨σ7,H7,I7,n7⟩:=q7;exact again I7 n7
  |brk=>obtain⟨σ7,H7,I7,q7⟩:=q7;exact⟨σ7,H7,I7.D9,q7⟩
  |ret v=>obtain⟨x7,σ7,H7,I7,r7,q7⟩:=q7;exact⟨x7,σ7,H7,I7.D9,r7,q7⟩
end
def kY{lo:Int}{n:Nat}{g:TG}{tb:TS}{D:Ends}{σ:St}{H:Hp}(Pv:Nat->St->Hp->Prop)(h0:Pv 0 σ H)
  (hs:∀i σ H,i<n->Pv i σ H->g (.int (lo+i)) σ H λσ2 H2=>tb { D with nx:=Pv (i+1),ct:=Pv (i+1),bk:=D.nx } σ2 H2) (hd:∀σ H,Pv n σ H->D.nx σ H):
  ∃W:Nat->Nat->St->Hp->Prop,(∃m,W 0 m σ H)/\∀i m σ H,W i m σ H->
   ((nA lo n).stop i H/\D.nx σ H)∨((nA lo n).go i H/\∃N:St->Hp->Prop,(∀σ' H',N σ' H'->∃m',m'<m/\W (i+1) m' σ' H')/\∀x H',(nA lo n).jO i H x H'->g x σ H' λσ2 H2=>tb { D with nx:=N,ct:=N,bk:=D.nx } σ2 H2):=by
 refine⟨λi m σ H=>m=n-i/\i<=n/\Pv i σ H,⟨n,by simp,cB _,h0⟩,?_⟩;rintro i m σ H ⟨rfl,hi,p⟩;by_cases hlt:i<n
 .refine .inr ⟨hlt,Pv (i+1),λσ' H' p'=>⟨n-(i+1),⋯,rfl,hlt,p'⟩,λx H' y=>?_⟩;obtain⟨e,y⟩:=y;subst e y;exact hs i σ _ hlt p
 .have e:i=n:=⋯;subst e;exact .inl ⟨aN _,hd σ H p⟩
abbrev R2:=V->V->Hp->VK->Prop
def cX(X:Cx)(f:Value->Value->Sem Value)(r:R2):Prop:=
 ∀(pins:List (Addr×Obj)) (s:Shared) (σ:St) (H:Hp) (x y:V) (v u:Value) (Q:VK),Inv X pins σ H s->RelV x v->RelV y u->r x y H Q->
  wpAny (model X.prog X.w) X.A (f v u) (EP X pins σ Q) X.xe s
def Ln(X:Cx)(f:Value->Sem Value)(r:V->Hp->VK->Prop):Prop:=
 ∀(pins:List (Addr×Obj)) (s:Shared) (σ:St) (H:Hp) (x:V) (v:Value) (Q:VK),Inv X pins σ H s->RelV x v->r x H Q->
  wpAny (model X.prog X.w) X.A (f v) (EP X pins σ Q) X.xe s
def kj(X:Cx)(f:Value)(r:List V->Hp->VK->Prop):Prop:=
 ∀(pins:List (Addr×Obj)) (s:Shared) (σ:St) (H:Hp) (xs:List V) (us:List Value) (Q:VK),Inv X pins σ H s->Vals xs us->r xs H Q->
  wpAny (model X.prog X.w) X.A (call f us) (EP X pins σ Q) X.xe s
def wF(r:R2)(ta tb:TE):TE:=λσ H Q=>ta σ H λx H1=>tb σ H1 λy H2=>r x y H2 Q
def tUn(r:V->Hp->VK->Prop)(ta:TE):TE:=λσ H Q=>ta σ H λx H1=>r x H1 Q
inductive SII(C:Int->Int->Prop)(g:Int->Int->V)(x y:V)(H:Hp)(Q:VK):Prop|mk (i j:Int) (hx:x = .int i) (hy:y = .int j) (c:C i j) (q:Q (g i j) H)
def rI(C:Int->Int->Prop)(g:Int->Int->V):R2:=λx y H Q=>SII C g x y H Q
inductive SI0(g:Int->Int->V)(x y:V)(H:Hp)(Q:VK):Prop|mk (i j:Int) (hx:x = .int i) (hy:y = .int j) (q:Q (g i j) H)
def vh(g:Int->Int->V):R2:=λx y H Q=>SI0 g x y H Q
inductive SU(g:Int->V)(x:V)(H:Hp)(Q:VK):Prop|mk (i:Int) (hx:x = .int i) (q:Q (g i) H)
def rU(g:Int->V):V->Hp->VK->Prop:=λx H Q=>SU g x H Q
section
variable {X:Cx} {a b c:Expr} {ta tb tc:TE} {pos:Pos}
def Vu(ha:PE X a ta)(hb:PE X b tb){pins:List (Addr×Obj)}{s:Shared}{σ:St}{H:Hp}{R:V->V->Hp->Prop}(I:Inv X pins σ H s)
  (h:ta σ H λx H1=>tb σ H1 λy H2=>R x y H2) {Q:Value->Shared->Prop} {f:Value->Value->Sem Value}
  (hf:∀v u s2 x y H2,Inv X pins σ H2 s2->RelV x v->RelV y u->R x y H2->wpAny (model X.prog X.w) X.A (f v u) Q X.xe s2):
  wpAny (model X.prog X.w) X.A (eval a X.env) (λv s₁=>wpAny (model X.prog X.w) X.A (eval b X.env) (λu s₂=>wpAny (model X.prog X.w) X.A (f v u) Q X.xe s₂) X.xe s₁) X.xe s:=by
 refine aW (ha pins s σ H _ I h) λv s1 ⟨x,H1,I1,r1,q1⟩=>?_;refine aW (hb pins s1 σ H1 _ I1 q1) λu s2 ⟨y,H2,I2,r2,q2⟩=>?_;exact hf v u s2 x y H2 I2 r1 r2 q2
def aK{op:Operator}{r:R2}(ho:cX X (binaryOp op) r)(ha:PE X a ta)(hb:PE X b tb):PE X (.BinOp a op b pos) (wF r ta tb):=by
 intro pins s σ H Q I h;exact wpAny_BinOp (Vu ha hb I h λv u s2 x y H2 I2 rx ry q=>ho pins s2 σ H2 x y v u Q I2 rx ry q)
def EY{op:UnaryOp}{r:V->Hp->VK->Prop}(ho:Ln X (unaryOp op) r)(ha:PE X a ta):PE X (.UnaryOp op a pos) (tUn r ta):=by
 intro pins s σ H Q I h;exact UnaryOp_ (aW (ha pins s σ H _ I h) λv s1 ⟨x,H1,I1,r1,q1⟩=>ho pins s1 σ H1 x v Q I1 r1 q1)
def B3{f:Value->Value->Sem Value}{C:Int->Int->Prop}{g:Int->Int->Int}
  (rule:∀(i j:Int) (t u:Tok) (s:Shared) (Q:Value->Shared->Prop) (E:Value->Shared->Prop),C i j->Q (.int (g i j) s.toks) { s with toks:=s.toks+1 }->wpAny (model X.prog X.w) X.A (f (.int i t) (.int j u)) Q E s):
  cX X f (rI C λi j=> .int (g i j)):=by
 intro pins s σ H x y v u Q I rx ry h;obtain⟨i,j,rfl,rfl,hc,q⟩:=h;obtain⟨t,rfl⟩:=rx;obtain⟨t',rfl⟩:=ry;exact rule i j t t' s _ _ hc ⟨.int (g i j),H,I.tok _,⟨_,rfl⟩,q⟩
def acf{f:Value->Value->Sem Value}{g:Int->Int->Int}
  (rule:∀(i j:Int) (t u:Tok) (s:Shared) (Q:Value->Shared->Prop) (E:Value->Shared->Prop),Q (.int (g i j) s.toks) { s with toks:=s.toks+1 }->wpAny (model X.prog X.w) X.A (f (.int i t) (.int j u)) Q E s):
  cX X f (vh λi j=> .int (g i j)):=by
 intro pins s σ H x y v u Q I rx ry h;obtain⟨i,j,rfl,rfl,q⟩:=h;obtain⟨t,rfl⟩:=rx;obtain⟨t',rfl⟩:=ry;exact rule i j t t' s _ _ ⟨.int (g i j),H,I.tok _,⟨_,rfl⟩,q⟩
def Gb{f:Value->Value->Sem Value}{g:Int->Int->Bool}
  (rule:∀(i j:Int) (t u:Tok) (s:Shared) (Q:Value->Shared->Prop) (E:Value->Shared->Prop),Q (.bool (g i j)) s->wpAny (model X.prog X.w) X.A (f (.int i t) (.int j u)) Q E s):
  cX X f (vh λi j=> .bl (g i j)):=by
 intro pins s σ H x y v u Q I rx ry h;obtain⟨i,j,rfl,rfl,q⟩:=h;obtain⟨t,rfl⟩:=rx;obtain⟨t',rfl⟩:=ry;exact rule i j t t' s _ _ ⟨.bl (g i j),H,I,rfl,q⟩
def aqN(i j:Int):Prop:=0<j/\j<1073741824
def aq9(i j:Int):Prop:=0<=j/\j<=1000000/\i.natAbs<2^64
def ahR:cX X (binaryOp .Add) (vh λi j=> .int (i+j)):=acf λ_ _ _ _ _ _ _ q=>add_int q
def dH:cX X (binaryOp .Sub) (vh λi j=> .int (i-j)):=acf λ_ _ _ _ _ _ _ q=>sub_int q
def zX:cX X (binaryOp .FloorDiv) (rI aqN λi j=> .int (i/j)):=B3 λi j _ _ _ _ _ hc q=>by
 have h1:(0:Int)<j:=hc.1;have h2:j<1073741824:=hc.2;exact floordiv_int ⋯ (by rw[RV i ⋯];exact q) (.inl (YX ⋯))
def je:cX X (binaryOp .Mod) (rI (λ_ j=>0<j) λi j=> .int (i%j)):=B3 λi j _ _ _ _ _ hc q=>by
 have h1:(0:Int)<j:=hc;exact mod_int' ⋯ (by rw[Int.fmod_eq_emod_of_nonneg i ⋯];exact q)
def ZK:cX X (binaryOp .Pow) (rI aq9 λi j=> .int (i^j.toNat)):=B3 λ_ _ _ _ _ _ _ hc q=>pow_int_small hc.1 hc.2.1 hc.2.2 q
def unI{f:Value->Sem Value}{g:Int->Int}
  (rule:∀(i:Int) (t:Tok) (s:Shared) (Q:Value->Shared->Prop) (E:Value->Shared->Prop),Q (.int (g i) s.toks) { s with toks:=s.toks+1 }->wpAny (model X.prog X.w) X.A (f (.int i t)) Q E s):
  Ln X f (rU λi=> .int (g i)):=by
 intro pins s σ H x v Q I rx h;obtain⟨i,rfl,q⟩:=h;obtain⟨t,rfl⟩:=rx;exact rule i t s _ _ ⟨.int (g i),H,I.tok _,⟨_,rfl⟩,q⟩
def JN:Ln X (unaryOp .USub) (rU λi=> .int (-i)):=unI λ_ _ _ _ _ q=>neg_int q
end
def Uz:V->V->Bool
 |.non,.non=>true | .non,.int _=>true | .int _,.non=>true | .non,.bl _=>true | .bl _,.non=>true | .non,.str _=>true | .str _,.non=>true
 |.int _,.int _=>true | .bl _,.bl _=>true | .str _,.str _=>true | .lQ _,.lQ _=>true
 |.int _,.str _=>true | .str _,.int _=>true | .bl _,.str _=>true | .str _,.bl _=>true
 |_,_=>false
def rEq:R2:=λx y H Q=>Uz x y=true/\Q (.bl (decide (x=y))) H
def rNe:R2:=λx y H Q=>Uz x y=true/\Q (.bl (!decide (x=y))) H
def abh{i j:Int}:decide (V.int i=V.int j)=(i==j):=by
 rw[B4];simp
def acv{i j:Bool}:decide (V.bl i=V.bl j)=(i==j):=by
 rw[B4];simp
def Z9{i j:Str}:decide (V.str i=V.str j)=(i==j):=by
 rw[B4];simp
def afD{i j:Array UInt8}:decide (V.lQ i=V.lQ j)=(i.toList==j.toList):=by
 rw[B4];cases i;cases j;simp
section
variable {X:Cx} {a b c:Expr} {ta tb tc:TE} {pos:Pos}
def fO{pins:List (Addr×Obj)}{σ:St}{H:Hp}{s:Shared}{Q:VK}{k k':Bool}(I:Inv X pins σ H s)(q:Q (.bl k) H)(e:k=k'):EP X pins σ Q (.bool k') s:=by
 subst e;exact⟨.bl k,H,I,rfl,q⟩
def aiR:cX X (compareOp .Eq) rEq:=by
 intro pins s σ H x y v u Q I rx ry h;obtain⟨hs,q⟩:=h;cases x with
 |non=>
  cases rx;cases y with
  |non=>cases ry;exact alZ (fO I q (by simp))
  |bl j=>cases ry;exact aqK (fO I q (by simp))
  |int j=>obtain⟨t',rfl⟩:=ry;exact ahc (fO I q (by simp))
  |str j=>obtain⟨t',rfl⟩:=ry;exact aiE (fO I q (by simp))
  |_=>exact absurd (show false=true from hs) fX
 |bl i=>
  cases rx;cases y with
  |non=>cases ry;exact apa (fO I q (by simp))
  |bl j=>cases ry;exact eq_bool (fO I q acv)
  |str j=>obtain⟨t',rfl⟩:=ry;exact amL (fO I q (by simp))
  |_=>exact absurd (show false=true from hs) fX
 |int i=>
  obtain⟨t,rfl⟩:=rx;cases y with
  |non=>cases ry;exact ayE (fO I q (by simp))
  |int j=>obtain⟨t',rfl⟩:=ry;exact eq_int (fO I q abh)
  |str j=>obtain⟨t',rfl⟩:=ry;exact amk (fO I q (by simp))
  |_=>exact absurd (show false=true from hs) fX
 |str i=>
  obtain⟨t,rfl⟩:=rx;cases y with
  |non=>cases ry;exact aqx (fO I q (by simp))
  |bl j=>cases ry;exact auL (fO I q (by simp))
  |int j=>obtain⟨t',rfl⟩:=ry;exact avs (fO I q (by simp))
  |str j=>obtain⟨t',rfl⟩:=ry;exact eq_str (fO I q Z9)
  |_=>exact absurd (show false=true from hs) fX
 |lQ i=>
  obtain⟨t,rfl⟩:=rx;cases y with
  |lQ j=>obtain⟨t',rfl⟩:=ry;exact W.eq_bytes (fO I q afD)
  |_=>exact absurd (show false=true from hs) fX
 |_=>cases y<;>exact absurd (show false=true from hs) fX
def auA:cX X (compareOp .NotEq) rNe:=by
 intro pins s σ H x y v u Q I rx ry h;obtain⟨hs,q⟩:=h;cases x with
 |non=>
  cases rx;cases y with
  |non=>cases ry;exact aie (fO I q (by simp))
  |bl j=>cases ry;exact anV (fO I q (by simp))
  |int j=>obtain⟨t',rfl⟩:=ry;exact akh (fO I q (by simp))
  |str j=>obtain⟨t',rfl⟩:=ry;exact avt (fO I q (by simp))
  |_=>exact absurd (show false=true from hs) fX
 |bl i=>
  cases rx;cases y with
  |non=>cases ry;exact arb (fO I q (by simp))
  |bl j=>cases ry;exact ne_bool (fO I q (congrArg not acv))
  |str j=>obtain⟨t',rfl⟩:=ry;exact ala (fO I q (by simp))
  |_=>exact absurd (show false=true from hs) fX
 |int i=>
  obtain⟨t,rfl⟩:=rx;cases y with
  |non=>cases ry;exact arU (fO I q (by simp))
  |int j=>obtain⟨t',rfl⟩:=ry;exact ne_int (fO I q (congrArg not abh))
  |str j=>obtain⟨t',rfl⟩:=ry;exact axT (fO I q (by simp))
  |_=>exact absurd (show false=true from hs) fX
 |str i=>
  obtain⟨t,rfl⟩:=rx;cases y with
  |non=>cases ry;exact avf (fO I q (by simp))
  |bl j=>cases ry;exact au2 (fO I q (by simp))
  |int j=>obtain⟨t',rfl⟩:=ry;exact axV (fO I q (by simp))
  |str j=>obtain⟨t',rfl⟩:=ry;exact ne_str (fO I q (congrArg not Z9))
  |_=>exact absurd (show false=true from hs) fX
 |lQ i=>
  obtain⟨t,rfl⟩:=rx;cases y with
  |lQ j=>obtain⟨t',rfl⟩:=ry;exact W.ne_bytes (fO I q (congrArg not afD))
  |_=>exact absurd (show false=true from hs) fX
 |_=>cases y<;>exact absurd (show false=true from hs) fX
def yN:cX X (compareOp .Lt) (vh λi j=> .bl (decide (i<j))):=Gb λ_ _ _ _ _ _ _ q=>lt_int q
def Nb:cX X (compareOp .LtE) (vh λi j=> .bl (decide (i<=j))):=Gb λ_ _ _ _ _ _ _ q=>le_int q
def tu:cX X (compareOp .Gt) (vh λi j=> .bl (decide (j<i))):=Gb λ_ _ _ _ _ _ _ q=>gt_int q
def aji:cX X (compareOp .GtE) (vh λi j=> .bl (decide (j<=i))):=Gb λ_ _ _ _ _ _ _ q=>ge_int q
def cX.or{f:Value->Value->Sem Value}{r r':R2}(h:cX X f r)(h':cX X f r'):cX X f (λx y H Q=>r x y H Q∨r' x y H Q):=by
 intro pins s σ H x y v u Q I rx ry q;rcases q with q|q
 .exact h pins s σ H x y v u Q I rx ry q
 .exact h' pins s σ H x y v u Q I rx ry q
def xO(b:Expr){op:CmpOp}(h:op≠ .In:=by decide)(h2:op≠ .NotIn:=by decide):behindInMarks op b=false:=by
 have e1:(op==CmpOp.In)=false:=by cases op<;>first|rfl|exact absurd rfl h
 have e2:(op==CmpOp.NotIn)=false:=by cases op<;>first|rfl|exact absurd rfl h2
 cases b<;>simp[behindInMarks,e1,e2]
def yZ{op:CmpOp}{r:R2}(ho:cX X (compareOp op) r)(ha:PE X a ta)(hb:PE X b tb)(hm:behindInMarks op b=false):PE X (.Compare a [op] [b] pos) (wF r ta tb):=by
 intro pins s σ H Q I h;exact wpAny_Compare1 (Vu ha hb I h λv u s2 x y H2 I2 rx ry q=>ho pins s2 σ H2 x y v u Q I2 rx ry q) hm
inductive alW(x:V)(H:Hp)(Q:Bool->Hp->Prop):Prop|mk (k:Bool) (hx:x = .bl k) (q:Q k H)
def abV(t:TE):TT:=λσ H Q=>t σ H λx H'=>alW x H' Q
def an8{op:CmpOp}{r:R2}(ho:cX X (compareOp op) r)(ha:PE X a ta)(hb:PE X b tb)(hm:behindInMarks op b=false):PT X (.Compare a [op] [b] pos) (abV (wF r ta tb)):=by
 intro pins s σ H Q I h;refine wpAny_isTrue_Compare1 (aW (ha pins s σ H _ I h) λv s1 ⟨x,H1,I1,r1,q1⟩=>aW (hb pins s1 σ H1 _ I1 q1) λu s2 ⟨y,H2,I2,r2,q2⟩=>
  aW (ho pins s2 σ H2 x y v u _ I2 r1 r2 q2) λc s3 ⟨z,H3,I3,r3,k,e,q3⟩=>?_) hm
 subst e;cases r3;exact wpAny_truthy_bool ⟨H3,I3,q3⟩
def aze{κ:Type}{kvs:List (κ×V)}{vs:List (κ×Value)}(r:KV kvs vs):(!vs.isEmpty)=!kvs.isEmpty:=by
 cases r<;>rfl
def azD{xs:List V}{its:List Value}(r:Vals xs its):(!its.toArray.isEmpty)=!xs.isEmpty:=by
 cases r<;>simp
def Dr:(sizeLine:Nat)<2^63:=by rw[sizeLine_eq];decide
def ahP:cX X (binaryOp .Add) (λx y H Q=>∃i j,x = .str i/\y = .str j/\i.length+j.length<=sizeLine/\Q (.str (i++j)) H):=by
 intro pins s σ H x y v u Q I rx ry h;obtain⟨i,j,rfl,rfl,hz,q⟩:=h;obtain⟨t,rfl⟩:=rx;obtain⟨t',rfl⟩:=ry;exact add_str (λt' tk=>⟨.str (i++j),H,I.tok _,⟨_,rfl⟩,q⟩) hz
def vals1{x:V}{us:List Value}(r:Vals [x] us):∃u,us=[u]/\RelV x u:=by
 cases r with
 |cons r1 r2=>cases r2;exact⟨_,rfl,r1⟩
def vals2{x y:V}{us:List Value}(r:Vals [x,y] us):∃u w',us=[u,w']/\RelV x u/\RelV y w':=by
 cases r with
 |cons r1 r2=>
  cases r2 with
  |cons r3 r4=>cases r4;exact⟨_,_,rfl,r1,r3⟩
def wV:kj X (.builtin "abs") (λxs H Q=>∃i,xs=[.int i]/\Q (.int (if i<0 then -i else i)) H):=by
 intro pins s σ H xs us Q I r h;obtain⟨i,rfl,q⟩:=h;obtain⟨u,rfl,t,rfl⟩:=vals1 r;exact call_abs_int λu tk=>⟨.int (if i<0 then -i else i),H,I.tok _,⟨_,rfl⟩,q⟩
def adE(hc:X.calm=true):kj X (.builtin "max") (λxs H Q=>∃i j,xs=[.int i,.int j]/\Q (.int (if j>i then j else i)) H):=by
 intro pins s σ H xs us Q I r h;obtain⟨i,j,rfl,q⟩:=h;obtain⟨u,w',rfl,⟨t,rfl⟩,⟨t',rfl⟩⟩:=vals2 r;refine max_two_ints (I.ok.hd hc) λh' tk k=>⟨_,H,I.kept k,?_,q⟩;by_cases hj:j>i
 .rw[if_pos hj,if_pos hj];exact⟨_,rfl⟩
 .rw[if_neg hj,if_neg hj];exact⟨_,rfl⟩
def Q9(K:aG)(x:V)(H:Hp)(n:Nat):Prop:=
 match x with
 |.str y=>y.length<=sizeLine/\n=y.length
 |.lQ y=>y.size<=sizeLine/\n=y.size
 |.ref p=>(∃xs,au K H p xs/\n=xs.length)∨∃xs,aA K H p xs/\n=xs.length
 |_=>False
def alK:kj X (.builtin "len") (λxs H Q=>∃x n,xs=[x]/\Q9 X.K x H n/\Q (.int n) H):=by
 intro pins s σ H xs us Q I r h;obtain⟨x,n,rfl,e,q⟩:=h;obtain⟨u,rfl,rx⟩:=vals1 r;have hl:=Dr;have hs:sizeLine=16777216:=sizeLine_eq;cases x with
 |str y=>
  obtain⟨t,rfl⟩:=rx;obtain⟨hy,e'⟩:y.length<=sizeLine/\n=y.length:=e;subst e';exact len_str ⋯ ⟨.int _,H,I.tok _,⟨_,rfl⟩,q⟩
 |lQ y=>
  obtain⟨t,rfl⟩:=rx;obtain⟨hy,e'⟩:y.size<=sizeLine/\n=y.size:=e;subst e';exact W.len_bytes ⋯ ⟨.int _,H,I.tok _,⟨_,rfl⟩,q⟩
 |ref p=>
  cases rx;have e':(∃xs,au X.K H p xs/\n=xs.length)∨∃xs,aA X.K H p xs/\n=xs.length:=e;rcases e' with⟨xs,hx,e'⟩|⟨xs,hx,e'⟩
  .subst e';obtain⟨its,r',pl,hz⟩:=I.list hx;have hlen:=r'.length;exact Calls.call_len_list pl.isList (by simp only[eU];omega) ⟨.int xs.length,H,I.tok _,⟨_,by simp only[eU];rw[hlen]⟩,q⟩
  .subst e';obtain⟨its,r',pl,hz⟩:=I.tuple hx;have hlen:=r'.length;exact len_tuple pl (by simp only[eU];omega) ⟨.int xs.length,H,I.tok _,⟨_,by simp only[eU];rw[hlen]⟩,q⟩
 |_=>exact(show False from e).elim
end
section
variable {prog:Program} {w:World} {A:Around} {E:Value->Shared->Prop} {s:Shared} {K:aG} {x dx C f:Addr} {mA:Str->Option Value} {name:Str} {v:Value}
end
def kE.some_of{v:V}{o:Option Value}(r:kE (some v) o):∃u,o=some u/\RelV v u:=by
 cases o with
 |none=>exact(show False from r).elim
 |some u=>exact⟨u,rfl,r⟩
def kE.none_of{o:Option Value}(r:kE none o):o=none:=by
 cases o with
 |none=>rfl
 |some u=>exact(show False from r).elim
section
variable {P:Program} {w:World} {H H':Hp} {h h':Heap} {a C dx:Addr} {fs fs':List (Str×V)}
end
section
variable {X:Cx} {pins:List (Addr×Obj)} {σ:St} {H:Hp} {s:Shared} {a C dx:Addr} {fs:List (Str×V)} {f:Str} {v:V} {A:Around} {E:Value->Shared->Prop}
end
section
variable {X:Cx} {o e value:Expr} {f:Str} {pos pos' tpos:Pos} {ta tv:TE}
end
section
variable {X:Cx} {pins:List (Addr×Obj)} {σ:St} {H:Hp} {s:Shared} {A:Around} {E:Value->Shared->Prop} {Q:Value->Shared->Prop} {c:Value} {b:Bool}
end
structure dU(k:Nat)(A:Around):Prop where
 hd:A.handled=none
 dp:A.depth+3*k+5<recursionLimit
 un:A.units+16*k+200<cLine
def dU.mono{j k:Nat}{A:Around}(r:dU k A)(h:j<=k):dU j A:=⟨r.hd,by have:=r.dp;omega,by have:=r.un;omega⟩
theorem dU.deeper{k:Nat}{A:Around}(r:dU (k+1) A)(env:Env):dU k (A.deeper env):=
 ⟨r.hd,by have:=r.dp;show A.depth+1+3*k+5<_;omega,by have:=r.un;show A.units+3+16*k+200<_;omega⟩
theorem dU.depth{k:Nat}{A:Around}(r:dU k A):A.depth<recursionLimit:=by have:=r.dp;omega
theorem dU.units{k:Nat}{A:Around}(r:dU k A):A.units+64<cLine:=by have:=r.un;omega
def dU.aeM{k:Nat}{A:Around}(r:dU k A):A.units<cLine:=by have:=r.un;omega
def Lw:TA:=λ_ H Q=>Q [] H
def uo(ta:TE)(tr:TA):TA:=λσ H Q=>ta σ H λx H1=>tr σ H1 λxs H2=>Q (x::xs) H2
section
variable {X:Cx} {e:Expr} {es:List Expr} {te:TE} {t:TA} {pos:Pos}
def aj:PA X [] Lw:=λ_ _ _ _ H Q I h=>Vv ⟨[],H,I,.nil,h⟩
def aL(ha:PE X e te)(hr:PA X es t)(hs:starEach (e::es) X.env=(false,eval e X.env)::starEach es X.env:=by rfl):PA X (e::es) (uo te t):=by
 intro pos pins s σ H Q I h;rw[hs];show wpAny _ _ (spliced ((false,eval e X.env)::backTo pos (starEach es X.env))) _ _ s;refine Jf (aW (ha pins s σ H _ I h) λu s1 ⟨x,H1,I1,r1,q1⟩=>?_);exact aW (hr pos pins s1 σ H1 _ I1 q1) λus s2 ⟨xs,H2,I2,r2,q2⟩=>⟨x::xs,H2,I2,.cons r1 r2,q2⟩
inductive adK(xs:List V)(o:HO)(H:Hp)(Q:VK):Prop|mk (hz:xs.length<=sizeLine) (q:∀p,H p=none->Q (.ref p) (upd H p o))
def aoK(t:TA):TE:=λσ H Q=>t σ H λxs H1=>adK xs (.tup xs) H1 Q
def al1(t:TA):TE:=λσ H Q=>t σ H λxs H1=>adK xs (.lst xs) H1 Q
def gq{x1}(h:PA X es t):PE X (.Tuple es x1 pos) (aoK t):=by
 intro pins s σ H Q I hq;refine wpAny_Tuple_spliced (aW (h pos pins s σ H _ I hq) λus s1 ⟨xs,H1,I1,r,z,q⟩=>⟨by rw[<-r.length];exact z,?_⟩);have hf:H1 s1.heap.objs.size=none:=I1.hok.fresh (aN _);refine⟨.ref s1.heap.objs.size,upd H1 s1.heap.objs.size (.tup xs),I1.laid (t':=s1.toks) (λb u e=>Heap.get?_push_of_some _ e) (aN _) ?_,rfl,q _ hf⟩;exact⟨z,us,r,⟨_,Heap.get?_push_size _ rfl,rfl,_,rfl⟩⟩
def gK(h:PA X es t):PE X (.List es pos) (al1 t):=by
 intro pins s σ H Q I hq;refine wpAny_List_spliced (aW (h pos pins s σ H _ I hq) λus s1 ⟨xs,H1,I1,r,z,q⟩=>⟨by rw[<-r.length];exact z,?_⟩);have hf:H1 s1.heap.objs.size=none:=I1.hok.fresh (aN _);refine⟨.ref s1.heap.objs.size,upd H1 s1.heap.objs.size (.lst xs),I1.laid (t':=s1.toks) (λb u e=>Heap.get?_push_of_some _ e) (aN _) ?_,rfl,q _ hf⟩;exact⟨z,us,0,r,Heap.get?_push_size _ rfl⟩
end
abbrev Sp:=List V->Hp->VK->XK->Prop
abbrev qX:=List Env->Hp->Shared->XK->Value->Shared->Prop
structure Gv(P:Program)(w:World)(K:aG)(mg:Str->Option Value)(base:Heap)(A:Around)(outer:List Env)(s:Shared)(H:Hp):Prop where
 frames:A.frames=some outer
 mod:Mod K mg base
 bs:∀b o,base.get? b=some o->s.heap.get? b=some o/\H b=none
 vW:base.objs.size<=s.heap.objs.size
 qz:s.heap.FunFrames base outer
 yw:∀b∈frs outer,H b=none
 hok:fJ P w H s.heap
 bare:AllBare s.gens
def CE(outer:List Env)(P:Program)(w:World)(H:Hp)(s:Shared)(Q:VK)(u:Value)(s':Shared):Prop:=
 ∃v H',s'.os=s.os/\AllBare s'.gens/\Un (frs outer) [] H H' s.heap s'.heap/\fJ P w H' s'.heap/\RelV v u/\Q v H'
def CR(CX:qX)(outer:List Env)(P:Program)(w:World)(H:Hp)(s:Shared)(Q:VK)(E:XK)(r:Result)(s':Shared):Prop:=
 match r with
 |.ok (.ret u)=>CE outer P w H s Q u s'
 |.ok _=>False
 |.error e=>CX outer H s E e s'
structure qU(P:Program)(w:World)(K:aG)(mg:Str->Option Value)(base:Heap)(CX:qX)(k:Nat)(f:Addr)(fd:FuncData)(ps:List Str)(sp:Sp):Prop where
 len:∀vs H Q E,sp vs H Q E->vs.length=ps.length
 run:∀(A:Around) (outer:List Env) (s:Shared) (H:Hp) (args:Args) (us:List Value) (vs:List V) (Q:VK) (E:XK),dU k A->Gv P w K mg base A outer s H->BindsTo s fd args (ps.zip us)->Vals vs us->sp vs H Q E->
  codeAny (model P w) A (.call (.ref f) args) (CR CX outer P w H s Q E) s
section
variable {X:Cx} {pins:List (Addr×Obj)} {σ:St} {H:Hp} {s s':Shared}
def Inv.env0(I:Inv X pins σ H s):Gv X.prog X.w X.K X.mg X.base X.A X.stack s H:=
 ⟨I.ok.frames,I.ok.mod,I.bs,fY I.ok.vW I.sz,I.stack,I.Vj,I.hok,I.bare⟩
def Inv.after{Q:VK}{u:Value}(I:Inv X pins σ H s)(h:CE X.stack X.prog X.w H s Q u s'):EP X pins σ Q u s':=by
 obtain⟨v,H',os,bare,un,hok,r,q⟩:=h;obtain⟨hh,g,d,t,os'⟩:=s';obtain rfl:os'=s.os:=os;exact⟨v,H',I.call (h':=hh) (g':=g) (d':=d) (t':=t) (ch:=[]) un hok bare (λb z=>absurd z (by simp)),r,q⟩
end
def J2(sp:Sp)(u0:List V)(E:XK)(t:TA):TE:=λσ H Q=>t σ H λvs H1=>sp (vs++u0) H1 Q E
def Binds(K:aG)(fd:FuncData)(ps:List Str)(ds:List Value):Prop:=
 ∀(s:Shared) (us:List Value),K.In s.heap->(us++ds).length=ps.length->BindsTo s fd ⟨us,[]⟩ (ps.zip (us++ds))
def Binds.all{K:aG}{fd:FuncData}{ps:List Str}(h:∀us:List Value,us.length=ps.length->bindArgs fd ⟨us,[]⟩=pure (ps.zip us)):Binds K fd ps []:=λs us _ hl=>by
 rw[xg]at hl⊢;exact .of_eq (h us hl)
def Passes(CX:qX)(X:Cx)(E:XK):Prop:=∀(pins:List (Addr×Obj)) (σ:St) (H:Hp) (s:Shared) (e:Value) (s':Shared),Inv X pins σ H s->CX X.stack H s E e s'->X.xe e s'
section
variable {X:Cx} {CX:qX} {k:Nat} {f C:Addr} {fd:FuncData} {ps:List Str} {sp:Sp} {u0:List V} {ds:List Value} {E:XK} {x m:Str} {p pos apos:Pos} {e o:Expr} {es:List Expr} {ta:TE} {t:TA}
def VH{pins:List (Addr×Obj)}{σ:St}{H:Hp}{s:Shared}{Q:VK}{us:List Value}{vs:List V}(F:qU X.prog X.w X.K X.mg X.base CX k f fd ps sp)(hr:dU k X.A)(hb:Binds X.K fd ps ds)(hd:Vals u0 ds)(hx:Passes CX X E)
  (I:Inv X pins σ H s) (r:Vals vs us) (h:sp (vs++u0) H Q E):wpAny (model X.prog X.w) X.A (call (.ref f) us) (EP X pins σ Q) X.xe s:=by
 have r2:Vals (vs++u0) (us++ds):=r.append hd;have hl:(us++ds).length=ps.length:=by rw[<-r2.length];exact F.len _ _ _ _ h
 refine wpAny_call (codeAny_mono (F.run X.A X.stack s H ⟨us,[]⟩ (us++ds) (vs++u0) Q E hr I.env0 (hb s us I.wQ hl) r2 h) λr s' hq=>?_);cases r with
 |error e=>exact hx pins σ H s e s' I hq
 |ok fl=>
  cases fl with
  |ret u=>exact I.after hq
  |next=>exact False.elim hq
  |brk=>exact False.elim hq
  |cont=>exact False.elim hq
def Wm(F:qU X.prog X.w X.K X.mg X.base CX k f fd ps sp)(hr:dU k X.A)(hg:Gl X x)(hm:X.mg x=some (.ref f))(hk:Av X.K (.ref f)=true)(hb:Binds X.K fd ps ds)(hd:Vals u0 ds)(hx:Passes CX X E)
  (ha:PA X (e::es) t) (hdb:(x==("__debug__" : Str))=false:=by decide) (he:starEach (e::es) X.env=(false,eval e X.env)::starEach es X.env:=by rfl) (hpl:(backTo pos (starEach es X.env)).any (·.1)=false:=by rfl):
  PE X (.Call (.Name x p) (e::es) [] pos) (J2 sp u0 E t):=by
 intro pins s σ H Q I h;refine wpAny_Call_Name_kw (PX I hg hm ?_ hdb);refine W.callWith_K (h₀:=X.base) I.ok.mod.JY hk (aW (ha pos pins s σ H _ I h) λus s1 ⟨vs,H1,I1,r,q⟩=>⟨I1.wQ,?_⟩) he hpl;exact VH F hr hb hd hx I1 r q
end
section
variable {X:Cx} {CX:qX} {k:Nat} {f C:Addr} {fd:FuncData} {ps ks:List Str} {sp:Sp} {E:XK} {x m:Str} {p pos apos kpos:Pos} {e o:Expr} {es:List Expr} {kws:List Keyword} {te ta:TE} {t tk:TA} {nm:Option Str}
variable {g:List Value->List Value->List Value} {gV:List V->List V->List V}
end
structure aZ(N P:List Str)(sc:Scope):Prop where
 kind:sc.kind = .function
 co:sc.isCoroutine=false
 gen:sc.isGenerator=false
 nd:N.Nodup
 pre:N.take P.length=P
 par:∀x∈P,sc.names.lookup x=some .local∨sc.names.lookup x=some .cell
 Q8:∀y∈sc.names,y.2≠ .free
theorem acn{kindOf:Str->Option NameKind}{x:Str}:∀{binds:List (Str×Value)} {m:Str->Option Value},(∀v,(x,v)∉binds)->bindL kindOf binds m x=m x
 |[],_,_=>rfl
 |(n,v)::r,m,h=>by
  unfold bindL;rw[acn λw hw=>h w (cZ _ hw)];split
  .have:x≠n:=by rintro rfl;exact h v cV
   simp[this]
  .rfl
theorem agO{kindOf:Str->Option NameKind}{x:Str}:∀{binds:List (Str×Value)} {m:Str->Option Value},(∀v,(x,v)∉binds)->bindC kindOf binds m x=m x
 |[],_,_=>rfl
 |(n,v)::r,m,h=>by
  unfold bindC;rw[agO λw hw=>h w (cZ _ hw)];split
  .rfl
  .have:x≠n:=by rintro rfl;exact h v cV
   simp[this]
theorem aey{kindOf:Str->Option NameKind}{x:Str}{v:Value}:∀{P:List Str} {vs:List Value} {i:Nat} {m:Str->Option Value},P.Nodup->P[i]?=some x->vs[i]?=some v->kindOf x=some .local->
  bindL kindOf (P.zip vs) m x=some v
 |[],_,_,_,_,h,_,_=>by simp at h
 |_::_,[],_,_,_,_,h,_=>by simp at h
 |p::P,w::vs,0,m,nd,h1,h2,hk=>by
  simp at h1 h2;subst h1;subst h2;show bindL kindOf ((p,w)::P.zip vs) m p=_;unfold bindL;rw[acn λv hv=>(mL.mp nd).1 (QW hv).1,if_pos hk];simp
 |p::P,w::vs,i+1,m,nd,h1,h2,hk=>by
  show bindL kindOf ((p,w)::P.zip vs) m x=_;unfold bindL;exact aey (i:=i) (mL.mp nd).2 (by simpa using h1) (by simpa using h2) hk
theorem aa7{kindOf:Str->Option NameKind}{x:Str}{v:Value}:∀{P:List Str} {vs:List Value} {i:Nat} {m:Str->Option Value},P.Nodup->P[i]?=some x->vs[i]?=some v->kindOf x≠some .local->
  bindC kindOf (P.zip vs) m x=some v
 |[],_,_,_,_,h,_,_=>by simp at h
 |_::_,[],_,_,_,_,h,_=>by simp at h
 |p::P,w::vs,0,m,nd,h1,h2,hk=>by
  simp at h1 h2;subst h1;subst h2;show bindC kindOf ((p,w)::P.zip vs) m p=_;unfold bindC;rw[agO λv hv=>(mL.mp nd).1 (QW hv).1,if_neg hk];simp
 |p::P,w::vs,i+1,m,nd,h1,h2,hk=>by
  show bindC kindOf ((p,w)::P.zip vs) m x=_;unfold bindC;exact aa7 (i:=i) (mL.mp nd).2 (by simpa using h1) (by simpa using h2) hk
def start(N:List Str)(vs:List V):St:=vs.map some++cN (N.length-vs.length) none
def yQ(CX:qX)(P:Program)(w:World)(K:aG)(mg:Str->Option Value)(base:Heap)(N:List Str)(qual:Str)(scope:Scope)(f:Addr)(cd:Value)(A:Around)(outer:List Env)(s:Shared)(H:Hp)(E:XK):Cx where
 prog:=P
 w:=w
 K:=K
 mg:=mg
 base:=base
 A:=A.deeper (envOfC qual scope s.heap.objs.size f cd)
 N:=N
 s₀:=s
 H₀:=H
 env:=envOfC qual scope s.heap.objs.size f cd
 outer:=outer
 stack:=envOfC qual scope s.heap.objs.size f cd::outer
 ex:=[]
 calm:=true
 fn:=λ_=>true
 pn:=[]
 xe:=λe s'=>wpAny (model P w) (A.deeper (envOfC qual scope s.heap.objs.size f cd)) (leaving (envOfC qual scope s.heap.objs.size f cd) e) (λ_ s''=>CX outer H s E e s'') (λe' s''=>CX outer H s E e' s'') s'
def adl{sc:Scope}{n:Nat}{x:Str}(h:sc.names.lookup x=some .cell):∃c,(cellsFrom n sc.names []).lookup x=some c:=by
 have q:=ada sc.names n [] (.inl h);exact Option.isSome_iff_exists.mp q
def anw{CX:qX}{P:Program}{w:World}{K:aG}{mg:Str->Option Value}{base:Heap}{N ps:List Str}{qual:Str}{scope:Scope}{f:Addr}{cd:Value}{A:Around}{outer:List Env}{s s1:Shared}{H:Hp}{E:XK}{us:List Value}{vs:List V}
  (S:aZ N ps scope) (hd:A.handled=none) (e0:Gv P w K mg base A outer s H) (hl:vs.length=ps.length) (r:Vals vs us)
  (x:InCallC s s.heap.objs.size (bindL (envOfC qual scope s.heap.objs.size f cd).kindOf (ps.zip us) λ_=>none) (cellsFrom (s.heap.objs.size+1) scope.names []) (bindC (envOfC qual scope s.heap.objs.size f cd).kindOf (ps.zip us) λ_=>none) s1):
  Inv (yQ CX P w K mg base N qual scope f cd A outer s H E) [] (start N vs) H s1:=by
 have hpl:ps.length<=N.length:=by have:=congrArg sZ S.pre;rw[jd]at this;omega
 obtain⟨h1,tk,rfl,hk⟩:=x.done;have CM:∀b:Addr,b∉(yQ CX P w K mg base N qual scope f cd A outer s H E).ex:=λb z=>absurd (show b∈([]:List Addr)from z) (by simp);refine⟨⟨e0.mod,S.kind,rfl,rfl,aN _,λy z c h1 h2=>?_,λy hy=>?_,λy c _ h=>?_,λ_=>hd,Around.frames_deeper e0.frames,.inr ⟨rfl,rfl⟩,λb z=>absurd z (CM b),e0.bs,e0.vW,λb _ _=>CM b,λb z=>absurd z (CM b),e0.qz,e0.yw⟩,
  rfl,e0.bare,Un.kept hk,⟨_,x.toInCall.ns,λi y v h1 h2 h3=>?_⟩,λy c h=>⟨_,x.cell y c h⟩,e0.hok.fresh (aN _),λy c h=>?_,λp hp=>absurd (show p∈([]:List (Addr×Obj))from hp) (by simp),e0.hok.kept hk,?_⟩
 .exact name_of_addr x.apart (uL h1) (uL h2)
 .have hy:scope.names.lookup y=some .cell∨scope.names.lookup y=some .free:=hy;rcases hy with hy|hy
  .exact adl hy
  .exact absurd rfl (S.Q8 _ (uL hy))
 .exact gG (x.above y c (uL h))
 .have hi:i<vs.length:=by
   unfold start at h2;by_cases hi:i<vs.length
   .exact hi
   .rw[List.getElem?_append_right (by simpa using hi)]at h2;rw[List.getElem?_replicate]at h2;split at h2<;>cases h2
  have ha:vs[i]?=some v:=by
   unfold start at h2;rw[List.getElem?_append_left (by simpa using hi),List.getElem?_map]at h2;cases e:vs[i]? with
   |none=>rw[e]at h2;cases h2
   |some a=>rw[e]at h2;cases h2;rfl
  obtain⟨u,hu,rv⟩:=r.get ha;have hp:ps[i]?=some y:=by
   rw[<-S.pre,List.getElem?_take_of_lt ⋯];exact h1
  have ndP:ps.Nodup:=by rw[<-S.pre];exact S.nd.sublist (af3 _ _)
  refine⟨u,rv,?_⟩;rcases S.par y (List.mem_of_getElem? hp)with k|k
  .exact .inl ⟨k,aey ndP hp hu k⟩
  .obtain⟨c,e⟩:=adl (n:=s.heap.objs.size+1) k;refine .inr ⟨.inl k,c,e,?_⟩;have q:=x.cell y c e;rw[aa7 ndP hp hu (by show scope.names.lookup y≠_;rw[k];decide)]at q;exact q
 .exact e0.hok.fresh (gG (x.above y c (uL h)))
 .unfold start;show _=N.length;rw[dW,aB,rP];omega
def aw9{CX:qX}{P:Program}{w:World}{K:aG}{mg:Str->Option Value}{base:Heap}{k:Nat}{f:Addr}{name qual:Str}{params:Arguments}{body:List Stmt}{scope:Scope}{dV kV doc pm cdv ct oc:Value}{an od:Option Addr}
  {osl:Array (Option Value)} {N ps:List Str} {sp:Sp} (lk:K.lookup f=some ⟨oc,od,.func (qL name qual params body scope dV kV doc pm an cdv ct),osl⟩) (hcd:C5 K cdv qual=true) (S:aZ N ps scope)
  (len:∀vs H Q E,sp vs H Q E->vs.length=ps.length)
  (hbody:∀(A:Around) (outer:List Env) (s:Shared) (H:Hp) (vs:List V) (Q:VK) (E:XK),dU k (A.deeper (envOfC qual scope s.heap.objs.size f cdv))->sp vs H Q E->
   ∃t,jK (yQ CX P w K mg base N qual scope f cdv A outer s H E) body t/\t { nx:=λ_ H'=>Q .non H',rt:=Q } (start N vs) H):
  qU P w K mg base CX (k+1) f (qL name qual params body scope dV kV doc pm an cdv ct) ps sp:=by
 refine⟨len,λA outer s H args us vs Q E hr e0 hb r hsp=>?_⟩;have hl:=len _ _ _ _ hsp;have KX:K.In s.heap:=e0.mod.JY.keeps λb o e=>(e0.bs b o e).1;have lim:s.heap.NoLimit:=e0.mod.nolimit.keeps λb o e=>(e0.bs b o e).1;have hkind:∀y∈ps.zip us,scope.names.lookup y.1=some .local∨(scope.names.lookup y.1=some .cell/\((cellsFrom (s.heap.objs.size+1) scope.names []).lookup y.1).isSome=true):=λ⟨n,v⟩ hy=>by
  rcases S.par n (QW hy).1 with q|q
  .exact .inl q
  .exact .inr ⟨q,ada _ _ _ (.inl q)⟩
 refine codeAny_call_function hr.depth (KX _ _ lk) rfl S.co S.gen rfl (W.codeRec_of KX hcd) (hb _ _ _ _ ?_);refine wpAny_newFunctionEnv_cells S.kind hkind λenv he s1 x=>?_;subst he;refine⟨lim.keeps x.toInCall.keep,codeAny_func ?_⟩;obtain⟨t,ht,hq⟩:=hbody A outer s H vs Q E (hr.deeper _) hsp;have I:Inv (yQ CX P w K mg base N qual scope f cdv A outer s H E) [] (start N vs) H s1:=anw S hr.hd e0 hl r x;refine wpAny_mono (ht [] s1 (start N vs) H _ I hq) (λfl s' hs=>?_) λe s' hs=>hs;have fin:∀{σ':St} {H':Hp} {v:V} {u:Value},Inv (yQ CX P w K mg base N qual scope f cdv A outer s H E) [] σ' H' s'->RelV v u->Q v H'->CE outer P w H s Q u s':=
  λ{σ' H' v u} J rv q=>⟨v,H',J.os,J.bare,J.base,J.hok,rv,q⟩
 cases fl with
 |ret u=>
  obtain⟨v,σ',H',J,rv,q⟩:=hs;exact fin J rv q
 |next=>
  obtain⟨σ',H',J,q⟩:=hs;exact fin (v:=V.non) (u:=Value.none) J rfl q
 |brk=>
  obtain⟨_,_,_,q⟩:=hs;exact False.elim q
 |cont=>
  obtain⟨_,_,_,q⟩:=hs;exact False.elim q
section
variable {X:Cx} {x:Str} {p pos:Pos} {e:Expr} {es:List Expr} {t:TA} {id T:String} {r:List V->Hp->VK->Prop}
def Qh(r:List V->Hp->VK->Prop)(t:TA):TE:=λσ H Q=>t σ H λvs H1=>r vs H1 Q
def jF(hc:kj X (.builtin id) r)(hg:Gl X x)(hm:X.mg x=none)(hv:bootBuiltins x=some (.builtin id))(ha:PA X (e::es) t)(hn:x≠ "__name__" := by decide)(hdb:(x==("__debug__" : Str))=false:=by decide)
  (he:starEach (e::es) X.env=(false,eval e X.env)::starEach es X.env:=by rfl) (hpl:(backTo pos (starEach es X.env)).any (·.1)=false:=by rfl):PE X (.Call (.Name x p) (e::es) [] pos) (Qh r t):=by
 intro pins s σ H Q I h;refine wpAny_Call_Name_kw (sH I hg hm hv ?_ hn hdb);exact ajG (aW (ha pos pins s σ H _ I h) λus s1 ⟨vs,H1,I1,r1,q1⟩=>hc pins s1 σ H1 vs us Q I1 r1 q1) he hpl
def kJ(hc:kj X (.type T) r)(hg:Gl X x)(hm:X.mg x=none)(hv:bootBuiltins x=some (.type T))(ha:PA X (e::es) t)(hn:x≠ "__name__" := by decide)(hdb:(x==("__debug__" : Str))=false:=by decide)
  (he:starEach (e::es) X.env=(false,eval e X.env)::starEach es X.env:=by rfl) (hpl:(backTo pos (starEach es X.env)).any (·.1)=false:=by rfl):PE X (.Call (.Name x p) (e::es) [] pos) (Qh r t):=by
 intro pins s σ H Q I h;refine wpAny_Call_Name_kw (sH I hg hm hv ?_ hn hdb);exact u6 (aW (ha pos pins s σ H _ I h) λus s1 ⟨vs,H1,I1,r1,q1⟩=>hc pins s1 σ H1 vs us Q I1 r1 q1) he hpl
end
end L2
namespace HT
open PySem PyProof.Rows
section
open PySem.SeqAt
open PySem.AutoSeq1 (wpAny_loadPart')
open PySem.MeetsSeq PySem.MeetsSeq2 PySem.MeetsSeq3
end
section
variable {prog:Program} {w:World} {A:Around} {E:Value->Shared->Prop} {s:Shared}
def aiX{t b:Addr}{vs ws:List Value}{Q:Value->Shared->Prop}(ht:IsTup s.heap t vs.toArray)(hb:IsTup s.heap b ws.toArray)(hv:vs≠[])
  (h1:ws=[]->Q (.ref t) s) (h2:ws≠[]->Q (.ref s.heap.objs.size) { s with heap:=s.heap.push { cls:= .type "tuple",data:= .seq (vs++ws).toArray } })
  (hsz:vs.length+ws.length<=sizeLine):wpAny (model prog w) A (binaryOp .Add (.ref t) (.ref b)) Q E s:=by
 obtain⟨⟨cls,dd,data,sl⟩,ho,hc,n,hd⟩:=id ht;obtain⟨⟨cls2,dd2,data2,sl2⟩,ho2,hc2,n2,hd2⟩:=id hb;simp only at hc hd hc2 hd2;subst hc hd hc2 hd2;have e:vs.toArray++ws.toArray=(vs++ws).toArray:=by simp
 by_cases hw:ws=[]
 .exact concat_meets ⟨_,ho,rfl⟩ ⟨_,ho2,rfl⟩ noFill_tuple_add seq_tuple_add Qv La (Qj _ _)
   (tuple_addW1 t b vs.toArray ws.toArray n n2 dd dd2 sl sl2 (by simpa using hv) (by simp[hw])) ⟨ho,ho2,h1 hw⟩
 .refine concat_meets ⟨_,ho,rfl⟩ ⟨_,ho2,rfl⟩ noFill_tuple_add seq_tuple_add Qv La (Qj _ _)
   (tuple_addW2 t b vs.toArray ws.toArray n n2 dd dd2 sl sl2 (by simpa using hv) (by simpa using hw) (by rw[eU,eU];exact hsz)) ⟨ho,ho2,?_⟩
  rw[e];exact h2 hw
def bB(n d:Nat):Option Int->Nat
 |none=>d
 |some v=>if v<0 then(v+(n:Int)).toNat else min v.toNat n
def rA(n d:Nat):bB n d none=d:=rfl
def qI(n d k:Nat):bB n d (some (k:Int))=min k n:=by
 show(if(k:Int)<0 then((k:Int)+(n:Int)).toNat else min (k:Int).toNat n)=min k n;rw[if_neg ⋯,d9]
def aqG(n d:Nat)(hd:d<=n)(o:Option Int):bB n d o<=n:=by
 cases o with
 |none=>exact hd
 |some v=>
  show(if v<0 then(v+(n:Int)).toNat else min v.toNat n)<=n;by_cases hv:v<0
  .rw[if_pos hv];omega
  .rw[if_neg hv];exact afL _ _
def Yx(v:Int)(n d:Nat):(if v<0 then max (v+(n:Int)) 0 else min v (n:Int))=((bB n d (some v):Nat):Int):=by
 show(if v<0 then max (v+(n:Int)) 0 else min v (n:Int))=(((if v<0 then(v+(n:Int)).toNat else min v.toNat n):Nat):Int);by_cases hv:v<0
 .simp only[if_pos hv];omega
 .simp only[if_neg hv];omega
def amn(lo hi:Option Int)(n:Nat):Builtin.Slice.sliceAdjust lo hi 1 (n:Int)=(((bB n 0 lo:Nat):Int),((bB n n hi:Nat):Int)):=by
 have h1:¬((1:Int)<0):=⋯;unfold Builtin.Slice.sliceAdjust;simp only[h1,if_false];refine Kq ?_ ?_
 .cases lo with
  |none=>rfl
  |some v=>exact Yx v n 0
 .cases hi with
  |none=>rfl
  |some v=>exact Yx v n n
def akr(i j:Nat):Builtin.Slice.slicePlaces (i:Int) (j:Int) 1=j-i:=by
 unfold Builtin.Slice.slicePlaces;have h1:(1:Int)>0:=⋯;simp only[h1,if_true,abC];split<;>omega
def aaT{v:Value}{o:Option Int}{Q:Option Int->Shared->Prop}(p:IsPart v o)(h:Q o s):wpAny (model prog w) A (Builtin.Slice.slicePartIndex v) Q E s:=by
 cases p with
 |none=>exact slicePart_none h
 |int i t=>exact slicePart_int h
def Y5{sl:Addr}{vl vu:Value}{lo hi:Option Int}{n:Nat}{Q:Int×Int×Nat->Shared->Prop}(hs:s.heap.IsSliceOf sl vl vu .none)(pl:IsPart vl lo)(pu:IsPart vu hi)
  (h:Q (((bB n 0 lo:Nat):Int),1,bB n n hi-bB n 0 lo) s):wpAny (model prog w) A (Builtin.Slice.sliceApplied (.ref sl) (pure (n:Int))) Q E s:=by
 obtain⟨os,hos,hcs,hds⟩:=id hs;unfold Builtin.Slice.sliceApplied Builtin.Slice.sliceFields;refine wpAny_bind (wpAny_bind (wpAny_field hos hds (x:=vl) rfl (wpAny_bind (wpAny_field hos hds (x:=vu) rfl (wpAny_bind (wpAny_field hos hds (x:= .none) rfl (wpAny_pure ?_)))))));refine wpAny_bind (slicePart_none ?_);show wpAny _ _ (if((1:Int)==0)=true then _ else _) _ _ s;rw[if_neg ∅];refine wpAny_bind (aaT pl (wpAny_bind (aaT pu (wpAny_bind (wpAny_pure ?_)))));show wpAny _ _ (match Builtin.Slice.sliceAdjust lo hi 1 (n:Int)with|(lo,hi)=>pure (lo,(1:Int),Builtin.Slice.slicePlaces lo hi 1)) _ _ s
 rw[amn lo hi n];show wpAny _ _ (pure (((bB n 0 lo:Nat):Int),(1:Int),Builtin.Slice.slicePlaces ((bB n 0 lo:Nat):Int) ((bB n n hi:Nat):Int) 1)) _ _ s;rw[akr];exact wpAny_pure h
def anN(xs:Array Value)(i k:Nat):((eX k).filterMap λ(m:Nat)=>xs[((i:Int)+(m:Int)*1).toNat]?).toArray=((xs.toList.drop i).take k).toArray:=by
 have e:(λ(m:Nat)=>xs[((i:Int)+(m:Int)*1).toNat]?)=λm=>xs[i+m]?:=by
  funext m
  have:((i:Int)+(m:Int)*1).toNat=i+m:=⋯;rw[this]
 rw[e];have:=pick_run xs i k;rw[List.filterMap_map]at this;have e2:((λx=>xs[x]?)∘λx=>i+x)=λm=>xs[i+m]?:=rfl;rw[e2]at this;rw[this]
def asx{t sl:Addr}{items:Array Value}{vl vu:Value}{lo hi:Option Int}{Q:Value->Shared->Prop}(ht:IsTup s.heap t items)(hs:s.heap.IsSliceOf sl vl vu .none)(pl:IsPart vl lo)(pu:IsPart vu hi)
  (hw:¬(bB items.size 0 lo=0/\bB items.size items.size hi=items.size))
  (h:Q (.ref s.heap.objs.size) { s with heap:=s.heap.push { cls:= .type "tuple",data:= .seq ((items.toList.drop (bB items.size 0 lo)).take (bB items.size items.size hi-bB items.size 0 lo)).toArray } })
  (hsz:items.size<=sizeLine):wpAny (model prog w) A (getItem (.ref t) (.ref sl)) Q E s:=by
 have EJ:sizeOk (.seq ((items.toList.drop (bB items.size 0 lo)).take (bB items.size items.size hi-bB items.size 0 lo)).toArray):=by
  show((items.toList.drop (bB items.size 0 lo)).take (bB items.size items.size hi-bB items.size 0 lo)).toArray.size<=sizeLine;rw[eU,jd,pC,Q5];omega
 have hj:bB items.size items.size hi<=items.size:=aqG _ _ (aN _) hi;obtain⟨os,hos,hcs,hds⟩:=id hs;have hTs:s.TypeIs (.ref sl) "slice" := ⟨os,hos,hcs⟩;unfold getItem;try with_reducible refine wpAny_holding ?_
 first|refine wpAny_bind (wpAny_pure ?_)|skip
 refine wpAny_bind (wpAny_sequenceKey ht.typeIs ∅ ?_);refine wpAny_bind (wpAny_callSpecial?_slot (name:=Str.ofString "__getitem__") ht.typeIs Ar
  (wpAny_call_entry Ar ht.typeIs entry_tuple_getitem ?_ (args_tuple_getitem _ _)))
 show wpAny _ _ (Builtin.Tuple.tupleItemsOf (.ref t)>>=_) _ _ s;refine wpAny_bind (tupleItemsOf_ ht ?_);refine wpAny_bind (wpAny_typeOf hTs ?_);rw[if_pos ∅];refine wpAny_bind (Y5 hs pl pu ?_);have hno:¬((((bB items.size 0 lo:Nat):Int)==0&&(1:Int)==1&&(bB items.size items.size hi-bB items.size 0 lo)==items.size)=true):=by
  intro q;rw[rN,rN]at q;have q1:((bB items.size 0 lo:Nat):Int)=0:=eq_of_beq q.1.1;have q2:bB items.size items.size hi-bB items.size 0 lo=items.size:=eq_of_beq q.2;exact hw ⟨⋯,⋯⟩
 show wpAny _ _ (if(((bB items.size 0 lo:Nat):Int)==0&&(1:Int)==1&&(bB items.size items.size hi-bB items.size 0 lo)==items.size)=true then _ else _) _ _ s;rw[if_neg hno,anN];first
  |exact wpAny_bind (m:=Builtin.Tuple.tupleExact _) (wpAny_newObj_type (wpAny_pure ⟨_,rfl,wpAny_pure h⟩) EJ)
  |exact wpAny_bind (m:=Builtin.Tuple.tupleExact _) (wpAny_newObj_type (wpAny_bind (wpAny_pure (wpAny_pure ⟨_,rfl,wpAny_pure h⟩))) EJ)
  |exact wpAny_bind (wpAny_bind (m:=Builtin.Tuple.tupleExact _) (wpAny_newObj_type (wpAny_pure (wpAny_pure ⟨_,rfl,wpAny_pure h⟩)) EJ))
  |exact wpAny_bind (wpAny_bind (m:=Builtin.Tuple.tupleExact _) (wpAny_newObj_type (wpAny_pure ⟨_,rfl,wpAny_pure h⟩) EJ))
end
end HT
namespace L2
open PySem PySem.Spec PyProof.Rows
abbrev TO:=St->Hp->(Option Int->Hp->Prop)->Prop
def PO(X:Cx)(e:Option Expr)(t:TO):Prop:=
 ∀(pins:List (Addr×Obj)) (s:Shared) (σ:St) (H:Hp) (Q:Option Int->Hp->Prop),Inv X pins σ H s->t σ H Q->
  wpAny (model X.prog X.w) X.A (evalPart e X.env) (λu s'=>∃o H',Inv X pins σ H' s'/\IsPart u o/\Q o H') X.xe s
def arQ:TO:=λ_ H Q=>Q none H
inductive axx(x:V)(H:Hp)(Q:Option Int->Hp->Prop):Prop|mk (i:Int) (hx:x = .int i) (q:Q (some i) H)
def akM(t:TE):TO:=λσ H Q=>t σ H λx H1=>axx x H1 Q
def intsAre_of{ns:List Int}:∀{us:List Value},Vals (ns.map V.int) us->IntsAre us ns:=by
 induction ns with
 |nil=>intro us r;rw[TN]at r;cases r;exact .nil
 |cons n ns ih=>
  intro us r;rw[bG]at r;cases r with
  |cons r1 r2=>
   obtain⟨t,e⟩:=r1;subst e;exact .cons n t (ih r2)
section
variable {X:Cx} {e:Expr} {te:TE} {lo hi:Option Expr} {tl th:TO} {pos p2:Pos}
def Aj:PO X none arQ:=by
 intro pins s σ H Q I h;rw[evalPart_none];exact wpAny_pure ⟨none,H,I,.none,h⟩
def vY(h:PE X e te):PO X (some e) (akM te):=by
 intro pins s σ H Q I hw;rw[evalPart_some];refine aW (h pins s σ H _ I hw) λu s1 ⟨x,H1,I1,r1,q1⟩=>?_;obtain⟨i,rfl,q⟩:=q1;obtain⟨t,rfl⟩:=r1;exact⟨some i,H1,I1,.int i t,q⟩
def oh(X:Cx)(r:V->Option Int->Option Int->Hp->VK->Prop):Prop:=
 ∀(pins:List (Addr×Obj)) (s:Shared) (σ:St) (H:Hp) (x:V) (v vl vu:Value) (lo hi:Option Int) (sl:Addr) (Q:VK),Inv X pins σ H s->RelV x v->s.heap.IsSliceOf sl vl vu .none->IsPart vl lo->IsPart vu hi->r x lo hi H Q->
  ∃T id,typeLookup (.type T) "__getitem__" = pure (some (.builtin id))/\s.TypeIs v T/\wpAny (model X.prog X.w) X.A (getItem v (.ref sl)) (EP X pins σ Q) X.xe s
def oh.or{r r':V->Option Int->Option Int->Hp->VK->Prop}(h:oh X r)(h':oh X r'):oh X (λx lo hi H Q=>r x lo hi H Q∨r' x lo hi H Q):=by
 intro pins s σ H x v vl vu lo hi sl Q I rx hs pl pu q;rcases q with q|q
 .exact h pins s σ H x v vl vu lo hi sl Q I rx hs pl pu q
 .exact h' pins s σ H x v vl vu lo hi sl Q I rx hs pl pu q
def tSl(r:V->Option Int->Option Int->Hp->VK->Prop)(te:TE)(tl th:TO):TE:=λσ H Q=>te σ H λx H1=>tl σ H1 λl H2=>th σ H2 λu H3=>r x l u H3 Q
def wG{r:V->Option Int->Option Int->Hp->VK->Prop}(hr:oh X r)(he:PE X e te)(hl:PO X lo tl)(hu:PO X hi th):PE X (.Subscript e (.Slice lo hi none p2) pos) (tSl r te tl th):=by
 intro pins s σ H Q I h;refine Subscript_ (aW (he pins s σ H _ I h) λv s1 ⟨x,H1,I1,r1,q1⟩=>?_);refine wpAny_Slice (aW (hl pins s1 σ H1 _ I1 q1) λvl s2 ⟨l,H2,I2,pl,q2⟩=>aW (hu pins s2 σ H2 _ I2 q2) λvu s3 ⟨u,H3,I3,pu,q3⟩=>?_);rw[evalPart_none];refine wpAny_pure ?_;have I4:Inv X pins σ H3 { s3 with heap:=s3.heap.push { cls:= .type "slice",data:= .fields #[vl,vu,.none] } }:=I3.kept (t':=s3.toks) λb ob q=>Heap.get?_push_of_some _ q;obtain⟨T,id,hT,ht,hg⟩:=hr pins { s3 with heap:=s3.heap.push { cls:= .type "slice",data:= .fields #[vl,vu,.none] } } σ H3 x v vl vu l u s3.heap.objs.size Q I4 r1 (auK ..) pl pu q3;show wpAny (model X.prog X.w) X.A (subscriptTail e (.Slice lo hi none p2) v (.ref s3.heap.objs.size)) (EP X pins σ Q) X.xe { s3 with heap:=s3.heap.push { cls:= .type "slice",data:= .fields #[vl,vu,.none] } };exact tail_any (ops:=[.ref s3.heap.objs.size,v]) ht hT hg (by with_unfolding_all rfl)
def iT(xs:List V)(lo hi:Option Int):List V:=(xs.drop (HT.bB xs.length 0 lo)).take (HT.bB xs.length xs.length hi-HT.bB xs.length 0 lo)
def aaM(xs:List V)(lo hi:Option Int):(iT xs lo hi).length<=xs.length:=by
 unfold iT;rw[jd,pC];omega
def aqy(K:aG):V->Option Int->Option Int->Hp->VK->Prop:=λx lo hi H Q=>∃a xs,x = .ref a/\aA K H a xs/\
 ¬(HT.bB xs.length 0 lo=0/\HT.bB xs.length xs.length hi=xs.length)/\∀p,H p=none->Q (.ref p) (upd H p (.tup (iT xs lo hi)))
def ayz:oh X (aqy X.K):=by
 intro pins s σ H x v vl vu lo hi sl Q I rx hs pl pu h;obtain⟨a,xs,rfl,hx,hw,q⟩:=h;cases rx;obtain⟨its,r,ht,hz⟩:=I.tuple hx;have hlen:its.toArray.size=xs.length:=by rw[eU];exact r.length.symm
 refine⟨"tuple",_,Ar.lookup,ht.typeIs,?_⟩;refine HT.asx ht hs pl pu (by rw[hlen];exact hw) ?_ (by rw[hlen];exact hz);rw[hlen];refine⟨.ref s.heap.objs.size,_,I.laid (t':=s.toks) (o:= .tup (iT xs lo hi)) (λb ob q=>Heap.get?_push_of_some _ q) (aN _) ?_,rfl,q _ (I.hok.fresh (aN _))⟩;exact⟨fY (aaM xs lo hi) hz,_,(r.drop (HT.bB xs.length 0 lo)).take (HT.bB xs.length xs.length hi-HT.bB xs.length 0 lo),IsTup.new _ _⟩
def aog(K:aG):R2:=λx y H Q=>∃a b xs ys,x = .ref a/\y = .ref b/\aA K H a xs/\aA K H b ys/\xs≠[]/\xs.length+ys.length<=sizeLine/\
 (ys=[]->Q (.ref a) H)/\(ys≠[]->∀p,H p=none->Q (.ref p) (upd H p (.tup (xs++ys))))
def Vals.JT{xs:List V}{us:List Value}(r:Vals xs us):us=[]↔xs=[]:=by
 cases r with
 |nil=>simp
 |cons _ _=>simp
def ayb:cX X (binaryOp .Add) (aog X.K):=by
 intro pins s σ H x y v u Q I rx ry h;obtain⟨a,b,xs,ys,rfl,rfl,ha,hb,hx,hz,q1,q2⟩:=h;cases rx;cases ry;obtain⟨its,r1,p1,_⟩:=I.tuple ha;obtain⟨its2,r2,p2,_⟩:=I.tuple hb;refine HT.aiX p1 p2 (λz=>hx (r1.JT.mp z)) (λz=>⟨.ref a,H,I,rfl,q1 (r2.JT.mp z)⟩) (λz=>?_) (by rw[<-r1.length,<-r2.length];exact hz);refine⟨.ref s.heap.objs.size,_,I.laid (t':=s.toks) (o:= .tup (xs++ys)) (λb ob q=>Heap.get?_push_of_some _ q) (aN _) ?_,rfl,q2 (λw=>z (r2.JT.mpr w)) _ (I.hok.fresh (aN _))⟩;exact⟨by rw[dW];exact hz,_,r1.append r2,IsTup.new _ _⟩
end
def pK(n:Nat)(i:Int):Option Nat:=if 0<=i then(if i<n then some i.toNat else none)else if -(n:Int)<=i then some (i+n).toNat else none
def mq{α:Type}(xs:List α)(i:Int):Option α:=(pK xs.length i).bind λj=>xs[j]?
def Yi{n:Nat}{i:Int}{j:Nat}(h:pK n i=some j):seqIndex? i n=some j/\j<n/\-(n:Int)<=i/\i<n:=by
 unfold pK at h;by_cases h0:0<=i
 .rw[if_pos h0]at h;by_cases h1:i<n
  .rw[if_pos h1]at h;have e:i.toNat=j:=rO h;exact⟨by rw[seqIndex_of h0 h1,e],⋯,⋯,h1⟩
  .rw[if_neg h1]at h;cases h
 .rw[if_neg h0]at h;by_cases h1:-(n:Int)<=i
  .rw[if_pos h1]at h;have e:(i+n).toNat=j:=rO h;exact⟨by rw[seqIndex_neg ⋯ h1,e],⋯,h1,⋯⟩
  .rw[if_neg h1]at h;cases h
def Vy{α:Type}{xs:List α}{i:Int}{v:α}(h:mq xs i=some v):∃j,seqIndex? i xs.length=some j/\xs[j]?=some v/\j<xs.length/\-(xs.length:Int)<=i/\i<xs.length:=by
 unfold mq at h;cases e:pK xs.length i with
 |none=>rw[e]at h;cases h
 |some j=>
  rw[e]at h;obtain⟨h1,h2,h3,h4⟩:=Yi e;exact⟨j,h1,h,h2,h3,h4⟩
def aao{α:Type}{xs:List α}{j:Nat}{v:α}(h:xs[j]?=some v):mq xs (j:Int)=some v:=by
 have hj:j<xs.length:=(List.getElem?_eq_some_iff.mp h).1;have e:pK xs.length (j:Int)=some j:=by
  unfold pK;rw[if_pos ⋯,if_pos ⋯];simp
 unfold mq;rw[e];exact h
def apx{α:Type}(xs:List α)(v:α):mq (xs++[v]) (-1)=some v:=by
 have hl:(xs++[v]).length=xs.length+1:=by simp
 have e:pK (xs++[v]).length (-1)=some xs.length:=by
  unfold pK;rw[hl,if_neg ∅,if_pos ⋯];congr 1;omega
 unfold mq;rw[e];show(xs++[v])[xs.length]?=some v;simp
def abl(b:Expr):Prop:=∀o i,subscripted b false o i=operate [o,i] (getItem o i)
def mF(X:Cx)(r:R2):Prop:=
 ∀(value slice:Expr) (pins:List (Addr×Obj)) (s:Shared) (σ:St) (H:Hp) (x y:V) (v u:Value) (Q:VK),Inv X pins σ H s->RelV x v->RelV y u->r x y H Q->
  subscripted slice false v u=operate [v,u] (getItem v u)->wpAny (model X.prog X.w) X.A (subscriptTail value slice v u) (EP X pins σ Q) X.xe s
def MtR(X:Cx)(id:String)(r:V->List V->Hp->VK->Prop):Prop:=
 ∀(pins:List (Addr×Obj)) (s:Shared) (σ:St) (H:Hp) (x:V) (xs:List V) (v:Value) (us:List Value) (Q:VK),Inv X pins σ H s->RelV x v->Vals xs us->r x xs H Q->
  wpAny (model X.prog X.w) X.A (call (.builtin id) (v::us)) (EP X pins σ Q) X.xe s
section
variable {X:Cx} {a b:Expr} {ta tb:TE} {pos:Pos}
def mF.or{r r':R2}(h:mF X r)(h':mF X r'):mF X (λx y H Q=>r x y H Q∨r' x y H Q):=by
 intro value slice pins s σ H x y v u Q I rx ry q hs;rcases q with q|q
 .exact h value slice pins s σ H x y v u Q I rx ry q hs
 .exact h' value slice pins s σ H x y v u Q I rx ry q hs
def am2{r:R2}(hr:mF X r)(ha:PE X a ta)(hb:PE X b tb)(hs:abl b):PE X (.Subscript a b pos) (wF r ta tb):=by
 intro pins s σ H Q I h;exact Subscript_ (Vu ha hb I h λv u s2 x y H2 I2 rx ry q=>hr a b pins s2 σ H2 x y v u Q I2 rx ry q (hs _ _))
def Zv(K:aG):R2:=λx y H Q=>∃p xs i v,x = .ref p/\y = .int i/\au K H p xs/\mq xs i=some v/\Q v H
def ac5(K:aG):R2:=λx y H Q=>∃p xs i v,x = .ref p/\y = .int i/\aA K H p xs/\mq xs i=some v/\Q v H
def aco:R2:=λx y H Q=>∃z i c,x = .str z/\y = .int i/\z.length<=sizeLine/\mq z.cps.toList i=some c/\Q (.str ⟨#[c]⟩) H
def amb:mF X (Zv X.K):=by
 intro value slice pins s σ H x y v u Q I rx ry h hs;obtain⟨p,xs,i,z,rfl,rfl,hq,he,q⟩:=h;cases rx;obtain⟨t,rfl⟩:=ry;obtain⟨its,r,pl,hz⟩:=I.list hq;obtain⟨j,h1,h2,h3,h4,h5⟩:=Vy he;obtain⟨w,ew,nK⟩:=r.get h2;have hl:=r.length;have hn:=Dr;have fin:EP X pins σ Q w s:=⟨z,H,I,nK,q⟩;by_cases h0:0<=i
 .have hj:i.toNat=j:=by
   rw[seqIndex_of h0 h5]at h1;exact rO h1
  exact item_listR pl.isList h0 ⋯ (by rw[hj];simpa using ew) fin hs
 .have hj:(i+(its.toArray.size:Int)).toNat=j:=by
   rw[seqIndex_neg ⋯ h4]at h1;rw[eU,<-hl];exact rO h1
  exact subscriptTail_builtinR (x:=w) pl.isList.typeIs slot_list_getitem.lookup
   (wpAny_getItem_list_neg (Q:=λr s'=>r=w/\EP X pins σ Q r s') pl.isList ⋯ (by rw[eU]<;>omega) ⋯ (by rw[hj];simpa using ew) ⟨rfl,fin⟩) hs
def axE:mF X (ac5 X.K):=by
 intro value slice pins s σ H x y v u Q I rx ry h hs;obtain⟨p,xs,i,z,rfl,rfl,hq,he,q⟩:=h;cases rx;obtain⟨t,rfl⟩:=ry;obtain⟨its,r,pl,hz⟩:=I.tuple hq;obtain⟨j,h1,h2,h3,h4,h5⟩:=Vy he;obtain⟨w,ew,nK⟩:=r.get h2;have hl:=r.length;have hn:=Dr;have fin:EP X pins σ Q w s:=⟨z,H,I,nK,q⟩;exact subscriptTail_builtinR (x:=w) pl.typeIs slot_tuple_getitem.lookup
  (getItem_tuple (j:=j) (Q:=λr s'=>r=w/\EP X pins σ Q r s') pl ⋯ ⋯ (by rw[eU,<-hl];exact h1) (by simpa using ew) ⟨rfl,fin⟩) hs
def avu:mF X aco:=by
 intro value slice pins s σ H x y v u Q I rx ry h hs;obtain⟨z,i,c,rfl,rfl,hz,he,q⟩:=h;obtain⟨t,rfl⟩:=rx;obtain⟨t',rfl⟩:=ry;obtain⟨j,h1,h2,h3,h4,h5⟩:=Vy he;have hl:z.cps.toList.length=z.length:=by simp[Str.length]
 rw[hl]at h1 h4 h5;have hn:=Dr;exact tail_any (typeIs_str s z t) slot_str_getitem.lookup (getItem_str (c:=c) (by
  have e1:decide (i < -(2^63:Int))=false:=decide_eq_false ⋯;have e2:decide (i≥2^63)=false:=decide_eq_false ⋯;rw[e1,e2,Bool.or_false]) (by rw[h1];simpa using h2) ⟨.str ⟨#[c]⟩,H,I.tok _,⟨_,rfl⟩,q⟩) hs
def rIx(K:aG):R2:=λx y H Q=>Zv K x y H Q∨ac5 K x y H Q∨aco x y H Q
def alC:mF X (rIx X.K):=amb.or (axE.or avu)
def amm(its:List Value)(n j:Nat)(u:Value):j8 (·.setIfInBounds j u) { cls:= .type "list",data:= .seq its.toArray n }={ cls:= .type "list",data:= .seq (its.set j u).toArray n }:=by
 simp[j8]
theorem Inv.lst{pins:List (Addr×Obj)}{σ:St}{H:Hp}{s:Shared}{p:Addr}{xs:List V}(I:Inv X pins σ H s)(h:H p=some (.lst xs)):
  ∃(its:List Value) (n:Nat),Vals xs its/\s.heap.get? p=some { cls:= .type "list",data:= .seq its.toArray n }/\xs.length<=sizeLine:=by
 obtain⟨z,its,n,r,e⟩:=I.hok p _ h;exact⟨its,n,r,e,z⟩
def Inv.akp{pins:List (Addr×Obj)}{σ:St}{H:Hp}{s:Shared}{p:Addr}{xs ys:List V}{its its':List Value}{n n':Nat}{f:Obj->Obj}(I:Inv X pins σ H s)(h:H p=some (.lst xs))
  (ho:s.heap.get? p=some { cls:= .type "list",data:= .seq its.toArray n }) (hf:f { cls:= .type "list",data:= .seq its.toArray n }={ cls:= .type "list",data:= .seq its'.toArray n' }) (r:Vals ys its') (hz:ys.length<=sizeLine) (t:Nat):
  Inv X pins σ (upd H p (.lst ys)) { s with heap:=s.heap.update p f,toks:=t }:=by
 have e:(s.heap.update p f).get? p=some { cls:= .type "list",data:= .seq its'.toArray n' }:=by
  rw[Heap.get?_update_self f ho (by rw[hf]<;>rfl),hf]
 refine I.write (x:=p) (e:=p) (by rw[h];trivial) (.inl rfl) (λb u hb q=>(Heap.get?_update_other _ _ (dF hb)).trans q) ⟨_,e⟩ ?_;exact⟨hz,its',n',r,e⟩
inductive SSet(o i v:V)(H:Hp)(Q:Hp->Prop):Prop|mk (p:Addr) (xs:List V) (k:Int) (j:Nat) (ho:o = .ref p) (hi:i = .int k) (hp:H p=some (.lst xs)) (hj:pK xs.length k=some j) (q:Q (upd H p (.lst (xs.set j v))))
def ao7:V->V->V->Hp->(Hp->Prop)->Prop:=λo i v H Q=>SSet o i v H Q
def set_list:aa2 X ao7:=by
 intro pins s σ H o i v ov iv u Q I ro ri rv h;obtain⟨p,xs,k,j,rfl,rfl,hp,hj,q⟩:=h;cases ro;obtain⟨t,rfl⟩:=ri;obtain⟨its,n,r,ho,hz⟩:=I.lst hp;obtain⟨h1,h2,h3,h4⟩:=Yi hj;have hl:=r.length;have hn:=Dr;have I':Inv X pins σ (upd H p (.lst (xs.set j v))) { s with heap:=s.heap.update p (j8 (·.setIfInBounds j u)) }:=
  I.akp hp ho (amm its n j u) (r.set rv j) (by rw[nF];exact hz) s.toks
 by_cases h0:0<=k
 .have hk:k.toNat=j:=by
   rw[seqIndex_of h0 h4]at h1;exact rO h1
  exact W.ki_setAt ho h0 ⋯ (by rw[eU,<-hl];exact h4) (by rw[hk];exact⟨_,I',q⟩)
 .have hk:(k+(its.toArray.size:Int)).toNat=j:=by
   rw[seqIndex_neg ⋯ h3]at h1;rw[eU,<-hl];exact rO h1
  exact W.ki_setBack ho ⋯ (by rw[eU,<-hl];exact h3) ⋯ (by rw[hk];exact⟨_,I',q⟩)
def aq5(lo hi:Option Int)(n:Nat):(sliceBounds lo hi none n).1=((HT.bB n 0 lo:Nat):Int)/\(sliceBounds lo hi none n).2.1=((HT.bB n n hi:Nat):Int)/\(sliceBounds lo hi none n).2.2=1:=by
 refine⟨?_,?_,rfl⟩
 .cases lo with
  |none=>simp[sliceBounds,HT.bB]
  |some i=>
   simp only[sliceBounds,HT.bB,adP,show(1:Int)>0 by decide,if_true];by_cases h:i<0
   .simp only[h,if_true]<;>omega
   .simp only[h,if_false]<;>omega
 .cases hi with
  |none=>simp[sliceBounds,HT.bB]
  |some i=>
   simp only[sliceBounds,HT.bB,adP,show(1:Int)>0 by decide,if_true];by_cases h:i<0
   .simp only[h,if_true]<;>omega
   .simp only[h,if_false]<;>omega
def arj(its:List Value)(lo hi:Option Int):slicePick its.toArray lo hi none=((its.drop (HT.bB its.length 0 lo)).take (HT.bB its.length its.length hi-HT.bB its.length 0 lo)).toArray:=by
 obtain⟨h1,h2,h3⟩:=aq5 lo hi its.toArray.size;unfold slicePick;rw[h1,h2,h3];simp only[sliceRange_one,pick_run,eU]<;>rfl
def anI(K:aG):V->Option Int->Option Int->Hp->VK->Prop:=λx lo hi H Q=>∃a xs,x = .ref a/\au K H a xs/\∀p,H p=none->Q (.ref p) (upd H p (.lst (iT xs lo hi)))
def awg:oh X (anI X.K):=by
 intro pins s σ H x v vl vu lo hi sl Q I rx hs pl pu h;obtain⟨a,xs,rfl,hx,q⟩:=h;cases rx;obtain⟨its,r,ht,hz⟩:=I.list hx;have hlen:=r.length;refine⟨"list",_,slot_list_getitem.lookup,ht.isList.typeIs,?_⟩;refine wpAny_getItem_list_slice ht.isList hs pl pu .none (by simp) ?_ (by rw[eU]<;>omega);rw[arj,<-hlen];refine⟨.ref s.heap.objs.size,_,I.laid (t':=s.toks) (o:= .lst (iT xs lo hi)) (λb ob q=>Heap.get?_push_of_some _ q) (aN _) ?_,rfl,q _ (I.hok.fresh (aN _))⟩;exact⟨fY (aaM xs lo hi) hz,_,0,(r.drop (HT.bB xs.length 0 lo)).take (HT.bB xs.length xs.length hi-HT.bB xs.length 0 lo),Heap.get?_push_size _ rfl⟩
def qD:V->Bool
 |.non=>true
 |.bl _=>true
 |.int _=>true
 |.str _=>true
 |_=>false
def Qu:V->V->Bool
 |.non,.non=>true
 |.bl a,.bl b=>a==b
 |.bl a,.int b=>(if a then 1 else 0)==b
 |.int a,.bl b=>a==(if b then 1 else 0)
 |.int a,.int b=>a==b
 |.str a,.str b=>a==b
 |_,_=>false
def am4{A:Around}{s:Shared}{y x:V}{u v:Value}(ry:RelV y u)(rx:RelV x v)(fy:qD y=true)(fx:qD x=true):SeqAt.EqAt A s u v (Qu y x):=by
 cases y with
 |non=>
  cases ry;cases x with
  |non=>cases rx;exact SeqAt.EqAt.same _
  |bl b=>cases rx;exact SeqAt.EqAt.none_bool b
  |int b=>obtain⟨t,rfl⟩:=rx;exact SeqAt.EqAt.none_int b t
  |str b=>obtain⟨t,rfl⟩:=rx;exact SeqAt.EqAt.none_str b t
  |_=>exact absurd (show false=true from fx) fX
 |bl a=>
  cases ry;cases x with
  |non=>cases rx;exact SeqAt.EqAt.bool_none a
  |bl b=>cases rx;exact SeqAt.EqAt.bool_bool a b
  |int b=>obtain⟨t,rfl⟩:=rx;exact SeqAt.EqAt.bool_int a b t
  |str b=>obtain⟨t,rfl⟩:=rx;exact SeqAt.EqAt.bool_str a b t
  |_=>exact absurd (show false=true from fx) fX
 |int a=>
  obtain⟨t',rfl⟩:=ry;cases x with
  |non=>cases rx;exact SeqAt.EqAt.int_none a t'
  |bl b=>cases rx;exact SeqAt.EqAt.int_bool a t' b
  |int b=>obtain⟨t,rfl⟩:=rx;exact SeqAt.EqAt.int_int a t' b t
  |str b=>obtain⟨t,rfl⟩:=rx;exact SeqAt.EqAt.int_str a t' b t
  |_=>exact absurd (show false=true from fx) fX
 |str a=>
  obtain⟨t',rfl⟩:=ry;cases x with
  |non=>cases rx;exact SeqAt.EqAt.str_none a t'
  |bl b=>cases rx;exact SeqAt.EqAt.str_bool a t' b
  |int b=>obtain⟨t,rfl⟩:=rx;exact SeqAt.EqAt.str_int a t' b t
  |str b=>obtain⟨t,rfl⟩:=rx;exact SeqAt.EqAt.str_str a t' b t
  |_=>exact absurd (show false=true from fx) fX
 |_=>exact absurd (show false=true from fy) fX
def atd:kj X (.type "list") (λxs H Q=>∃p ys,xs=[.ref p]/\(au X.K H p ys∨aA X.K H p ys)/\∀l,H l=none->Q (.ref l) (upd H l (.lst ys))):=by
 intro pins s σ H xs us Q I r h;obtain⟨p,ys,rfl,hq,q⟩:=h;obtain⟨u,rfl,rx⟩:=vals1 r;cases rx;have fin:∀(its:List Value),Vals ys its->ys.length<=sizeLine->∀(h':Heap) (c':Nat),(∀b o',s.heap.get? b=some o'->h'.get? b=some o')->
   h'.get? s.heap.objs.size=some { cls:= .type "list",dict:=none,data:= .seq its.toArray c',slots:=#[] }->EP X pins σ Q (.ref s.heap.objs.size) { s with heap:=h' }:=λits r' hz h' c' kp e=>
  ⟨.ref s.heap.objs.size,_,I.laid (t':=s.toks) kp (aN _) (show dz X.prog X.w _ h' _ (.lst ys)from⟨hz,its,c',r',e⟩),rfl,q _ (I.hok.fresh (aN _))⟩
 rcases hq with hq|hq
 .obtain⟨its,r',pl,hz⟩:=I.list hq;have hlen:=r'.length;obtain⟨o,ho,hc,n,hd⟩:=pl.isList;exact call_list_seq p (.inl rfl) ho hc hd (λh' c' kp e=>fin its r' hz h' c' kp e) (by simp only[eU]<;>omega)
 .obtain⟨its,r',pl,hz⟩:=I.tuple hq;have hlen:=r'.length;obtain⟨o,ho,hc,n,hd⟩:=pl;exact call_list_seq p (.inr rfl) ho hc hd (λh' c' kp e=>fin its r' hz h' c' kp e) (by simp only[eU]<;>omega)
def ajj:kj X (.type "tuple") (λxs H Q=>∃p ys,xs=[.ref p]/\((au X.K H p ys/\∀l,H l=none->Q (.ref l) (upd H l (.tup ys)))∨(aA X.K H p ys/\Q (.ref p) H))):=by
 intro pins s σ H xs us Q I r h;obtain⟨p,ys,rfl,h⟩:=h;obtain⟨u,rfl,rx⟩:=vals1 r;cases rx;rcases h with⟨hq,q⟩|⟨hq,q⟩
 .obtain⟨its,r',pl,hz⟩:=I.list hq;have hlen:=r'.length;refine call_tuple_list pl.isList (λh' kp=>?_) (by simp only[eU]<;>omega);have I1:Inv X pins σ H { s with heap:=h' }:=I.kept (t':=s.toks) kp;have I2:Inv X pins σ (upd H h'.objs.size (.tup ys)) { s with heap:=h'.push { cls:= .type "tuple",data:= .seq its.toArray } }:=
   I1.laid (t':=s.toks) (λb o e=>Heap.get?_push_of_some _ e) (aN _) (show dz X.prog X.w _ _ _ (.tup ys)from⟨hz,its,r',IsTup.new _ _⟩)
  exact⟨.ref h'.objs.size,_,I2,rfl,q _ (I1.hok.fresh (aN _))⟩
 .obtain⟨its,r',pl,hz⟩:=I.tuple hq;exact call_tuple_same pl ⟨.ref p,H,I,rfl,q⟩
def RM(K:aG)(T:String)(x:V)(H:Hp):Prop:=match x with
 |.str _=>T = "str"
 |.int _=>T = "int"
 |.ref p=>(T = "list" /\ ∃xs,au K H p xs)∨(T = "tuple" /\ ∃o,K.lookup p=some o/\o.cls = .type "tuple" /\ o.dict=none)∨
   (T = "dict" /\ ((∃kvs,H p=some (.dK kvs))∨∃kvs,H p=some (.dT kvs)))∨(T = "set" /\ ∃S n,H p=some (.set S n))
 |_=>False
def VG{pins:List (Addr×Obj)}{σ:St}{H:Hp}{s:Shared}{T:String}{x:V}{v:Value}(I:Inv X pins σ H s)(r:RelV x v)(ty:RM X.K T x H):
  s.TypeIs v T/\∀a,v = .ref a->∃ob,s.heap.get? a=some ob/\ob.dict=none:=by
 cases x with
 |str z=>
  obtain⟨t,rfl⟩:=r;cases (show T = "str" from ty);exact⟨typeIs_str s z t,λ_ e=>nomatch e⟩
 |int i=>
  obtain⟨t,rfl⟩:=r;cases (show T = "int" from ty);exact⟨typeIs_int s i t,λ_ e=>nomatch e⟩
 |ref p=>
  cases r;rcases ty with⟨rfl,xs,hq⟩|⟨rfl,o,hk,hc,hd⟩|⟨rfl,hk⟩|⟨rfl,S,n,hk⟩
  .obtain⟨its,_,pl,_⟩:=I.list hq;refine⟨pl.isList.typeIs,λa e=>?_⟩;cases e;obtain⟨o,n,e,c,hd,_⟩:=pl;exact⟨o,e,hd⟩
  .refine⟨⟨o,I.wQ p o hk,hc⟩,λa e=>?_⟩;cases e;exact⟨o,I.wQ _ o hk,hd⟩
  .have z:∃o,s.heap.get? p=some o/\o.ExactDict:=by
    rcases hk with⟨kvs,hk⟩|⟨kvs,hk⟩
    .obtain⟨_,_,_,_,o,_,_,e,ex,_⟩:=I.hok p _ hk;exact⟨o,e,ex⟩
    .obtain⟨_,_,_,_,o,_,_,e,ex,_⟩:=I.hok p _ hk;exact⟨o,e,ex⟩
   obtain⟨o,e,ex⟩:=z;refine⟨⟨o,e,ex.1⟩,λa e2=>?_⟩;cases e2;exact⟨o,e,ex.2.1⟩
  .obtain⟨o,_,_,_,e,ex,_⟩:=I.hok p _ hk;refine⟨⟨o,e,ex.1⟩,λa e2=>?_⟩;cases e2;exact⟨o,e,ex.2.1⟩
 |_=>exact False.elim ty
def WB(K:aG)(T:String)(r:V->List V->Hp->VK->Prop)(to:TE):TE:=λσ H Q=>to σ H λx H1=>RM K T x H1/\r x [] H1 Q
def Qz(K:aG)(T:String)(r:V->List V->Hp->VK->Prop)(to:TE)(t:TA):TE:=λσ H Q=>to σ H λx H1=>RM K T x H1/\t σ H1 λxs H2=>r x xs H2 Q
variable {o e:Expr} {es:List Expr} {to:TE} {t:TA} {name:Str} {apos cpos:Pos} {T id:String} {r:V->List V->Hp->VK->Prop}
def ajn(pa:PlainAttrs T)(slot:Slot T name id)(hty:typeOf (.builtin id)=pure (.type "method_descriptor"))(hm:MtR X id r)(ho:PE X o to)
  (hbase:attributeBase o name X.env (eval o X.env)=eval o X.env:=by rfl) (hline:(apos.endLine==cpos.line)=true:=by rfl):PE X (.Call (.Attribute o name apos) [] [] cpos) (WB X.K T r to):=by
 intro pins s σ H Q I h;refine wpAny_Call_method0_late hbase hline (aW (ho pins s σ H _ I h) λv s1 ⟨x,H1,I1,r1,ty,q1⟩=>?_);obtain⟨h1,h2⟩:=VG I1 r1 ty;exact⟨T,id,pa,slot,hty,h1,h2,Pj rfl (PySem.evalArgs_none (hm pins s1 σ H1 x [] v [] Q I1 r1 .nil q1))⟩
def aay(pa:PlainAttrs T)(slot:Slot T name id)(hty:typeOf (.builtin id)=pure (.type "method_descriptor"))(hm:MtR X id r)(ho:PE X o to)(ha:PA X (e::es) t)
  (hbase:attributeBase o name X.env (eval o X.env)=eval o X.env:=by rfl)
  (hfew:((backTo cpos (starEach (e::es) X.env)).all (λx=>!x.1)&&(backToKw cpos (keywordEach [] X.env)).all (λx=>x.1.isSome)
   && decide ((e::es).length+([]:List Keyword).length+(if([]:List Keyword).isEmpty then 0 else 1)<30))=true:=by rfl)
  (hline:(apos.endLine==cpos.line)=true:=by rfl) (hs:starEach (e::es) X.env=(false,eval e X.env)::starEach es X.env:=by rfl) (hplain:(backTo cpos (starEach es X.env)).any (·.1)=false:=by rfl):
  PE X (.Call (.Attribute o name apos) (e::es) [] cpos) (Qz X.K T r to t):=by
 intro pins s σ H Q I h;refine wpAny_Call_method_late hbase hfew hline rfl (aW (ho pins s σ H _ I h) λv s1 ⟨x,H1,I1,r1,ty,q1⟩=>?_);obtain⟨h1,h2⟩:=VG I1 r1 ty;refine⟨T,id,pa,slot,hty,h1,h2,?_⟩;have hA:=ha cpos pins s1 σ H1 _ I1 q1;rw[hs]at hA⊢;refine Pj (by show(false||(backTo cpos (starEach es X.env)).any (·.1))=false;rw[hplain]<;>rfl) (TR ?_);exact aW hA λus s2 ⟨vs,H2,I2,r2,q2⟩=>hm pins s2 σ H2 x vs v us Q I2 r1 r2 q2
end
def Ox(X:Cx)(id:String)(r:V->List V->Hp->VK->Prop):Prop:=
 ∀(pins:List (Addr×Obj)) (s:Shared) (σ:St) (H:Hp) (x:V) (xs:List V) (v:Value) (us:List Value) (Q:VK),Inv X pins σ H s->RelV x v->Vals xs us->r x xs H Q->
  wpAny (model X.prog X.w) X.A (call (.builtin id) (v::us)) (EP X pins σ Q) X.xe s
def Vals.one{x:V}{us:List Value}(h:Vals [x] us):∃u,us=[u]/\RelV x u:=by
 cases h with
 |cons r h=>cases h;exact⟨_,rfl,r⟩
def Vals.zero:∀{us:List Value},Vals [] us->us=[]
 |_,.nil=>rfl
theorem Vals.dropLast{xs:List V}{us:List Value}(h:Vals xs us):Vals xs.dropLast us.dropLast:=by
 induction h with
 |nil=>exact .nil
 |cons r t ih=>
  cases t with
  |nil=>exact .nil
  |cons q t'=>exact .cons r ih
theorem Vals.reverse{xs:List V}{us:List Value}(h:Vals xs us):Vals xs.reverse us.reverse:=by
 induction h with
 |nil=>exact .nil
 |cons r t ih=>rw[aam,aam];exact Vals.append ih (.cons r .nil)
theorem Vals.rep{xs:List V}{us:List Value}(h:Vals xs us):∀k:Nat,Vals (cN k xs).flatten (cN k us).flatten
 |0=> .nil
 |k+1=>by
  rw[xQ,xQ,D5,D5];exact Vals.append h (Vals.rep h k)
def akL{α:Type}(l:List α):l.eraseIdx (l.length-1)=l.dropLast:=by
 induction l with
 |nil=>rfl
 |cons a r ih=>
  cases r with
  |nil=>rfl
  |cons b r=>
   have e:(a::b::r).length-1=((b::r).length-1)+1:=by
    have h1:(a::b::r).length=r.length+2:=rfl;have h2:(b::r).length=r.length+1:=rfl;omega
   rw[e,List.eraseIdx_cons_succ,ih];all_goals rfl
theorem foldl_rep(its:List Value):∀(k:Nat) (acc:List Value),
  OJ (λx1 x2=>x1++x2) acc.toArray (cN k its.toArray)=(acc++(cN k its).flatten).toArray
 |0,acc=>by simp
 |k+1,acc=>by
  have e:acc.toArray++its.toArray=(acc++its).toArray:=by simp
  have e2:(acc++its)++(cN k its).flatten=acc++(cN (k+1) its).flatten:=by
   rw[xQ,D5,Oj]
  rw[<-e2,<-foldl_rep its k (acc++its),<-e,xQ,List.foldl_cons]
section
variable {X:Cx} {pins:List (Addr×Obj)} {σ:St} {H:Hp} {s:Shared} {l b:Addr} {xs ys zs:List V}
def Inv.Us{its its':List Value}{n:Nat}{f:Array Value->Array Value}{t':Nat}(I:Inv X pins σ H s)(hH:H l=some (.lst xs))
  (e:s.heap.get? l=some { cls:= .type "list",data:= .seq its.toArray n }) (hf:f its.toArray=its'.toArray) (hv:Vals ys its') (hz:ys.length<=sizeLine):
  Inv X pins σ (upd H l (.lst ys)) { s with heap:=s.heap.update l (j8 f),toks:=t' }:=by
 have q:=PySem.IsL.update e f;rw[hf]at q;refine I.write (x:=l) (e:=l) (by rw[hH];exact trivial) (.inl rfl) (λb' u hb hu=>(Heap.get?_update_other s.heap (j8 f) (dF hb)).trans hu) ⟨_,q⟩ ?_;exact⟨hz,its',_,hv,q⟩
def Inv.Vl{its:List Value}{t':Nat}(I:Inv X pins σ H s)(hv:Vals ys its)(hz:ys.length<=sizeLine):
  Inv X pins σ (upd H s.heap.objs.size (.lst ys)) { s with heap:=s.heap.push { cls:= .type "list",data:= .seq its.toArray },toks:=t' }:=
 I.laid (λ_ _ q=>Heap.get?_push_of_some _ q) (aN _) ⟨hz,its,0,hv,Heap.get?_push_size _ rfl⟩
theorem Inv.fresh(I:Inv X pins σ H s):H s.heap.objs.size=none:=I.hok.fresh (aN _)
def Inv.sS(I:Inv X pins σ H s)(hH:H l=some (.lst xs)):xs.length<=sizeLine/\∃(its:List Value) (n:Nat),Vals xs its/\xs.length=its.length/\s.heap.get? l=some { cls:= .type "list",data:= .seq its.toArray n }:=by
 obtain⟨z,its,n,r,e⟩:=I.hok l _ hH;exact⟨z,its,n,r,r.length,e⟩
def aex{n:Nat}(h:n<=sizeLine):Builtin.List.listTooLong n=false:=by
 unfold Builtin.List.listTooLong;exact decide_eq_false ⋯
end
section
variable {X:Cx}
inductive aqe(x:V)(vs:List V)(H:Hp)(Q:VK):Prop|mk (l:Addr) (xs:List V) (y:V) (hx:x = .ref l) (hv:vs=[y]) (hl:H l=some (.lst xs)) (hz:xs.length<sizeLine) (q:Q .non (upd H l (.lst (xs++[y]))))
def ad5:V->List V->Hp->VK->Prop:=λx vs H Q=>aqe x vs H Q
def aa3:Ox X "list.append" ad5:=by
 intro pins s σ H x vs v us Q I rx rv h;obtain⟨l,xs,y,rfl,rfl,hH,hz,q⟩:=h;cases rx;obtain⟨u,rfl,ru⟩:=rv.one;obtain⟨z,its,n,r,hl,e⟩:=I.sS hH;refine call_meets F.slot_list_append ⟨_,e,rfl⟩ F.entry_list_append (F.args_list_append_2 _ _) (PySem.list_append l its.toArray n u (by rw[eU];omega)) ⟨e,?_⟩;refine⟨.non,_,I.Us (its':=its++[u]) hH e (by simp) (r.append (.cons ru .nil)) ?_,rfl,q⟩;rw[dW,aeb];omega
def aaq:V->List V->Hp->VK->Prop:=λx vs H Q=>∃l b xs zs,x = .ref l/\vs=[.ref b]/\H l=some (.lst xs)/\H b=some (.lst zs)/\xs.length+zs.length<=sizeLine/\Q .non (upd H l (.lst (xs++zs)))
def av4:Ox X "list.extend" aaq:=by
 intro pins s σ H x vs v us Q I rx rv h;obtain⟨l,b,xs,zs,rfl,rfl,hH,hB,hz,q⟩:=h;cases rx;obtain⟨u,rfl,ru⟩:=rv.one;cases ru;obtain⟨z,its,n,r,hl,e⟩:=I.sS hH;obtain⟨z2,its2,n2,r2,hl2,e2⟩:=I.sS hB;have hsz:its.toArray.size+its2.toArray.size<=sizeLine:=by rw[eU,eU];omega
 have K7:¬(!its.toArray.isEmpty&&Builtin.List.listTooLong (its.toArray.size+its2.toArray.size))=true:=by
  rw[aex hsz,Bool.and_false];exact fX
 refine call_meets F.slot_list_extend ⟨_,e,rfl⟩ F.entry_list_extend (F.args_list_extend_2 _ _)
  (AutoSeq1.list_extend_list_list_0 l its.toArray n b its2.toArray n2 K7 (by rw[eU];omega) ⋯) ⟨e,e2,?_⟩
 refine⟨.non,_,I.Us (its':=its++its2) hH e (by simp) (r.append r2) ?_,rfl,q⟩;rw[dW];omega
def XJ:V->List V->Hp->VK->Prop:=λx vs H Q=>∃l xs y,x = .ref l/\vs=[]/\H l=some (.lst xs)/\xs[xs.length-1]?=some y/\Q y (upd H l (.lst xs.dropLast))
def ajh:Ox X "list.pop" XJ:=by
 intro pins s σ H x vs v us Q I rx rv h;obtain⟨l,xs,y,rfl,rfl,hH,hy,q⟩:=h;cases rx;have hus:=rv.zero;subst hus;obtain⟨z,its,n,r,hl,e⟩:=I.sS hH;obtain⟨u,hu,ru⟩:=r.get hy;have hy':its.toArray[its.toArray.size-1]?=some u:=by
  show its.toArray[its.length-1]?=some u;rw[<-Array.getElem?_toList,<-hl];exact hu
 refine call_meets F.slot_list_pop ⟨_,e,rfl⟩ F.entry_list_pop (F.args_list_pop_1 _) (MeetsSeq.list_pop_last l its.toArray n u hy' (by rw[eU];omega)) ⟨e,?_⟩;refine⟨y,_,I.Us (its':=its.dropLast) hH e ?_ r.dropLast ?_,ru,q⟩
 .show its.toArray.eraseIdxIfInBounds (its.toArray.size-1)=its.dropLast.toArray;rw[eU,List.eraseIdxIfInBounds_toArray,akL]
 .rw[vX];omega
def ais:R2:=λx y H Q=>∃l b xs zs,x = .ref l/\y = .ref b/\H l=some (.lst xs)/\H b=some (.lst zs)/\xs.length+zs.length<=sizeLine/\∀p,H p=none->Q (.ref p) (upd H p (.lst (xs++zs)))
def ayT:cX X (binaryOp .Add) ais:=by
 intro pins s σ H x y v u Q I rx ry h;obtain⟨l,b,xs,zs,rfl,rfl,hH,hB,hz,q⟩:=h;cases rx;cases ry;obtain⟨z,its,n,r,hl,e⟩:=I.sS hH;obtain⟨z2,its2,n2,r2,hl2,e2⟩:=I.sS hB;refine PySem.P.add_list e e2 ?_ (by rw[eU,eU];omega);have ea:its.toArray++its2.toArray=(its++its2).toArray:=by simp
 rw[ea];exact⟨.ref _,_,I.Vl (t':=s.toks) (r.append r2) (by rw[dW];omega),rfl,q _ I.fresh⟩
def ahh:R2:=λx y H Q=>∃l k xs,x = .ref l/\y = .int k/\H l=some (.lst xs)/\-(2^63)<=k/\k<2^63/\xs.length*k.toNat<=sizeLine/\
 ∀p,H p=none->Q (.ref p) (upd H p (.lst (cN k.toNat xs).flatten))
def len_rep{α:Type}(xs:List α)(k:Nat):(cN k xs).flatten.length=k*xs.length:=by
 induction k with
 |zero=>simp
 |succ k ih=>rw[xQ,D5,dW,ih,tY,YJ]
def awc:cX X (binaryOp .Mult) ahh:=by
 intro pins s σ H x y v u Q I rx ry h;obtain⟨l,k,xs,rfl,rfl,hH,h1,h2,hz,q⟩:=h;cases rx;obtain⟨t,rfl⟩:=ry;obtain⟨z,its,n,r,hl,e⟩:=I.sS hH;have hlen:its.toArray.size*k.toNat<=sizeLine:=by rw[eU,<-hl];exact hz
 have hcap:¬its.toArray.size*k.toNat>(2^63-1)/8:=by
  have:(sizeLine:Nat)<=(2^63-1)/8:=∅;omega
 have hfit:¬(!Builtin.List.listFitsIndex k)=true:=by
  rw[fitsIndex_both h1 h2];exact fX
 have K7:¬Builtin.List.listTooLong (its.toArray.size*k.toNat)=true:=by
  rw[aex hlen];exact fX
 have hnew:OJ (λx1 x2=>x1++x2) #[] (cN (if its.toArray.isEmpty=true then 0 else k.toNat) its.toArray)=(cN k.toNat its).flatten.toArray:=by
  have f0:∀m:Nat,OJ (λx1 x2=>x1++x2) #[] (cN m its.toArray)=(cN m its).flatten.toArray:=λm=>by
   have:=foldl_rep its m [];rw[List.nil_append]at this;exact this
  rw[f0];cases its with
  |nil=>simp
  |cons a r'=>rw[if_neg (by simp)]
 refine wpAny_binaryOp_repeat_ref (T:= "list") (U:= "int") ∅ ⟨_,e,rfl⟩ (λs'=>typeIs_int s' k t) noFill_list_mul F.fills_int_mul agc repeat_list F.slot_int_index.lookup
  (call_meets agc (typeIs_int s k t) F.entry_int_rmul (F.args_int_rmul_2 _ _) (int___rmul___int_list k t l its.toArray n)
   ⟨e,rfl,⟨_,e,rfl⟩,call_meets F.slot_list_mul ⟨_,e,rfl⟩ F.entry_list_mul (F.args_list_mul_2 _ _) (AutoListH.list___mul___list_int_3 l its.toArray n k t hfit hcap K7) ⟨e,?_⟩⟩)
 rw[hnew];exact⟨.ref _,_,I.Vl (t':=s.toks) (r.rep k.toNat) (by rw[len_rep,pU];exact hz),rfl,q _ I.fresh⟩
end
section
variable {prog:Program} {w:World} {A:Around} {E:Value->Shared->Prop} {s:Shared}
end
section
variable {X:Cx}
end
section
variable {κ:Type} [DecidableEq κ]
def d7(kvs:List (κ×V))(k:κ):Option V:=(kvs.find? λkv=>decide (kv.1=k)).map (·.2)
def putK(kvs:List (κ×V))(k:κ)(v:V):List (κ×V):=
 if(kvs.any λkv=>decide (kv.1=k))=true then kvs.map (λkv=>if kv.1=k then(kv.1,v)else kv)else kvs++[(k,v)]
def Ag{p:κ×V}{r:List (κ×V)}{k:κ}(e:p.1=k):d7 (p::r) k=some p.2:=by simp[d7,List.find?_cons,e]
def wu{p:κ×V}{r:List (κ×V)}{k:κ}(e:¬p.1=k):d7 (p::r) k=d7 r k:=by simp[d7,List.find?_cons,e]
theorem afl(k:κ):∀kvs:List (κ×V),(kvs.any λkv=>decide (kv.1=k))=(d7 kvs k).isSome
 |[]=>rfl
 |p::r=>by
  rw[DK];by_cases e:p.1=k
  .simp only[Ag e,decide_eq_true e,Wn,Option.isSome_some]
  .rw[wu e,decide_eq_false e,KY];exact afl k r
def acT(kvs:List (κ×V))(k:κ)(v:V):(putK kvs k v).length<=kvs.length+1:=by
 unfold putK;split
 .rw[aB];omega
 .rw[dW,iK,K8];omega
def kE.VB{o:Option V}{u:Option Value}(r:kE o u):o.isSome=u.isSome:=by
 cases o with
 |none=>cases u with
  |none=>rfl
  |some _=>exact(show False from r).elim
 |some _=>cases u with
  |none=>exact(show False from r).elim
  |some _=>rfl
theorem kE.getD{o:Option V}{u:Option Value}{d:V}{d':Value}(r:kE o u)(rd:RelV d d'):RelV (o.getD d) (u.getD d'):=by
 cases o with
 |none=>cases u with
  |none=>exact rd
  |some _=>exact(show False from r).elim
 |some _=>cases u with
  |none=>exact(show False from r).elim
  |some _=>exact r
def KV.val{kvs:List (κ×V)}{vs:List (κ×Value)}(r:KV kvs vs)(k:κ):kE (d7 kvs k) (valueAt vs k):=by
 unfold KV at r;induction r with
 |nil=>exact True.intro
 |@cons p q ps qs h t ih=>
  obtain⟨h1,h2⟩:=h;by_cases e:p.1=k
  .have e':q.1=k:=h1.symm.trans e;have b:valueAt (q::qs) k=some q.2:=by simp[valueAt,List.find?_cons,e']
   rw[Ag e,b];exact h2
  .have e':¬q.1=k:=λz=>e (h1.trans z);have b:valueAt (q::qs) k=valueAt qs k:=by simp[valueAt,List.find?_cons,e']
   rw[wu e,b];exact ih
theorem KV.any{kvs:List (κ×V)}{vs:List (κ×Value)}(r:KV kvs vs)(k:κ):(kvs.any λkv=>decide (kv.1=k))=vs.any λkv=>decide (kv.1=k):=by
 unfold KV at r;induction r with
 |nil=>rfl
 |cons h t ih=>rw[DK,DK,ih,h.1]
def KV.repl{kvs:List (κ×V)}{vs:List (κ×Value)}(r:KV kvs vs)(k:κ){y:V}{u:Value}(ry:RelV y u):
  KV (kvs.map λkv=>if kv.1=k then(kv.1,y)else kv) (vs.map λkv=>if kv.1=k then(kv.1,u)else kv):=by
 unfold KV at r⊢;induction r with
 |nil=>exact .nil
 |@cons p q ps qs h t ih=>
  rw[bG,bG];refine .cons ?_ ih;obtain⟨h1,h2⟩:=h;by_cases e:p.1=k
  .rw[if_pos e,if_pos (h1.symm.trans e)];exact⟨h1,ry⟩
  .rw[if_neg e,if_neg (λz=>e (h1.trans z))];exact⟨h1,h2⟩
def KV.put{kvs:List (κ×V)}{vs:List (κ×Value)}(r:KV kvs vs)(k:κ){y:V}{u:Value}(ry:RelV y u):KV (putK kvs k y) (stored vs k u):=by
 unfold putK stored;rw[r.any k];by_cases e:(vs.any λkv=>decide (kv.1=k))=true
 .rw[if_pos e,if_pos e];exact r.repl k ry
 .rw[if_neg e,if_neg e];exact Paired.snoc r ⟨rfl,ry⟩
theorem KV.length{kvs:List (κ×V)}{vs:List (κ×Value)}(r:KV kvs vs):kvs.length=vs.length:=Paired.length r
end
def Ef{P:Program}{w:World}{k:Key}{u:Value}(r:RelV (kV k) u):(gY P w).is k u=true:=by
 cases k with
 |inl i=>obtain⟨t,e⟩:=(show ∃t,u=Value.int i t from r);subst e;exact arL P w i t
 |inr x=>obtain⟨t,e⟩:=(show ∃t,u=Value.str x t from r);subst e;exact awK P w x t
theorem Yw{P:Program}{w:World}:∀{ks:List Key} {us:List Value},Vals (ks.map kV) us->ItemsAre (gY P w) ks us
 |[],_,r=>by rw[TN]at r;cases r;exact .nil
 |k::ks,_,r=>by
  rw[bG]at r;cases r with
  |cons h t=>exact .cons (Ef h) (Yw t)
abbrev KT(H:Hp):List (List Key×V)->List (List Key×Addr×Value)->Prop:=Paired λp q=>p.1=q.1/\H q.2.1=some (.tup (p.1.map kV))/\RelV p.2 q.2.2
def KT.val{H:Hp}{kvs:List (List Key×V)}{xs:List (List Key×Addr×Value)}(r:KT H kvs xs)(k:List Key):kE (d7 kvs k) ((atKey xs k).map (·.2)):=by
 induction r with
 |nil=>exact True.intro
 |@cons p q ps qs h t ih=>
  obtain⟨h1,_,h2⟩:=h;by_cases e:p.1=k
  .have e':q.1=k:=h1.symm.trans e;have b:atKey (q::qs) k=some q.2:=by simp[atKey,List.find?_cons,e']
   rw[Ag e,b];exact h2
  .have e':¬q.1=k:=λz=>e (h1.trans z);have b:atKey (q::qs) k=atKey qs k:=by simp[atKey,List.find?_cons,e']
   rw[wu e,b];exact ih
def KT.repl{H:Hp}{kvs:List (List Key×V)}{xs:List (List Key×Addr×Value)}(r:KT H kvs xs)(k:List Key){y:V}{u:Value}(ry:RelV y u):
  KT H (kvs.map λkv=>if kv.1=k then(kv.1,y)else kv) (xs.map (putAt k u)):=by
 induction r with
 |nil=>exact .nil
 |@cons p q ps qs h t ih=>
  rw[bG,bG];refine .cons ?_ ih;obtain⟨h1,h2,h3⟩:=h;unfold putAt;by_cases e:p.1=k
  .rw[if_pos e,if_pos (h1.symm.trans e)];exact⟨h1,h2,ry⟩
  .rw[if_neg e,if_neg (λz=>e (h1.trans z))];exact⟨h1,h2,h3⟩
def KT.put{H:Hp}{kvs:List (List Key×V)}{xs:List (List Key×Addr×Value)}(r:KT H kvs xs)(k:List Key){b:Addr}{y:V}{u:Value}(hb:H b=some (.tup (k.map kV)))(ry:RelV y u):
  KT H (putK kvs k y) (storedH xs k b u):=by
 have e:(kvs.any λkv=>decide (kv.1=k))=(atKey xs k).isSome:=by
  rw[afl,(r.val k).VB,Xd]
 unfold putK storedH;rw[e];by_cases q:(atKey xs k).isSome=true
 .rw[if_pos q,if_pos q];exact r.repl k ry
 .rw[if_neg q,if_neg q];exact Paired.snoc r ⟨rfl,hb,ry⟩
def KT.keeps{H H':Hp}{kvs:List (List Key×V)}{xs:List (List Key×Addr×Value)}(r:KT H kvs xs)(ht:∀b ys,H b=some (.tup ys)->H' b=some (.tup ys)):KT H' kvs xs:=
 Paired.Qt r λ_ _ z=>⟨z.1,ht _ _ z.2.1,z.2.2⟩
section
variable {P:Program} {w:World} {H:Hp} {h:Heap} {a:Addr}
def ac4{u:HO}(ok:fJ P w H h)(e:Rd H a u):dz P w H h a u:=e.ok ok
def yq{kvs:List (Key×V)}(ok:fJ P w H h)(e:Rd H a (.dK kvs)):kvs.length<=sizeLine/\(a==sysModules)=false/\∃vs,KV kvs vs/\h.DictOf (gY P w) a vs:=
 show dz P w H h a (.dK kvs)from ac4 ok e
def atN{kvs:List (Key×V)}(ok:fJ P w H h)(e:H a=some (.dK kvs)):kvs.length<=sizeLine/\(a==sysModules)=false/\∃vs,KV kvs vs/\h.DictOf (gY P w) a vs:=yq ok (.inl e)
def BW{ks:List Key}(ok:fJ P w H h)(e:H a=some (.tup (ks.map kV))):(tupleKind (gY P w)).is h ks a:=by
 obtain⟨_,its,r,o,h1,h2,n,h3⟩:=(show dz P w H h a (.tup (ks.map kV))from ok a _ e);exact⟨o,its.toArray,n,h1,h2,h3,by simpa using Yw r⟩
def zR{kvs:List (List Key×V)}(ok:fJ P w H h)(e:Rd H a (.dT kvs)):kvs.length<=sizeLine/\(a==sysModules)=false/\
  ∃xs,KT H kvs xs/\h.DictOfH (tupleKind (gY P w)) a xs:=by
 obtain⟨z,y,xs,r,o,es,ep,h1,h2,h3,h4,h5⟩:=(show dz P w H h a (.dT kvs)from ac4 ok e);refine⟨z,y,xs,r,o,es,ep,h1,h2,h3,h4,λx hx=>?_,h5⟩;have all:∀{l:List (List Key×V)} {m:List (List Key×Addr×Value)},KT H l m->∀x∈m,(tupleKind (gY P w)).is h x.1 x.2.1:=by
  intro l m q;induction q with
  |nil=>intro x hx;exact nomatch hx
  |@cons p q ps qs hq t ih=>
   intro x hx;rcases bN.mp hx with e|hx
   .subst e;exact BW ok (by rw[<-hq.1];exact hq.2.1)
   .exact ih x hx
 exact all r x hx
def ant{kvs:List (List Key×V)}(ok:fJ P w H h)(e:H a=some (.dT kvs)):kvs.length<=sizeLine/\(a==sysModules)=false/\
  ∃xs,KT H kvs xs/\h.DictOfH (tupleKind (gY P w)) a xs:=zR ok (.inl e)
end
def oY(H:Hp)(a:Addr)(y:V)(r:Option V):Prop:=
 (∃kvs k,Rd H a (.dK kvs)/\y=kV k/\r=d7 kvs k)∨∃kvs k b,Rd H a (.dT kvs)/\y = .ref b/\H b=some (.tup (k.map kV))/\r=d7 kvs k
def xZ(H:Hp)(a:Addr)(y v:V)(H':Hp):Prop:=
 (∃kvs k,H a=some (.dK kvs)/\y=kV k/\kvs.length<sizeLine/\H'=upd H a (.dK (putK kvs k v)))∨
 ∃kvs k b,H a=some (.dT kvs)/\y = .ref b/\H b=some (.tup (k.map kV))/\kvs.length<sizeLine/\H'=upd H a (.dT (putK kvs k v))
theorem oY.k{H:Hp}{a:Addr}{kvs:List (Key×V)}{k:Key}(e:H a=some (.dK kvs)):oY H a (kV k) (d7 kvs k):= .inl ⟨kvs,k,.inl e,rfl,rfl⟩
theorem xZ.k{H:Hp}{a:Addr}{kvs:List (Key×V)}{k:Key}{v:V}(e:H a=some (.dK kvs))(hl:kvs.length<sizeLine):xZ H a (kV k) v (upd H a (.dK (putK kvs k v))):= .inl ⟨kvs,k,e,rfl,hl,rfl⟩
section
variable {X:Cx} {pins:List (Addr×Obj)} {σ:St} {H:Hp} {s:Shared} {a:Addr} {y v:V} {u r:Value} {o:Option V} {A:Around} {E:Value->Shared->Prop}
def Inv.big(I:Inv X pins σ H s):sysModules<s.heap.objs.size:=by
 have h:mainGlobals<s.heap.objs.size:=(I.mod.glob.keeps I.bk).lt;exact uG ∅ h
def avL{Q:Value->Shared->Prop}(hu:A.units+1<cLine)(I:Inv X pins σ H s)(g:oY H a y (some v))(ry:RelV y u)(h:∀w' s',Inv X pins σ H s'->RelV v w'->Q w' s'):
  wpAny (model X.prog X.w) A (getItem (.ref a) u) Q E s:=by
 rcases g with⟨kvs,k,e,ey,l⟩|⟨kvs,k,b,e,ey,eb,l⟩
 .subst ey;obtain⟨z,hd,vs,rel,dd⟩:=yq I.hok e;obtain⟨w',hw,nK⟩:=kE.some_of (v:=v) (o:=valueAt vs k) (by rw[l];exact rel.val k);exact wpAny_getItem_of (Ef ry) dd.mapOf hw (h w' _ (I.tok _) nK)
 .subst ey;cases (show u=Value.ref b from ry);obtain⟨z,hd,xs,rel,dd⟩:=zR I.hok e;obtain⟨w',hw,nK⟩:=kE.some_of (v:=v) (o:=(atKey xs k).map (·.2)) (by rw[l];exact rel.val k);obtain⟨p,hp,hp2⟩:=abg.mp hw;refine wpAny_getItem_heap (tupleKind_room_in1 hu) (BW I.hok eb) dd hp ?_;rw[hp2];exact h w' _ (I.tok _) nK
def auH{Q:Value->Shared->Prop}(hu:A.units+1<cLine)(I:Inv X pins σ H s)(g:oY H a y o)(ry:RelV y u)(h:∀s',Inv X pins σ H s'->Q (.bool (!o.isSome)) s'):
  wpAny (model X.prog X.w) A (compareOp .NotIn u (.ref a)) Q E s:=by
 rcases g with⟨kvs,k,e,ey,l⟩|⟨kvs,k,b,e,ey,eb,l⟩
 .subst ey;obtain⟨z,hd,vs,rel,dd⟩:=yq I.hok e;refine wpAny_notIn_of (Ef ry) hd dd.mapOf ?_;rw[<-(rel.val k).VB,<-l];exact h _ (I.tok _)
 .subst ey;cases (show u=Value.ref b from ry);obtain⟨z,hd,xs,rel,dd⟩:=zR I.hok e;refine wpAny_notIn_heap (tupleKind_room_in1 hu) (BW I.hok eb) hd dd ?_;have q:=(rel.val k).VB;rw[Xd]at q;rw[<-q,<-l];exact h _ (I.tok _)
def agE{h':Heap}{t':Nat}{ob:HO}(I:Inv X pins σ H s)(mu:Ds (H a))(hs:HM a s.heap h')(he:∃q,h'.get? a=some q)(new:dz X.prog X.w (upd H a ob) h' a ob):
  Inv X pins σ (upd H a ob) { s with heap:=h',toks:=t' }:=
 I.write (x:=a) (e:=a) mu (.inl rfl) (λb q hb z=>(hs.2 b hb).trans z) he new
def asi{P:Program}{w:World}{H':Hp}{h':Heap}{kvs:List (Key×V)}{vs:List (Key×Value)}(z:kvs.length<=sizeLine)(hd:(a==sysModules)=false)(rel:KV kvs vs)(dd:h'.DictOf (gY P w) a vs):
  dz P w H' h' a (.dK kvs):=⟨z,hd,vs,rel,dd⟩
def avK{H':Hp}{Q:Unit->Shared->Prop}(hu:A.units+1<cLine)(I:Inv X pins σ H s)(g:xZ H a y v H')(ry:RelV y u)(rv:RelV v r)(h:∀s',Inv X pins σ H' s'->Q () s'):
  wpAny (model X.prog X.w) A (setItem (.ref a) u r) Q E s:=by
 rcases g with⟨kvs,k,e,ey,l,eH⟩|⟨kvs,k,b,e,ey,eb,l,eH⟩
 .subst ey eH;obtain⟨z,hd,vs,rel,dd⟩:=atN I.hok e;have hz:vs.length<=sizeLine:=by rw[<-rel.length];exact z
  have hl:(putK kvs k v).length<=sizeLine:=by have:=acT kvs k v;omega
  refine wpAny_setItem_pairs (hsz:=hz) (Ef ry) dd λh' KJ hs=>h _ ?_;have he:∃q,h'.get? a=some q:=let⟨q,_,_,hq,_⟩:=KJ;⟨q,hq⟩;exact agE I (by rw[e];exact True.intro) hs he (asi hl hd (rel.put k rv) KJ)
 .subst ey eH;cases (show u=Value.ref b from ry);obtain⟨z,hd,xs,rel,dd⟩:=ant I.hok e;have hz:xs.length<=sizeLine:=by rw[<-Paired.length rel];exact z
  have hl:(putK kvs k v).length<=sizeLine:=by have:=acT kvs k v;omega
  refine wpAny_setItem_heap (hsz:=hz) (tupleKind_room_in1 hu) (BW I.hok eb) dd λh' KJ hs=>h _ ?_;obtain⟨q,es,ep,hq,h2,h3,h4,_,h5⟩:=KJ;refine agE I (by rw[e];exact True.intro) hs ⟨q,hq⟩ ⟨hl,hd,_,(rel.put k eb rv).keeps λc ys ec=>?_,q,es,ep,hq,h2,h3,h4,h5⟩;rw[bF (awP ec e (λz=>nomatch z))];exact ec
end
section
variable {X:Cx} {pins:List (Addr×Obj)} {σ:St} {H:Hp} {s:Shared} {a:Addr} {kvs:List (Key×V)} {k:Key} {u:Value} {A:Around} {E:Value->Shared->Prop}
end
def abk(i:Expr):Prop:=∀ov iv,subscripted i false ov iv=operate [ov,iv] (getItem ov iv)
def av8{prog:Program}{w:World}{A:Around}{E:Value->Shared->Prop}{s:Shared}{env:Env}{value slice:Expr}{pos:Pos}{T id:String}{Q:Value->Shared->Prop}
  (hl:typeLookup (.type T) "__getitem__" = pure (some (.builtin id))) (hs:abk slice)
  (h:wpAny (model prog w) A (eval value env) (λo s₁=>wpAny (model prog w) A (eval slice env) (λi s₂=>s₂.TypeIs o T/\wpAny (model prog w) A (getItem o i) Q E s₂) E s₁) E s):
  wpAny (model prog w) A (eval (.Subscript value slice pos) env) Q E s:=by
 refine Subscript_ (wpAny_mono h (λo s₁ h₁=>wpAny_mono h₁ (λi s₂ h₂=>?_) λ_ _ x=>x) λ_ _ x=>x);obtain⟨hT,h₂⟩:=h₂;unfold subscriptTail;refine wpAny_bind ?_;rw[getitemInPython_of_ne hT.not_modules];refine wpAny_bind (wpAny_specialOf hT hl ?_);have fin:wpAny (model prog w) A (subscripted slice false o i) (λr s₃=>wpAny (model prog w) A (letTemporaryGo value o r>>=λ_=>pure r) Q E s₃) E s₂:=by
  rw[hs o i];exact wpAny_operating (wpAny_mono h₂ (λr s₃ h₃=>wpAny_bind (wpAny_letTemporaryGo (wpAny_pure h₃))) λ_ _ x=>x)
 first
  |exact wpAny_pure (wpAny_bind fin)
  |exact wpAny_bind (wpAny_pure (wpAny_bind fin))
  |exact wpAny_bind fin
def auc{X:Cx}{pins:List (Addr×Obj)}{σ:St}{H:Hp}{s:Shared}{a:Addr}{y:V}{o:Option V}(I:Inv X pins σ H s)(g:oY H a y o):s.TypeIs (.ref a) "dict" := by
 rcases g with⟨kvs,k,e,_,_⟩|⟨kvs,k,b,e,_,_,_⟩
 .obtain⟨_,_,vs,_,dd⟩:=yq I.hok e;exact dd.typeIs
 .obtain⟨_,_,xs,_,dd⟩:=zR I.hok e;exact dd.typeIs
def atq(td ty:TE):TE:=λσ H Q=>td σ H λx H1=>ty σ H1 λy H2=>∃a v,x = .ref a/\oY H2 a y (some v)/\Q v H2
def anb(ty td:TE):TE:=λσ H Q=>ty σ H λy H1=>td σ H1 λx H2=>∃a o,x = .ref a/\oY H2 a y o/\Q (.bl (!o.isSome)) H2
def axz(td ty tv:TE):TS:=λD σ H=>tv σ H λv H1=>td σ H1 λx H2=>ty σ H2 λy H3=>∃a H4,x = .ref a/\xZ H3 a y v H4/\D.nx σ H4
section
variable {X:Cx} {o i e value:Expr} {pos pos' tpos:Pos} {td ty tv:TE}
def Jk(hu:X.A.units+1<cLine)(ho:PE X o td)(hi:PE X i ty)(hs:abk i):PE X (.Subscript o i pos) (atq td ty):=by
 intro pins s σ H Q I h;refine av8 PySem.F.slot_dict_getitem.lookup hs (aW (ho pins s σ H _ I h) λu s1 ⟨x,H1,I1,rx,q1⟩=>aW (hi pins s1 σ H1 _ I1 q1) λiv s2 ⟨y,H2,I2,ry,a,v,ex,g,q2⟩=>?_);subst ex;obtain rfl:u=Value.ref a:=rx;exact⟨auc I2 g,avL hu I2 g ry λw' s3 I3 nK=>⟨v,H2,I3,nK,q2⟩⟩
def atn(hu:X.A.units+1<cLine)(hi:PE X i ty)(ho:PE X o td):PC X .NotIn i o (anb ty td):=by
 intro pins s σ H Q I h;refine aW (hi pins s σ H _ I h) λiv s1 ⟨y,H1,I1,ry,q1⟩=>aW (ho pins s1 σ H1 _ I1 q1) λu s2 ⟨x,H2,I2,rx,a,ov,ex,g,q2⟩=>?_;subst ex;obtain rfl:u=Value.ref a:=rx;exact auH hu I2 g ry λs3 I3=>⟨.bl (!ov.isSome),H2,I3,rfl,q2⟩
def Lj(hu:X.A.units+1<cLine)(ho:PE X o td)(hi:PE X i ty)(hv:PE X value tv)(hs:swapsWith value (some (.Subscript o i pos')) pos.line X.env=pure false):
  PS X (.Assign [.Subscript o i pos'] value pos) (axz td ty tv):=by
 intro pins s σ H D I h;refine wpAny_Assign_Subscript (aW (hv pins s σ H _ I h) λr s1 ⟨v,H1,I1,rv,q1⟩=>aW (ho pins s1 σ H1 _ I1 q1) λu s2 ⟨x,H2,I2,rx,q2⟩=>aW (hi pins s2 σ H2 _ I2 q2) λiv s3 ⟨y,H3,I3,ry,a,H4,ex,g,q3⟩=>?_) hs;subst ex;obtain rfl:u=Value.ref a:=rx;exact avK hu I3 g ry rv λs4 I4=>⟨σ,H4,I4,q3⟩
end
def ajb{P:Program}{w:World}{H:Hp}(h:Heap)(hb:sysModules<h.objs.size):dz P w H (h.push { cls:= .type "dict",data:= .dict #[] }) h.objs.size (.dK []):=
 ⟨cB _,beq_eq_false_iff_ne.mpr (dF (jQ hb)),[],.nil,Heap.DictOf.new h⟩
def alE:TE:=λ_ H Q=>∀p,H p=none->Q (.ref p) (upd H p (.dK []))
section
variable {X:Cx} {pos:Pos}
def RW:PE X (.Dict [] [] pos) alE:=λpins s σ H Q I h=>
 wpAny_Dict_empty ⟨.ref s.heap.objs.size,_,I.laid (a:=s.heap.objs.size) (o:= .dK []) (t':=s.toks) (λ_ _ q=>Heap.get?_push_of_some _ q) (aN _) (ajb s.heap I.big),rfl,h _ (I.hok.fresh (aN _))⟩
end
structure M2(X:Cx)(o:Expr)(m:Str)(apos:Pos)(e f:Expr)(cpos:Pos):Prop where
 base:attributeBase o m X.env (eval o X.env)=eval o X.env
 few:((backTo cpos (starEach [e,f] X.env)).all (λx=>!x.1)&&(backToKw cpos (keywordEach [] X.env)).all (λx=>x.1.isSome)
  && decide (([e,f]:List Expr).length+([]:List Keyword).length+(if([]:List Keyword).isEmpty then 0 else 1)<30))=true
 line:(apos.endLine==cpos.line)=true
 trees:backTo cpos (starEach [e,f] X.env)=[(false,eval e X.env),(false,eval f X.env)]
def Wv(H:Hp)(a:Addr):Prop:=(∃kvs,Rd H a (.dK kvs))∨∃kvs,Rd H a (.dT kvs)
def akK{X:Cx}{pins:List (Addr×Obj)}{σ:St}{H:Hp}{s:Shared}{a:Addr}(I:Inv X pins σ H s)(d:Wv H a):
  s.TypeIs (.ref a) "dict" /\ (∀b,Value.ref a = .ref b->∃ob,s.heap.get? b=some ob/\ob.dict=none)/\(a==sysModules)=false:=by
 rcases d with⟨kvs,e⟩|⟨kvs,e⟩
 .obtain⟨_,hd,vs,_,dd⟩:=yq I.hok e;refine⟨dd.typeIs,λb q=>?_,hd⟩;cases q;obtain⟨ob,_,_,h1,h2,_⟩:=dd;exact⟨ob,h1,h2.2.1⟩
 .obtain⟨_,hd,xs,_,dd⟩:=zR I.hok e;refine⟨dd.typeIs,λb q=>?_,hd⟩;cases q;obtain⟨ob,_,_,h1,h2,_⟩:=dd;exact⟨ob,h1,h2.2.1⟩
section
variable {X:Cx} {pins:List (Addr×Obj)} {σ:St} {H:Hp} {s:Shared} {a:Addr} {y d:V} {u r:Value} {o:Option V} {A:Around} {E:Value->Shared->Prop}
def amy{Q:Value->Shared->Prop}(hu:A.units+1<cLine)(I:Inv X pins σ H s)(g:oY H a y o)(ry:RelV y u)(rd:RelV d r)(h:∀w' s',Inv X pins σ H s'->RelV (o.getD d) w'->Q w' s'):
  wpAny (model X.prog X.w) A (call (.builtin "dict.get") [.ref a,u,r]) Q E s:=by
 rcases g with⟨kvs,k,e,ey,l⟩|⟨kvs,k,b,e,ey,eb,l⟩
 .subst ey;obtain⟨z,hd,vs,rel,dd⟩:=yq I.hok e;refine call_meetsIn QY dd.typeIs agZ (abK _ _ _) (meets_dict_get_default (gY X.prog X.w) a (Ef ry) hd r) ⟨_,dd.mapOf,h _ _ (I.tok _) ?_⟩;rw[l];exact(rel.val k).getD rd
 .subst ey;cases (show u=Value.ref b from ry);obtain⟨z,hd,xs,rel,dd⟩:=zR I.hok e;refine call_meetsIn QY dd.typeIs agZ (abK _ _ _) (meetsH_dict_get_default (tupleKind (gY X.prog X.w)) a b hd r) ⟨tupleKind_room_in1 hu,k,xs,BW I.hok eb,dd,h _ _ (I.tok _) ?_⟩;rw[l];exact(rel.val k).getD rd
end
def aoE(td ty tx:TE):TE:=λσ H Q=>td σ H λx H1=>∃a,x = .ref a/\Wv H1 a/\ty σ H1 λy H2=>tx σ H2 λz H3=>∃o,oY H3 a y o/\Q (o.getD z) H3
section
variable {X:Cx} {o e f:Expr} {apos cpos:Pos} {td ty tx:TE}
def ao6(hu:X.A.units+1<cLine)(ho:PE X o td)(he:PE X e ty)(hf:PE X f tx)(m:M2 X o "get" apos e f cpos):PE X (.Call (.Attribute o "get" apos) [e,f] [] cpos) (aoE td ty tx):=by
 intro pins s σ H Q I h;refine wpAny_Call_method m.base m.few m.line PySem.F.plainAttrs_dict QY PySem.F.type_dict_get (aW (ho pins s σ H _ I h) λu s1 ⟨x,H1,I1,rx,a,ex,d,q1⟩=>?_);subst ex;obtain rfl:u=Value.ref a:=rx;obtain⟨t1,t2,_⟩:=akK I1 d;refine⟨t1,t2,?_⟩;rw[m.trees];refine Pj rfl (TR (Jf (aW (he pins s1 σ H1 _ I1 q1) λiv s2 ⟨y,H2,I2,ry,q2⟩=>
  Jf (aW (hf pins s2 σ H2 _ I2 q2) λfv s3 ⟨z,H3,I3,rz,ov,g,q3⟩=>Vv ?_))))
 exact amy hu I3 g ry rz λw' s4 I4 nK=>⟨_,H3,I4,nK,q3⟩
end
section
variable {X:Cx} {pins:List (Addr×Obj)} {σ:St} {H:Hp} {s:Shared} {a:Addr} {kvs:List (Key×V)} {A:Around} {E:Value->Shared->Prop}
end
section
variable {X:Cx} {pins:List (Addr×Obj)} {σ:St} {H:Hp} {s:Shared} {a:Addr} {y:V} {u:Value} {A:Around} {E:Value->Shared->Prop}
end
end L2
namespace Att
open PySem PySem.W PySem.Calls PyProof.Rows
def amt{P:Params}{h:Heap}:∀(ns:List Int) (vs:List Value),WellAll P h vs (ns.map WData.int)->IntsAre vs ns:=by
 intro ns;induction ns with
 |nil=>
  intro vs w;rw[TN]at w;cases w;exact .nil
 |cons n ns ih=>
  intro vs w;rw[bG]at w;cases w with
  |cons a b=>
   cases a;exact .cons _ _ (ih _ b)
def ax4{l:OpenLaw}{n:Nat}(hn:l.most=some n){P:Params}{h:Heap}{args:List WData}{vals:List Value}
  (hpre:l.row.toRowW.claim.pre args=true) (hwl:WellAll P h vals args):
  ∃a vs ns,vals=[Value.ref a]/\args=[WData.list (ns.map WData.int)]/\h.get? a=some { cls:= .type "list",data:= .seq vs.toArray }/\IntsAre vs ns/\ns.length<=n:=by
 have hsh:WShape.hasAll [] args [.list .int]=true:=(pre_splitW hpre).1;have hc:l.pre.holds [] { args:=args }=true:=(pre_splitW hpre).2;obtain⟨d,r,rfl,h1,h2⟩:=hasAllW_cons hsh;obtain rfl:=hasAllW_nil h2;obtain⟨xs,rfl,h3⟩:=hasW_list h1;obtain⟨ns,rfl⟩:=items_int h3;have hlen:ns.length<=n:=by
  unfold OpenLaw.pre at hc;have h4:(WTm.not (.lt (.lit (.int (n:Int))) (.len (.arg 0)))).holds [] { args:=[.list (ns.map .int)] }=true:=by
   have h4:=(holds_andW hc).1;rw[hn]at h4;exact h4
  have h5:=condW_of h4 (w_not (w_lt w_lit (w_len_list (w_arg rfl))));rw[aB]at h5;refine aaH λq=>?_;have q':(n:Int)<((ns.length:Nat):Int):=⋯;first
   |(rw[decide_eq_true q']at h5;exact absurd h5 ∅)
   |(simp at h5;omega)
 cases hwl with
 |cons w1 w2=>
  cases w2;cases w1 with
  |list ho hall=>exact⟨_,_,ns,rfl,rfl,ho,amt ns _ hall,hlen⟩
def alB(l:OpenLaw)(args:List WData):l.row.toRowW.claim.post args (.bool true) args=true:=
 postW_of (r:=l.row.toRowW) (X:=(true==true))
  (show WShape.has [] (.bool true) .bool=true by first|rfl|decide|simp[WShape.has,WShape.arms,WShape.armsAll])
  (show(WTm.eq .res (.lit (.bool true))).value [] { args:=args,res:=some (.bool true),after:=args }=some (.bool (true==true))from w_eq_bool (w_res rfl) w_lit) rfl
def ahw{l:OpenLaw}{n:Nat}{q:Program}{loose:List Str}{XP:(Str->Option Value)->Heap->Prop}{YP:World->Heap->Prop}{d:DefRec}
  (hn:l.most=some n) (hdf:d.params.defaults=[])
  (call:∀(w:World) (s₀ s₁:Shared) (mg mb:Str->Option Value) (fa:Addr) (o:Obj) (pm cd doc:Value) (a:Addr) (vs:List Value) (ns:List Int),
   Ground q loose [] XP w s₀ mg mb s₁.heap->YP w s₁.heap->
   s₁.heap.get? fa=some o->o.data = .func (docDef d.name d.params d.body d.scope pm cd doc)->s₁.heap.CodeRec cd d.name->mg d.name=some (.ref fa)->
   s₁.heap.get? a=some { cls:= .type "list",data:= .seq vs.toArray }->IntsAre vs ns->ns.length<=n->s₁.gens=#[]->
   codeAny (model l.prog w) callerA (.call (.ref fa) ⟨[.ref a],[]⟩) (λr s'=>r = .ok (.ret (.bool true))/\OldK s₁.heap s'.heap/\s'.os=s₁.os/\AllBare s'.gens) s₁):
  WalkO q loose XP YP l.row.toRowW d [] (λf vs=>Wd f vs):=by
 intro w s₀ s₁ mg mb G Y fa o pm cd doc dV kV ho hd hcd hD hmg hg args vals as hpre hlay hrd hwl hlo;obtain rfl:dV = .none:=Dflts.none hD hdf;obtain rfl:kV = .none:=Dflts.noKw hD;obtain⟨a,vs,ns,rfl,rfl,hobj,hints,hlen⟩:=ax4 hn hpre hwl;refine enter_call (codeAny_mono (call w s₀ s₁ mg mb fa o pm cd doc a vs ns G Y ho (fd_plain hd) hcd hmg hobj hints hlen hg) λr s' hq=>?_);obtain⟨rfl,h2,h3,h4⟩:=hq;exact⟨.inl ⟨.bool true,.bool true,[],rfl,λ_=>rfl,.bool true,alB l _,λ_=>⟨atv,λ_ hm=>(nomatch hm)⟩⟩,h2,h3,h4⟩
section
variable {prog:Program} {w:World} {A:Around} {E:Value->Shared->Prop} {s:Shared} {K:Frag}
end
end Att
namespace L2
open PySem PySem.Spec PyProof.Rows
def ai5{vs:List Value}{ns:List Int}(h:IntsAre vs ns):Vals (ns.map V.int) vs:=by
 induction h with
 |nil=>exact .nil
 |cons n t h ih=>exact .cons ⟨t,rfl⟩ ih
def Only(H:Hp):Prop:=∀b,H b=none∨∃o xs,H b=some (.dw o (.lst xs))
def ana{P:Program}{w:World}{K:aG}{mg mb:Str->Option Value}{CX:qX}{k:Nat}{fa a:Addr}{fd:FuncData}{x:Str}{sp:Sp}{s₁:Shared}{vs:List Value}{ns:List Int}
  (KX:K.In s₁.heap) (hns:s₁.heap.Ns mainGlobals mg) (hb:s₁.heap.Ns builtinsNs mb) (hbb:∀x:Str,x≠ "__name__" -> mb x=bootBuiltins x) (hlim:s₁.heap.NoLimit) (hdig:s₁.heap.NoDigits) (hg:s₁.gens=#[])
  (ha:s₁.heap.get? a=some { cls:= .type "list",data:= .seq vs.toArray }) (hi:IntsAre vs ns) (hl:ns.length<=sizeLine) (hr:dU k callerA)
  (F:∀base:Heap,K.In base->base.Ns mainGlobals mg->qU P w K mg base CX k fa fd [x] sp) (hbind:∀(s:Shared) (u:Value),BindsTo s fd ⟨[u],[]⟩ [(x,u)])
  (hsp:∀H:Hp,Only H->au K H a (ns.map V.int)->sp [.ref a] H (λv _=>v = .bl true) λ_ _ _=>False)
  (UZ:∀H e s',CX [] H s₁ (λ_ _ _=>False) e s'->False):
  codeAny (model P w) callerA (.call (.ref fa) ⟨[.ref a],[]⟩) (λr s'=>r = .ok (.ret (.bool true))/\OldK s₁.heap s'.heap/\s'.os=s₁.os/\AllBare s'.gens) s₁:=by
 have rv:=ai5 hi;have lenV:=hi.length;have core:∀H:Hp,Only H->au K H a (ns.map V.int)->fJ P w H s₁.heap->(∀b,H b≠none->b=a)->(H a≠none->K.lookup a=none)->
   codeAny (model P w) callerA (.call (.ref fa) ⟨[.ref a],[]⟩) (λr s'=>r = .ok (.ret (.bool true))/\OldK s₁.heap s'.heap/\s'.os=s₁.os/\AllBare s'.gens) s₁:=by
  intro H hO hS hok hA hK;have ae4:∀{b:Addr} {o:Obj},s₁.heap.get? b=some o->H b=none->(tZ s₁.heap H).get? b=some o:=λe n=>ahJ e n;have CM:∀{b:Addr} {o:Obj} {es:Array DictEntry} {ep:Nat},s₁.heap.get? b=some o->o.data = .dict es ep->H b=none:=λ{b o es ep} e d=>by
   cases q:H b with
   |none=>rfl
   |some u=>
    have e':b=a:=hA b (by rw[q];simp);subst e';rw[ha]at e;cases e;have d':Data.seq vs.toArray _=Data.dict es ep:=d;cases d'
  have Ce:∀{b:Addr} {m:Str->Option Value},s₁.heap.Ns b m->(tZ s₁.heap H).Ns b m:=λ{b m} ⟨o,es,ep,e,d,r⟩=>⟨o,es,ep,ae4 e (CM e d),d,r⟩;have hKb:K.In (tZ s₁.heap H):=λb o e=>ae4 (KX b o e) (by
   cases q:H b with
   |none=>rfl
   |some u=>
    have e':b=a:=hA b (by rw[q];simp);subst e';rw[hK (by rw[q];simp)]at e;cases e)
  have hM:Mod K mg (tZ s₁.heap H):=⟨hKb,Ce hns,⟨mb,Ce hb,hbb⟩,let⟨mc,h1,h2⟩:=hlim;⟨mc,Ce h1,h2⟩,let⟨mc,h1,h2⟩:=hdig;⟨mc,Ce h1,h2⟩⟩;have e0:Gv P w K mg (tZ s₁.heap H) callerA [] s₁ H:=⟨rfl,hM,λb o e=>aw7 e,RJ (aht _ _),trivial,λb hb=>absurd (show b∈([]:List Addr)from hb) (by simp),hok,.of_eq hg⟩;refine codeAny_mono ((F _ hKb (Ce hns)).run callerA [] s₁ H ⟨[.ref a],[]⟩ [.ref a] [.ref a] _ _ hr e0 (hbind s₁ (.ref a)) (.cons rfl .nil) (hsp H hO hS)) λr s' h=>?_;cases r with
  |error e=>exact(UZ H e s' h).elim
  |ok fl=>
   cases fl with
   |next=>exact False.elim h
   |brk=>exact False.elim h
   |cont=>exact False.elim h
   |ret u=>
    obtain⟨v,H',os,bare,un,hok',r',q⟩:=h;have q':v = .bl true:=q;subst q';obtain rfl:u=Value.bool true:=r';refine⟨rfl,OldK.of_keep λb o e=>?_,os,bare⟩;cases q:H b with
    |none=>exact un.keep b o e q (by intro z;exact absurd (show b∈([]:List Addr)from z) (by simp)) (by simp)
    |some u=>
     rcases hO b with z|⟨ob,xs,z⟩
     .rw[q]at z;cases z
     .have z2:=un.jR b ob _ z;obtain⟨e1,_⟩:=hok b _ z;obtain⟨e2,_⟩:=hok' b _ z2;rw[e]at e1;cases e1;exact e2
 cases hk:K.lookup a with
 |some o=>
  have e:=KX a o hk;rw[ha]at e;cases e;refine core (λ_=>none) (λ_=> .inl rfl) (.inr ⟨_,vs.toArray,_,hk,rfl,rfl,rfl,by rw[eU,lenV];exact hl,by simpa using rv⟩) (λb u z=>by have z':(none:Option HO)=some u:=z;cases z') (λb z=>absurd rfl z) λz=>absurd rfl z
 |none=>
  refine core (λb=>if b=a then some (.dw { cls:= .type "list",data:= .seq vs.toArray } (.lst (ns.map V.int)))else none) (λb=>?_) (.inl (.inr ⟨{ cls:= .type "list",data:= .seq vs.toArray },if_pos rfl⟩)) (λb u z=>?_) (λb z=>?_) λ_=>hk
  .by_cases hb:b=a
   .exact .inr ⟨_,_,if_pos hb⟩
   .exact .inl (if_neg hb)
  .by_cases hb:b=a
   .have z':=(if_pos hb).symm.trans z;cases z';subst hb;exact⟨ha,by rw[aB];exact hl,vs,_,rv,ha⟩
   .have z':=(if_neg hb).symm.trans z;cases z'
  .by_cases hb:b=a
   .exact hb
   .exact absurd (if_neg hb) z
def ahV{l:W.OpenLaw}{n k:Nat}{q:Program}{loose:List Str}{XP:(Str->Option Value)->Heap->Prop}{YP:World->Heap->Prop}{d:DefRec}{K:Params->aG}{CX:World->qX}{sp:World->Sp}{x:Str}
  (hn:l.most=some n) (hn2:n<=sizeLine) (hdf:d.params.defaults=[]) (hr:dU k callerA)
  (hY:∀(w:World) (h:Heap),YP w h->(K w.params).In h)
  (F:∀(w:World) (mg:Str->Option Value) (fa:Addr) (h:Heap),(K w.params).In h->h.Ns mainGlobals mg->mg d.name=some (.ref fa)->
   ∃fd:FuncData,(∀(s:Shared) (u:Value),BindsTo s fd ⟨[u],[]⟩ [(x,u)])/\
    ∀base:Heap,(K w.params).In base->base.Ns mainGlobals mg->qU l.prog w (K w.params) mg base (CX w) k fa fd [x] (sp w))
  (hsp:∀(w:World) (H:Hp) (a:Addr) (ns:List Int),ns.length<=n->Only H->au (K w.params) H a (ns.map V.int)->sp w [.ref a] H (λv _=>v = .bl true) λ_ _ _=>False)
  (UZ:∀(w:World) (H:Hp) (s:Shared) (e:Value) (s':Shared),CX w [] H s (λ_ _ _=>False) e s'->False):
  W.WalkO q loose XP YP l.row.toRowW d [] (λf vs=>Wd f vs):=by
 refine Att.ahw hn hdf λw s₀ s₁ mg mb fa o pm cd doc a vs ns G Y ho hd hcd hmg hobj hints hlen hg=>?_;have KX:=hY w _ Y;obtain⟨fd,hb,hF⟩:=F w mg fa _ KX G.T.g hmg;exact ana KX G.T.g G.T.b G.T.builtins G.T.nolimit G.T.nodigits hg hobj hints (fY hlen hn2) hr hF hb (λH hO hS=>hsp w H a ns hlen hO hS) λH e s'=>UZ w H s₁ e s'
def pX(s:Stmt):Arguments:=match s with
 |.FunctionDef _ a _ _ _ _ _ _ _ _=>a
 |_=>{ posonlyargs:=[],args:=[],vararg:=none,kwonlyargs:=[],kw_defaults:=[],kwarg:=none,defaults:=[] }
def lF(s:Stmt):List Stmt:=match s with
 |.FunctionDef _ _ b _ _ _ _ _ _ _=>b
 |_=>[]
def aU(s:Stmt):Scope:=match s with
 |.FunctionDef _ _ _ _ _ _ sc _ _ _=>sc
 |_=>{ kind:= .function,names:=[],isGenerator:=false,isCoroutine:=false }
abbrev E0:XK:=λ_ _ _=>False
structure tQ(K:aG)(x qual:Str)(st:Stmt)(f:Addr)(fd:FuncData):Prop where
 ex:∃(oc:Value) (od:Option Addr) (kV doc pm:Value) (an:Option Addr) (cdv ct:Value) (osl:Array (Option Value)),
  fd=qL x qual (pX st) (lF st) (aU st) .none kV doc pm an cdv ct/\K.lookup f=some ⟨oc,od,.func fd,osl⟩/\C5 K cdv qual=true
 kp:Av K (.ref f)=true
section
variable {P:Program} {w:World} {K:aG} {mg:Str->Option Value} {base:Heap}
def tQ.binds{x qual:Str}{st:Stmt}{f:Addr}{fd:FuncData}{ps:List Str}(F:tQ K x qual st f fd)
  (h:∀(kV doc pm:Value) (an:Option Addr) (cdv ct:Value) (us:List Value),us.length=ps.length->bindArgs (qL x qual (pX st) (lF st) (aU st) .none kV doc pm an cdv ct) ⟨us,[]⟩=pure (ps.zip us)):Binds K fd ps []:=by
 obtain⟨oc,od,kV,doc,pm,an,cdv,ct,osl,rfl,lk,hcd⟩:=F.ex;exact .all (h kV doc pm an cdv ct)
def agm{x qual:Str}{st:Stmt}{f:Addr}{oc:Value}{od an:Option Addr}{osl:Array (Option Value)}{kV doc pm cdv ct:Value}(l:K.lookup f=some ⟨oc,od,.func (qL x qual (pX st) (lF st) (aU st) .none kV doc pm an cdv ct),osl⟩)
  (c:C5 K cdv qual=true) (k:Av K (.ref f)=true):tQ K x qual st f (qL x qual (pX st) (lF st) (aU st) .none kV doc pm an cdv ct):=⟨⟨oc,od,kV,doc,pm,an,cdv,ct,osl,rfl,l,c⟩,k⟩
end
def dZ{n:Nat}(h:n<=1000):n<sizeLine:=qw h ∅
section
variable {X:Cx}
def pv(i:Nat){x:Str}{pos:Pos}(hN:X.N[i]?=some x:=by rfl)(hv:Hj X.env.scope x:=by first|exact oX rfl|exact fP (oX rfl)|exact fP (fP rfl))(hd:(x==("__debug__" : Str))=false:=by decide)
  (hcd:(x==("__classdict__" : Str))=false:=by decide):PE X (.Name x pos) (agN i):=aqb hN hv hd hcd
end
def lD{A B:Prop}(h:B):if false=true then A else B:=by
 rw[if_neg fX];exact h
def qZ{A B:Prop}(h:A):if true=true then A else B:=by
 rw[if_pos rfl];exact h
def dR{c A B:Prop}[Decidable c](h1:c->A)(h2:¬c->B):if c then A else B:=by
 by_cases h:c
 .rw[if_pos h];exact h1 h
 .rw[if_neg h];exact h2 h
def Tr{c A B:Prop}[Decidable c](hc:c)(h:B):if(!decide c)=true then A else B:=by
 rw[decide_eq_true hc];exact lD h
def Same(H H':Hp):Prop:=∀b o,H b=some o->H' b=some o
def Same.refl(H:Hp):Same H H:=λ_ _ h=>h
def Same.trans{H H1 H2:Hp}(a:Same H H1)(b:Same H1 H2):Same H H2:=λc o h=>b c o (a c o h)
def Same.free{H H':Hp}(e:Same H H'){l:Addr}(h:H' l=Lz):H l=Lz:=by
 cases q:H l with
 |none=>rfl
 |some o=>
  rw[e l o q]at h;cases h
def Same.seq{K:aG}{H H':Hp}{a:Addr}{xs:List V}(e:Same H H')(h:au K H a xs):au K H' a xs:=by
 rcases h with(h|⟨o,h⟩)|h
 .exact .inl (.inl (e _ _ h))
 .exact .inl (.inr ⟨o,e _ _ h⟩)
 .exact .inr h
section
variable {κ:Type} [DecidableEq κ]
end
def us0{us:List Value}(h:us.length=0):us=[]:=sE h
def Cz{us:List Value}{n:Nat}(h:us.length=n+1):∃a r,us=a::r/\r.length=n:=by
 cases us with
 |nil=>cases h
 |cons a r=>exact⟨a,r,rfl,Nat.succ.inj h⟩
def Wz{us:List Value}(h:us.length=1):∃a,us=[a]:=by
 obtain⟨a,r,rfl,k⟩:=Cz h;obtain rfl:=us0 k;exact⟨a,rfl⟩
def YT{us:List Value}(h:us.length=2):∃a b,us=[a,b]:=by
 obtain⟨a,r,rfl,k⟩:=Cz h;obtain⟨b,rfl⟩:=Wz k;exact⟨a,b,rfl⟩
def us3{us:List Value}(h:us.length=3):∃a b c,us=[a,b,c]:=by
 obtain⟨a,r,rfl,k⟩:=Cz h;obtain⟨b,c,rfl⟩:=YT k;exact⟨a,b,c,rfl⟩
def us4{us:List Value}(h:us.length=4):∃a b c d,us=[a,b,c,d]:=by
 obtain⟨a,r,rfl,k⟩:=Cz h;obtain⟨b,c,d,rfl⟩:=us3 k;exact⟨a,b,c,d,rfl⟩
def us5{us:List Value}(h:us.length=5):∃a b c d e,us=[a,b,c,d,e]:=by
 obtain⟨a,r,rfl,k⟩:=Cz h;obtain⟨b,c,d,e,rfl⟩:=us4 k;exact⟨a,b,c,d,e,rfl⟩
structure rC(P:Program)(w:World)(outer:List Env)(H:Hp)(s:Shared)(E:XK)(e:Value)(s':Shared):Prop where
 ex:∃(ea C:Addr) (a0:Value) (B:Heap) (H':Hp),e = .ref ea/\s'.os=s.os/\AllBare s'.gens/\Heap.FlyingW B outer ea (.ref C) a0 s'.heap/\fJ P w H' B/\Un (frs outer) [] H H' s.heap s'.heap/\
  (∀b o,s.heap.get? b=some o->b∈frs outer∨∃o',B.get? b=some o')/\E (.ref C) none H'
def ac2{P:Program}{w:World}{outer:List Env}{H:Hp}{s s':Shared}{e:Value}(h:rC P w outer H s E0 e s'):False:=by
 obtain⟨_,_,_,_,_,_,_,_,_,_,_,_,q⟩:=h.ex;exact q
def abH{X:Cx}:Passes (rC X.prog X.w) X E0:=λ_ _ _ _ _ _ _ h=>(ac2 h).elim
section
variable {X:Cx} {pins:List (Addr×Obj)} {σ:St} {H:Hp} {s:Shared}
def Inv.Le(I:Inv X pins σ H s){b:Addr}{o:Obj}(e:X.s₀.heap.get? b=some o)(hb:b∉X.fs):b∉frs X.stack:=λz=>by
 rcases bN.mp (I.J5 b z)with q|q
 .exact absurd (jo (cW e) I.ok.above) (by rw[<-q];exact lA _)
 .exact hb q
def Fg(I:Inv X pins σ H s){b:Addr}{o:Obj}(e:s.heap.get? b=some o)(hb:b∉frs X.stack):(Fw s.heap (frs X.stack)).get? b=some o:=W.hideAll_get _ e hb
def Inv.aiL(I:Inv X pins σ H s):fJ X.prog X.w H (Fw s.heap (frs X.stack)):=λb o e=>
 (I.hok b o e).stay (λc u hc q=>Fg I q λz=>by
  have n:=I.Vj c z;rcases hc with rfl|hc
  .rw[n]at e;cases e
  .rw[n]at hc;cases hc) (λ_ q=>q) λ_ _ q=>q
def Inv.YV(I:Inv X pins σ H s)(hex:X.ex=[]){H':Hp}{h':Heap}(keep:∀b o,s.heap.get? b=some o->H b=none->b∉frs X.stack->h'.get? b=some o)
  (slot:∀b o,s.heap.get? b=some o->H b=none->b∈X.fs->∃sl,h'.get? b=some { o with slots:=sl }) (free:∀b o,s.heap.get? b=some o->H b=none->H' b=none) (there:∀b o,s.heap.get? b=some o->∃o',h'.get? b=some o')
  (tups:∀b xs,H b=some (.tup xs)->H' b=some (.tup xs)) (jR:∀b o u,H b=some (.dw o u)->H' b=some (.dw o u)) (nM:∀b ps,H b=some (.rG ps)->∃more,H' b=some (.rG (ps++more))):
  Un (frs X.outer) [] X.H₀ H' X.s₀.heap h':=by
 have nx:∀b:Addr,b∉X.ex:=λb=>by rw[hex];simp
 refine⟨λb o e n hb _=>?_,λb o e n hb _=>?_,λb o e n _=>?_,λb o e _=>?_,λb xs e=>tups b xs (I.base.tups b xs e),λb o u e=>jR b o u (I.base.jR b o u e),λb ps e=>?_⟩
 .exact keep b o (I.base.keep b o e n hb (nx b)) (I.base.free b o e n (nx b)) (I.Le e hb)
 .obtain⟨sl,e1⟩:=I.base.slot b o e n hb (nx b);obtain⟨sl',e2⟩:=slot b _ e1 (I.base.free b o e n (nx b)) hb;exact⟨sl',e2⟩
 .obtain⟨o',e1⟩:=I.base.there b o e (nx b);exact free b o' e1 (I.base.free b o e n (nx b))
 .obtain⟨o',e1⟩:=I.base.there b o e (nx b);exact there b o' e1
 .obtain⟨m1,e1⟩:=I.base.nM b ps e;obtain⟨m2,e2⟩:=nM b _ e1;exact⟨m1++m2,by rw[e2,Za]⟩
end
abbrev iw(P:Program)(w:World)(K:aG)(mg:Str->Option Value)(base:Heap)(N:List Str)(qual:Str)(scope:Scope)(f:Addr)(cdv:Value)(A:Around)(outer:List Env)(s:Shared)(H:Hp)(E:XK):Cx:=
 yQ (rC P w) P w K mg base N qual scope f cdv A outer s H E
section
variable {P:Program} {w:World} {K:aG} {mg:Str->Option Value} {base:Heap} {N:List Str} {qual:Str} {scope:Scope} {f:Addr} {cdv:Value} {A:Around} {outer:List Env} {s₀:Shared} {H₀:Hp} {E:XK}
def awN{pins:List (Addr×Obj)}{σ:St}{H:Hp}{s:Shared}{h1:Heap}{e C:Addr}{vs:List Value}(I:Inv (iw P w K mg base N qual scope f cdv A outer s₀ H₀ E) pins σ H s)(hx:Heap.MadeExcOf s.heap h1 e (.ref C) vs)(q:E (.ref C) none H):
  (iw P w K mg base N qual scope f cdv A outer s₀ H₀ E).xe (.ref e) { s with heap:=h1 }:=by
 have hin:∀env∈envOfC qual scope s₀.heap.objs.size f cdv::outer,∀a,env.frame=some a->a∈frs (envOfC qual scope s₀.heap.objs.size f cdv::outer):=λenv he a ha=>LD.mpr ⟨env,he,ha⟩;refine wpAny_leaves_madeW (base:=Fw s.heap (frs (envOfC qual scope s₀.heap.objs.size f cdv::outer))) (h:=s.heap) (L:=s₀.heap.objs.size) I.ok.frames rfl (λb o q=>W.of_hideAll _ q) (W.funFrames_hide I.stack hin) hx λh' t x1 x2 x3 x4=>?_;have up:∀b o,s.heap.get? b=some o->b∈frs (envOfC qual scope s₀.heap.objs.size f cdv::outer)->∃sl,h'.get? b=some { o with slots:=sl }:=λb o e hb=>by
  obtain⟨_,o',ho',hd⟩:=I.stack.mem hb;rw[e]at ho';cases ho';exact x4 b o (hx.keeps b o e) hd
 refine⟨e,C,.ref t,_,H,rfl,I.os,I.bare,x1,I.aiL,I.YV rfl (λb o e _ hb=>x1.1 b o (Fg I e hb)) (λb o e _ hb=>up b o e (cZ _ hb)) (λ_ _ _ n=>n) (λb o e=>?_) (λ_ _ z=>z) (λ_ _ _ z=>z) (λb ps z=>⟨#[],by rw[z];simp⟩),λb o e=>?_,q⟩
 .by_cases hb:b∈frs (envOfC qual scope s₀.heap.objs.size f cdv::outer)
  .obtain⟨sl,z⟩:=up b o e hb;exact⟨_,z⟩
  .exact⟨o,x1.1 b o (Fg I e hb)⟩
 .by_cases hb:b∈frs outer
  .exact .inl hb
  .obtain⟨o',e1⟩:=I.base.there b o e (by intro z;cases z);exact .inr ⟨o',Fg I e1 (I.Le e hb)⟩
def axC:Passes (rC P w) (iw P w K mg base N qual scope f cdv A outer s₀ H₀ E) E:=by
 intro pins σ H s e s' I h;obtain⟨ea,C,a0,B,H',rfl,os,bare,fl,hok,un,old,q⟩:=h.ex;refine wpAny_leaves_onW (L:=s₀.heap.objs.size) I.ok.frames rfl fl λh' x1 x2=>?_;have inB:∀b o,s.heap.get? b=some o->b∉frs (envOfC qual scope s₀.heap.objs.size f cdv::outer)->∃o',B.get? b=some o'/\s'.heap.get? b=some o':=λb o e hb=>by
  rcases old b o e with z|⟨o',z⟩
  .exact absurd z hb
  .exact⟨o',z,fl.1 b o' z⟩
 have up:∀b o,s'.heap.get? b=some o->b∈frs (envOfC qual scope s₀.heap.objs.size f cdv::outer)->∃sl,h'.get? b=some { o with slots:=sl }:=λb o e hb=>by
  obtain⟨_,o',ho',hd⟩:=fl.2.2.1.mem hb;rw[e]at ho';cases ho';exact x2 b o e hd
 refine⟨ea,C,a0,B,H',rfl,os.trans I.os,bare,x1,hok,I.YV rfl (λb o e n hb=>?_) (λb o e n hb=>?_) (λb o e n=>un.free b o e n (by simp)) (λb o e=>?_) un.tups un.jR un.nM,λb o e=>?_,q⟩
 .obtain⟨o',e1,e2⟩:=inB b o e hb;have e3:=un.keep b o e n hb (by simp);rw[e2]at e3;cases e3;exact x1.1 b _ e1
 .obtain⟨sl,e1⟩:=un.slot b o e n (cZ _ hb) (by simp);obtain⟨sl',e2⟩:=up b _ e1 (cZ _ hb);exact⟨sl',e2⟩
 .by_cases hb:b∈frs (envOfC qual scope s₀.heap.objs.size f cdv::outer)
  .obtain⟨o',e1⟩:=un.there b o e (by simp);obtain⟨sl,e2⟩:=up b o' e1 hb;exact⟨_,e2⟩
  .obtain⟨o',e1,_⟩:=inB b o e hb;exact⟨o',x1.1 b o' e1⟩
 .by_cases hb:b∈frs outer
  .exact .inl hb
  .obtain⟨o',e1⟩:=I.base.there b o e (by intro z;cases z);obtain⟨o2,e2,_⟩:=inB b o' e1 (I.Le e hb);exact .inr ⟨o2,e2⟩
end
def ape(C:Addr)(E:XK)(t:TA):TS:=λ_ σ H=>t σ H λvs H1=>vs.length<=sizeLine/\E (.ref C) none H1
structure Ku(mg:Str->Option Value)(base:Heap)(x:Str)(C:Addr):Prop where
 ex:∃bm newId,OwnCls x C bm newId mg base/\∃(Bn inN:String) (bmN:List Value) (B nid initId:String),ExcBaseFacts Bn newId inN bmN/\bm.contains (.type Bn)=true/\ExcBaseFacts B nid initId bm
def aaP{P:Program}{w:World}{K:aG}{mg:Str->Option Value}{base:Heap}{N:List Str}{qual:Str}{scope:Scope}{f:Addr}{cdv:Value}{A:Around}{outer:List Env}{s₀:Shared}{H₀:Hp}{E:XK}
  {x:Str} {C:Addr} {np cpos pos:Pos} {e:Expr} {es:List Expr} {t:TA} (O:Ku mg base x C) (hg:Gl (iw P w K mg base N qual scope f cdv A outer s₀ H₀ E) x) (ha:PA (iw P w K mg base N qual scope f cdv A outer s₀ H₀ E) (e::es) t)
  (hdb:(x==("__debug__" : Str))=false:=by decide)
  (he:starEach (e::es) (iw P w K mg base N qual scope f cdv A outer s₀ H₀ E).env=(false,eval e (iw P w K mg base N qual scope f cdv A outer s₀ H₀ E).env)::starEach es (iw P w K mg base N qual scope f cdv A outer s₀ H₀ E).env:=by rfl)
  (hpl:(backTo cpos (starEach es (iw P w K mg base N qual scope f cdv A outer s₀ H₀ E).env)).any (·.1)=false:=by rfl):
  PS (iw P w K mg base N qual scope f cdv A outer s₀ H₀ E) (.Raise (some (.Call (.Name x np) (e::es) [] cpos)) none pos) (ape C E t):=by
 intro pins s σ H D I h;obtain⟨bm,newId,O,Bn,inN,bmN,B,nid,initId,Fn,hBn,FB⟩:=O.ex;obtain⟨tl,Nn,nm,q,bs,hdct,sn,sub,ab,col,dd,k0,k1,k2,k3,k5,mN,hC,hN,hni,T⟩:=O.obj;refine wpAny_Raise_call_subU (C:=C) (nm:=nm) (q:=q) (N:=Nn) (bs:=bs) (bm:=tl) (hdct:=hdct) (sn:=sn) (sub:=sub) (ab:=ab) (col:=col) (dd:=dd) (k0:=k0) (k1:=k1) (k2:=k2) (k3:=k3) (k5:=k5)
  Fn hBn FB (mN:=mN) (T.hasType FB.hasBase) (I.ok.hd rfl) (by rw[he];show(false||(backTo cpos (starEach es (iw P w K mg base N qual scope f cdv A outer s₀ H₀ E).env)).any (·.1))=false;rw[hpl];rfl) hni (PX I hg O.bound ⟨rfl,?_⟩ hdb)
 have h2:=ha cpos pins s σ H _ I h;rw[he]at h2⊢;refine TR (wpAny_mono h2 (λus s2 ⟨vs,H2,I2,r,z,q⟩=>⟨rfl,by rw[<-r.length];exact z,I2.bk _ _ hC,hN.keeps I2.bk,T.keeps I2.bk,λh' e hm=>awN I2 hm q⟩) λ_ _ y=>y)
def tQ.Zh{P:Program}{w:World}{K:aG}{mg:Str->Option Value}{base:Heap}{x qual:Str}{st:Stmt}{f:Addr}{fd:FuncData}{N ps:List Str}{k:Nat}{sp:Sp}(F:tQ K x qual st f fd)(S:aZ N ps (aU st))(len:∀vs H Q E,sp vs H Q E->vs.length=ps.length)
  (hbody:∀(cdv:Value) (A:Around) (outer:List Env) (s:Shared) (H:Hp) (vs:List V) (Q:VK) (E:XK),dU k (A.deeper (envOfC qual (aU st) s.heap.objs.size f cdv))->sp vs H Q E->
   ∃t,jK (iw P w K mg base N qual (aU st) f cdv A outer s H E) (lF st) t/\t { nx:=λ_ H'=>Q .non H',rt:=Q } (start N vs) H):qU P w K mg base (rC P w) (k+1) f fd ps sp:=by
 obtain⟨oc,od,kV,doc,pm,an,cdv,ct,osl,rfl,lk,hcd⟩:=F.ex;exact aw9 lk hcd S len λA outer s H vs Q E hr hsp=>hbody cdv A outer s H vs Q E hr hsp
def tQ.okN{P:Program}{w:World}{K:aG}{mg:Str->Option Value}{base:Heap}{x qual:Str}{st:Stmt}{f:Addr}{fd:FuncData}{N ps:List Str}{k:Nat}{sp:Sp}(F:tQ K x qual st f fd)(S:aZ N ps (aU st))(len:∀vs H Q E,sp vs H Q E->vs.length=ps.length)
  (hbody:∀(cdv:Value) (A:Around) (outer:List Env) (s:Shared) (H:Hp) (vs:List V) (Q:VK) (E:XK),dU k (A.deeper (envOfC qual (aU st) s.heap.objs.size f cdv))->sp vs H Q E->
   ∃t,jK (iw P w K mg base N qual (aU st) f cdv A outer s H E).Dp (lF st) t/\t { nx:=λ_ H'=>Q .non H',rt:=Q } (start N vs) H):qU P w K mg base (rC P w) (k+1) f fd ps sp:=
 F.Zh S len λcdv A outer s H vs Q E hr h=>let⟨t,a,b⟩:=hbody cdv A outer s H vs Q E hr h;⟨t,a.Dp,b⟩
section
variable {X:Cx}
def cX.imp{f:Value->Value->Sem Value}{r r':R2}(h:cX X f r)(i:∀x y H Q,r' x y H Q->r x y H Q):cX X f r':=λpins s σ H x y v u Q I rx ry q=>h pins s σ H x y v u Q I rx ry (i _ _ _ _ q)
def mF.imp{r r':R2}(h:mF X r)(i:∀x y H Q,r' x y H Q->r x y H Q):mF X r':=λvalue slice pins s σ H x y v u Q I rx ry q hs=>h value slice pins s σ H x y v u Q I rx ry (i _ _ _ _ q) hs
def Vm{x:Str}{i:Int}{pos:Pos}(hg:Gl X x)(hm:∃t,X.mg x=some (.int i t))(hd:(x==("__debug__" : Str))=false:=by decide):PE X (.Name x pos) (tC (.int i)):=by
 obtain⟨t,e⟩:=hm;exact Wj hg e ⟨t,rfl⟩ hd
structure iQ(P:Program)(w:World)(K:aG)(mg:Str->Option Value)(base:Heap)(x:Str)(k:Nat)(ps:List Str)(sp:Sp):Prop where
 ex:∃(g:Addr) (gd:FuncData),mg x=some (.ref g)/\Av K (.ref g)=true/\Binds K gd ps []/\qU P w K mg base (rC P w) k g gd ps sp
def ard{x:Str}{k k':Nat}{ps:List Str}{sp:Sp}{p pos:Pos}{e:Expr}{es:List Expr}{t:TA}(C:iQ X.prog X.w X.K X.mg X.base x k ps sp)(hr:dU k' X.A)(hg:Gl X x)(ha:PA X (e::es) t)
  (hk:k<=k':=by decide) (hd:(x==("__debug__" : Str))=false:=by decide)
  (he:starEach (e::es) X.env=(false,eval e X.env)::starEach es X.env:=by rfl) (hpl:(backTo pos (starEach es X.env)).any (·.1)=false:=by rfl):PE X (.Call (.Name x p) (e::es) [] pos) (J2 sp [] E0 t):=by
 obtain⟨g,gd,hm,hkp,hb,F⟩:=C.ex;exact Wm F (hr.mono hk) hg hm hkp hb .nil abH ha hd he hpl
def Sv{P:Program}{w:World}{K:aG}{mg:Str->Option Value}{base:Heap}{N:List Str}{qual:Str}{scope:Scope}{f:Addr}{cdv:Value}{A:Around}{outer:List Env}{s₀:Shared}{H₀:Hp}{E:XK}
  {x:Str} {k k':Nat} {ps:List Str} {sp:Sp} {p pos:Pos} {e:Expr} {es:List Expr} {t:TA} (C:iQ P w K mg base x k ps sp) (hr:dU k' (iw P w K mg base N qual scope f cdv A outer s₀ H₀ E).A) (hg:Gl (iw P w K mg base N qual scope f cdv A outer s₀ H₀ E) x)
  (ha:PA (iw P w K mg base N qual scope f cdv A outer s₀ H₀ E) (e::es) t) (hk:k<=k':=by decide) (hd:(x==("__debug__" : Str))=false:=by decide)
  (he:starEach (e::es) (iw P w K mg base N qual scope f cdv A outer s₀ H₀ E).env=(false,eval e (iw P w K mg base N qual scope f cdv A outer s₀ H₀ E).env)::starEach es (iw P w K mg base N qual scope f cdv A outer s₀ H₀ E).env:=by rfl)
  (hpl:(backTo pos (starEach es (iw P w K mg base N qual scope f cdv A outer s₀ H₀ E).env)).any (·.1)=false:=by rfl):
  PE (iw P w K mg base N qual scope f cdv A outer s₀ H₀ E) (.Call (.Name x p) (e::es) [] pos) (J2 sp [] E t):=by
 obtain⟨g,gd,hm,hkp,hb,F⟩:=C.ex;exact Wm (X:=iw P w K mg base N qual scope f cdv A outer s₀ H₀ E) F (hr.mono hk) hg hm hkp hb .nil axC ha hd he hpl
def awH{prog:Program}{w:World}{A:Around}{E:Value->Shared->Prop}{s:Shared}{t b:Addr}{vs ws:List Value}{Q:Value->Shared->Prop}(ht:IsTup s.heap t vs.toArray)(hb:IsTup s.heap b ws.toArray)(hv:vs=[])
  (h1:Q (.ref b) s):wpAny (model prog w) A (binaryOp .Add (.ref t) (.ref b)) Q E s:=by
 obtain⟨⟨cls,dd,data,sl⟩,ho,hc,n,hd⟩:=id ht;obtain⟨⟨cls2,dd2,data2,sl2⟩,ho2,hc2,n2,hd2⟩:=id hb;simp only at hc hd hc2 hd2;subst hc hd hc2 hd2;exact concat_meets ⟨_,ho,rfl⟩ ⟨_,ho2,rfl⟩ noFill_tuple_add seq_tuple_add Qv La (Qj _ _)
   (tuple_addW0 t b vs.toArray ws.toArray n n2 dd dd2 sl sl2 (by simp[hv])) ⟨ho,ho2,h1⟩
def arV(K:aG):R2:=λx y H Q=>∃a b ys,x = .ref a/\y = .ref b/\aA K H a []/\aA K H b ys/\Q (.ref b) H
def anQ:cX X (binaryOp .Add) (arV X.K):=by
 intro pins s σ H x y v u Q I rx ry h;obtain⟨a,b,ys,rfl,rfl,ha,hb,q⟩:=h;cases rx;cases ry;obtain⟨its,r1,p1,_⟩:=I.tuple ha;obtain⟨its2,r2,p2,_⟩:=I.tuple hb;exact awH p1 p2 (r1.JT.mpr rfl) ⟨.ref b,H,I,rfl,q⟩
def Ks(K:aG):R2:=λx y H Q=>match x,y with
 |.int i,.int j=>Q (.int (i+j)) H
 |.str i,.str j=>i.length+j.length<=sizeLine/\Q (.str (i++j)) H
 |.ref a,.ref b=>(∃xs ys,H a=some (.lst xs)/\H b=some (.lst ys)/\xs.length+ys.length<=sizeLine/\∀p,H p=none->Q (.ref p) (upd H p (.lst (xs++ys))))∨
   (∃xs ys,aA K H a xs/\aA K H b ys/\xs.length+ys.length<=sizeLine/\(xs=[]->Q (.ref b) H)/\(xs≠[]->ys=[]->Q (.ref a) H)/\(xs≠[]->ys≠[]->∀p,H p=none->Q (.ref p) (upd H p (.tup (xs++ys)))))
 |_,_=>False
def v_add:cX X (binaryOp .Add) (Ks X.K):=by
 refine((ahR.or ahP).or (ayT.or (ayb.or anQ))).imp λx y H Q h=>?_;unfold Ks at h;split at h
 .exact .inl (.inl ⟨_,_,rfl,rfl,h⟩)
 .exact .inl (.inr ⟨_,_,rfl,rfl,h⟩)
 .rcases h with⟨xs,ys,h1,h2,h3,h4⟩|⟨xs,ys,h1,h2,h3,h4,h5,h6⟩
  .exact .inr (.inl ⟨_,_,xs,ys,rfl,rfl,h1,h2,h3,h4⟩)
  .by_cases hx:xs=[]
   .subst hx;exact .inr (.inr (.inr ⟨_,_,ys,rfl,rfl,h1,h2,h4 rfl⟩))
   .exact .inr (.inr (.inl ⟨_,_,xs,ys,rfl,rfl,h1,h2,hx,h3,h5 hx,h6 hx⟩))
 .exact h.elim
def acU:R2:=λx y H Q=>match x,y with
 |.int i,.int j=>IntMulOk i j/\Q (.int (i*j)) H
 |.ref l,.int k=>∃xs,H l=some (.lst xs)/\-(2^63)<=k/\k<2^63/\xs.length*k.toNat<=sizeLine/\∀p,H p=none->Q (.ref p) (upd H p (.lst (cN k.toNat xs).flatten))
 |_,_=>False
def akn:cX X (binaryOp .Mult) (rI IntMulOk λi j=> .int (i*j)):=B3 λ_ _ _ _ _ _ _ hc q=>mul_int q hc
def v_mul:cX X (binaryOp .Mult) acU:=by
 refine(akn.or awc).imp λx y H Q h=>?_;unfold acU at h;split at h
 .exact .inl ⟨_,_,rfl,rfl,h.1,h.2⟩
 .obtain⟨xs,h1,h2,h3,h4,h5⟩:=h;exact .inr ⟨_,_,xs,rfl,rfl,h1,h2,h3,h4,h5⟩
 .exact h.elim
inductive SIx(K:aG)(p:Addr)(i:Int)(H:Hp)(Q:VK):Prop|mk (xs:List V) (v:V) (hs:au K H p xs∨aA K H p xs) (ha:mq xs i=some v) (q:Q v H)
def Gi(K:aG):R2:=λx y H Q=>match x,y with
 |.ref p,.int i=>SIx K p i H Q
 |.str z,.int i=>∃c,z.length<=sizeLine/\mq z.cps.toList i=some c/\Q (.str ⟨#[c]⟩) H
 |_,_=>False
def ao8:mF X (Gi X.K):=by
 refine alC.imp λx y H Q h=>?_;unfold Gi at h;split at h
 .obtain⟨xs,v,h1|h1,h2,h3⟩:=h
  .exact .inl ⟨_,xs,_,v,rfl,rfl,h1,h2,h3⟩
  .exact .inr (.inl ⟨_,xs,_,v,rfl,rfl,h1,h2,h3⟩)
 .obtain⟨c,h1,h2,h3⟩:=h;exact .inr (.inr ⟨_,_,c,rfl,rfl,h1,h2,h3⟩)
 .exact h.elim
theorem aar:∀{bs:List Bool} {us:List Value},Vals (bs.map V.bl) us->us=bs.map Value.bool
 |[],_,.nil=>rfl
 |b::bs,_,.cons r t=>by
  have e:=aar (bs:=bs) t;cases (show _=Value.bool b from r);rw[e];rfl
def an1{s:Shared}{h':Heap}{o:Obj}(hk:∀b x,b∉[s.heap.objs.size]->(s.heap.push o).get? b=some x->h'.get? b=some x):∀b x,s.heap.get? b=some x->h'.get? b=some x:=
 λb x e=>hk b x (λhm=>by rw[eV.mp hm]at e;exact lA _ (cW e)) (Heap.get?_push_of_some _ e)
def v_sum(hc:X.calm=true):kj X (.builtin "sum") (λxs H Q=>∃(l:Addr) (ns:List Int),xs=[.ref l]/\au X.K H l (ns.map V.int)/\Q (.int ns.sum) H):=by
 intro pins s σ H xs us Q I r h;obtain⟨l,ns,rfl,hl,q⟩:=h;obtain⟨u,rfl,ru⟩:=r.one;cases ru;obtain⟨its,rv,pl,hz⟩:=I.list hl;have hi:=intsAre_of rv;obtain⟨xs,hx⟩:=hi.allInts.items;have hl':s.heap.IsList l (intItems xs):=hx▸pl.isList;refine sum_intListG (I.ok.hd hc) hl' λh' tk t' hk=>?_;have e1:ns=xs.toList.map (·.1):=by
  rw[<-nums_intItems,<-hx];exact(show numsOf its.toArray.toList=ns from hi.numsOf).symm
 have e2:preSum (numAt xs) xs.size=ns.sum:=by
  rw[preSum_eq,qY (by simp),e1]
 rw[e2];exact⟨.int _,H,I.kept hk,⟨_,rfl⟩,q⟩
def abz(K:aG)(tl:TE):TI:=λσ H R=>tl σ H λx H1=>∃a,x = .ref a/\(((∃xs,au K H1 a xs)/\R (nj K a) H1)∨((∃xs,aA K H1 a xs)/\R (Er K a) H1))
def ayR{tg l:Expr}{tl:TE}(hl:PE X l tl):PI X tg l (abz X.K tl):=by
 intro pins s σ H R I h;refine aW (hl pins s σ H _ I h) λv s1 ⟨x,H1,I1,r1,a,e,q⟩=>?_;subst e;cases r1;rcases q with⟨⟨xs,hq⟩,q⟩|⟨⟨xs,hq⟩,q⟩
 .have hh:PI X tg l (ax5 X.K λσ' H' Q=>Q (.ref a) H')->True:=λ_=>trivial;obtain⟨its,rv,p,hz⟩:=I1.list hq;refine wpAny_pyIter_list p.isList ?_;refine⟨s1.heap.objs.size,[s1.heap.objs.size],_,_,H1,rfl,I1.kept (t':=s1.toks) λb o e=>Heap.get?_push_of_some _ e,awT a _,⟨_,Heap.get?_push_size _ rfl,rfl,rfl⟩,λb hb=>?_,q⟩;have e:b=s1.heap.objs.size:=by simpa using hb
  subst e;exact I1.pJ (aN _) (I1.hok.fresh (aN _))
 .obtain⟨its,rv,p,hz⟩:=I1.tuple hq;refine wpAny_pyIter_tuple (show s1.heap.IsTuple a its.toArray from p) ?_;refine⟨s1.heap.objs.size,[s1.heap.objs.size],_,_,H1,rfl,I1.kept (t':=s1.toks) λb o e=>Heap.get?_push_of_some _ e,atu a _,⟨_,Heap.get?_push_size _ rfl,rfl,rfl⟩,λb hb=>?_,q⟩;have e:b=s1.heap.objs.size:=by simpa using hb
  subst e;exact I1.pJ (aN _) (I1.hok.fresh (aN _))
end
theorem Vi{env:Env}:∀(names:List (Str×NameKind)) (acc:List (Str×Addr)),(∀y∈names,y.2 = .free->∃c,env.cells.lookup y.1=some c)->(∀p∈acc,env.cells.lookup p.1=some p.2)->
 ∃cl,(forIn names acc λ(y:Str×NameKind) (cs:List (Str×Addr))=>match y with|(name,kind)=>if(kind== .free)=true then do let a<-cellOf env name;pure (ForInStep.yield ((name,a)::cs))else pure (ForInStep.yield cs))=(pure cl:Sem _)/\(∀p∈cl,env.cells.lookup p.1=some p.2)/\(∀p∈acc,p∈cl)/\∀y∈names,y.2 = .free->∃c,(y.1,c)∈cl
 |[],acc,_,ha=>⟨acc,rfl,ha,λ_ h=>h,λ_ h=>nomatch h⟩
 |(n,k)::r,acc,hf,ha=>by
  have hr:∀y∈r,y.2 = .free->∃c,env.cells.lookup y.1=some c:=λy hy=>hf y (cZ _ hy);by_cases hk:k = .free
  .subst hk;obtain⟨c,hc⟩:=hf (n,.free) cV rfl;obtain⟨cl,e,h1,h2,h3⟩:=Vi r ((n,c)::acc) hr (λp hp=>by
    rcases bN.mp hp with rfl|hp
    .exact hc
    .exact ha p hp)
   refine⟨cl,?_,h1,λp hp=>h2 p (cZ _ hp),λy hy hyf=>?_⟩
   .rw[Fx];simp only[beq_self_eq_true,if_true,cellOf,hc,pure_bind];exact e
   .rcases bN.mp hy with rfl|hy
    .exact⟨c,h2 _ cV⟩
    .exact h3 y hy hyf
  .have hb:(k==NameKind.free)=false:=by simpa using hk
   obtain⟨cl,e,h1,h2,h3⟩:=Vi r acc hr ha;refine⟨cl,?_,h1,h2,λy hy hyf=>?_⟩
   .rw[Fx];simp only[hb,QN,if_false,pure_bind];exact e
   .rcases bN.mp hy with rfl|hy
    .exact absurd hyf hk
    .exact h3 y hy hyf
def aiG{env:Env}{scope:Scope}(hf:∀y∈scope.names,y.2 = .free->∃c,env.cells.lookup y.1=some c):
  ∃cl,closureFor scope env=pure cl/\(∀x c,cl.lookup x=some c->env.cells.lookup x=some c)/\∀y∈scope.names,y.2 = .free->∃c,cl.lookup y.1=some c:=by
 obtain⟨cl,e,h1,_,h3⟩:=Vi (env:=env) scope.names [] hf (λ_ h=>nomatch h);refine⟨cl,?_,λx c h=>h1 (x,c) (uL h),λy hy hyf=>?_⟩
 .unfold closureFor;simp only[bind_pure_comp]at e⊢;rw[e];rfl
 .obtain⟨c,hc⟩:=h3 y hy hyf;cases q:cl.lookup y.1 with
  |some d=>exact⟨d,rfl⟩
  |none=>
   have z:=List.lookup_eq_none_iff.mp q (y.1,c) hc;simp at z
def Vd(sc:Scope)(cl:List (Str×Addr))(C:Addr)(env:Env):Env:=
 { scope:=sc,locals:=C,globals:=env.globals,cells:=cl,qual:=env.qual,func:=none,code:=env.code,frame:=env.frame,builtins:=env.builtins }
def jM(X:Cx)(sc:Scope)(N:List Str)(cl:List (Str×Addr))(C:Addr)(s₀:Shared)(H₀:Hp)(ex:List Addr):Cx:=
 { X with env:=Vd sc cl C X.env,N:=N,s₀:=s₀,H₀:=H₀,outer:=X.stack,ex:=ex,fn:=λ_=>false,pn:=[],xe:=λ_ _=>False }
def cst(ix:List (Option Nat))(σ:St):St:=ix.map λo=>match o with
 |none=>none
 |some i=>match σ[i]? with
  |some v=>v
  |none=>none
def Ac(X:Cx)(ifs:List Expr)(t:TT):Prop:=
 ∀(pins:List (Addr×Obj)) (s:Shared) (σ:St) (H:Hp) (Q:Bool->Hp->Prop),Inv X pins σ H s->t σ H Q->
  wpAny (model X.prog X.w) X.A (forIn ifs true λc r=>if r=true then do let ok<-isTrue c X.env (eval c X.env);pure (ForInStep.yield ok)else pure (ForInStep.yield r)) (TP X pins σ Q) X.xe s
def kW:TT:=λ_ H Q=>Q true H
def eE{X:Cx}:Ac X [] kW:=λ_ _ _ H _ I h=>wpAny_tests_nil ⟨H,I,h⟩
def afM{X:Cx}{c:Expr}{t:TT}(h:PT X c t):Ac X [c] t:=λpins s σ H Q I q=>wpAny_tests_one (h pins s σ H Q I q)
def amf{prog:Program}{w:World}{A:Around}{R:Result->Shared->Prop}{s:Shared}{elt target iter:Expr}{ifs:List Expr}{scope:Scope}{pos:Pos}{it acc:Value}{env:Env}(I:Nat->Shared->Prop)
  (turn:∀n s,I n s->wpAny (model prog w) A (pyNext it) (λr s₁=>match r with
   |none=>R (.ok .next) s₁
   |some v=>wpAny (model prog w) A (letOwnedTupleGo target it v) (λ_ s₀=>wpAny (model prog w) A (assign target env v) (λ_ s₂=>
     wpAny (model prog w) A (forIn ifs true λc r=>if r=true then do let ok<-isTrue c env (eval c env);pure (ForInStep.yield ok)else pure (ForInStep.yield r)) (λok s₃=>
      if ok=true then wpAny (model prog w) A (eval elt env) (λx s₄=>
       wpAny (model prog w) A (call (.builtin "list.append") [acc,x]) (λ_ s₅=>∃m,m<n/\I m s₅) (λ_ _=>False) s₄) (λ_ _=>False) s₃
      else ∃m,m<n/\I m s₃) (λ_ _=>False) s₂) (λ_ _=>False) s₀) (λ_ _=>False) s₁) (λ_ _=>False) s)
  (n:Nat) (h:I n s):
  codeAny (model prog w) A (.compLoop (.ListComp elt [⟨target,iter,ifs,0⟩] scope pos) 0 it acc env) R s:=by
 refine codeAny_loop rfl I (λn s hI=>?_) n h;show wpAny _ A ((compTurn (.ListComp elt [⟨target,iter,ifs,0⟩] scope pos) 0 it acc env).onRaise (λx=>do noteFrame x env;theTreesLotGoes x)) _ _ s
 refine wpAny_noted ?_;rw[compTurn_list];refine wpAny_bind (wpAny_standAt (wpAny_bind (wpAny_mono (turn n s hI) (λr s₁ h₁=>?_) λ_ _ h'=>h'.elim)));cases r with
 |none=>exact wpAny_pure h₁
 |some v=>
  refine wpAny_bind (wpAny_mono h₁ (λ_ s₀ h₀=>?_) λ_ _ h'=>h'.elim);refine wpAny_bind (wpAny_mono h₀ (λ_ s₂ h₂=>wpAny_bind (wpAny_mono h₂ (λok s₃ h₃=>?_) λ_ _ h'=>h'.elim)) λ_ _ h'=>h'.elim);cases ok with
  |false=>exact wpAny_pure ⟨rfl,h₃⟩
  |true=>
   exact wpAny_bind (wpAny_bind (wpAny_mono h₃ (λx s₄ h₄=>wpAny_bind (wpAny_mono h₄ (λ_ s₅ h₅=>wpAny_pure (wpAny_pure ⟨rfl,h₅⟩)) λ_ _ h'=>h'.elim)) λ_ _ h'=>h'.elim))
structure jL(ix:List (Option Nat))(g:TG)(tc:TT)(te:TE)(σ:St)(Q:VK)(J:It)(H1:Hp):Prop where
 go:∀D,H1 D=none->∃W:Nat->Nat->St->Hp->Prop,(∃m,W 0 m (cst ix σ) (upd H1 D (.lst [])))/\
  ∀i m σ' H',W i m σ' H'->(J.stop i H'/\Q (.ref D) H')∨(J.go i H'/\∀x H2,J.jO i H' x H2->g x σ' H2 λσ3 H3=>tc σ3 H3 λb H4=>
   if b=true then te σ3 H4 λy H5=>∃ys,H5 D=some (.lst ys)/\ys.length<sizeLine/\∃m',m'<m/\W (i+1) m' σ3 (upd H5 D (.lst (ys++[y])))
   else ∃m',m'<m/\W (i+1) m' σ3 H4)
def N5(ix:List (Option Nat))(wi:TI)(g:TG)(tc:TT)(te:TE):TE:=λσ H Q=>wi σ H λJ H1=>jL ix g tc te σ Q J H1
structure Gm(X:Cx)(scope sc:Scope)(N:List Str)(ix:List (Option Nat)):Prop where
 rel:relabel scope X.env=sc
 kind:scope.kind = .function
 cell:∀y∈scope.names,y.2≠ .cell
 names:∀x∈scope.names,x.2 = .local->scope.names.lookup x.1=some .local
 free:∀y∈scope.names,y.2 = .free->X.env.kindOf y.1=some .cell∨X.env.kindOf y.1=some .free
 len:N.length=ix.length
 ix:∀(j:Nat) (x:Str) (i:Nat),N[j]?=some x->ix[j]?=some (some i)->X.N[i]?=some x/\(x,NameKind.free)∈scope.names/\(sc.names.lookup x=some .cell∨sc.names.lookup x=some .free)
 has:∀x,(sc.names.lookup x=some .cell∨sc.names.lookup x=some .free)->(x,NameKind.free)∈scope.names
def ab0{X:Cx}{tg iter elt:Expr}{ifs:List Expr}{scope sc:Scope}{pos ip:Pos}{wi:TI}{g:TG}{tc:TT}{te:TE}{N:List Str}{ix:List (Option Nat)}(O:Gm X scope sc N ix)(hc:X.calm=true)(hi:PI X tg iter wi)
  (hb:∀cl C s₀ H₀ ex,PG (jM X sc N cl C s₀ H₀ ex) tg g/\Ac (jM X sc N cl C s₀ H₀ ex) ifs tc/\PE (jM X sc N cl C s₀ H₀ ex) elt te) (hs:∀x,foldedSetIterable iter X.env x=pure x)
  {use:Option (Value->Sem Unit)} {QQ:Value->Shared->Prop} {pins:List (Addr×Obj)} {s:Shared} {σ:St} {H:Hp} {Q:VK} (I:Inv X pins σ H s) (h:N5 ix wi g tc te σ H Q)
  (fin:∀(D C:Addr) (s6:Shared) (H5:Hp) (m:Str->Option Value),Inv X pins σ H5 s6->s6.heap.Ns C m->oW X pins H5 C->Q (.ref D) H5->compPost (model X.prog X.w) X.A X.xe use QQ (.ref D) C (.ok .next) s6):
  wpAny (model X.prog X.w) X.A (comprehension (.ListComp elt [⟨tg,iter,ifs,0⟩] scope pos) scope X.env ip (newList []) false (eval iter X.env) use) QQ X.xe s:=by
 have hcl:∃cl,closureFor scope X.env=pure cl/\(∀x c,cl.lookup x=some c->X.env.cells.lookup x=some c)/\∀y∈scope.names,y.2 = .free->∃c,cl.lookup y.1=some c:=
  aiG λy hy hf=>I.ok.has y.1 (O.free y hy hf)
 obtain⟨cl,ecl,xJ,aeF⟩:=hcl;refine wpAny_comprehension_free (use:=use) rfl hs ecl O.kind O.names (aW (hi pins s σ H _ I h) λv s1 h1=>aW h1 λitv s2 h2=>?_);obtain⟨it,fp,tn,J,H2,e,I2,T,st2,f2,q2⟩:=h2;subst e;obtain⟨W,⟨m0,w0⟩,turn⟩:=q2.go s2.heap.objs.size I2.fresh;refine wpAny_newObj_type ?_;have I3:=I2.Vl (its:=[]) (t':=s2.toks) (ys:=[]) .nil (cB _);generalize Zx:upd H2 s2.heap.objs.size (.lst [])=H3 at I3 w0;have eD:H3 s2.heap.objs.size=some (.lst []):=by rw[<-Zx];exact aC
 have aoz:∀b∈fp,b≠s2.heap.objs.size:=λb hb z=>by
  obtain⟨o,ho,_⟩:=T.obj _ _ st2 b hb;exact absurd (cW ho) (by rw[z];exact lA _)
 have st3:tn 0 (s2.heap.push { cls:= .type "list",dict:=none,data:= .seq ([]:List Value).toArray }):=T.keep _ _ _ st2 λb _ o e=>Heap.get?_push_of_some _ e;have f3:∀b∈fp,oW X pins H3 b:=λb hb=>⟨by rw[<-Zx,bF (aoz b hb)];exact(f2 b hb).1,(f2 b hb).2⟩;generalize es3:({ s2 with heap:=s2.heap.push { cls:= .type "list",dict:=none,data:= .seq ([]:List Value).toArray },toks:=s2.toks }:Shared)=s3 at I3;have Yy:tn 0 s3.heap:=by rw[<-es3];exact st3
 refine wpAny_newFunctionEnv O.cell (λy hy=>nomatch hy) (λh4 auN auM=>?_) O.kind;have LR:∀b o,s3.heap.get? b=some o->h4.get? b=some o:=λb o e=>(auM.2 b (jQ (cW e))).trans (Heap.get?_push_of_some _ e);have I4:Inv X pins σ H3 { s3 with heap:=h4,toks:=s3.toks+([]:List (Str×Value)).length }:=I3.kept LR;have awL:({ newEnv scope s3.heap.objs.size X.env.globals cl X.env.qual none .none (some X.env) builtinsNs with scope:=relabel scope X.env }:Env)=Vd sc cl s3.heap.objs.size X.env:=by rw[O.rel];rfl
 rw[awL];show codeAny _ _ _ (compPost (model X.prog X.w) X.A X.xe use QQ (.ref s2.heap.objs.size) s3.heap.objs.size) _;generalize eC:s3.heap.objs.size=C;generalize es4:({ s3 with heap:=h4,toks:=s3.toks+([]:List (Str×Value)).length }:Shared)=s4 at I4;have PF:s4.heap=h4:=by rw[<-es4]
 have o4s:s4.os=s3.os:=by rw[<-es4]
 have fC:∀b∈fp,b≠C:=λb hb z=>by
  obtain⟨o,ho,_⟩:=T.obj _ _ Yy b hb;exact absurd (cW ho) (by rw[z,eC];exact lA _)
 have okC:(jM X sc N cl C s3 H3 fp).Ok:=by
  refine⟨I3.ok.mod,?_,I3.ok.glob,I3.ok.blt,RJ eC,λx y c h1 h2=>I3.ok.inj x y c (xJ x c h1) (xJ y c h2),λx hx=>?_,λx c z _=>(nomatch z),I3.ok.hd,I3.ok.frames,.inl rfl,λb hb=>⟨fC b hb,λx c e=>(f3 b hb).2.2.2.2.1 x c (xJ x c e)⟩,
   I3.bs,fY I3.ok.vW I3.sz,λb o e hb=>?_,λb hb z=>?_,I3.stack,I3.Vj⟩
  .show sc.kind = .function;rw[<-O.rel];exact O.kind
  .exact aeF (x,.free) (O.has x hx) rfl
  .rcases(f3 b hb).2.2.2.1 with z|z
   .exact I3.ok.CD b o e z
   .exact absurd (jo (cW e) (fY I3.ok.vW z)) (lA _)
  .rcases bN.mp (I3.J5 b z)with z|z
   .exact(f3 b hb).2.1 z
   .exact(f3 b hb).2.2.1 z
 have IC:Inv (jM X sc N cl C s3 H3 fp) [] (cst ix σ) H3 s4:=by
  refine⟨okC,o4s,I4.bare,?_,?_,λx c e=>I4.cell x c (xJ x c e),?_,λx c e=>I4.pZ x c (xJ x c e),λp hp=>(nomatch hp),I4.hok,?_⟩
  .rw[PF];exact Un.kept LR
  .refine⟨_,by rw[PF,<-eC];exact auN,λj x v e1 e2 e3=>?_⟩;have e2':(cst ix σ)[j]?=some (some v):=e2;unfold cst at e2';rw[List.getElem?_map]at e2';cases q:ix[j]? with
   |none=>rw[q]at e2';cases e2'
   |some o=>
    rw[q]at e2';cases o with
    |none=>cases e2'
    |some i=>
     obtain⟨hx,hm,hsc⟩:=O.ix j x i e1 q;cases q2:σ[i]? with
     |none=>simp[q2]at e2'
     |some w'=>
      simp[q2]at e2';subst e2';obtain⟨m,hn,hl⟩:=I4.loc;have kf:=O.free (x,.free) hm rfl;have vis:Hj X.env.scope x:=by
       rcases kf with k|k
       .exact .inr (.inl k)
       .exact .inr (.inr k)
      obtain⟨u,r,l⟩:=hl i x v hx q2 vis;refine⟨u,r,?_⟩;rcases l with⟨k,_⟩|⟨_,c,e,z⟩
      .rcases kf with k'|k'
       .rw[k]at k';cases k'
       .rw[k]at k';cases k'
      .obtain⟨c',e'⟩:=aeF (x,.free) hm rfl;have:=xJ x c' e';rw[e]at this;cases this;exact .inr ⟨hsc,c,e',z⟩
  .rw[<-eC];exact I3.fresh
  .show(cst ix σ).length=N.length;rw[O.len];simp[cst]
 have st4:tn 0 s4.heap:=T.keep _ _ _ Yy λb _ o e=>by rw[PF];exact LR b o e
 have stat:∀{H':Hp},(∀b∈fp,H' b=none)->∀b∈fp,oW (jM X sc N cl C s3 H3 fp) [] H' b:=λhn b hb=>
  ⟨hn b hb,fC b hb,okC.Ed b hb,.inl hb,λx c e=>(f3 b hb).2.2.2.2.1 x c (xJ x c e),λp hp=>(nomatch hp)⟩
 obtain⟨hg,ht,he⟩:=hb cl C s3 H3 fp;have loop:codeAny (model X.prog X.w) X.A (.compLoop (.ListComp elt [⟨tg,iter,ifs,0⟩] scope pos) 0 (.ref it) (.ref s2.heap.objs.size) (Vd sc cl C X.env))
   (compPost (model X.prog X.w) X.A X.xe use QQ (.ref s2.heap.objs.size) C) s4:=by
  refine amf (λn s'=>∃i σ' H',Inv (jM X sc N cl C s3 H3 fp) [] σ' H' s'/\tn i s'.heap/\(∀b∈fp,H' b=none)/\W i n σ' H') ?_ m0 ⟨0,cst ix σ,H3,IC,st4,λb hb=>(f3 b hb).1,w0⟩;rintro n s5 ⟨i,σ5,H5,I5,yX,Jj,w5⟩;rcases turn i n σ5 H5 w5 with⟨stop,qn⟩|⟨go,step⟩
  .refine aW (T.done (jM X sc N cl C s3 H3 fp) rfl rfl rfl hc i [] s5 σ5 H5 (λ_ _=>False) I5 (stat Jj) yX stop) λr s6 ⟨hr,I6⟩=>?_;subst hr;obtain⟨m,hn,_⟩:=id I6.loc;have I7:Inv X pins σ H5 s6:=I3.aqh (ch:=fp) I6.os I6.base I6.hok I6.bare λb hb=>⟨(f3 b hb).2.2.2.1,(f3 b hb).2.1,(f3 b hb).2.2.2.2.1,(f3 b hb).2.2.2.2.2⟩;exact fin _ C s6 H5 m I7 hn (I3.pJ (RJ eC) I6.free) qn
  .refine aW (T.item (jM X sc N cl C s3 H3 fp) rfl rfl rfl hc i [] s5 σ5 H5 (λ_ _=>False) I5 (stat Jj) yX go) λr s6 ⟨u,hr,h6⟩=>?_;subst hr;refine aW h6 λ_ s7 ⟨x,H7,I7,r7,y7,Uh,fr7⟩=>?_;have I7':=I7.pinned (stat fr7) (T.obj _ _ Uh);have again:∀{σ9:St} {H9:Hp} {s9:Shared} {m':Nat},Inv (jM X sc N cl C s3 H3 fp) ([]++Bg fp s7.heap) σ9 H9 s9->m'<n->W (i+1) m' σ9 H9->
     ∃m,m<n/\∃i σ' H',Inv (jM X sc N cl C s3 H3 fp) [] σ' H' s9/\tn i s9.heap/\(∀b∈fp,H' b=none)/\W i m σ' H':=λ{σ9 H9 s9 m'} I9 hm w9=>by
    refine⟨m',hm,i+1,σ9,H9,I9.D9,T.keep _ _ _ Uh λb hb o e=>(I9.pin (b,o) (nJ _ (nJ _ (DG hb e)))).1,λb hb=>?_,w9⟩;obtain⟨o,e,d⟩:=T.obj _ _ Uh b hb;exact(I9.pin (b,o) (nJ _ (nJ _ (DG hb e)))).2.1
   refine aW (hg _ s7 σ5 H7 x u _ I7' r7 (step x H7 y7)) λ_ s8 ⟨σ8,H8,I8,q8⟩=>?_;refine aW (ht _ s8 σ8 H8 _ I8 q8) λb s9 ⟨H9,I9,q9⟩=>?_;cases b with
   |false=>
    rw[if_neg fX]at q9;obtain⟨m',hm,w9⟩:=q9;rw[if_neg fX];exact again I9 hm w9
   |true=>
    rw[if_pos rfl]at q9;rw[if_pos rfl];refine aW (he _ s9 σ8 H9 _ I9 q9) λy s10 ⟨yv,wD,I10,r10,ys,e10,Fi,m',hm,w10⟩=>?_;refine aW (aa3 _ s10 σ8 wD (.ref s2.heap.objs.size) [yv] (.ref s2.heap.objs.size) [y] (λ_ H'=>W (i+1) m' σ8 H') I10 rfl (.cons r10 .nil) ⟨_,ys,yv,rfl,rfl,e10,Fi,w10⟩) λ_ s11 ⟨_,Lf,I11,_,w11⟩=>?_;exact again I11 hm w11
 exact codeAny_compStart_list loop (T.self _ _ _ _ _ st4 loop)
def fZ{X:Cx}{tg iter elt:Expr}{ifs:List Expr}{scope sc:Scope}{pos:Pos}{wi:TI}{g:TG}{tc:TT}{te:TE}{N:List Str}{ix:List (Option Nat)}(O:Gm X scope sc N ix)(hc:X.calm=true)(hi:PI X tg iter wi)
  (hb:∀cl C s₀ H₀ ex,PG (jM X sc N cl C s₀ H₀ ex) tg g/\Ac (jM X sc N cl C s₀ H₀ ex) ifs tc/\PE (jM X sc N cl C s₀ H₀ ex) elt te)
  (hs:∀x,foldedSetIterable iter X.env x=pure x:=by intro _;rfl):PE X (.ListComp elt [⟨tg,iter,ifs,0⟩] scope pos) (N5 ix wi g tc te):=by
 intro pins s σ H Q I h;rw[eval_ListComp];exact ab0 (use:=none) (QQ:=EP X pins σ Q) O hc hi hb hs I h λD C s6 H5 m I7 hn f q=>⟨m,hn,λh' hs'=>⟨.ref D,H5,I7.turned (it:=C) (t':=s6.toks) (λb o hb e=>(hs'.2 b hb).trans e) f.1 f.2.1 f.2.2.2.1 f.2.2.2.2.1 f.2.2.2.2.2,rfl,q⟩⟩
def vN{X:Cx}{i:Nat}{y:Str}{py spos:Pos}{tg iter elt:Expr}{ifs:List Expr}{scope sc:Scope}{pos:Pos}{wi:TI}{g:TG}{tc:TT}{te:TE}{N:List Str}{ix:List (Option Nat)}(hN:X.N.Nodup)(hi':X.N[i]?=some y)(hx:Loc X.env.scope y)
  (O:Gm X scope sc N ix) (hc:X.calm=true) (hi:PI X tg iter wi)
  (hb:∀cl C s₀ H₀ ex,PG (jM X sc N cl C s₀ H₀ ex) tg g/\Ac (jM X sc N cl C s₀ H₀ ex) ifs tc/\PE (jM X sc N cl C s₀ H₀ ex) elt te)
  (hs:∀x,foldedSetIterable iter X.env x=pure x:=by intro _;rfl) (hsw:swapsWith (.ListComp elt [⟨tg,iter,ifs,0⟩] scope pos) (some (.Name y py)) spos.line X.env=pure true:=by rfl)
  (hf:X.fn y=true∨X.env.scope.names.lookup y=some .local:=by first|exact .inl rfl|exact .inr rfl|assumption):
  PS X (.Assign [.Name y py] (.ListComp elt [⟨tg,iter,ifs,0⟩] scope pos) spos) (Fd (N5 ix wi g tc te) (iB i)):=by
 intro pins s σ H D I h;rw[exec_Assign_Name_used _ _ _ _ hsw];refine wpAny_bind (wpAny_standAt (wpAny_bind ?_));show wpAny _ X.A (do let _<-comprehension (.ListComp elt [⟨tg,iter,ifs,0⟩] scope pos) scope X.env _ (newList []) false (eval iter X.env) (some (assign (.Name y py) X.env))) _ _ s
 refine wpAny_bind (wpAny_mono (ab0 (use:=some (assign (.Name y py) X.env)) (QQ:=λ_ s'=>∃σ' H',Inv X pins σ' H' s'/\D.nx σ' H') O hc hi hb hs I h λD1 C s6 H5 m I7 hn f q=>?_) (λ_ s' ⟨σ',H',I',q'⟩=>wpAny_pure (wpAny_pure ⟨σ',H',I',q'⟩)) λ_ _ e=>e);obtain⟨o,es,ep,ho,hc1,hc2⟩:=id hn;have I8:=I7.pinned (fp:=[C]) (λb hb=>by
  have e:b=C:=by simpa using hb
  subst e;exact f) (λb hb=>by
  have e:b=C:=by simpa using hb
  subst e;exact⟨o,ho,λv z=>by first|(rw[hc1.2]at z;cases z)|(rw[hc2.1]at z;cases z)|(rw[hc1]at z;cases z)|(simp_all)⟩)
 show wpAny _ X.A (assign (.Name y py) X.env (.ref D1)) _ _ _;refine wpAny_assign_Name (C6 I8 hN hi' hx (v:= .ref D1) rfl (λs7 I9=>?_) hf);have hC:=(I9.pin (C,o) (nJ _ (nJ _ (DG (by simp) ho)))).1;refine⟨m,⟨o,es,ep,hC,hc1,hc2⟩,λh' hs'=>⟨_,H5,I9.D9.turned (it:=C) (t':=s7.toks) (λb o hb e=>(hs'.2 b hb).trans e) f.1 f.2.1 f.2.2.2.1 f.2.2.2.2.1 f.2.2.2.2.2,q⟩⟩
mutual
inductive mV(K:aG)(H:Hp):V->PyData->Prop
 |non:mV K H .non .none
 |bl (b:Bool):mV K H (.bl b) (.bool b)
 |int (i:Int):mV K H (.int i) (.int i)
 |str (x:Str):mV K H (.str x) (.str x)
 |lst {a:Addr} {xs:List V} {ds:List PyData}:au K H a xs->lK K H xs ds->mV K H (.ref a) (.list ds)
 |tup {a:Addr} {xs:List V} {ds:List PyData}:aA K H a xs->lK K H xs ds->mV K H (.ref a) (.tuple ds)
inductive lK(K:aG)(H:Hp):List V->List PyData->Prop
 |nil:lK K H [] []
 |cons {x:V} {d:PyData} {xs:List V} {ds:List PyData}:mV K H x d->lK K H xs ds->lK K H (x::xs) (d::ds)
end
section
variable {X:Cx} {pins:List (Addr×Obj)} {σ:St} {H:Hp} {s:Shared}
mutual
theorem Inv.reads(I:Inv X pins σ H s):∀{x:V} {d:PyData} {u:Value},mV X.K H x d->RelV x u->∃as,Reads s.heap u d as
 |_,_,_,.non,r=>by cases r;exact⟨_,.none⟩
 |_,_,_,.bl b,r=>by cases r;exact⟨_,.bool b⟩
 |_,_,_,.int i,r=>by obtain⟨t,rfl⟩:=r;exact⟨_,.int i t⟩
 |_,_,_,.str x,r=>by obtain⟨t,rfl⟩:=r;exact⟨_,.str x t⟩
 |_,_,_,.lst hq hs,r=>by
  cases r;obtain⟨its,rv,pl,_⟩:=I.list hq;obtain⟨as,ra⟩:=Inv.readsAll I hs rv;obtain⟨o,ho,hc,n,hd⟩:=pl.isList;exact⟨_,.list ho hc hd (by simpa using ra)⟩
 |_,_,_,.tup hq hs,r=>by
  cases r;obtain⟨its,rv,pl,_⟩:=I.tuple hq;obtain⟨as,ra⟩:=Inv.readsAll I hs rv;obtain⟨o,ho,hc,n,hd⟩:=pl;exact⟨_,.tuple ho hc hd (by simpa using ra)⟩
theorem Inv.readsAll(I:Inv X pins σ H s):∀{xs:List V} {ds:List PyData} {us:List Value},lK X.K H xs ds->Vals xs us->∃as,ReadsAll s.heap us ds as
 |_,_,_,.nil,.nil=>⟨_,.nil⟩
 |_,_,_,.cons h1 h2,.cons r1 r2=>by
  obtain⟨as,a⟩:=Inv.reads I h1 r1;obtain⟨bs,b⟩:=Inv.readsAll I h2 r2;exact⟨_,.cons a b⟩
end
theorem lK.ints{K:aG}{H:Hp}:∀ns:List Int,lK K H (ns.map V.int) (ns.map Ij)
 |[]=> .nil
 |n::r=> .cons (.int n) (lK.ints r)
def rJ(kb:List (Key×V)):List (Key×V)->Bool
 |[]=>true
 |(k,v)::r=>match d7 kb k with
  |none=>false
  |some y=>Qu v y&&rJ kb r
theorem UU{A:Around}{kb:List (Key×V)}{vb:List (Key×Value)}(hb:KV kb vb)(fb:kb.all (λp=>qD p.2)=true):∀{ka:List (Key×V)} {va:List (Key×Value)},KV ka va->ka.all (λp=>qD p.2)=true->
  W.KeqHits A s vb va (rJ kb ka)
 |[],_,.nil,_=> .nil
 |(k,v)::r,(k',v')::r',.cons ⟨e,rv⟩ t,f=>by
  cases (show k=k' from e);rw[List.all_cons,rN]at f;have hv:=KV.val hb k;cases q:d7 kb k with
  |none=>
   have hn:valueAt vb k=none:=kE.none_of (by rw[q]at hv;exact hv);have e2:rJ kb ((k,v)::r)=false:=by simp[rJ,q]
   rw[e2];exact .miss hn
  |some y=>
   rw[q]at hv;obtain⟨u,hu,ru⟩:=kE.some_of hv;have fy:qD y=true:=by
    unfold d7 at q;cases q2:kb.find? (λkv=>decide (kv.1=k))with
    |none=>rw[q2]at q;cases q
    |some p=>
     rw[q2]at q;cases q;exact lZ.mp fb p (List.mem_of_find?_eq_some q2)
   have e2:rJ kb ((k,v)::r)=(Qu v y&&rJ kb r):=by simp[rJ,q]
   rw[e2];exact .hit hu (am4 rv ru f.1 fy) (UU hb fb t f.2)
end
section
variable {X:Cx}
def rE(K:aG)(g:Bool->Bool):R2:=λx y H Q=>match x,y with
 |.int i,.int j=>Q (.bl (g (decide (i=j)))) H
 |.bl i,.bl j=>Q (.bl (g (decide (i=j)))) H
 |.str i,.str j=>Q (.bl (g (decide (i=j)))) H
 |.non,.non=>Q (.bl (g true)) H
 |.ref a,.ref b=>(∃d e,mV K H (.ref a) d/\mV K H (.ref b) e/\SeqAt.shaped d=true/\SeqAt.shaped e=true/\Q (.bl (g (oG d e))) H)∨
   (∃ka kb,H a=some (.dK ka)/\H b=some (.dK kb)/\ka.all (λp=>qD p.2)=true/\kb.all (λp=>qD p.2)=true/\Q (.bl (g (ka.length==kb.length&&rJ kb ka))) H)
 |.non,.ref _=>False
 |.ref _,.non=>False
 |x,y=>Uz x y=true/\Q (.bl (g (decide (x=y)))) H
def amQ{k:Nat}(hr:dU k X.A):cX X (compareOp .Eq) (λx y H Q=>∃d e,mV X.K H x d/\mV X.K H y e/\SeqAt.shaped d=true/\SeqAt.shaped e=true/\Q (.bl (oG d e)) H):=by
 intro pins s σ H x y v u Q I rx ry h;obtain⟨d,e,h1,h2,h3,h4,q⟩:=h;obtain⟨as,ra⟩:=I.reads h1 rx;obtain⟨bs,rb⟩:=I.reads h2 ry;exact eq_dataH ra rb h3 h4 hr.units ⟨.bl _,H,I,rfl,q⟩
def avO{k:Nat}(hr:dU k X.A):cX X (compareOp .NotEq) (λx y H Q=>∃d e,mV X.K H x d/\mV X.K H y e/\SeqAt.shaped d=true/\SeqAt.shaped e=true/\Q (.bl (!oG d e)) H):=by
 intro pins s σ H x y v u Q I rx ry h;obtain⟨d,e,h1,h2,h3,h4,q⟩:=h;obtain⟨as,ra⟩:=I.reads h1 rx;obtain⟨bs,rb⟩:=I.reads h2 ry;exact ne_dataH ra rb h3 h4 hr.units ⟨.bl _,H,I,rfl,q⟩
def axS{k:Nat}(hr:dU k X.A):cX X (compareOp .Eq) (λx y H Q=>∃a b ka kb,x = .ref a/\y = .ref b/\H a=some (.dK ka)/\H b=some (.dK kb)/\ka.all (λp=>qD p.2)=true/\kb.all (λp=>qD p.2)=true/\Q (.bl (ka.length==kb.length&&rJ kb ka)) H):=by
 intro pins s σ H x y v u Q I rx ry h;obtain⟨a,b,ka,kb,rfl,rfl,h1,h2,h3,h4,q⟩:=h;cases rx;cases ry;obtain⟨_,ea,va,ra,da⟩:ka.length<=sizeLine/\(a==sysModules)=false/\∃vs,KV ka vs/\s.heap.DictOf (gY X.prog X.w) a vs:=I.hok a _ h1;obtain⟨_,eb,vb,rb,db⟩:kb.length<=sizeLine/\(b==sysModules)=false/\∃vs,KV kb vs/\s.heap.DictOf (gY X.prog X.w) b vs:=I.hok b _ h2;refine W.keq_eq ea eb da db hr.aeM (λ_=>UU rb h4 ra h3) ⟨.bl _,H,I,?_,q⟩;show _=Value.bool _;rw[Paired.length ra,Paired.length rb]
def ayG{k:Nat}(hr:dU k X.A):cX X (compareOp .NotEq) (λx y H Q=>∃a b ka kb,x = .ref a/\y = .ref b/\H a=some (.dK ka)/\H b=some (.dK kb)/\ka.all (λp=>qD p.2)=true/\kb.all (λp=>qD p.2)=true/\Q (.bl (!(ka.length==kb.length&&rJ kb ka))) H):=by
 intro pins s σ H x y v u Q I rx ry h;obtain⟨a,b,ka,kb,rfl,rfl,h1,h2,h3,h4,q⟩:=h;cases rx;cases ry;obtain⟨_,ea,va,ra,da⟩:ka.length<=sizeLine/\(a==sysModules)=false/\∃vs,KV ka vs/\s.heap.DictOf (gY X.prog X.w) a vs:=I.hok a _ h1;obtain⟨_,eb,vb,rb,db⟩:kb.length<=sizeLine/\(b==sysModules)=false/\∃vs,KV kb vs/\s.heap.DictOf (gY X.prog X.w) b vs:=I.hok b _ h2;refine W.keq_ne ea eb da db hr.aeM (λ_=>UU rb h4 ra h3) ⟨.bl _,H,I,?_,q⟩;show _=Value.bool _;rw[Paired.length ra,Paired.length rb]
def acu{i j:Int}:decide (V.int i=V.int j)=decide (i=j):=by simp
def Yp{i j:Bool}:decide (V.bl i=V.bl j)=decide (i=j):=by simp
def abF{i j:Str}:decide (V.str i=V.str j)=decide (i=j):=by simp
def v_eq{k:Nat}(hr:dU k X.A):cX X (compareOp .Eq) (rE X.K id):=by
 refine(aiR.or ((amQ hr).or (axS hr))).imp λx y H Q h=>?_;unfold rE at h;split at h
 .exact .inl ⟨rfl,by rw[acu];exact h⟩
 .exact .inl ⟨rfl,by rw[Yp];exact h⟩
 .exact .inl ⟨rfl,by rw[abF];exact h⟩
 .exact .inl ⟨rfl,by rw[decide_eq_true rfl];exact h⟩
 .rcases h with⟨d,e,h⟩|⟨ka,kb,h⟩
  .exact .inr (.inl ⟨d,e,h⟩)
  .exact .inr (.inr ⟨_,_,ka,kb,rfl,rfl,h⟩)
 .exact h.elim
 .exact h.elim
 .exact .inl h
def aqm{k:Nat}(hr:dU k X.A):cX X (compareOp .NotEq) (rE X.K not):=by
 refine(auA.or ((avO hr).or (ayG hr))).imp λx y H Q h=>?_;unfold rE at h;split at h
 .exact .inl ⟨rfl,by rw[acu];exact h⟩
 .exact .inl ⟨rfl,by rw[Yp];exact h⟩
 .exact .inl ⟨rfl,by rw[abF];exact h⟩
 .exact .inl ⟨rfl,by rw[decide_eq_true rfl];exact h⟩
 .rcases h with⟨d,e,h⟩|⟨ka,kb,h⟩
  .exact .inr (.inl ⟨d,e,h⟩)
  .exact .inr (.inr ⟨_,_,ka,kb,rfl,rfl,h⟩)
 .exact h.elim
 .exact h.elim
 .exact .inl h
end
end L2
namespace PySem.SeqAt
open AutoSeq1 (wpAny_loadPart')
open MeetsSeq MeetsSeq2 MeetsSeq3 SeqRoads2
section
variable {A:Around} {s:Shared}
end
end PySem.SeqAt
namespace L2
open PySem PySem.Spec PyProof.Rows
section
variable {X:Cx}
end
def boot_abs:bootBuiltins "abs" = some (.builtin "abs"):=by decide +kernel
def boot_sum:bootBuiltins "sum" = some (.builtin "sum"):=by decide +kernel
def boot_max:bootBuiltins "max" = some (.builtin "max"):=by decide +kernel
def boot_tuple:bootBuiltins "tuple" = some (.type "tuple"):=by decide +kernel
def boot_list:bootBuiltins "list" = some (.type "list"):=by decide +kernel
structure Fn(K:aG)(mg:Str->Option Value)(x:Str)(st:Stmt)(ps:List Str):Prop where
 ex:∃(f:Addr) (fd:FuncData),tQ K x x st f fd/\mg x=some (.ref f)/\Binds K fd ps []
def Fn.cal{P:Program}{w:World}{K:aG}{mg:Str->Option Value}{base:Heap}{x:Str}{st:Stmt}{N ps:List Str}{k:Nat}{sp:Sp}(F:Fn K mg x st ps)(S:aZ N ps (aU st))(len:∀vs H Q E,sp vs H Q E->vs.length=ps.length)
  (hbody:∀(f:Addr) (cdv:Value) (A:Around) (outer:List Env) (s:Shared) (H:Hp) (vs:List V) (Q:VK) (E:XK),dU k (A.deeper (envOfC x (aU st) s.heap.objs.size f cdv))->sp vs H Q E->
   ∃t,jK (iw P w K mg base N x (aU st) f cdv A outer s H E).Dp (lF st) t/\t { nx:=λ_ H'=>Q .non H',rt:=Q } (start N vs) H):iQ P w K mg base x (k+1) ps sp:=by
 obtain⟨f,fd,F,m,b⟩:=F.ex;exact⟨f,fd,m,F.kp,b,F.okN S len λcdv A outer s H vs Q E hr h=>hbody f cdv A outer s H vs Q E hr h⟩
def Fn.J4{P:Program}{w:World}{K:aG}{mg:Str->Option Value}{base:Heap}{x:Str}{st:Stmt}{N ps:List Str}{k:Nat}{sp:Sp}(F:Fn K mg x st ps)(S:aZ N ps (aU st))(len:∀vs H Q E,sp vs H Q E->vs.length=ps.length)
  (hbody:∀(f:Addr) (cdv:Value) (A:Around) (outer:List Env) (s:Shared) (H:Hp) (vs:List V) (Q:VK) (E:XK),dU k (A.deeper (envOfC x (aU st) s.heap.objs.size f cdv))->sp vs H Q E->
   ∃t,jK (iw P w K mg base N x (aU st) f cdv A outer s H E) (lF st) t/\t { nx:=λ_ H'=>Q .non H',rt:=Q } (start N vs) H):iQ P w K mg base x (k+1) ps sp:=by
 obtain⟨f,fd,F,m,b⟩:=F.ex;exact⟨f,fd,m,F.kp,b,F.Zh S len λcdv A outer s H vs Q E hr h=>hbody f cdv A outer s H vs Q E hr h⟩
def Same.new{H:Hp}{p:Addr}(h:H p=none)(o:HO):Same H (upd H p o):=λb u q=>by rw[bF (jq q h)];exact q
theorem Same.upd{H H':Hp}{p:Addr}(g:Same H H')(h:H p=none)(o:HO):Same H (L2.upd H' p o):=λb u q=>by rw[bF (jq q h)];exact g b u q
def Same.Hq{K:aG}{H H':Hp}{a:Addr}{xs:List V}(e:Same H H')(h:aA K H a xs):aA K H' a xs:=by
 rcases h with(h|⟨o,h⟩)|h
 .exact .inl (.inl (e _ _ h))
 .exact .inl (.inr ⟨o,e _ _ h⟩)
 .exact .inr h
def mulL{i j:Int}(h1:-(2^64)<i)(h2:i<2^64):IntMulOk i j:= .of_left (intBits_le_64 h1 h2)
def mulR{i j:Int}(h1:-(2^64)<j)(h2:j<2^64):IntMulOk i j:= .of_right (intBits_le_64 h1 h2)
def dN{N:List Str}(h:decide N.Nodup=true:=by kernel_rfl):N.Nodup:=of_decide_eq_true h
abbrev dX(l:List (Str×NameKind)):Scope:={ kind:= .function,names:=l,isGenerator:=false,isCoroutine:=false }
def dY{X:Cx}{scope sc:Scope}{N:List Str}{ix:List (Option Nat)}(sc':relabel scope X.env=sc:=by kernel_rfl)(kind:scope.kind = .function:=by kernel_rfl)(cell:scope.names.all (λy=>y.2 != .cell)=true:=by kernel_rfl)
  (names:scope.names.all (λx=>x.2 != .local||scope.names.lookup x.1==some .local)=true:=by kernel_rfl)
  (free:scope.names.all (λy=>y.2 != .free||(X.env.scope.names.lookup y.1==some .cell||X.env.scope.names.lookup y.1==some .free))=true:=by kernel_rfl)
  (len:N.length=ix.length:=by kernel_rfl)
  (hix:(N.zip ix).all (λp=>match p.2 with
   |none=>true
   |some i=>X.N[i]?==some p.1&&scope.names.any (λy=>y.1==p.1&&y.2== .free)&&(sc.names.lookup p.1==some .cell||sc.names.lookup p.1==some .free))=true:=by kernel_rfl)
  (has:sc.names.all (λy=>(y.2 != .cell&&y.2 != .free)||scope.names.any (λz=>z.1==y.1&&z.2== .free))=true:=by kernel_rfl):Gm X scope sc N ix:=by
 have mem:∀x:Str,scope.names.any (λy=>y.1==x&&y.2== .free)=true->(x,NameKind.free)∈scope.names:=λx h=>by
  obtain⟨y,hy,e⟩:=tX.mp h;rw[rN]at e;obtain⟨a,b⟩:=y;have e1:a=x:=eq_of_beq e.1;have e2:b = .free:=eq_of_beq e.2;subst e1;subst e2;exact hy
 refine⟨sc',kind,λy hy e=>?_,λx hx e=>?_,λy hy e=>?_,len,λj x i h1 h2=>?_,λx hx=>?_⟩
 .have:=lZ.mp cell y hy;rw[e]at this;cases this
 .have:=lZ.mp names x hx;rw[e]at this;simpa using this
 .have:=lZ.mp free y hy;rw[e]at this;simpa[Env.kindOf]using this
 .have hm:(x,some i)∈N.zip ix:=by
   have:(N.zip ix)[j]?=some (x,some i):=by
    rw[List.getElem?_zip_eq_some];exact⟨h1,h2⟩
   exact List.mem_of_getElem? this
  have:=lZ.mp hix _ hm;simp only[rN]at this;obtain⟨⟨a1,a2⟩,a3⟩:=this;refine⟨eq_of_beq a1,mem x a2,?_⟩;rw[vU]at a3;rcases a3 with z|z
  .exact .inl (eq_of_beq z)
  .exact .inr (eq_of_beq z)
 .have hm:∃k,(x,k)∈sc.names/\(k = .cell∨k = .free):=by
   rcases hx with z|z
   .exact⟨_,uL z,.inl rfl⟩
   .exact⟨_,uL z,.inr rfl⟩
  obtain⟨k,hk,e⟩:=hm;have:=lZ.mp has _ hk;rw[vU]at this;rcases this with z|z
  .rcases e with e|e<;>(subst e;simp at z)
  .exact mem x z
structure bw(K:aG)(x:Str)(st:Stmt):Prop where
 ex:∃(f:Addr) (oc:Value) (od:Option Addr) (kV doc pm:Value) (an:Option Addr) (cdv ct:Value) (sl:Array (Option Value)),jk K mainGlobals x=some (some (.ref f))/\
  K.lookup f=some ⟨oc,od,.func (qL x x (pX st) (lF st) (aU st) .none kV doc pm an cdv ct),sl⟩/\C5 K cdv x=true/\Av K (.ref f)=true
def auC{K:aG}{x:Str}{st:Stmt}{f:Addr}{oc:Value}{od:Option Addr}{kV doc pm:Value}{an:Option Addr}{cdv ct:Value}{sl:Array (Option Value)}(a:jk K mainGlobals x=some (some (.ref f)))
  (l:K.lookup f=some ⟨oc,od,.func (qL x x (pX st) (lF st) (aU st) .none kV doc pm an cdv ct),sl⟩) (c:C5 K cdv x=true) (k:Av K (.ref f)=true):bw K x st:=
 ⟨f,oc,od,kV,doc,pm,an,cdv,ct,sl,a,l,c,k⟩
def bw.fn{K:aG}{h:Heap}{mg:Str->Option Value}{x:Str}{st:Stmt}{ps:List Str}(F:bw K x st)(X:K.In h)(G:h.Ns mainGlobals mg)
  (hb:∀(kV doc pm:Value) (an:Option Addr) (cdv ct:Value) (us:List Value),us.length=ps.length->bindArgs (qL x x (pX st) (lF st) (aU st) .none kV doc pm an cdv ct) ⟨us,[]⟩=pure (ps.zip us)):Fn K mg x st ps:=by
 obtain⟨f,oc,od,kV,doc,pm,an,cdv,ct,sl,a,l,c,k⟩:=F.ex;have FF:=agm (st:=st) l c k;exact⟨f,_,FF,uR X G a,FF.binds hb⟩
def bw.bK{K:aG}{h:Heap}{mg:Str->Option Value}{x:Str}{st:Stmt}{ps:List Str}(F:bw K x st)(X:K.In h)(G:h.Ns mainGlobals mg)
  (hb:∀(kV doc pm:Value) (an:Option Addr) (cdv ct:Value) (us:List Value),us.length=ps.length->bindArgs (qL x x (pX st) (lF st) (aU st) .none kV doc pm an cdv ct) ⟨us,[]⟩=pure (ps.zip us):=by
   intro _ _ _ _ _ _ us hl;first
    |(obtain⟨_,rfl⟩:=L2.Wz hl;rfl)
    |(obtain⟨_,_,rfl⟩:=L2.YT hl;rfl)
    |(obtain⟨_,_,_,rfl⟩:=L2.us3 hl;rfl)
    |(obtain⟨_,_,_,_,rfl⟩:=L2.us4 hl;rfl)
    |(obtain rfl:=L2.us0 hl;rfl)
    |(obtain⟨_,_,_,_,_,rfl⟩:=L2.us5 hl;rfl)
    |(obtain⟨_,_,_,_,_,_,rfl⟩:=L2.us6 hl;rfl)):Fn K mg x st ps:=F.fn X G hb
def bH{N P:List Str}{sc:Scope}(kind:sc.kind = .function:=by rfl)(co:sc.isCoroutine=false:=by rfl)(gen:sc.isGenerator=false:=by rfl)(nd:N.Nodup:=by decide +kernel)(pre:N.take P.length=P:=by rfl)
  (par:∀x∈P,sc.names.lookup x=some .local∨sc.names.lookup x=some .cell:=by decide +kernel) (Q8:∀y∈sc.names,y.2≠ .free:=by decide +kernel):aZ N P sc:=⟨kind,co,gen,nd,pre,par,Q8⟩
structure pQ(J:It)(xs:List V)(H1:Hp):Prop where
 go:∀i H',Same H1 H'->i<xs.length->J.go i H'
 jO:∀i H' x H2,Same H1 H'->J.jO i H' x H2->H2=H'/\(i<xs.length->xs[i]?=some x)
 stop:∀i H',Same H1 H'->xs.length<=i->J.stop i H'
def xW{K:aG}{a:Addr}{xs:List V}{H1:Hp}(hq:au K H1 a xs):pQ (nj K a) xs H1:=
 ⟨λi H' g h=>⟨xs,xs[i],g.seq hq,by simp[h]⟩,λi H' x H2 g y=>⟨y.1,λ_=>y.2 xs (g.seq hq)⟩,λi H' g h=>⟨xs,g.seq hq,h⟩⟩
def Sy{K:aG}{a:Addr}{xs:List V}{H1:Hp}(hq:aA K H1 a xs):pQ (Er K a) xs H1:=
 ⟨λi H' g h=>⟨xs,xs[i],g.Hq hq,by simp[h]⟩,λi H' x H2 g y=>⟨y.1,λ_=>y.2 xs (g.Hq hq)⟩,λi H' g h=>⟨xs,g.Hq hq,h⟩⟩
def yK{lo:Int}{n:Nat}{H1:Hp}:pQ (nA lo n) ((eX n).map λi=>V.int (lo+(i:Nat))) H1:=
 ⟨λi H' g h=>show i<n by simpa using h,λi H' x H2 g y=>⟨y.1,λh=>by
  have h':i<n:=by simpa using h
  rw[List.getElem?_map,List.getElem?_range h',y.2];rfl⟩,λi H' g h=>show n<=i by simpa using h⟩
def qT{J:It}{xs:List V}{ix:List (Option Nat)}{tc:TT}{te:TE}{σ:St}{H1:Hp}{Q:VK}(I:pQ J xs H1)(hz:xs.length<=sizeLine){rest:St}(hst:cst ix σ=none::rest)(p:V->Bool)(F:V->V)
  (ht:∀H' x,Same H1 H'->x∈xs->∀k:Bool->Hp->Prop,k (p x) H'->tc (some x::rest) H' k)
  (he:∀H' x,Same H1 H'->x∈xs->p x=true->∀k:VK,k (F x) H'->te (some x::rest) H' k)
  (hQ:∀D,H1 D=none->Q (.ref D) (upd H1 D (.lst ((xs.filter p).map F)))):
  jL ix (iB 0) tc te σ Q J H1:=by
 constructor;intro D hD;refine⟨λi m σ' H'=>m=xs.length-i/\i<=xs.length/\(∃o,σ'=o::rest)/\H'=upd H1 D (.lst (((xs.take i).filter p).map F)),⟨xs.length,by simp,cB _,⟨none,hst⟩,by simp⟩,?_⟩;rintro i m σ' H' ⟨rfl,hi,⟨o,rfl⟩,rfl⟩;have g:Same H1 (upd H1 D (.lst (((xs.take i).filter p).map F))):=Same.new hD _;by_cases hlt:i<xs.length
 .refine .inr ⟨I.go i _ g hlt,λx H2 y=>?_⟩;obtain⟨rfl,hx⟩:=I.jO i _ x H2 g y;have hx:=hx hlt;have hm:x∈xs:=List.mem_of_getElem? hx;have et:xs.take (i+1)=xs.take i++[x]:=by
   rw[qd,hx];rfl
  show tc (some x::rest) _ _;refine ht _ x g hm _ ?_;cases hp:p x with
  |true=>
   rw[if_pos rfl];refine he _ x g hm hp _ ⟨_,aC,?_,xs.length-(i+1),⋯,rfl,hlt,⟨_,rfl⟩,?_⟩
   .have h1:(((xs.take i).filter p).map F).length<=i:=by
     rw[aB];exact fY (OB _ _) (by rw[jd];omega)
    omega
   .rw[axH,et,CP,fW];simp[hp]
  |false=>
   rw[if_neg fX];refine⟨xs.length-(i+1),⋯,rfl,hlt,⟨_,rfl⟩,?_⟩;rw[et,CP];simp[hp]
 .have e:i=xs.length:=⋯;subst e;refine .inl ⟨I.stop _ _ g (aN _),?_⟩;rw[lY];exact hQ D hD
def Ht{J:It}{xs:List V}{g:TG}{tb:TS}{D:Ends}{σ:St}{H:Hp}(I:pQ J xs H)(Pv:Nat->St->Hp->Prop)(h0:Pv 0 σ H)(hsame:∀i σ' H',Pv i σ' H'->Same H H')
  (hs:∀i x σ' H',xs[i]?=some x->Pv i σ' H'->g x σ' H' λσ2 H2=>tb { D with nx:=Pv (i+1),ct:=Pv (i+1),bk:=D.nx } σ2 H2) (hd:∀σ' H',Pv xs.length σ' H'->D.nx σ' H'):
  ∃W:Nat->Nat->St->Hp->Prop,(∃m,W 0 m σ H)/\∀i m σ H,W i m σ H->
   (J.stop i H/\D.nx σ H)∨(J.go i H/\∃N:St->Hp->Prop,(∀σ' H',N σ' H'->∃m',m'<m/\W (i+1) m' σ' H')/\∀x H',J.jO i H x H'->g x σ H' λσ2 H2=>tb { D with nx:=N,ct:=N,bk:=D.nx } σ2 H2):=by
 refine⟨λi m σ' H'=>m=xs.length-i/\i<=xs.length/\Pv i σ' H',⟨xs.length,by simp,cB _,h0⟩,?_⟩;rintro i m σ' H' ⟨rfl,hi,p⟩;have gs:=hsame i σ' H' p;by_cases hlt:i<xs.length
 .refine .inr ⟨I.go i _ gs hlt,Pv (i+1),λσ2 H2 p'=>⟨xs.length-(i+1),⋯,rfl,hlt,p'⟩,λx H2 y=>?_⟩;obtain⟨rfl,hx⟩:=I.jO i _ x H2 gs y;exact hs i x σ' _ (hx hlt) p
 .have e:i=xs.length:=⋯;subst e;exact .inl ⟨I.stop _ _ gs (aN _),hd σ' H' p⟩
structure Bar(t:TE)(σ:St)(H:Hp)(Q:VK):Prop where
 go:t σ H Q
def aod(t:TE):TE:=λσ H Q=>Bar t σ H Q
def Bar.by{t:TE}{σ:St}{H:Hp}{Q:VK}(R:V->Hp->Prop)(h:∀k:VK,(∀v H1,R v H1->k v H1)->t σ H k)(q:∀v H1,R v H1->Q v H1):Bar t σ H Q:=⟨h Q q⟩
def anf{X:Cx}{e:Expr}{t:TE}(h:PE X e t):PE X e (aod t):=λpins s σ H Q I q=>h pins s σ H Q I q.go
structure rF(t:TS)(D:Ends)(σ:St)(H:Hp):Prop where
 go:t D σ H
def anl(t:TS):TS:=λD σ H=>rF t D σ H
def sY{X:Cx}{st:Stmt}{t:TS}(h:PS X st t):PS X st (anl t):=λpins s σ H D I q=>h pins s σ H D I q.go
theorem rF.by{t:TS}{D:Ends}{σ:St}{H:Hp}(R:St->Hp->Prop)(h:∀N:St->Hp->Prop,(∀σ' H',R σ' H'->N σ' H')->t { D with nx:=N } σ H)(q:∀σ' H',R σ' H'->D.nx σ' H'):rF t D σ H:=by
 constructor;exact h D.nx q
end L2
namespace HT
open PySem PyProof.Rows
section
variable {prog:Program} {w:World} {A:Around} {E:Value->Shared->Prop} {s:Shared}
def aue{t sl:Addr}{items:Array Value}{vl vu:Value}{lo hi:Option Int}{Q:Value->Shared->Prop}(ht:IsTup s.heap t items)(hs:s.heap.IsSliceOf sl vl vu .none)(pl:IsPart vl lo)(pu:IsPart vu hi)
  (hw:bB items.size 0 lo=0/\bB items.size items.size hi=items.size) (h:Q (.ref t) s):wpAny (model prog w) A (getItem (.ref t) (.ref sl)) Q E s:=by
 obtain⟨os,hos,hcs,hds⟩:=id hs;have hTs:s.TypeIs (.ref sl) "slice" := ⟨os,hos,hcs⟩;unfold getItem;try with_reducible refine wpAny_holding ?_
 first|refine wpAny_bind (wpAny_pure ?_)|skip
 refine wpAny_bind (wpAny_sequenceKey ht.typeIs ∅ ?_);refine wpAny_bind (wpAny_callSpecial?_slot (name:=Str.ofString "__getitem__") ht.typeIs Ar
  (wpAny_call_entry Ar ht.typeIs entry_tuple_getitem ?_ (args_tuple_getitem _ _)))
 show wpAny _ _ (Builtin.Tuple.tupleItemsOf (.ref t)>>=_) _ _ s;refine wpAny_bind (tupleItemsOf_ ht ?_);refine wpAny_bind (wpAny_typeOf hTs ?_);rw[if_pos ∅];refine wpAny_bind (Y5 hs pl pu ?_);have hyes:(((bB items.size 0 lo:Nat):Int)==0&&(1:Int)==1&&(bB items.size items.size hi-bB items.size 0 lo)==items.size)=true:=by
  rw[hw.1,hw.2];simp
 show wpAny _ _ (if(((bB items.size 0 lo:Nat):Int)==0&&(1:Int)==1&&(bB items.size items.size hi-bB items.size 0 lo)==items.size)=true then _ else _) _ _ s;rw[if_pos hyes];unfold Builtin.Tuple.tupleIsExact;refine wpAny_bind (wpAny_bind (wpAny_typeOf ht.typeIs (wpAny_pure ?_)));rw[if_pos ∅];exact wpAny_bind (wpAny_rule (wpAny_pure ⟨_,rfl,wpAny_pure h⟩))
end
end HT
namespace L2
open PySem PySem.Spec PyProof.Rows
section
variable {X:Cx}
def aja:oh X (λx lo hi H Q=>∃a xs,x = .ref a/\aA X.K H a xs/\(HT.bB xs.length 0 lo=0/\HT.bB xs.length xs.length hi=xs.length)/\Q (.ref a) H):=by
 intro pins s σ H x v vl vu lo hi sl Q I rx hs pl pu h;obtain⟨a,xs,rfl,hx,hw,q⟩:=h;cases rx;obtain⟨its,r,ht,hz⟩:=I.tuple hx;have hlen:its.toArray.size=xs.length:=by rw[eU];exact r.length.symm
 refine⟨"tuple",_,Ar.lookup,ht.typeIs,?_⟩;exact HT.aue ht hs pl pu (by rw[hlen];exact hw) ⟨.ref a,H,I,rfl,q⟩
end
def boot_zip:bootBuiltins "zip" = some (.type "zip"):=by decide +kernel
section
variable {X:Cx} (K:aG)
def oh.imp{r r':V->Option Int->Option Int->Hp->VK->Prop}(h:oh X r)(i:∀x lo hi H Q,r' x lo hi H Q->r x lo hi H Q):oh X r':=λpins s σ H x v vl vu lo hi sl Q I rx hs pl pu q=>h pins s σ H x v vl vu lo hi sl Q I rx hs pl pu (i _ _ _ _ _ q)
def aiC(hK:X.K=K:=by rfl):cX X (binaryOp .Add) (Ks K):=by subst hK;exact v_add
def xix(hK:X.K=K:=by rfl):mF X (Gi K):=by subst hK;exact ao8
def jm{k:Nat}(hr:dU k X.A)(hK:X.K=K:=by rfl):cX X (compareOp .Eq) (rE K id):=by subst hK;exact v_eq hr
def nT{k:Nat}(hr:dU k X.A)(hK:X.K=K:=by rfl):cX X (compareOp .NotEq) (rE K not):=by subst hK;exact aqm hr
def aj1(hK:X.K=K:=by rfl):kj X (.builtin "len") (λxs H Q=>∃x n,xs=[x]/\Q9 K x H n/\Q (.int n) H):=by subst hK;exact alK
def Rq(hc:X.calm=true)(hK:X.K=K:=by rfl):kj X (.builtin "sum") (λxs H Q=>∃(l:Addr) (ns:List Int),xs=[.ref l]/\au K H l (ns.map V.int)/\Q (.int ns.sum) H):=by subst hK;exact v_sum hc
def xlist(hK:X.K=K:=by rfl):kj X (.type "list") (λxs H Q=>∃p ys,xs=[.ref p]/\(au K H p ys∨aA K H p ys)/\∀l,H l=none->Q (.ref l) (upd H l (.lst ys))):=by subst hK;exact atd
def pq(hK:X.K=K:=by rfl):kj X (.type "tuple") (λxs H Q=>∃p ys,xs=[.ref p]/\((au K H p ys/\∀l,H l=none->Q (.ref l) (upd H l (.tup ys)))∨(aA K H p ys/\Q (.ref p) H))):=by subst hK;exact ajj
def ac0(K:aG):V->Option Int->Option Int->Hp->VK->Prop:=λx lo hi H Q=>match x with
 |.ref a=>(∃xs,au K H a xs/\∀p,H p=none->Q (.ref p) (upd H p (.lst (iT xs lo hi))))∨
   (∃xs,aA K H a xs/\¬(HT.bB xs.length 0 lo=0/\HT.bB xs.length xs.length hi=xs.length)/\∀p,H p=none->Q (.ref p) (upd H p (.tup (iT xs lo hi))))∨
   (∃xs,aA K H a xs/\(HT.bB xs.length 0 lo=0/\HT.bB xs.length xs.length hi=xs.length)/\Q (.ref a) H)
 |_=>False
def wU(hK:X.K=K:=by rfl):oh X (ac0 K):=by
 subst hK;refine(awg.or (ayz.or aja)).imp λx lo hi H Q h=>?_;unfold ac0 at h;split at h
 .rcases h with⟨xs,h⟩|⟨xs,h⟩|⟨xs,h⟩
  .exact .inl ⟨_,xs,rfl,h⟩
  .exact .inr (.inl ⟨_,xs,rfl,h⟩)
  .exact .inr (.inr ⟨_,xs,rfl,h⟩)
 .exact h.elim
def fD{tg l:Expr}{tl:TE}(hl:PE X l tl)(hK:X.K=K:=by rfl):PI X tg l (abz K tl):=by subst hK;exact ayR hl
def CK{es:List Expr}{k:Nat}{t:sW}{n:Nat}{pos:Pos}(hc:X.calm=true)(h:zG X es t)(hK:X.K=K:=by rfl)
  (hn:(assignEach es X.env).length=n:=by rfl) (hst:(assignEach es X.env).findIdx? (·.1)=none:=by rfl):PG X (.Tuple es k pos) (KN K n t):=by subst hK;exact apT hc h hn hst
def ud{o e:Expr}{to:TE}{te:TE}{apos cpos:Pos}(ho:PE X o to)(he:PE X e te)(hK:X.K=K:=by rfl)
  (hbase:attributeBase o "append" X.env (eval o X.env)=eval o X.env:=by rfl)
  (hfew:((backTo cpos (starEach [e] X.env)).all (λx=>!x.1)&&(backToKw cpos (keywordEach [] X.env)).all (λx=>x.1.isSome)
   && decide ([e].length+([]:List Keyword).length+(if([]:List Keyword).isEmpty then 0 else 1)<30))=true:=by rfl)
  (hline:(apos.endLine==cpos.line)=true:=by rfl) (hs:starEach [e] X.env=(false,eval e X.env)::starEach [] X.env:=by rfl):
  PE X (.Call (.Attribute o "append" apos) [e] [] cpos) (Qz K "list" ad5 to (uo te Lw)):=by
 subst hK;exact aay Rb PySem.F.slot_list_append PySem.F.type_list_append aa3 ho (aL he aj hs) hbase hfew hline hs rfl
def aj0{o:Expr}{to:TE}{apos cpos:Pos}(ho:PE X o to)(hK:X.K=K:=by rfl)(hbase:attributeBase o "pop" X.env (eval o X.env)=eval o X.env:=by rfl)(hline:(apos.endLine==cpos.line)=true:=by rfl):
  PE X (.Call (.Attribute o "pop" apos) [] [] cpos) (WB K "list" XJ to):=by
 subst hK;exact ajn Rb PySem.F.slot_list_pop PySem.F.type_list_pop ajh ho hbase hline
def amJ{o e:Expr}{to:TE}{te:TE}{apos cpos:Pos}(ho:PE X o to)(he:PE X e te)(hK:X.K=K:=by rfl)
  (hbase:attributeBase o "extend" X.env (eval o X.env)=eval o X.env:=by rfl)
  (hfew:((backTo cpos (starEach [e] X.env)).all (λx=>!x.1)&&(backToKw cpos (keywordEach [] X.env)).all (λx=>x.1.isSome)
   && decide ([e].length+([]:List Keyword).length+(if([]:List Keyword).isEmpty then 0 else 1)<30))=true:=by rfl)
  (hline:(apos.endLine==cpos.line)=true:=by rfl) (hs:starEach [e] X.env=(false,eval e X.env)::starEach [] X.env:=by rfl):
  PE X (.Call (.Attribute o "extend" apos) [e] [] cpos) (Qz K "list" aaq to (uo te Lw)):=by
 subst hK;exact aay Rb PySem.F.slot_list_extend PySem.F.type_list_extend av4 ho (aL he aj hs) hbase hfew hline hs rfl
end
section
variable {X:Cx} {es:List Expr} {te:TE} {t:TA}
def eY{c:Const}{j}{p:Pos}(h:PE X (.Constant c j p) te)(hr:PA X es t):PA X ((.Constant c j p)::es) (uo te t):=aL h hr rfl
def ak{x:Str}{p:Pos}(h:PE X (.Name x p) te)(hr:PA X es t):PA X ((.Name x p)::es) (uo te t):=aL h hr rfl
def ayS{as:List Expr}{p:Pos}(h:PE X (.List as p) te)(hr:PA X es t):PA X ((.List as p)::es) (uo te t):=aL h hr rfl
def Dj{as:List Expr}{j}{p:Pos}(h:PE X (.Tuple as j p) te)(hr:PA X es t):PA X ((.Tuple as j p)::es) (uo te t):=aL h hr rfl
def fH{a:Expr}{o:Operator}{b:Expr}{p:Pos}(h:PE X (.BinOp a o b p) te)(hr:PA X es t):PA X ((.BinOp a o b p)::es) (uo te t):=aL h hr rfl
def ab5{o:UnaryOp}{a:Expr}{p:Pos}(h:PE X (.UnaryOp o a p) te)(hr:PA X es t):PA X ((.UnaryOp o a p)::es) (uo te t):=aL h hr rfl
end
section
variable {X:Cx} {pins:List (Addr×Obj)} {σ:St} {H:Hp} {s:Shared}
end
structure WD(K:aG)(C:Addr):Prop where
 ga:sU K (.ref C) "__getattribute__" = some (some (.builtin "BaseException.__getattribute__"))
 gt:sU K (.ref C) "__getattr__" = some none
 cl:sU K (.ref C) "__class__" = some (some (.builtin "object.__class__"))
 mb:zF K C (.type "BaseException")=some true
 mo:zF K C (.type "object")=some true
 is:(W.clsIn K C).isSome=true
section
variable {prog:Program} {w:World} {A:Around} {E:Value->Shared->Prop} {h:Heap} {g:Array GenState} {d:Drawn} {t:Nat} {os:OsState} {a C:Addr} {o:Obj} {K:aG}
end
def agG{K:aG}{h:Heap}{mg:Str->Option Value}{x:Str}{C:Addr}{newId inN Bn:String}{bmN:List Value}(X:K.In h)(G:h.Ns mainGlobals mg)(e:jk K mainGlobals x=some (some (.ref C)))
  (q:IW K C [.type "ValueError",.type "Exception",.type "BaseException",.type "object"] newId=true) (Fn:ExcBaseFacts Bn newId inN bmN)
  (hBn:[Value.type "ValueError",.type "Exception",.type "BaseException",.type "object"].contains (.type Bn)=true):Ku mg h x C:=by
 refine⟨_,newId,⟨uR X G e,?_⟩,Bn,inN,bmN,_,_,_,Fn,hBn,SG⟩;unfold IW at q;split at q
 .rename_i dd cd sl ho
  split at q
  .rename_i C' bm k0 k1 k2 k3 n k5 hm hs
   simp only[rN,beq_iff_eq,Bool.not_eq_true']at q;obtain⟨⟨⟨⟨⟨rfl,rfl⟩,hdel⟩,ht⟩,hok⟩,hni⟩:=q;obtain⟨nm,bs,mro,ns,qn,hdc,sn,sub,ab,col,del⟩:=cd;dsimp only at hm hdel hok hni;subst hm;subst hdel;have hsl:sl=#[k0,k1,k2,k3,some (.builtin n),k5]:=by
    obtain⟨l⟩:=sl;simp only at hs;rw[hs]
   subst hsl;exact⟨bm,ns,nm,qn,bs,hdc,sn,sub,ab,col,dd,k0,k1,k2,k3,k5,_,X _ _ ho,.of_isNs (W.isNs_of_in X hok),W.nsMap_none_of_in X hok hni,W.tail_of_in X ht⟩
  .cases q
 .cases q
section
variable {X:Cx} {a:Expr} {ta:TE}
end
end L2
namespace L2
open PySem
theorem Ei:∀ns:List Int,DM (ns.map Ij)=true
 |[]=>rfl
 |n::r=>by
  have:=Ei r;simp[DM,CN,this]
theorem HW:∀ns:List Int,wK (ns.map Ij)<=1
 |[]=>by simp[wK]
 |n::r=>by
  have:=HW r;simp[wK,Dt];omega
def aeI(ns:List Int):SeqAt.shaped (.list (ns.map .int))=true:=by
 have h1:=Ei ns;have h2:=HW ns;simp only[SeqAt.shaped,CN,Dt,h1,SQ];exact decide_eq_true ⋯
def acA(ns:List Int):SeqAt.shaped (.tuple (ns.map .int))=true:=by
 have h1:=Ei ns;have h2:=HW ns;simp only[SeqAt.shaped,CN,Dt,h1,SQ];exact decide_eq_true ⋯
def agT(ns ms:List Int):oG (.list (ns.map .int)) (.list (ms.map .int))=decide (ns=ms):=by
 rw[oG];exact W.ked_eqvAll ns ms
def ahg(ns ms:List Int):oG (.tuple (ns.map .int)) (.tuple (ms.map .int))=decide (ns=ms):=by
 rw[oG];exact W.ked_eqvAll ns ms
def aea{K:aG}{g:Bool->Bool}{H:Hp}{a b:Addr}{ns ms:List Int}{Q:VK}(ha:au K H a (ns.map V.int))(hb:au K H b (ms.map V.int))(q:Q (.bl (g (decide (ns=ms)))) H):rE K g (.ref a) (.ref b) H Q:=
 .inl ⟨_,_,.lst ha (lK.ints ns),.lst hb (lK.ints ms),aeI ns,aeI ms,by rw[agT];exact q⟩
def Hr{K:aG}{g:Bool->Bool}{H:Hp}{a b:Addr}{ns ms:List Int}{Q:VK}(ha:aA K H a (ns.map V.int))(hb:aA K H b (ms.map V.int))(q:Q (.bl (g (decide (ns=ms)))) H):rE K g (.ref a) (.ref b) H Q:=
 .inl ⟨_,_,.tup ha (lK.ints ns),.tup hb (lK.ints ms),acA ns,acA ms,by rw[ahg];exact q⟩
end L2
set_option maxHeartbeats 4000000
namespace L2
open PySem PySem.Spec PyProof.Rows
def Af(lo:Int)(n:Nat):It:=⟨λi _=>i<n,λi H x H'=>H'=H/\x = .int (lo-i),λi _=>n<=i⟩
def wR{P:Program}{w:World}{K:aG}{tg:Expr}(it:Addr)(lo:Int)(n:Nat):Turn P w K tg (Af lo n) [it] it (λi h=>IsRangeIter h it (lo+(i:Nat)*(-1)) ((n:Int)-(i:Nat)) (-1)) where
 mem:=by simp
 obj:=λi h st b hb=>by
  have e:b=it:=by simpa using hb
  subst e;exact⟨_,st,λv z=>by
   have z':Data.fields _=Data.cell v:=z;cases z'⟩
 keep:=λi h h' st k=>k it (by simp) _ st
 item:=by
  intro X hP hw hK hc i pins s σ H E I hf st hg;subst hP hw hK;obtain⟨f0,f1,f2,f3,f4,f5⟩:=hf it (by simp);have W:=Walks.range (prog:=X.prog) (w:=X.w) (I.ok.hd hc) it lo (-1) n;refine W.item i s _ _ hg st λv h' tk hv st' kk=>?_;obtain⟨t,rfl⟩:=hv;have I1:Inv X pins σ H { s with heap:=h',toks:=tk }:=I.turned (λb o hb e=>kk b o (by simpa using hb) e) f0 f1 f3 f4 f5;refine⟨_,rfl,zy (s:={ s with heap:=h',toks:=tk }) (n:= "range_iterator") st' rfl rfl ∅ ⟨.int (lo-i),H,I1,⟨t,?_⟩,⟨rfl,rfl⟩,st',λb hb=>(hf b hb).1⟩⟩;rw[Int.mul_neg_one];rfl
 done:=by
  intro X hP hw hK hc i pins s σ H E I hf st hg;subst hP hw hK;obtain⟨f0,f1,f2,f3,f4,f5⟩:=hf it (by simp);exact wpAny_pyNext_range_end (I.ok.hd hc) st (by have:n<=i:=hg;omega) λh' eb=>⟨rfl,I.turned (t':=s.toks) (λb o hb e=>eb b o hb e) f0 f1 f3 f4 f5⟩
 self:=λ_ _ _ _ _ st h=>wpAny_pyIter_rangeiter st h
def rangeSize_down(a b:Int):Builtin.Range.rangeSize a b (-1)=if b<a then a-b else 0:=by
 unfold Builtin.Range.rangeSize;simp only[show ¬(-1:Int)>0 by decide,if_false,wZ,abC];split<;>omega
def small_down{a b:Int}(ha:-(2^62)<=a)(ha':a<2^62)(hb:-(2^62)<=b)(hb':b<2^62):Builtin.Range.small a b (-1)=true:=by
 unfold Builtin.Range.small;rw[rangeSize_down];simp only[Builtin.Range.rangeFitsLong,rN,vU,decide_eq_true_eq,beq_iff_eq,show ¬(-1:Int)>0 by decide,if_false];split<;>omega
section
variable {X:Cx} {tg:Expr}
def avp{pins:List (Addr×Obj)}{σ:St}{H:Hp}{s:Shared}{R:It->Hp->Prop}{E:Value->Shared->Prop}{lo hi:Int}{t u v:Tok}{tk:Nat}(I:Inv X pins σ H s)(h1:-(2^62)<=lo)(h2:lo<2^62)(h3:-(2^62)<=hi)(h4:hi<2^62)
  (q:R (Af lo (lo-hi).toNat) H):wpAny (model X.prog X.w) X.A (pyIter (.ref s.heap.objs.size)) (MS X pins σ tg R) E { s with heap:=s.heap.push { cls:= .type "range",data:= .fields #[.int lo t,.int hi u,.int (-1) v] },toks:=tk }:=by
 refine wpAny_pyIter_range (IsRange.new ..) (small_down h1 h2 h3 h4) ?_;have I1:Inv X pins σ H { s with heap:=s.heap.push { cls:= .type "range",data:= .fields #[.int lo t,.int hi u,.int (-1) v] },toks:=tk }:=I.kept λb o e=>Heap.get?_push_of_some _ e;refine⟨(s.heap.push { cls:= .type "range",data:= .fields #[.int lo t,.int hi u,.int (-1) v] }).objs.size,[(s.heap.push { cls:= .type "range",data:= .fields #[.int lo t,.int hi u,.int (-1) v] }).objs.size],_,_,H,rfl,
  I1.kept (t':=tk) λb o e=>Heap.get?_push_of_some _ e,wR _ lo (lo-hi).toNat,?_,λb hb=>?_,q⟩
 .have e1:lo+((0:Nat):Int)*(-1)=lo:=by simp
  have e2:(((lo-hi).toNat:Nat):Int)-((0:Nat):Int)=Builtin.Range.rangeSize lo hi (-1):=by rw[rangeSize_down];split<;>omega
  show IsRangeIter _ _ (lo+((0:Nat):Int)*(-1)) ((((lo-hi).toNat:Nat):Int)-((0:Nat):Int)) (-1);rw[e1,e2];exact Heap.get?_push_size _ rfl
 .have e:b=(s.heap.push { cls:= .type "range",data:= .fields #[.int lo t,.int hi u,.int (-1) v] }).objs.size:=by simpa using hb
  subst e;exact I1.pJ (aN _) (I1.hok.fresh (aN _))
def aso(ta:TA):TI:=λσ H R=>ta σ H λvs H1=>∃i j:Int,vs=[.int i,.int j,.int (-1)]/\(-(2^62)<=i/\i<2^62/\-(2^62)<=j/\j<2^62)/\R (Af i (i-j).toNat) H1
def an2{a b c:Expr}{ta:TA}{p pos:Pos}(hg:Gl X "range")(hm:X.mg "range" = none)(ha:PA X [a,b,c] ta)(hs:starEach [a,b,c] X.env=(false,eval a X.env)::starEach [b,c] X.env:=by rfl)(hs2:(backTo pos (starEach [b,c] X.env)).any (·.1)=false:=by rfl):
  PI X tg (.Call (.Name "range" p) [a,b,c] [] pos) (aso ta):=by
 intro pins s σ H R I h;refine Call_ (sH I hg hm boot_range (u6 (aW (ha pos pins s σ H _ I h) λus s1 ⟨vs,H1,I1,r1,q1⟩=>?_) hs hs2));obtain⟨i,j,e,⟨q1,q2,q3,q4⟩,q⟩:=q1;subst e;cases r1 with
 |cons r rr=>
  cases rr with
  |cons r' rr=>
   cases rr with
   |cons r'' rr=>
    cases rr;obtain⟨t,rfl⟩:=r;obtain⟨t',rfl⟩:=r';obtain⟨t'',rfl⟩:=r'';exact call_range_3 ∅ (avp (tk:=s1.toks) I1 q1 q2 q3 q4 q) (.inl (YX ⋯))
end
def aro{lo:Int}{n:Nat}{g:TG}{tb:TS}{D:Ends}{σ:St}{H:Hp}(Pv:Nat->St->Hp->Prop)(h0:Pv 0 σ H)
  (hs:∀i σ H,i<n->Pv i σ H->g (.int (lo-i)) σ H λσ2 H2=>tb { D with nx:=Pv (i+1),ct:=Pv (i+1),bk:=D.nx } σ2 H2) (hd:∀σ H,Pv n σ H->D.nx σ H):
  ∃W:Nat->Nat->St->Hp->Prop,(∃m,W 0 m σ H)/\∀i m σ H,W i m σ H->
   ((Af lo n).stop i H/\D.nx σ H)∨((Af lo n).go i H/\∃N:St->Hp->Prop,(∀σ' H',N σ' H'->∃m',m'<m/\W (i+1) m' σ' H')/\∀x H',(Af lo n).jO i H x H'->g x σ H' λσ2 H2=>tb { D with nx:=N,ct:=N,bk:=D.nx } σ2 H2):=by
 refine⟨λi m σ H=>m=n-i/\i<=n/\Pv i σ H,⟨n,by simp,cB _,h0⟩,?_⟩;rintro i m σ H ⟨rfl,hi,p⟩;by_cases hlt:i<n
 .refine .inr ⟨hlt,Pv (i+1),λσ' H' p'=>⟨n-(i+1),⋯,rfl,hlt,p'⟩,λx H' y=>?_⟩;obtain⟨e,y⟩:=y;subst e y;exact hs i σ _ hlt p
 .have e:i=n:=⋯;subst e;exact .inl ⟨aN _,hd σ H p⟩
section
variable {X:Cx}
end
def Dn{X:Cx}:cX X (binaryOp .FloorDiv) (rI (λ_ j=>j≠0/\j.natAbs.log2<9000) λi j=> .int (i.fdiv j)):=B3 λ_ _ _ _ _ _ _ hc q=>floordiv_int hc.1 q (.inl (PyProof.noPylong_of_log2 hc.2))
section
variable {X:Cx}
end
section
variable {X:Cx}
def boot_any:bootBuiltins "any" = some (.builtin "any"):=by decide +kernel
def v_any(hc:X.calm=true):kj X (.builtin "any") (λxs H Q=>∃(l:Addr) (bs:List Bool),xs=[.ref l]/\au X.K H l (bs.map V.bl)/\Q (.bl (bs.any id)) H):=by
 intro pins s σ H xs us Q I r h;obtain⟨l,bs,rfl,hl,q⟩:=h;obtain⟨u,rfl,ru⟩:=r.one;cases ru;obtain⟨its,rv,pl,hz⟩:=I.list hl;have eb:=aar rv;subst eb;have hl':=pl.isList;have hlt:l<s.heap.objs.size:=by obtain⟨_,e,_⟩:=hl';exact cW e
 refine call_any_walk (wpAny_pyIter_list hl' ?_);refine⟨s.heap.objs.size,[s.heap.objs.size,l],[s.heap.objs.size],(bs.map Value.bool).toArray.size,_,_,λi=>(bs[i]?).getD false,rfl,Walks.list (A:=X.A.in1) (I.ok.hd hc) _ l (jQ hlt) (bs.map Value.bool).toArray,
  ⟨⟨_,Heap.get?_push_size _ rfl,rfl,rfl⟩,hl'.push _⟩,λi v s' Q' E' hP hQ=>?_,λh' tk hk=>?_⟩
 .have hP':(bs.map Value.bool)[i]?=some v:=by simpa using hP
  rw[List.getElem?_map]at hP';cases e:bs[i]? with
  |none=>rw[e]at hP';cases hP'
  |some b=>
   rw[e]at hP';cases hP';dsimp only at hQ;rw[e]at hQ;exact wpAny_truthy_bool hQ
 .have e2:((eX (bs.map Value.bool).toArray.size).any λi=>(bs[i]?).getD false)=bs.any id:=by
   rw[eU,aB];rw[B4,tX,tX];constructor
   .rintro⟨i,hi,e⟩;have hi':=iV.mp hi;rw[List.getElem?_eq_getElem hi']at e;exact⟨_,wA hi',e⟩
   .rintro⟨x,hx,e⟩;obtain⟨i,hi,e'⟩:=jA.mp hx;exact⟨i,iV.mpr hi,by rw[List.getElem?_eq_getElem hi,e'];exact e⟩
  have fin:EP X pins σ Q (.bool (bs.any id)) { s with heap:=h',toks:=tk }:=⟨.bl _,H,I.kept (an1 hk),rfl,q⟩;first|(rw[e2];exact fin)|(simpa[e2]using fin)
def R3(K:aG)(hc:X.calm=true)(hK:X.K=K:=by rfl):kj X (.builtin "any") (λxs H Q=>∃(l:Addr) (bs:List Bool),xs=[.ref l]/\au K H l (bs.map V.bl)/\Q (.bl (bs.any id)) H):=by subst hK;exact v_any hc
end
def alL:typeLookup (.type "list_reverseiterator") "__len__" = pure none:=by rw[typeLookup_type,builtinLookup_eq_fast];kernel_rfl
def ajV:typeLookup (.type "list_reverseiterator") "__length_hint__" = pure (some (.builtin "list_reverseiterator.__length_hint__")):=by rw[typeLookup_type,builtinLookup_eq_fast];kernel_rfl
def adG:bootBuiltins "reversed" = some (.type "reversed"):=by decide +kernel
section
variable {X:Cx} {pins:List (Addr×Obj)} {σ:St} {H:Hp} {s:Shared} {h':Heap}
def Inv.anK{p:Addr}{o:HO}(I:Inv X pins σ H s)(f:oW X pins H p)(new:dz X.prog X.w (upd H p o) s.heap p o):Inv X pins σ (upd H p o) s:=by
 obtain⟨f0,f1,_,f3,f4,f5⟩:=f;refine I.step (g':=s.gens) (d':=s.drawn) (t':=s.toks) (h':=s.heap) (ch:=[p]) (λb hb=>?_) (λb o _ _ hc e _=>e) (λb o _ _ hc e _=>⟨o.slots,e⟩) (λb _ hc _ n=>?_)
  (λb o hc e=>⟨o,e⟩) (λb xs e=>?_) (λb xs _ e=>?_) (λb ps e=>⟨#[],?_⟩) (λm hm=>hm) (λb u e=>?_) I.bare
 .have e:b=p:=by simpa using hb
  subst e;exact⟨f3,f1,f4,f5⟩
 .rw[bF λz=>hc (by simp[z])];exact n
 .rw[bF (jq e f0)];exact e
 .rw[bF (jq e f0)];exact e
 .rw[bF (jq e f0),e];simp
 .by_cases hb:b=p
  .subst hb;rw[aC]at e;cases e;exact new
  .rw[bF hb]at e;exact(I.hok b u e).stay (λc v _ q=>q) (λc q=>by rw[bF (jq q f0)];exact q) λc xs q=>by rw[bF (jq q f0)];exact q
end
def vM(n i:Nat):Int:=if i<n then((n-1-i:Nat):Int)else -1
def N8(K:aG)(a:Addr)(n:Nat):It:=
 ⟨λi H=>∃xs x,au K H a xs/\i<n/\xs[n-1-i]?=some x,λi H x H'=>H'=H/\∀xs,au K H a xs->xs[n-1-i]?=some x,λi _=>n<=i⟩
def atA{P:Program}{w:World}{K:aG}{tg:Expr}(a it:Addr)(n:Nat):Turn P w K tg (N8 K a n) [it] it (λi h=>h.IsRevIter it a (vM n i)) where
 mem:=by simp
 obj:=λi h st b hb=>by
  have e:b=it:=by simpa using hb
  subst e;obtain⟨o,e,c,d⟩:=st;exact⟨o,e,λv z=>by rw[d]at z;cases z⟩
 keep:=λi h h' st k=>st.at λo e=>k it (by simp) o e
 item:=by
  intro X hP hw hK hc i pins s σ H E I hf st hg;subst hP hw hK;obtain⟨xs,x,hq,hi,hx⟩:=hg;obtain⟨its,rv,p,hz⟩:=I.list hq;obtain⟨u,hu,ru⟩:=rv.get hx;obtain⟨f0,f1,f2,f3,f4,f5⟩:=hf it (by simp);have e:vM n i=((n-1-i:Nat):Int):=if_pos hi;rw[e]at st;refine wpAny_pyNext_rev_item st p.isList (x:=u) (by simpa using hu) λh' st' sb=>?_;have e2:((n-1-i:Nat):Int)-1=vM n (i+1):=by unfold vM;split<;>omega
  rw[e2]at st';have I1:Inv X pins σ H { s with heap:=h' }:=I.turned (t':=s.toks) (λb o hb e=>(sb.2 b hb).trans e) f0 f1 f3 f4 f5;obtain⟨o,e,c,d⟩:=id st';exact⟨u,rfl,zy (s:={ s with heap:=h' }) e c d ∅ ⟨x,H,I1,ru,⟨rfl,λys hy=>by rw[I.QT hy hq];exact hx⟩,st',λb hb=>(hf b hb).1⟩⟩
 done:=by
  intro X hP hw hK hc i pins s σ H E I hf st hg;subst hP hw hK;have hg:n<=i:=hg;obtain⟨f0,f1,f2,f3,f4,f5⟩:=hf it (by simp);have e:vM n i=-1:=if_neg ⋯;rw[e]at st;exact wpAny_pyNext_rev_end (I.ok.hd hc) st λh' eb=>⟨rfl,I.turned (t':=s.toks) (λb o hb e=>eb b o hb e) f0 f1 f3 f4 f5⟩
 self:=λ_ _ _ _ _ st h=>wpAny_pyIter_revIter st h
section
variable {X:Cx}
def at5(K:aG)(ta:TA):TI:=λσ H R=>ta σ H λvs H1=>∃a xs,vs=[.ref a]/\au K H1 a xs/\R (N8 K a xs.length) H1
def agq(K:aG){tg e1:Expr}{ta:TA}{p pos:Pos}(hg:Gl X "reversed")(hm:X.mg "reversed" = none)(ha:PA X [e1] ta)(hK:X.K=K:=by rfl)
  (hs:starEach [e1] X.env=[(false,eval e1 X.env)]:=by rfl):PI X tg (.Call (.Name "reversed" p) [e1] [] pos) (at5 K ta):=by
 subst hK;intro pins s σ H R I h;refine Call_ (sH I hg hm adG (u6 (aW (ha pos pins s σ H _ I h) λus s1 ⟨vs,H1,I1,r1,q1⟩=>?_) hs rfl));obtain⟨a,xs,e,hq,q⟩:=q1;subst e;cases r1 with
 |cons r rr=>
  cases rr;cases r;obtain⟨its,rv,p1,_⟩:=I1.list hq;have hl:=rv.length;refine call_reversed_list p1.isList ?_;have st:(s1.heap.push (revObj a ((its.toArray.size:Int)-1))).IsRevIter s1.heap.objs.size a (vM xs.length 0):=⟨_,Heap.get?_push_size _ rfl,rfl,by
   show Data.fields #[.ref a,rawInt ((its.toArray.size:Int)-1)]=_;have e:(its.toArray.size:Int)-1=vM xs.length 0:=by unfold vM;simp;split<;>omega
   rw[e]⟩
  have I2:Inv X pins σ H1 { s1 with heap:=s1.heap.push (revObj a ((its.toArray.size:Int)-1)) }:=I1.kept (t':=s1.toks) λb o e=>Heap.get?_push_of_some _ e;refine wpAny_pyIter_revIter (s:={ s1 with heap:=s1.heap.push (revObj a ((its.toArray.size:Int)-1)) }) st ⟨_,[s1.heap.objs.size],_,_,H1,rfl,I2,atA a _ _,st,λc hc=>?_,q⟩;have e:c=s1.heap.objs.size:=by simpa using hc
  subst e;exact I1.pJ (aN _) (I1.hok.fresh (aN _))
def adB{K:aG}{a:Addr}{xs:List V}{H1:Hp}(h:au K H1 a xs):pQ (N8 K a xs.length) xs.reverse H1:=by
 refine⟨λi H' g hi=>?_,λi H' x H2 g y=>⟨y.1,λhi=>?_⟩,λi H' g hi=>?_⟩
 .rw[oR]at hi;exact⟨xs,xs[xs.length-1-i]'⋯,g.seq h,hi,List.getElem?_eq_getElem ⋯⟩
 .rw[oR]at hi;rw[List.getElem?_reverse hi];exact y.2 xs (g.seq h)
 .rw[oR]at hi;exact hi
end
section
variable {prog:Program} {w:World} {A:Around} {E:Value->Shared->Prop} {s:Shared} {I:Addr} {fp wr:List Addr} {G:Array GenState->Array GenState->Prop} {n:Nat} {P:Nat->Value->Prop} {St:Nat->Shared->Prop} {R:Result->Shared->Prop}
def ahO(W:WalksS prog w A.in1 I fp wr G n P St)(hT:∀i s,St i s->s.TypeIs (.ref I) "list_reverseiterator")(S:Addr)(c0:Nat)(hst:St 0 s)(hSf:S∉fp)(hI:I∈fp)
  (hS:s.heap.get? S=some { cls:= .type "list",data:= .seq #[] c0 })
  (hR:∀s' acc' c',Moved (S::wr) G s s'->s'.heap.get? S=some { cls:= .type "list",dict:=none,data:= .seq acc' c',slots:=#[] }->ItemsOf P acc' n->R (.ok (.ret .none)) s') (hn:n<=sizeLine):
  wpAny (model prog w) A.in1 (Builtin.List.listExtendWith (.ref S) (.ref I) .none)
   (λfin s'=>match fin with | .done f=>R (.ok f) s' | .again c'=>c'.quiet=true/\codeAny (model prog w) A c' R s') (λe s'=>R (.error e) s') s:=by
 have hSI:S≠I:=λe=>hSf (e▸hI);have h1:Builtin.List.listSameRef (.ref S) (.ref I)=false:=by simp[Builtin.List.listSameRef,hSI]
 unfold Builtin.List.listExtendWith;refine wpAny_bind (wpAny_typeOf (hT 0 _ hst) ?_);rw[if_neg (by rw[h1];decide)];refine wpAny_bind (W.self 0 _ _ _ hst ?_);refine wpAny_bind (wpAny_holding ?_);unfold Builtin.List.listLengthHint;refine wpAny_bind (wpAny_specialOf (hT 0 _ hst) alL ?_);show wpAny _ A.in1 (specialOf (Value.ref I) (Str.ofString "__length_hint__")>>=_) _ _ _;refine wpAny_bind (wpAny_specialOf (hT 0 _ hst) ajV ?_)
 (generalize hid:("list_reverseiterator.__length_hint__" : String)=id0;(fail_if_success (clear hid id0));wp_delta;rw[show splitId id0=some ("list_reverseiterator","__length_hint__")from by subst hid;decide +kernel];subst hid)
 refine wpAny_bind (wpAny_isInstance (b:=true) (hT 0 _ hst) (by rw[isSubtype_type];kernel_rfl) ?_);refine wpAny_pure ?_;rw[if_neg ∅];exact wpAny_pure ⟨plainId_quiet F.plain_extend_loop _,codeAny_extend_loopS W hn _ hSf _ n 0 _ _ _ rfl (cB _) hst hS (ItemsOf.nil P) λs' acc' c' hm hS' hacc=>hR s' acc' c' hm hS' hacc⟩
def aqS(W:WalksS prog w A.in1 I fp wr G n P St)(hT:∀i s,St i s->s.TypeIs (.ref I) "list_reverseiterator")(S:Addr)(hst:St 0 s)(hSf:S∉fp)(hI:I∈fp)
  (hS:s.heap.get? S=some { cls:= .type "list",data:= .seq #[] })
  (hR:∀s' acc' c',Moved (S::wr) G s s'->s'.heap.get? S=some { cls:= .type "list",dict:=none,data:= .seq acc' c',slots:=#[] }->ItemsOf P acc' n->R (.ok (.ret .none)) s') (hn:n<=sizeLine):
  wpAny (model prog w) A.in1 (Builtin.«list.__init__» ⟨[.ref S,.ref I],[]⟩)
   (λfin s'=>match fin with | .done f=>R (.ok f) s' | .again c'=>c'.quiet=true/\codeAny (model prog w) A c' R s') (λe s'=>R (.error e) s') s:=by
 show wpAny _ A.in1 (Builtin.List.listItems (.ref S)>>=λold=>Builtin.List.listUpdate (.ref S) (λ_=>#[])>>=λ_=>letGo old.toList.reverse>>=λ_=>Builtin.List.listExtendWith (.ref S) (.ref I) .none) _ _ s;refine wpAny_bind ?_;unfold Builtin.List.listItems;refine wpAny_bind (wpAny_seqItems hS rfl (wpAny_pure ?_));refine wpAny_bind (wpAny_updateSeq hS rfl ?_);have hS2:=Heap.get?_update_self (j8 (λ_=>(#[]:Array Value))) hS rfl;have oth:∀b o,b≠S->s.heap.get? b=some o->(s.heap.update S (j8 (λ_=>(#[]:Array Value)))).get? b=some o:=
  λb o hb e=>(Heap.get?_update_other _ _ (dF hb)).trans e
 refine wpAny_bind (wpAny_letGo ?_);refine ahO W hT S _ (W.frame 0 s _ s.toks hst (aN _) λb hb o e=>oth b o (λh=>hSf (h▸hb)) e) hSf hI hS2 (λs' acc' c' hm hS' hacc=>?_) hn;exact hR s' acc' c' (Moved.trans W.gtrans ((Moved.refl W.grefl).then_heap (aN _) λb o hb e=>oth b o (λh=>hb (h▸cV)) e) hm) hS' hacc
def amB{Q:Value->Shared->Prop}(W:WalksS prog w A.in1.in1 I fp wr G n P St)(hT:∀i s,St i s->s.TypeIs (.ref I) "list_reverseiterator")(hst:St 0 s)(hfp:∀b∈fp,b<s.heap.objs.size)(hI:I∈fp)
  (hQ:∀s' acc' c',Moved (s.heap.objs.size::wr) G { s with heap:=s.heap.push { cls:= .type "list",data:= .seq #[] } } s'->
   s'.heap.get? s.heap.objs.size=some { cls:= .type "list",dict:=none,data:= .seq acc' c',slots:=#[] }->ItemsOf P acc' n->Q (.ref s.heap.objs.size) s') (hn:n<=sizeLine):
  wpAny (model prog w) A (call (.type "list") [.ref I]) Q E s:=by
 have hSf:s.heap.objs.size∉fp:=λhm=>lA _ (hfp _ hm);refine callType_codes (Q₁:=λobj s₁=>obj = .ref s.heap.objs.size/\s₁={ s with heap:=s.heap.push { cls:= .type "list",data:= .seq #[] } }) F.called_list (F.typeCall_list_1 _) F.entry_list_init
  (code_list_new _ ⟨rfl,rfl⟩) λobj s₁ h₁=>?_
 obtain⟨rfl,rfl⟩:=h₁;have hS:(s.heap.push { cls:= .type "list",data:= .seq #[] }).get? s.heap.objs.size=some { cls:= .type "list",data:= .seq #[] }:=Heap.get?_push_size _ rfl;refine⟨⟨_,hS,rfl⟩,F.args_list_init_2 _ _,aqS W hT _ (W.frame 0 s _ s.toks hst (aN _) λb _ o e=>Heap.get?_push_of_some _ e) hSf hI hS (λs' acc' c' hm hS' hacc=>?_) hn⟩;exact⟨rfl,hQ s' acc' c' hm hS' hacc⟩
end
section
variable {X:Cx}
def axj(te:TA):TE:=λσ H Q=>te σ H λvs H1=>∃(l:Addr) (xs:List V),vs=[.ref l]/\H1 l=some (.lst xs)/\∀l',H1 l'=none->Q (.ref l') (upd H1 l' (.lst xs.reverse))
def ajC{a:Expr}{ta:TA}{p p2 pos pos2:Pos}(hc:X.calm=true)(hg:Gl X "list")(hm:X.mg "list" = none)(hg2:Gl X "reversed")(hm2:X.mg "reversed" = none)(ha:PA X [a] ta)
  (hs2:starEach [a] X.env=[(false,eval a X.env)]:=by rfl)
  (hs:starEach [.Call (.Name "reversed" p2) [a] [] pos2] X.env=[(false,eval (.Call (.Name "reversed" p2) [a] [] pos2) X.env)]:=by rfl):
  PE X (.Call (.Name "list" p) [.Call (.Name "reversed" p2) [a] [] pos2] [] pos) (axj ta):=by
 intro pins s σ H Q I h;refine wpAny_Call_Name_kw (sH I hg hm boot_list ?_ ∅ ∅);refine u6 ?_ hs rfl;rw[hs];show wpAny _ _ (spliced ((false,eval (.Call (.Name "reversed" p2) [a] [] pos2) X.env)::backTo pos [])) _ _ s;refine Jf ?_;refine Call_ (sH I hg2 hm2 adG (u6 (aW (ha pos2 pins s σ H _ I h) λus s1 ⟨vs,H1,I1,r1,q1⟩=>?_) hs2 rfl));obtain⟨l,xs,e,hl,q⟩:=q1;subst e;cases r1 with
 |cons r rr=>
  cases rr;cases r;obtain⟨z,its,nn,rv,hlen,eo⟩:=I1.sS hl;have hil:s1.heap.IsList l its.toArray:=⟨_,eo,rfl,_,rfl⟩;refine call_reversed_list hil ?_;refine Vv ?_;have hln:l≠s1.heap.objs.size:=λe=>absurd (cW eo) (by rw[e];exact lA _);have hh:=I1.ok.hd hc;have hle:its.toArray.size=xs.length:=by have:=rv.length;simp;omega
  have key:(s1.heap.push (revObj l ((its.toArray.size:Int)-1))).IsRevIter s1.heap.objs.size l ((its.toArray.size:Int)-1-((0:Nat):Int)):=⟨_,Heap.get?_push_size _ rfl,rfl,by simp[revObj]⟩;have W:=(Walks.listRev (prog:=X.prog) (w:=X.w) (A:=X.A.in1.in1) hh s1.heap.objs.size l hln its.toArray).toS;have hsz2:(s1.heap.push (revObj l ((its.toArray.size:Int)-1))).objs.size=s1.heap.objs.size+1:=by simp[Heap.push]
  refine amB (s:={ s1 with heap:=s1.heap.push (revObj l ((its.toArray.size:Int)-1)) }) W (λi s' st=>st.2.1.typeIs) ⟨cB _,key,hil.push _⟩ (λb hb=>?_) (by simp) (λs' acc' c' hm' hS' hacc=>?_) (by rw[hle];exact z)
  .have hb':b=s1.heap.objs.size∨b=l:=by simpa using hb
   have:=cW eo;show b<(s1.heap.push (revObj l ((its.toArray.size:Int)-1))).objs.size;rcases hb' with z|z
   .rw[z,hsz2];exact DC _
   .rw[z,hsz2];exact ZR this
  .have I3:Inv X pins σ H1 { s1 with heap:=s1.heap.push (revObj l ((its.toArray.size:Int)-1)) }:=I1.kept (t':=s1.toks) λb o e=>Heap.get?_push_of_some _ e;obtain⟨f0,f1,f2,f3,f4,f5⟩:=I1.pJ (H':=H1) (aN _) I1.fresh;have hfree:H1 (s1.heap.push (revObj l ((its.toArray.size:Int)-1))).objs.size=none:=I3.hok.fresh (aN _);have hfp:=I3.pJ (H':=H1) (aN _) hfree;have hv:Vals xs.reverse acc'.toList:=by
    have e:acc'.toList=its.reverse:=by
     obtain⟨h1,h2⟩:=hacc;refine List.ext_getElem? λj=>?_;have hs1:acc'.toList.length=its.length:=by simpa using h1
     by_cases hj:j<its.length
     .have a1:acc'[j]?=some (acc'[j]'(by simpa using(hs1▸hj:j<acc'.toList.length))):=Array.getElem?_eq_getElem _;have a2:=h2 j _ a1;rw[List.getElem?_reverse hj,Array.getElem?_toList,a1,<-a2];simp
     .rw[List.getElem?_eq_none ⋯,List.getElem?_eq_none (by rw[oR];omega)]
    rw[e];exact rv.reverse
   obtain⟨hp',g',d',t'',o'⟩:=s';have eg:g'=s1.gens:=hm'.gens;have ed:d'=s1.drawn:=hm'.drawn;have eo':o'=s1.os:=hm'.os;subst eg ed eo';have I5:=I3.turned (h':=hp') (it:=s1.heap.objs.size) (t':=t'') (λb o hb e=>hm'.heap b o (by
    have hlt:=cW e;have:b≠(s1.heap.push (revObj l ((its.toArray.size:Int)-1))).objs.size:=jQ hlt;simp only[bN,gR,or_false,not_or];exact⟨this,hb⟩) (Heap.get?_push_of_some _ e)) f0 f1 f3 f4 f5
   refine⟨.ref _,_,I5.anK (o:= .lst xs.reverse) hfp ?_,rfl,q _ hfree⟩;exact⟨by rw[oR];exact z,acc'.toList,c',hv,by simpa using hS'⟩
end
def jZ(t:Bool)(h:Heap)(it l:Addr)(i:Nat):Prop:=∃o,h.get? it=some o/\o.cls = .type (if t then "tuple_iterator" else "list_iterator")/\o.data = .fields #[.ref l,.int i 0]
def jB(t:Bool)(h:Heap)(l:Addr)(items:Array Value):Prop:=∃o,h.get? l=some o/\o.cls = .type (if t then "tuple" else "list")/\∃n,o.data = .seq items n
def jZ.at{t:Bool}{h h':Heap}{it l:Addr}{i:Nat}(x:jZ t h it l i)(e:∀o,h.get? it=some o->h'.get? it=some o):jZ t h' it l i:=let⟨o,ho,r⟩:=x;⟨o,e o ho,r⟩
def jB.at{t:Bool}{h h':Heap}{l:Addr}{xs:Array Value}(x:jB t h l xs)(e:∀o,h.get? l=some o->h'.get? l=some o):jB t h' l xs:=let⟨o,ho,r⟩:=x;⟨o,e o ho,r⟩
section
variable {prog:Program} {w:World} {A:Around} {E:Value->Shared->Prop} {s:Shared}
def PY{t:Bool}{it l:Addr}{i:Nat}{items:Array Value}{x:Value}{Q:Value->Shared->Prop}(h1:jZ t s.heap it l i)(h2:jB t s.heap l items)(hx:items[i]?=some x)
  (k:∀h',jZ t h' it l (i+1)->HM it s.heap h'->Q x { s with heap:=h' }):wpAny (model prog w) A (Builtin.SmallTypes.nextOf (.ref it)) Q E s:=by
 cases t with
 |false=>exact wpAny_nextOf_list_item h1 h2 hx k
 |true=>
  obtain⟨o,ho,hc,hd⟩:=id h1;obtain⟨ol,hol,_,nl,hdl⟩:=id h2;have ty:s.TypeIs (.ref it) "tuple_iterator" := ⟨o,ho,hc⟩;unfold Builtin.SmallTypes.nextOf;refine wpAny_bind (wpAny_callSpecial?_slot (name:=Str.ofString "__next__") ty Jm (wpAny_call_entry Jm ty ad2 ?_ (afV _)));show wpAny _ _ (field (.ref it) 0>>=_) _ _ s;refine wpAny_bind (wpAny_field ho hd (x:=Value.ref l) rfl ?_);show wpAny _ _ (if(Value.ref l==Value.none)=true then _ else _) _ _ s;rw[if_neg (show ¬((Value.ref l==Value.none)=true)fromλq=>fX q)];refine wpAny_bind (wpAny_field ho hd (x:=Value.int i 0) rfl ?_);refine wpAny_bind (wpAny_seqItems hol hdl (Q:=_) ?_);simp only[hx,d9];refine wpAny_bind (wpAny_setField ho hd (by simp) (wpAny_pure ⟨x,rfl,wpAny_pure (k _ ⟨_,Heap.get?_update_self _ ho (Obj.isFreed_of_fields (V0 hd _)),?_,?_⟩ (ad0 ..))⟩))
  .exact(Obj.cls_mapFields ..).trans hc
  .rw[V0 hd];simp[rawInt]
def aav{t:Bool}{it l:Addr}{i:Nat}{items:Array Value}{Q:Value->Shared->Prop}(hh:A.handled=none)(h1:jZ t s.heap it l i)(h2:jB t s.heap l items)(hx:items[i]?=none)
  (k:∀h' e,Heap.ExtBut it s.heap h'->(∃o,h'.get? e=some o/\o.cls = .type "StopIteration")->E (.ref e) { s with heap:=h' }):wpAny (model prog w) A (Builtin.SmallTypes.nextOf (.ref it)) Q E s:=by
 cases t with
 |false=>exact wpAny_nextOf_list_end hh h1 h2 hx k
 |true=>
  obtain⟨o,ho,hc,hd⟩:=id h1;obtain⟨ol,hol,_,nl,hdl⟩:=id h2;have ty:s.TypeIs (.ref it) "tuple_iterator" := ⟨o,ho,hc⟩;unfold Builtin.SmallTypes.nextOf;refine wpAny_bind (wpAny_callSpecial?_slot (name:=Str.ofString "__next__") ty Jm (wpAny_call_entry Jm ty ad2 ?_ (afV _)));show wpAny _ _ (field (.ref it) 0>>=_) _ _ s;refine wpAny_bind (wpAny_field ho hd (x:=Value.ref l) rfl ?_);show wpAny _ _ (if(Value.ref l==Value.none)=true then _ else _) _ _ s;rw[if_neg (show ¬((Value.ref l==Value.none)=true)fromλq=>fX q)];refine wpAny_bind (wpAny_field ho hd (x:=Value.int i 0) rfl ?_);refine wpAny_bind (wpAny_seqItems hol hdl (Q:=_) ?_);simp only[hx,d9];refine wpAny_bind (wpAny_rule (wpAny_bind (wpAny_setField ho hd (by simp) (Q:=_) ?_)));show wpAny _ _ (newExc (.type "StopIteration") []>>=_) _ _ _;refine wpAny_bind ?_;simp only[newTuple,newExc];refine wpAny_bind (wpAny_newObj_type (Q:=_) ?_ (by size_fits));refine wpAny_bind (m:=firstArgMember _ _) (wpAny_of_eq (a:=Value.none) (by first|rfl|(simp only[firstArgMember];done)) ?_)
  refine wpAny_newObj_type (Q:=_) ?_ (by size_fits);simp only[raiseNew];refine wpAny_bind (wpAny_handled (Q:=_) ?_);first|rw[hh]|rw[show A.in1.handled=Lz from hh]
  refine wpAny_bind (wpAny_pure (wpAny_throw (k _ _ (((ad0 ..).extBut.push _).push _) ⟨_,Heap.get?_push_size _ rfl,rfl⟩)))
structure Apart(z TI TO i1 i2 l1 l2:Addr):Prop where
 own:[z,TI,TO,i1,i2].Nodup
 azo:l1∉[z,TI,TO,i1,i2]
 azg:l2∉[z,TI,TO,i1,i2]
def Apart.ne{z TI TO i1 i2 l1 l2:Addr}(D:Apart z TI TO i1 i2 l1 l2):
  (TI≠z/\TO≠z/\i1≠z/\i2≠z)/\(TI≠TO/\TI≠i1/\TI≠i2)/\(TO≠i1/\TO≠i2/\i1≠i2)/\(l1≠z/\l1≠TO/\l1≠i1/\l1≠i2)/\(l2≠z/\l2≠TO/\l2≠i1/\l2≠i2):=by
 obtain⟨a,b,c⟩:=D;simp only[mL,bN,gR,or_false,not_or,List.nodup_nil,and_true,not_false_eq_true]at a b c;obtain⟨⟨a1,a2,a3,a4⟩,⟨a5,a6,a7⟩,⟨a8,a9⟩,a10⟩:=a;exact⟨⟨dF a1,dF a2,dF a3,dF a4⟩,⟨a5,a6,a7⟩,⟨a8,a9,a10⟩,⟨b.1,b.2.2.1,b.2.2.2.1,b.2.2.2.2⟩,⟨c.1,c.2.2.1,c.2.2.2.1,c.2.2.2.2⟩⟩
def akv{t1 t2:Bool}{z TI TO i1 i2 l1 l2:Addr}{k1 k2:Nat}{xs ys:Array Value}{x y a b:Value}{Q:Value->Shared->Prop}(D:Apart z TI TO i1 i2 l1 l2)
  (hz:IsZip s.heap z TI TO .none) (hI:IsPair s.heap TI (.ref i1) (.ref i2)) (hO:IsPair s.heap TO a b)
  (h1:jZ t1 s.heap i1 l1 k1) (h2:jZ t2 s.heap i2 l2 k2) (q1:jB t1 s.heap l1 xs) (q2:jB t2 s.heap l2 ys) (hx:xs[k1]?=some x) (hy:ys[k2]?=some y)
  (k:∀h',IsZip h' z TI TO (rawInt s.heap.objs.size)->IsPair h' TO x y->jZ t1 h' i1 l1 (k1+1)->jZ t2 h' i2 l2 (k2+1)->IsPair h' s.heap.objs.size x y->
   (∀c o,c∉[z,TO,i1,i2]->s.heap.get? c=some o->h'.get? c=some o)->Q (.ref s.heap.objs.size) { s with heap:=h' }):
  wpAny (model prog w) A (Builtin.«zip.__next__» ⟨[.ref z],[]⟩) (λfin s'=>∃v,fin = .done (.ret v)/\Q v s') E s:=by
 obtain⟨⟨Bw,uf,qQ,uV⟩,⟨Ry,PD,Qp⟩,⟨BX,Eb,FJ⟩,⟨FQ,axL,e11,e12⟩,⟨R7,R0,Ul,e22⟩⟩:=D.ne;show wpAny _ _ (field (.ref z) 2>>=_) _ _ _;refine wpAny_bind (wpAny_field hz rfl (x:=Value.bool false) rfl ?_);show wpAny _ _ (field (.ref z) 3>>=_) _ _ _;refine wpAny_bind (wpAny_field hz rfl (x:=Value.ref TI) rfl ?_);refine wpAny_bind (wpAny_seqItems hI rfl (Q:=_) ?_);show wpAny _ _ (Builtin.SmallTypes.ownedTupleIsFree (.ref z)>>=_) _ _ _;refine wpAny_bind ?_;unfold Builtin.SmallTypes.ownedTupleIsFree;refine wpAny_bind (wpAny_field hz rfl (x:=Value.none) rfl (wpAny_pure (Q:=_) ?_));simp only[if_true];refine wpAny_bind (wpAny_rule (Q:=_) ?_);refine wpAny_bind (wpAny_field hz rfl (x:=Value.ref TO) rfl ?_);refine wpAny_bind (wpAny_setField_rec hz (by simp) λg1 z1 m1=>?_);replace z1:IsZip g1 z TI TO .ellipsis:=z1;refine wpAny_bind ?_;simp only[Fx,aen,W6,aaW];refine wpAny_bind (wpAny_bind (wpAny_onRaise (Q:=_) ?_));show wpAny _ _ (Builtin.SmallTypes.nextOf (.ref i1)>>=_) _ _ _;refine wpAny_bind (PY (h1.at λo e=>m1.extBut _ _ qQ e) (q1.at λo e=>m1.extBut _ _ FQ e) hx λg2 n2 m2=>wpAny_pure (Q:=_) ?_);have O2:IsPair g2 TO a b:=m2.extBut _ _ BX (m1.extBut _ _ uf hO);refine wpAny_bind (wpAny_seqItems O2 rfl (Q:=_) ?_);refine wpAny_bind (wpAny_updateSeq_pair O2 λg3 O3 m3=>?_);replace O3:IsPair g3 TO x b:=O3;refine wpAny_bind (wpAny_letGo (wpAny_pure (Q:=_) ?_));refine wpAny_bind (wpAny_bind (wpAny_onRaise (Q:=_) ?_));show wpAny _ _ (Builtin.SmallTypes.nextOf (.ref i2)>>=_) _ _ _;refine wpAny_bind (PY (h2.at λo e=>m3.extBut _ _ (dF Eb) (m2.extBut _ _ (dF FJ) (m1.extBut _ _ uV e))) (q2.at λo e=>m3.extBut _ _ R0 (m2.extBut _ _ Ul (m1.extBut _ _ R7 e))) hy λg4 n4 m4=>wpAny_pure (Q:=_) ?_);have O4:IsPair g4 TO x b:=m4.extBut _ _ Eb O3;refine wpAny_bind (wpAny_seqItems O4 rfl (Q:=_) ?_);refine wpAny_bind (wpAny_updateSeq_pair O4 λg5 O5 m5=>?_);replace O5:IsPair g5 TO x y:=O5;refine wpAny_bind (wpAny_letGo (wpAny_pure (wpAny_pure (Q:=_) ?_)));refine wpAny_bind (wpAny_seqItems O5 rfl (Q:=_) ?_);refine wpAny_bind (wpAny_newTuple (Q:=_) ?_);have sz:g5.objs.size=s.heap.objs.size:=by rw[m5.1,m4.1,m3.1,m2.1,m1.1]
 have Z5:IsZip g5 z TI TO .ellipsis:=m5.extBut _ _ (dF uf) (m4.extBut _ _ (dF uV) (m3.extBut _ _ (dF uf) (m2.extBut _ _ (dF qQ) z1)));have N1:jZ t1 g5 i1 l1 (k1+1):=n2.at λo e=>m5.extBut _ _ (dF BX) (m4.extBut _ _ FJ (m3.extBut _ _ (dF BX) e));have N2:jZ t2 g5 i2 l2 (k2+1):=n4.at λo e=>m5.extBut _ _ (dF Eb) e;have K5:∀c o,c∉[z,TO,i1,i2]->s.heap.get? c=some o->g5.get? c=some o:=λc o hc e=>by
  simp only[bN,gR,or_false,not_or]at hc;obtain⟨c1,c2,c3,c4⟩:=hc;exact m5.extBut _ _ c2 (m4.extBut _ _ c4 (m3.extBut _ _ c2 (m2.extBut _ _ c3 (m1.extBut _ _ c1 e))))
 have zl:z<g5.objs.size:=cW Z5;show wpAny _ _ (Builtin.SmallTypes.ownedTupleHandOut (.ref z) (.ref g5.objs.size)>>=_) _ _ _;refine wpAny_bind ?_;unfold Builtin.SmallTypes.ownedTupleHandOut;have Z6:IsZip (g5.push { cls:= .type "tuple",data:= .seq #[x,y] }) z TI TO .ellipsis:=Heap.get?_push_of_some _ Z5;refine wpAny_bind (wpAny_setField_rec Z6 (by simp) λg7 Z7 m7=>?_);replace Z7:IsZip g7 z TI TO (rawInt g5.objs.size):=Z7;refine wpAny_setField_rec Z7 (by simp) λg8 Z8 m8=>?_;replace Z8:IsZip g8 z TI TO (rawInt g5.objs.size):=Z8;have up:∀c o,c≠z->g5.get? c=some o->g8.get? c=some o:=λc o c1 e=>m8.extBut _ _ c1 (m7.extBut _ _ c1 (Heap.get?_push_of_some _ e));have T8:IsPair g8 g5.objs.size x y:=m8.extBut _ _ (SY zl) (m7.extBut _ _ (SY zl) (Heap.get?_push_size _ rfl));rw[sz]at Z8 T8;refine wpAny_pure ⟨_,rfl,?_⟩;show Q (.ref g5.objs.size) _;rw[sz];exact k g8 Z8 (up _ _ uf O5) (N1.at λo e=>up _ o qQ e) (N2.at λo e=>up _ o uV e) T8 λc o hc e=>up c o (λq=>hc (by simp[q])) (K5 c o hc e)
def apA{t1 t2:Bool}{z TI TO i1 i2 l1 l2:Addr}{k1 k2:Nat}{xs ys:Array Value}{a b:Value}{Q:Fin->Shared->Prop}(hh:A.handled=none)(D:Apart z TI TO i1 i2 l1 l2)
  (hz:IsZip s.heap z TI TO .none) (hI:IsPair s.heap TI (.ref i1) (.ref i2)) (hO:IsPair s.heap TO a b)
  (h1:jZ t1 s.heap i1 l1 k1) (h2:jZ t2 s.heap i2 l2 k2) (q1:jB t1 s.heap l1 xs) (q2:jB t2 s.heap l2 ys) (he:ys[k2]?=none∨xs[k1]?=none)
  (k:∀h' e,(∀c o,c∉[z,TO,i1,i2]->s.heap.get? c=some o->h'.get? c=some o)->(∃o,h'.get? e=some o/\o.cls = .type "StopIteration")->E (.ref e) { s with heap:=h' }):
  wpAny (model prog w) A (Builtin.«zip.__next__» ⟨[.ref z],[]⟩) Q E s:=by
 obtain⟨⟨Bw,uf,qQ,uV⟩,⟨Ry,PD,Qp⟩,⟨BX,Eb,FJ⟩,⟨FQ,axL,e11,e12⟩,⟨R7,R0,Ul,e22⟩⟩:=D.ne;have far:∀{c:Addr},c∉[z,TO,i1,i2]->c≠z/\c≠TO/\c≠i1/\c≠i2:=λhc=>by simpa only[bN,gR,or_false,not_or]using hc
 show wpAny _ _ (field (.ref z) 2>>=_) _ _ _;refine wpAny_bind (wpAny_field hz rfl (x:=Value.bool false) rfl ?_);show wpAny _ _ (field (.ref z) 3>>=_) _ _ _;refine wpAny_bind (wpAny_field hz rfl (x:=Value.ref TI) rfl ?_);refine wpAny_bind (wpAny_seqItems hI rfl (Q:=_) ?_);show wpAny _ _ (Builtin.SmallTypes.ownedTupleIsFree (.ref z)>>=_) _ _ _;refine wpAny_bind ?_;unfold Builtin.SmallTypes.ownedTupleIsFree;refine wpAny_bind (wpAny_field hz rfl (x:=Value.none) rfl (wpAny_pure (Q:=_) ?_));simp only[if_true];refine wpAny_bind (wpAny_rule (Q:=_) ?_);refine wpAny_bind (wpAny_field hz rfl (x:=Value.ref TO) rfl ?_);refine wpAny_bind (wpAny_setField_rec hz (by simp) λg1 z1 m1=>?_);replace z1:IsZip g1 z TI TO .ellipsis:=z1;refine wpAny_bind ?_;simp only[Fx,aen,W6,aaW];refine wpAny_bind (wpAny_bind (wpAny_onRaise (Q:=_) ?_));show wpAny _ _ (Builtin.SmallTypes.nextOf (.ref i1)>>=_) _ _ _;cases hx:xs[k1]? with
 |none=>
  refine wpAny_bind (aav hh (h1.at λo e=>m1.extBut _ _ qQ e) (q1.at λo e=>m1.extBut _ _ FQ e) hx λg2 e m2 ⟨u,hu,cu⟩=>?_);have z2:IsZip g2 z TI TO .ellipsis:=m2 _ _ (dF qQ) z1;have ez:e≠z:=λq=>by subst q;rw[z2]at hu;cases hu;simp at cu
  exact wpAny_setField_rec z2 (by simp) λg3 _ m3=>k g3 e (λc o hc q=>let⟨c1,_,c3,_⟩:=far hc;m3.extBut _ _ c1 (m2 _ _ c3 (m1.extBut _ _ c1 q))) ⟨u,m3.extBut _ _ ez hu,cu⟩
 |some x=>
  have hy:ys[k2]?=none:=he.elim id λq=>by rw[hx]at q;cases q
  refine wpAny_bind (PY (h1.at λo e=>m1.extBut _ _ qQ e) (q1.at λo e=>m1.extBut _ _ FQ e) hx λg2 n2 m2=>wpAny_pure (Q:=_) ?_);have O2:IsPair g2 TO a b:=m2.extBut _ _ BX (m1.extBut _ _ uf hO);refine wpAny_bind (wpAny_seqItems O2 rfl (Q:=_) ?_);refine wpAny_bind (wpAny_updateSeq_pair O2 λg3 O3 m3=>?_);refine wpAny_bind (wpAny_letGo (wpAny_pure (Q:=_) ?_));refine wpAny_bind (wpAny_bind (wpAny_onRaise (Q:=_) ?_));show wpAny _ _ (Builtin.SmallTypes.nextOf (.ref i2)>>=_) _ _ _;refine wpAny_bind (aav hh (h2.at λo e=>m3.extBut _ _ (dF Eb) (m2.extBut _ _ (dF FJ) (m1.extBut _ _ uV e))) (q2.at λo e=>m3.extBut _ _ R0 (m2.extBut _ _ Ul (m1.extBut _ _ R7 e))) hy λg4 e m4 ⟨u,hu,cu⟩=>?_);have z4:IsZip g4 z TI TO .ellipsis:=m4 _ _ (dF uV) (m3.extBut _ _ (dF uf) (m2.extBut _ _ (dF qQ) z1));have ez:e≠z:=λq=>by subst q;rw[z4]at hu;cases hu;simp at cu
  exact wpAny_setField_rec z4 (by simp) λg5 _ m5=>k g5 e (λc o hc q=>let⟨c1,c2,c3,c4⟩:=far hc;m5.extBut _ _ c1 (m4 _ _ c4 (m3.extBut _ _ c2 (m2.extBut _ _ c3 (m1.extBut _ _ c1 q))))) ⟨u,m5.extBut _ _ ez hu,cu⟩
structure B6(t1 t2:Bool)(z TI TO i1 i2 l1 l2:Addr)(i:Nat)(h:Heap)(f0:Value):Prop where
 zz:IsZip h z TI TO f0
 ti:IsPair h TI (.ref i1) (.ref i2)
 to:∃a b,IsPair h TO a b
 w1:jZ t1 h i1 l1 i
 w2:jZ t2 h i2 l2 i
def apt{t1 t2:Bool}{z TI TO i1 i2 l1 l2:Addr}{i:Nat}{xs ys:Array Value}{x y:Value}{Q:Option Value->Shared->Prop}(D:Apart z TI TO i1 i2 l1 l2)(Z:B6 t1 t2 z TI TO i1 i2 l1 l2 i s.heap .none)
  (q1:jB t1 s.heap l1 xs) (q2:jB t2 s.heap l2 ys) (hx:xs[i]?=some x) (hy:ys[i]?=some y)
  (k:∀h',B6 t1 t2 z TI TO i1 i2 l1 l2 (i+1) h' (rawInt s.heap.objs.size)->IsPair h' s.heap.objs.size x y->(∀c o,c∉[z,TO,i1,i2]->s.heap.get? c=some o->h'.get? c=some o)->Q (some (.ref s.heap.objs.size)) { s with heap:=h' }):
  wpAny (model prog w) A (pyNext (.ref z)) Q E s:=by
 obtain⟨zz,ti,⟨a,b,to⟩,w1,w2⟩:=Z;have ty:s.TypeIs (.ref z) "zip" := ⟨_,zz,rfl⟩;obtain⟨⟨Bw,_,_,_⟩,⟨Ry,PD,Qp⟩,_⟩:=D.ne;unfold pyNext;refine wpAny_bind (wpAny_attempt (wpAny_callSpecial?_slot (name:=Str.ofString "__next__") ty Iz (wpAny_call_entry Iz ty X7 ?_ (afO _))));exact akv D zz ti to w1 w2 q1 q2 hx hy λh' b1 b2 b3 b4 b5 b6=>wpAny_pure (k h' ⟨b1,b6 _ _ (by simp[Bw,Ry,PD,Qp]) ti,⟨_,_,b2⟩,b3,b4⟩ b5 b6)
def ahW{t1 t2:Bool}{z TI TO i1 i2 l1 l2:Addr}{i:Nat}{xs ys:Array Value}{Q:Option Value->Shared->Prop}(hh:A.handled=none)(D:Apart z TI TO i1 i2 l1 l2)(Z:B6 t1 t2 z TI TO i1 i2 l1 l2 i s.heap .none)
  (q1:jB t1 s.heap l1 xs) (q2:jB t2 s.heap l2 ys) (he:ys[i]?=none∨xs[i]?=none)
  (k:∀h',(∀c o,c∉[z,TO,i1,i2]->s.heap.get? c=some o->h'.get? c=some o)->Q none { s with heap:=h' }):wpAny (model prog w) A (pyNext (.ref z)) Q E s:=by
 obtain⟨zz,ti,⟨a,b,to⟩,w1,w2⟩:=Z;have ty:s.TypeIs (.ref z) "zip" := ⟨_,zz,rfl⟩;unfold pyNext;refine wpAny_bind (wpAny_attempt (wpAny_callSpecial?_slot (name:=Str.ofString "__next__") ty Iz (wpAny_call_entry Iz ty X7 ?_ (afO _))));refine apA hh D zz ti to w1 w2 q1 q2 he λh' e b1 ⟨u,hu,cu⟩=>?_;exact wpAny_bind (wpAny_isInstance (T:= "StopIteration") (b:=true) ⟨u,hu,cu⟩ isSubtype_stop (wpAny_pure (k _ b1)))
abbrev zA(t1:Bool)(h:Heap)(l1:Addr):Heap:=h.push { cls:= .type (if t1 then "tuple_iterator" else "list_iterator"),data:= .fields #[.ref l1,.int 0 0] }
abbrev zB(t1 t2:Bool)(h:Heap)(l1 l2:Addr):Heap:=zA t2 (zA t1 h l1) l2
abbrev zC(t1 t2:Bool)(h:Heap)(l1 l2:Addr):Heap:=(zB t1 t2 h l1 l2).push { cls:= .type "tuple",data:= .seq #[.ref h.objs.size,.ref (zA t1 h l1).objs.size] }
abbrev zD(t1 t2:Bool)(h:Heap)(l1 l2:Addr):Heap:=(zC t1 t2 h l1 l2).push { cls:= .type "tuple",data:= .seq #[.none,.none] }
abbrev zE(t1 t2:Bool)(h:Heap)(l1 l2:Addr):Heap:=(zD t1 t2 h l1 l2).push { cls:= .type "zip",data:= .fields #[.none,.bool false,.bool false,.ref (zB t1 t2 h l1 l2).objs.size,.ref (zC t1 t2 h l1 l2).objs.size] }
def aqd(l1 l2:Addr)(xs ys:Array Value):
  Meets (Builtin.«zip.__new__» ⟨[.type "zip",.ref l1,.ref l2],[]⟩) (λ_ R s=>s.heap.IsList l1 xs/\s.heap.IsList l2 ys/\
   R (.ok (.ret (.ref (zD false false s.heap l1 l2).objs.size))) { s with heap:=zE false false s.heap l1 l2 }):=
 .of_wp λprog w A R s h=>by
  obtain⟨hp,g,d,tk,os⟩:=s;obtain⟨m1,m2,h⟩:=h;have sub:=sub_zip;have c1:Es (uT ⟨hp,g,d,tk,os⟩) l1 xs:=m1;have c2:Es (uT ⟨hp.push { cls:= .type "list_iterator",data:= .fields #[.ref l1,.int 0 0] },g,d,tk,os⟩) l2 ys:=by
   obtain⟨o,ho,r⟩:=m2;exact⟨o,Heap.get?_push_of_some _ ho,r⟩
  wp_walk using wpAny_pyIter_list c1,wpAny_pyIter_list c2
  exact⟨_,rfl,h⟩
def axK(l1 l2:Addr)(xs ys:Array Value):
  Meets (Builtin.«zip.__new__» ⟨[.type "zip",.ref l1,.ref l2],[]⟩) (λ_ R s=>s.heap.IsList l1 xs/\s.heap.IsTuple l2 ys/\
   R (.ok (.ret (.ref (zD false true s.heap l1 l2).objs.size))) { s with heap:=zE false true s.heap l1 l2 }):=
 .of_wp λprog w A R s h=>by
  obtain⟨hp,g,d,tk,os⟩:=s;obtain⟨m1,m2,h⟩:=h;have sub:=sub_zip;have c1:Es (uT ⟨hp,g,d,tk,os⟩) l1 xs:=m1;have c2:JR (uT ⟨hp.push { cls:= .type "list_iterator",data:= .fields #[.ref l1,.int 0 0] },g,d,tk,os⟩) l2 ys:=by
   obtain⟨o,ho,r⟩:=m2;exact⟨o,Heap.get?_push_of_some _ ho,r⟩
  wp_walk using wpAny_pyIter_list c1,wpAny_pyIter_tuple c2
  exact⟨_,rfl,h⟩
def awn(l1 l2:Addr)(xs ys:Array Value):
  Meets (Builtin.«zip.__new__» ⟨[.type "zip",.ref l1,.ref l2],[]⟩) (λ_ R s=>s.heap.IsTuple l1 xs/\s.heap.IsList l2 ys/\
   R (.ok (.ret (.ref (zD true false s.heap l1 l2).objs.size))) { s with heap:=zE true false s.heap l1 l2 }):=
 .of_wp λprog w A R s h=>by
  obtain⟨hp,g,d,tk,os⟩:=s;obtain⟨m1,m2,h⟩:=h;have sub:=sub_zip;have c1:JR (uT ⟨hp,g,d,tk,os⟩) l1 xs:=m1;have c2:Es (uT ⟨hp.push { cls:= .type "tuple_iterator",data:= .fields #[.ref l1,.int 0 0] },g,d,tk,os⟩) l2 ys:=by
   obtain⟨o,ho,r⟩:=m2;exact⟨o,Heap.get?_push_of_some _ ho,r⟩
  wp_walk using wpAny_pyIter_tuple c1,wpAny_pyIter_list c2
  exact⟨_,rfl,h⟩
def alh(l1 l2:Addr)(xs ys:Array Value):
  Meets (Builtin.«zip.__new__» ⟨[.type "zip",.ref l1,.ref l2],[]⟩) (λ_ R s=>s.heap.IsTuple l1 xs/\s.heap.IsTuple l2 ys/\
   R (.ok (.ret (.ref (zD true true s.heap l1 l2).objs.size))) { s with heap:=zE true true s.heap l1 l2 }):=
 .of_wp λprog w A R s h=>by
  obtain⟨hp,g,d,tk,os⟩:=s;obtain⟨m1,m2,h⟩:=h;have sub:=sub_zip;have c1:JR (uT ⟨hp,g,d,tk,os⟩) l1 xs:=m1;have c2:JR (uT ⟨hp.push { cls:= .type "tuple_iterator",data:= .fields #[.ref l1,.int 0 0] },g,d,tk,os⟩) l2 ys:=by
   obtain⟨o,ho,r⟩:=m2;exact⟨o,Heap.get?_push_of_some _ ho,r⟩
  wp_walk using wpAny_pyIter_tuple c1,wpAny_pyIter_tuple c2
  exact⟨_,rfl,h⟩
def apR(t1 t2:Bool)(l1 l2:Addr)(xs ys:Array Value):
  Meets (Builtin.«zip.__new__» ⟨[.type "zip",.ref l1,.ref l2],[]⟩) (λ_ R s=>jB t1 s.heap l1 xs/\jB t2 s.heap l2 ys/\
   R (.ok (.ret (.ref (zD t1 t2 s.heap l1 l2).objs.size))) { s with heap:=zE t1 t2 s.heap l1 l2 }):=
 match t1,t2 with
 |false,false=>aqd l1 l2 xs ys
 |false,true=>axK l1 l2 xs ys
 |true,false=>awn l1 l2 xs ys
 |true,true=>alh l1 l2 xs ys
def apo{t1 t2:Bool}{l1 l2:Addr}{xs ys:Array Value}{Q:Value->Shared->Prop}(m1:jB t1 s.heap l1 xs)(m2:jB t2 s.heap l2 ys)
  (k:∀h',B6 t1 t2 (s.heap.objs.size+4) (s.heap.objs.size+2) (s.heap.objs.size+3) s.heap.objs.size (s.heap.objs.size+1) l1 l2 0 h' .none->
   (∀c o,s.heap.get? c=some o->h'.get? c=some o)->Q (.ref (s.heap.objs.size+4)) { s with heap:=h' }):
  wpAny (model prog w) A (call (.type "zip") [.ref l1,.ref l2]) Q E s:=by
 refine callType_new F.called_zip ∅ (F.typeCall_zip_2 _ _) (F.newCall_zip_2 _ _) (λobj=>F.args_object_init_3 obj _ _) F.entry_zip_new (apR t1 t2 l1 l2 xs ys) ⟨m1,m2,?_⟩;have y1:(zA t1 s.heap l1).objs.size=s.heap.objs.size+1:=HD ..;have y2:(zB t1 t2 s.heap l1 l2).objs.size=s.heap.objs.size+2:=by rw[HD,y1]
 have y3:(zC t1 t2 s.heap l1 l2).objs.size=s.heap.objs.size+3:=by rw[HD,y2]
 have y4:(zD t1 t2 s.heap l1 l2).objs.size=s.heap.objs.size+4:=by rw[HD,y3]
 have up:∀{h:Heap} {o1:Obj} {c:Addr} {o:Obj},h.get? c=some o->(h.push o1).get? c=some o:=λe=>Heap.get?_push_of_some _ e;have o5:(zE t1 t2 s.heap l1 l2).get? (zD t1 t2 s.heap l1 l2).objs.size=some _:=Heap.get?_push_size _ rfl;have o4:(zE t1 t2 s.heap l1 l2).get? (zC t1 t2 s.heap l1 l2).objs.size=some _:=up (Heap.get?_push_size _ rfl);have o3:(zE t1 t2 s.heap l1 l2).get? (zB t1 t2 s.heap l1 l2).objs.size=some _:=up (up (Heap.get?_push_size _ rfl));have o2:(zE t1 t2 s.heap l1 l2).get? (zA t1 s.heap l1).objs.size=some _:=up (up (up (Heap.get?_push_size _ rfl)));have o1:(zE t1 t2 s.heap l1 l2).get? s.heap.objs.size=some _:=up (up (up (up (Heap.get?_push_size _ rfl))));show _/\_;rw[y2,y3,y4]at o5;rw[y3]at o4;rw[y1,y2]at o3;rw[y1]at o2;rw[y4];exact⟨⟨_,o5,rfl⟩,k _ ⟨o5,o3,⟨_,_,o4⟩,⟨_,o1,rfl,rfl⟩,⟨_,o2,rfl,rfl⟩⟩ λc o e=>up (up (up (up (up e))))⟩
end
section
variable {X:Cx} {pins:List (Addr×Obj)} {σ:St} {H:Hp} {s:Shared} {h':Heap}
def Inv.abN{t':Nat}{ch:List Addr}(I:Inv X pins σ H s)(hf:∀b∈ch,oW X pins H b)(k:∀b o,b∉ch->s.heap.get? b=some o->h'.get? b=some o):Inv X pins σ H { s with heap:=h',toks:=t' }:=by
 have far:∀b u,H b=some u->b∉ch:=λb u e z=>by rw[(hf b z).1]at e;cases e
 refine I.step (g':=s.gens) (d':=s.drawn) (ch:=ch) (λb hb=>?_) (λb o _ _ hc e _=>k b o hc e) (λb o _ _ hc e _=>⟨o.slots,k b o hc e⟩) (λ_ _ _ _ n=>n)
  (λb o hc e=>⟨o,k b o hc e⟩) (λ_ _ e=>e) (λ_ _ _ e=>e) (λb ps e=>⟨#[],by rw[e];simp⟩) (λm hm=>?_) (λb u e=>?_) I.bare
 .obtain⟨_,f1,_,f3,f4,f5⟩:=hf b hb;exact⟨f3,f1,f4,f5⟩
 .obtain⟨o,es,ep,ho,r⟩:=hm;exact⟨o,es,ep,k _ o (λz=>(hf _ z).2.1 rfl) ho,r⟩
 .refine(I.hok b u e).stay (λc v hc q=>k c v ?_ q) (λ_ q=>q) λ_ _ q=>q;rcases hc with z|z
  .rw[z];exact far b u e
  .exact far c _ z
def Inv.adopt{p:Addr}{o:HO}(I:Inv X pins σ H s)(f:oW X pins H p)(new:dz X.prog X.w (upd H p o) s.heap p o):Inv X pins σ (upd H p o) s:=by
 obtain⟨f0,f1,_,f3,f4,f5⟩:=f;refine I.step (g':=s.gens) (d':=s.drawn) (t':=s.toks) (h':=s.heap) (ch:=[p]) (λb hb=>?_) (λb o _ _ hc e _=>e) (λb o _ _ hc e _=>⟨o.slots,e⟩) (λb _ hc _ n=>?_)
  (λb o hc e=>⟨o,e⟩) (λb xs e=>?_) (λb xs _ e=>?_) (λb ps e=>⟨#[],?_⟩) (λm hm=>hm) (λb u e=>?_) I.bare
 .have e:b=p:=by simpa using hb
  subst e;exact⟨f3,f1,f4,f5⟩
 .rw[bF λz=>hc (by simp[z])];exact n
 .rw[bF (jq e f0)];exact e
 .rw[bF (jq e f0)];exact e
 .rw[bF (jq e f0),e];simp
 .by_cases hb:b=p
  .subst hb;rw[aC]at e;cases e;exact new
  .rw[bF hb]at e;exact(I.hok b u e).stay (λc v _ q=>q) (λc q=>by rw[bF (jq q f0)];exact q) λc xs q=>by rw[bF (jq q f0)];exact q
def lJ(K:aG)(t:Bool)(H:Hp)(a:Addr)(xs:List V):Prop:=match t with
 |true=>aA K H a xs
 |false=>au K H a xs
def Inv.nH{t:Bool}{a:Addr}{xs:List V}(I:Inv X pins σ H s)(q:lJ X.K t H a xs):∃its:List Value,Vals xs its/\jB t s.heap a its.toArray/\xs.length<=sizeLine:=by
 cases t with
 |false=>obtain⟨its,r,p,z⟩:=I.list q;exact⟨its,r,p.isList,z⟩
 |true=>obtain⟨its,r,p,z⟩:=I.tuple q;exact⟨its,r,p,z⟩
def Inv.afK{t:Bool}{a:Addr}{xs ys:List V}(I:Inv X pins σ H s)(q:lJ X.K t H a xs)(q':lJ X.K t H a ys):xs=ys:=by
 cases t with
 |false=>exact I.QT q q'
 |true=>exact I.afE q q'
def Same.nH{K:aG}{t:Bool}{H H':Hp}{a:Addr}{xs:List V}(g:Same H H')(q:lJ K t H a xs):lJ K t H' a xs:=by
 cases t with
 |false=>exact g.seq q
 |true=>exact g.Hq q
def KR(K:aG)(t1 t2:Bool)(a b:Addr):It:=
 ⟨λi H=>∃xs ys x y,lJ K t1 H a xs/\lJ K t2 H b ys/\xs[i]?=some x/\ys[i]?=some y,
 λi H v H'=>∃p x y,v = .ref p/\H p=none/\H'=upd H p (.tup [x,y])/\(∀xs,lJ K t1 H a xs->xs[i]?=some x)/\∀ys,lJ K t2 H b ys->ys[i]?=some y,
 λi H=>∃xs ys,lJ K t1 H a xs/\lJ K t2 H b ys/\(ys.length<=i∨xs.length<=i)⟩
def ahK{P:Program}{w:World}{K:aG}{es:List Expr}{x1:Nat}{pos:Pos}{t1 t2:Bool}{z TI TO i1 i2 a b:Addr}(D:Apart z TI TO i1 i2 a b):
  Turn P w K (.Tuple es x1 pos) (KR K t1 t2 a b) [z,TI,TO,i1,i2] z (λi h=>B6 t1 t2 z TI TO i1 i2 a b i h .none) where
 mem:=by simp
 obj:=λi h Z c hc=>by
  obtain⟨zz,ti,⟨u,v,to⟩,⟨o1,h1,_,d1⟩,⟨o2,h2,_,d2⟩⟩:=Z;simp only[bN,gR,or_false]at hc;rcases hc with rfl|rfl|rfl|rfl|rfl
  .exact⟨_,zz,λv q=>by cases q⟩
  .exact⟨_,ti,λv q=>by cases q⟩
  .exact⟨_,to,λv q=>by cases q⟩
  .exact⟨_,h1,λv q=>by rw[d1]at q;cases q⟩
  .exact⟨_,h2,λv q=>by rw[d2]at q;cases q⟩
 keep:=λi h h' Z k=>by
  obtain⟨zz,ti,⟨u,v,to⟩,w1,w2⟩:=Z;exact⟨k _ (by simp) _ zz,k _ (by simp) _ ti,⟨u,v,k _ (by simp) _ to⟩,w1.at λo e=>k _ (by simp) o e,w2.at λo e=>k _ (by simp) o e⟩
 item:=by
  intro X hP hw hK hc i pins s σ H E I hf Z hg;subst hP hw hK;obtain⟨xs,ys,x,y,hq1,hq2,hx,hy⟩:=hg;obtain⟨ag3,r1,p1,_⟩:=I.nH hq1;obtain⟨its2,r2,p2,_⟩:=I.nH hq2;obtain⟨u1,hu1,ru1⟩:=r1.get hx;obtain⟨u2,hu2,ru2⟩:=r2.get hy;refine apt D Z p1 p2 (x:=u1) (y:=u2) (by simpa using hu1) (by simpa using hu2) λg Z1 T1 k1=>⟨_,rfl,?_⟩;have zl:z≠s.heap.objs.size:=jQ (cW Z.zz);obtain⟨zz,ti,⟨v1,v2,to⟩,w1,w2⟩:=Z1;obtain⟨⟨Bw,uf,qQ,uV⟩,_⟩:=D.ne;refine wpAny_letOwnedTupleGo_zip zz λg' zz' m'=>?_;have T2:IsPair g' s.heap.objs.size u1 u2:=m'.extBut _ _ (dF zl) T1;have I1:Inv X pins σ H { s with heap:=g' }:=I.abN (t':=s.toks) (ch:=[z,TI,TO,i1,i2]) hf λc o hc e=>
   m'.extBut _ _ (λq=>hc (by simp[q])) (k1 c o (λq=>hc (by
    simp only[bN,gR,or_false]at q⊢;rcases q with q|q|q|q<;>simp[q])) e)
  have I2:Inv X pins σ (upd H s.heap.objs.size (.tup [x,y])) { s with heap:=g' }:=I1.adopt (I.pJ (aN _) I.fresh)
   ⟨by simp[sizeLine],[u1,u2],.cons ru1 (.cons ru2 .nil),⟨_,T2,rfl,_,rfl⟩⟩
  refine⟨.ref s.heap.objs.size,_,I2,rfl,⟨_,x,y,rfl,I.fresh,rfl,λxs' q=>by rw[I.afK q hq1];exact hx,λys' q=>by rw[I.afK q hq2];exact hy⟩,
   ⟨zz',m'.extBut _ _ Bw ti,⟨v1,v2,m'.extBut _ _ uf to⟩,w1.at λo e=>m'.extBut _ _ qQ e,w2.at λo e=>m'.extBut _ _ uV e⟩,λc hc=>?_⟩
  rw[bF]
  .exact(hf c hc).1
  .intro q;obtain⟨o,ho,_⟩:∃o,s.heap.get? c=some o/\True:=by
    obtain⟨zz,ti,⟨u,v,to⟩,⟨o1,h1,_,d1⟩,⟨o2,h2,_,d2⟩⟩:=Z;simp only[bN,gR,or_false]at hc;rcases hc with rfl|rfl|rfl|rfl|rfl
    .exact⟨_,zz,trivial⟩
    .exact⟨_,ti,trivial⟩
    .exact⟨_,to,trivial⟩
    .exact⟨_,h1,trivial⟩
    .exact⟨_,h2,trivial⟩
   exact absurd (cW ho) (by rw[q];exact lA _)
 done:=by
  intro X hP hw hK hc i pins s σ H E I hf Z hg;subst hP hw hK;obtain⟨xs,ys,hq1,hq2,hend⟩:=hg;obtain⟨ag3,r1,p1,_⟩:=I.nH hq1;obtain⟨its2,r2,p2,_⟩:=I.nH hq2;have n1:=r1.length;have n2:=r2.length;refine ahW (I.ok.hd hc) D Z p1 p2 (hend.imp (λq=>by simp;omega) (λq=>by simp;omega)) λg k1=>⟨rfl,I.abN (t':=s.toks) (ch:=[z,TI,TO,i1,i2]) hf λc o hc e=>k1 c o (λq=>hc (by
    simp only[bN,gR,or_false]at q⊢;rcases q with q|q|q|q<;>simp[q])) e⟩
 self:=λ_ _ _ _ _ Z h=>wpAny_pyIter_zip Z.zz h
def ak7(K:aG)(ta:TA):TI:=λσ H R=>ta σ H λvs H1=>∃t1 t2 a b xs ys,vs=[.ref a,.ref b]/\lJ K t1 H1 a xs/\lJ K t2 H1 b ys/\R (KR K t1 t2 a b) H1
def aoY(K:aG){e1 e2:Expr}{es:List Expr}{x1:Nat}{pos':Pos}{ta:TA}{p pos:Pos}(hg:Gl X "zip")(hm:X.mg "zip" = none)(ha:PA X [e1,e2] ta)(hK:X.K=K:=by rfl)
  (hs:starEach [e1,e2] X.env=[(false,eval e1 X.env),(false,eval e2 X.env)]:=by rfl) (hs2:starEach [e2] X.env=[(false,eval e2 X.env)]:=by rfl):
  PI X (.Tuple es x1 pos') (.Call (.Name "zip" p) [e1,e2] [] pos) (ak7 K ta):=by
 subst hK;intro pins s σ H R I h;refine Call_ (sH I hg hm boot_zip (u6 (aW (ha pos pins s σ H _ I h) λus s1 ⟨vs,H1,I1,r1,q1⟩=>?_) (by rw[hs,hs2]) (by rw[hs2];rfl)));obtain⟨t1,t2,a,b,xs,ys,e,hq1,hq2,q⟩:=q1;subst e;cases r1 with
 |cons r rr=>
  cases rr with
  |cons r' rr=>
   cases rr;cases r;cases r';obtain⟨ag3,v1,p1,_⟩:=I1.nH hq1;obtain⟨its2,v2,p2,_⟩:=I1.nH hq2;refine apo p1 p2 λh' Z k=>?_;have I2:Inv X pins σ H1 { s1 with heap:=h' }:=I1.kept (t':=s1.toks) k;have lt1:a<s1.heap.objs.size:=by obtain⟨o,ho,_⟩:=p1;exact cW ho
   have lt2:b<s1.heap.objs.size:=by obtain⟨o,ho,_⟩:=p2;exact cW ho
   have D:Apart (s1.heap.objs.size+4) (s1.heap.objs.size+2) (s1.heap.objs.size+3) s1.heap.objs.size (s1.heap.objs.size+1) a b:=by
    have bad:∀{c:Addr} (n:Nat),c<s1.heap.objs.size->c≠s1.heap.objs.size+n:=λn h q=>absurd (jo h (DQ _ n)) (by rw[q];exact lA _);exact⟨by simp,by simp[bad _ lt1,show a≠s1.heap.objs.size from bad 0 lt1],by simp[bad _ lt2,show b≠s1.heap.objs.size from bad 0 lt2]⟩
   refine wpAny_pyIter_zip Z.zz ⟨_,_,_,_,H1,rfl,I2,ahK D,Z,λc hc=>?_,q⟩;have hc':s1.heap.objs.size<=c:=by
    simp only[bN,gR,or_false]at hc;rcases hc with rfl|rfl|rfl|rfl|rfl
    .exact DQ _ _
    .exact DQ _ _
    .exact DQ _ _
    .exact aN _
    .exact DQ _ _
   exact I1.pJ hc' (I1.hok.fresh hc')
def ak2{K:aG}{t1 t2:Bool}{a b:Addr}{xs ys:List V}{ix:List (Option Nat)}{te:TE}{σ:St}{H1:Hp}{Q:VK}(q1:lJ K t1 H1 a xs)(q2:lJ K t2 H1 b ys)(hz:xs.length<=sizeLine){rest:St}(hst:cst ix σ=none::none::rest)(F:V->V->V)
  (he:∀(H':Hp) (i:Nat) (x y:V),Same H1 H'->xs[i]?=some x->ys[i]?=some y->∀k:VK,k (F x y) H'->te (some x::some y::rest) H' k)
  (hQ:∀D H',H1 D=none->Same H1 H'->H' D=some (.lst (uH F xs ys))->Q (.ref D) H'):
  jL ix (KN K 2 (Qm (iB 0) (Qm (iB 1) aeL))) kW te σ Q (KR K t1 t2 a b) H1:=by
 constructor;intro D hD;refine⟨λi m σ' H'=>m=xs.length-i/\i<=min xs.length ys.length/\(∃o o',σ'=o::o'::rest)/\Same H1 H'/\H' D=some (.lst ((uH F xs ys).take i)),⟨xs.length,by simp,cB _,⟨none,none,hst⟩,Same.new hD _,by rw[aC];simp⟩,?_⟩;rintro i m σ' H' ⟨rfl,hi,⟨o,o',rfl⟩,g,hl⟩;by_cases hlt:i<xs.length/\i<ys.length
 .have hx:xs[i]?=some xs[i]:=List.getElem?_eq_getElem hlt.1;have hy:ys[i]?=some ys[i]:=List.getElem?_eq_getElem hlt.2;refine .inr ⟨⟨xs,ys,_,_,g.nH q1,g.nH q2,hx,hy⟩,?_⟩;rintro v H2 ⟨p,x,y,rfl,hp,rfl,y1,y2⟩;have ex:=y1 xs (g.nH q1);have ey:=y2 ys (g.nH q2);have g2:Same H' (upd H' p (.tup [x,y])):=Same.new hp _;have pD:D≠p:=λq=>by rw[q,hp]at hl;cases hl
  refine⟨p,[x,y],rfl,.inl (.inl aC),rfl,x,[y],rfl,y,[],rfl,rfl,?_⟩;change te (some x::some y::rest) (upd H' p (.tup [x,y])) _;refine he _ i x y (g.trans g2) ex ey _ ⟨_,g2 _ _ hl,?_,xs.length-(i+1),⋯,rfl,⋯,⟨_,_,rfl⟩,?_,?_⟩
  .rw[jd];omega
  .exact Same.upd (g.trans g2) hD _
  .rw[aC,qd];have e:(uH F xs ys)[i]?=some (F x y):=by rw[List.getElem?_zipWith,ex,ey]
   rw[e];rfl
 .refine .inl ⟨⟨xs,ys,g.nH q1,g.nH q2,⋯⟩,hQ D H' hD g ?_⟩;rw[hl,qY];rw[adV];omega
end
def dU.hu{k:Nat}{A:Around}(r:dU k A):A.units+1<cLine:=by have:=r.un;omega
def runK{α:Type}(lt:Nat->Nat->Bool):W.KasT α->α
 |.ret a=>a
 |.ask i j k=>runK lt (k (lt i j))
def BP{α:Type}(n:Nat)(lt:Nat->Nat->Bool):W.KasT α->Bool
 |.ret _=>true
 |.ask i j k=>decide (i<n)&&decide (j<n)&&BP n lt (k (lt i j))
theorem agj{α:Type}{n:Nat}{lt:Nat->Nat->Bool}{cmp:Nat->Nat->(Bool->Shared->Prop)->Shared->Prop}{Q:α->Shared->Prop}{s:Shared}(hc:∀i j (C:Bool->Shared->Prop),i<n->j<n->C (lt i j) s->cmp i j C s):
  ∀t:W.KasT α,BP n lt t=true->Q (runK lt t) s->t.kasWp cmp Q s
 |.ret a,_,h=>h
 |.ask i j k,ho,h=>by
  unfold BP at ho;simp only[rN,decide_eq_true_eq]at ho;exact hc i j _ ho.1.1 ho.1.2 (agj hc (k (lt i j)) ho.2 h)
def E5(n:Nat):Nat->List (List Nat)
 |0=>[[]]
 |m+1=>(E5 n m).flatMap λl=>(eX n).map (· :: l)
theorem aaO{n:Nat}:∀{r:List Nat},(∀x∈r,x<n)->r∈E5 n r.length
 |[],_=>eV.mpr rfl
 |x::r,h=>Qw.mpr ⟨r,aaO λy hy=>h y (cZ _ hy),bZ.mpr ⟨x,iV.mpr (h x (cV ..)),rfl⟩⟩
def qO(r:List Nat)(i j:Nat):Bool:=decide (r.getD i 0<r.getD j 0)
def abY(n:Nat)(r:List Nat):Bool:=!decide r.Nodup||(BP n (qO r) (Ah n)&&(runK (qO r) (Ah n)).toList.isPerm (eX n)&&decide ((runK (qO r) (Ah n)).toList.map (λi=>r.getD i 0)=eX n))
set_option maxRecDepth 100000 in
def ajW:∀n<5,2<=n->(E5 n n).all (abY n)=true:=by decide +kernel
def lW(xs:List Int):List Nat:=xs.map λx=>(xs.filter λy=>decide (y<x)).length
theorem VW:∀(l:List Int) {x y:Int},x<y->(l.filter λz=>decide (z<x)).length<=(l.filter λz=>decide (z<y)).length
 |[],_,_,_=>aN _
 |z::l,x,y,h=>by
  have ih:=VW l h;rw[sO,sO];by_cases c:z<x
  .rw[if_pos (decide_eq_true c),if_pos (decide_eq_true ⋯),iK,iK];omega
  .rw[if_neg (by simpa using c)];split
   .rw[iK];omega
   .exact ih
theorem PJ:∀(l:List Int) {x y:Int},x<y->x∈l->(l.filter λz=>decide (z<x)).length<(l.filter λz=>decide (z<y)).length
 |z::l,x,y,h,hx=>by
  rw[sO,sO];rcases bN.mp hx with e|hx
  .subst e;have:=VW l h;rw[if_neg (by simp),if_pos (decide_eq_true h),iK];omega
  .have ih:=PJ l h hx;by_cases c:z<x
   .rw[if_pos (decide_eq_true c),if_pos (decide_eq_true ⋯),iK,iK];omega
   .rw[if_neg (by simpa using c)];split
    .rw[iK];omega
    .exact ih
def Vr{xs:List Int}{x y:Int}(hx:x∈xs)(hy:y∈xs):(xs.filter λz=>decide (z<x)).length<(xs.filter λz=>decide (z<y)).length↔x<y:=by
 constructor
 .intro h;by_cases c:x<y
  .exact c
  .by_cases e:x=y
   .subst e;omega
   .have:=PJ xs (show y<x by omega) hy;omega
 .exactλh=>PJ xs h hx
def Wg{xs:List Int}{i:Nat}(h:i<xs.length):(lW xs).getD i 0=(xs.filter λz=>decide (z<xs.getD i 0)).length:=by
 unfold lW;rw[List.getD_eq_getElem?_getD,List.getElem?_map,List.getElem?_eq_getElem h,List.getD_eq_getElem?_getD,List.getElem?_eq_getElem h];rfl
def acq{xs:List Int}{i j:Nat}(hi:i<xs.length)(hj:j<xs.length):qO (lW xs) i j=decide (xs.getD i 0<xs.getD j 0):=by
 unfold qO;rw[Wg hi,Wg hj];have mi:xs.getD i 0∈xs:=by rw[List.getD_eq_getElem?_getD,List.getElem?_eq_getElem hi];exact wA hi
 have mj:xs.getD j 0∈xs:=by rw[List.getD_eq_getElem?_getD,List.getElem?_eq_getElem hj];exact wA hj
 exact decide_eq_decide.mpr (Vr mi mj)
def arN{xs:List Int}(hd:xs.Nodup)(h2:2<=xs.length)(h4:xs.length<5):∃π:Array Nat,π=runK (qO (lW xs)) (Ah xs.length)/\BP xs.length (qO (lW xs)) (Ah xs.length)=true/\π.toList.Perm (eX xs.length)/\
  (π.toList.map λi=>xs.getD i 0).Pairwise (· < ·):=by
 have hl:(lW xs).length=xs.length:=by unfold lW;rw[aB]
 have hm:lW xs∈E5 xs.length xs.length:=by
  have:=aaO (n:=xs.length) (r:=lW xs) λr hr=>by
   obtain⟨x,hx,rfl⟩:=bZ.mp hr;have h1:(xs.filter λy=>decide (y<x)).length<xs.length:=by
    rcases vg (xs.filter λy=>decide (y<x)).length xs.length with c|c
    .exact c
    .have:=List.length_filter_eq_length_iff.mp (Nat.le_antisymm (OB ..) c) x hx;simp at this
   exact h1
  rwa [hl]at this
 have hn:(lW xs).Nodup:=by
  unfold lW;refine vd.mpr (abj (λ{a b} ha hb hab e=>?_) hd);have:=Vr ha hb;have:=Vr hb ha;omega
 have hg:=lZ.mp (ajW xs.length h4 h2) _ hm;unfold abY at hg;simp only[hn,decide_true,Bool.not_true,KY,rN,decide_eq_true_eq]at hg;obtain⟨⟨g1,g2⟩,g3⟩:=hg;have hp:=List.isPerm_iff.mp g2;refine⟨_,rfl,g1,hp,?_⟩;have h3:((runK (qO (lW xs)) (Ah xs.length)).toList.map λi=>(lW xs).getD i 0).Pairwise (· < ·):=by rw[g3];exact List.pairwise_lt_range
 refine vd.mpr (abj (λ{a b} ha hb hab=>?_) (vd.mp h3));have ha':=iV.mp (hp.mem_iff.mp ha);have hb':=iV.mp (hp.mem_iff.mp hb);have:=acq ha' hb';unfold qO at this;rw[decide_eq_true hab]at this;exact of_decide_eq_true this.symm
def wL(h:Heap)(v:Value)(p:Int×Int):Prop:=∃a o n t u,v = .ref a/\h.get? a=some o/\o.cls = .type "tuple" /\ o.data = .seq #[.int p.1 t,.int p.2 u] n
def wL.keep{h h':Heap}{v:Value}{p:Int×Int}(k:∀b o,h.get? b=some o->o.cls = .type "tuple" -> h'.get? b=some o):wL h v p->wL h' v p:=λ⟨a,o,n,t,u,e,ho,hc,hd⟩=>⟨a,o,n,t,u,e,k a o ho hc,hc,hd⟩
inductive jJ(h:Heap):List Value->List (Int×Int)->Prop
 |nil:jJ h [] []
 |cons {v:Value} {p:Int×Int} {vs:List Value} {ps:List (Int×Int)}:wL h v p->jJ h vs ps->jJ h (v::vs) (p::ps)
theorem jJ.keep{h h':Heap}(k:∀b o,h.get? b=some o->o.cls = .type "tuple" -> h'.get? b=some o):∀{vs:List Value} {ps:List (Int×Int)},jJ h vs ps->jJ h' vs ps
 |_,_,.nil=> .nil
 |_,_,.cons a r=> .cons (a.keep k) (r.keep k)
theorem jJ.len{h:Heap}:∀{vs:List Value} {ps:List (Int×Int)},jJ h vs ps->vs.length=ps.length
 |_,_,.nil=>rfl
 |_,_,.cons _ r=>congrArg (· + 1) r.len
theorem jJ.get{h:Heap}:∀{vs:List Value} {ps:List (Int×Int)} {i:Nat},jJ h vs ps->i<ps.length->wL h (vs.getD i Value.none) (ps.getD i (0,0))
 |_,_,0,.cons a _,_=>a
 |_,_,i+1,.cons _ r,h=>by simpa using jJ.get (i:=i) r (by simpa using h)
theorem jJ.tups{h:Heap}:∀{vs:List Value} {ps:List (Int×Int)},jJ h vs ps->∃fs,W.KatTups h vs fs/\fs.length=ps.length/\∀v∈fs,∃k t,v=Value.int k t
 |_,_,.nil=>⟨[],.nil,rfl,λv hv=>absurd hv gR⟩
 |_,_,.cons ⟨a,o,n,t,u,e,ho,hc,hd⟩ r=>by
  obtain⟨fs,h1,h2,h3⟩:=r.tups;subst e;exact⟨_::fs,.cons ho hc hd rfl h1,congrArg (· + 1) h2,λv hv=>by
   rcases bN.mp hv with rfl|hv
   .exact⟨_,_,rfl⟩
   .exact h3 v hv⟩
section
variable {prog:Program} {w:World} {A:Around} {E:Value->Shared->Prop} {s:Shared}
def amF{v u:Value}{p q:Int×Int}{C:Bool->Shared->Prop}(hv:wL s.heap v p)(hu:wL s.heap u q)(hpq:p.1=q.1->p.2=q.2)(h:C (decide (p.1<q.1)) s):
  wpAny (model prog w) A (keyLt' (tuples' true) v u) C E s:=by
 obtain⟨a,o,n,t,t2,rfl,ho,hc,hd⟩:=hv;obtain⟨a',o',n',t',t2',rfl,ho',hc',hd'⟩:=hu;refine W.kat_lt ho hd ho' hd' ?_;show W.KatLex prog w A true _ C [(Value.int p.1 t,Value.int q.1 t'),(Value.int p.2 t2,Value.int q.2 t2')] 0 s;refine W.kat_cons (wpAny_eqBool_int ?_);by_cases c:p.1=q.1
 .rw[show(p.1==q.1)=true by simpa using c];refine W.kat_yes (W.kat_cons (wpAny_eqBool_int ?_));rw[show(p.2==q.2)=true by simpa using hpq c];refine W.kat_yes (W.kat_nil ?_);rw[decide_eq_false ⋯]at h;exact h
 .rw[show(p.1==q.1)=false by simpa using c];exact W.kat_no (oneLt_int h)
def asj{a:Addr}{vs:List Value}{ps:List (Int×Int)}{n:Nat}{P:PySem.Fin->Shared->Prop}(ho:s.heap.get? a=some (seqObj "list" vs.toArray n))(hp:jJ s.heap vs ps)(hd:(ps.map (·.1)).Nodup)(h4:ps.length<5)
  (h:∀π:List Nat,π.Perm (eX ps.length)->(π.map λi=>(ps.getD i (0,0)).1).Pairwise (· < ·)->P (.done (.ret .none)) { s with heap:=sortedHeap s.heap a vs (π.map λi=>vs.getD i Value.none).toArray }):
  wpAny (model prog w) A (Builtin.«list.sort» ⟨[.ref a],[]⟩) P E s:=by
 have hl:=hp.len;have ha:a<s.heap.objs.size:=cW ho;rw[list_sort_plain];refine wpAny_bind (listItems_at ho rfl ?_);refine wpAny_bind (listUpdate_at ho rfl ?_ (by rw[eU,sizeLine_eq];omega) (cB _));obtain⟨e1,ho1⟩:∃e1,(s.heap.update a (j8 λ_=>(#[]:Array Value))).get? a=some (seqObj "list" #[] e1):=⟨_,get?_update_seq ho λ_=>#[]⟩;refine wpAny_bind (seqEpoch_at ho1 rfl ?_);refine wpAny_bind (wpAny_newTuple ?_ (by show vs.length<=_;rw[sizeLine_eq];omega));refine wpAny_bind (wpAny_newList ?_ (cB _));refine wpAny_holding ?_;have ho6:(((s.heap.update a (j8 λ_=>#[])).push (seqObj "tuple" vs.toArray 0)).push (seqObj "list" #[] 0)).get? a=some (seqObj "list" #[] e1):=Heap.get?_push_of_some _ (Heap.get?_push_of_some _ ho1);show wpAny (model prog w) A _ P E { s with heap:=((s.heap.update a (j8 λ_=>(#[]:Array Value))).push (seqObj "tuple" vs.toArray 0)).push (seqObj "list" #[] 0) };dsimp only;by_cases h2:vs.toArray.size<2
 .rw[if_pos h2,if_pos h2];refine wpAny_bind (wpAny_pure ?_);rw[StateT.run_pure];refine wpAny_bind (wpAny_pure ?_);dsimp only;have hz:vs.length<2:=by simpa using h2
  have e0:(arrOf (SortSt.mk' general' (vs.toArray.zip vs.toArray) #[] 7 none)).map (·.2)=((eX ps.length).map λi=>vs.getD i Value.none).toArray:=by
   show(vs.toArray.zip vs.toArray).map (·.2)=_;rw[<-hl]
   match vs,hz with
   |[],_=>simp
   |[v],_=>simp[eX,List.range.loop]
  rw[e0];refine wpAny_bind (seqEpoch_at ho6 rfl ?_);refine wpAny_bind (listUpdate_at ho6 rfl ?_ (cB _) (by rw[eU,aB,mK,sizeLine_eq];omega));simp only[bne_self_eq_false,QN,if_false];refine wpAny_pure (h _ (.refl _) ?_);rw[<-hl]
  match vs,hz with
  |[],_=>exact .nil
  |[v],_=>exact .cons (λ_ h=>absurd h gR) .nil
 .rw[if_neg h2,if_neg h2];have hz:2<=vs.length:=by simpa using h2
  have hps:jJ (((s.heap.update a (j8 λ_=>(#[]:Array Value))).push (seqObj "tuple" vs.toArray 0)).push (seqObj "list" #[] 0)) vs ps:=hp.keep λb o e c=>by
   have hb:a≠b:=λz=>by
    subst z;rw[e]at ho;cases ho;have c':Value.type "list" = Value.type "tuple" := c;exact absurd c' ∅
   exact Heap.get?_push_of_some _ (Heap.get?_push_of_some _ ((Heap.get?_update_other _ _ hb).trans e))
  obtain⟨fs,t1,t2,t3⟩:=hps.tups;refine wpAny_bind (W.kat_kind (T:= .type "int") t1 ⋯ (λv hv=>?_) rfl ?_)
  .obtain⟨k,t,rfl⟩:=t3 v hv;exact W.Looks.of_pure rfl
  have eb:(Value.type "int" != Value.type "tuple")=true:=∅;rw[eb];obtain⟨π,eπ,hok,hpm,hpw⟩:=arN (xs:=ps.map (·.1)) hd (by rw[aB];omega) (by rw[aB];omega);rw[aB]at eπ hok hpm;refine wpAny_bind (wpAny_mono (W.kat_run (κ:=tuples' true) (ks:=vs) (Q:=λst' s'=>s'={ s with heap:=((s.heap.update a (j8 λ_=>(#[]:Array Value))).push (seqObj "tuple" vs.toArray 0)).push (seqObj "list" #[] 0) }/\arrOf st'=π.map (W.kas_item (vs.toArray.zip vs.toArray))/\failedOf st'=none)
   (G:=λp s'=>p=π/\s'={ s with heap:=((s.heap.update a (j8 λ_=>(#[]:Array Value))).push (seqObj "tuple" vs.toArray 0)).push (seqObj "list" #[] 0) }) rfl hz ⋯ (λp' st' s' a1 a2 a3 a4=>⟨a4.2,by rw[a2,a4.1],a3⟩) ?_) ?_ λ_ _ e=>e)
  .rw[hl];refine agj (n:=ps.length) (lt:=qO (lW (ps.map (·.1)))) (λi j C hi hj hC=>?_) _ hok ⟨eπ.symm,rfl⟩;unfold W.kas_ask;have gi:(ps.map (·.1)).getD i 0=(ps.getD i (0,0)).1:=by rw[List.getD_eq_getElem?_getD,List.getElem?_map,List.getD_eq_getElem?_getD,List.getElem?_eq_getElem hi];rfl
   have gj:(ps.map (·.1)).getD j 0=(ps.getD j (0,0)).1:=by rw[List.getD_eq_getElem?_getD,List.getElem?_map,List.getD_eq_getElem?_getD,List.getElem?_eq_getElem hj];rfl
   refine amF (hps.get hi) (hps.get hj) (λe=>?_) ?_
   .have hij:i=j:=by
     rw[<-gi,<-gj]at e;rw[List.getD_eq_getElem?_getD,List.getElem?_eq_getElem (by rw[aB];exact hi),List.getD_eq_getElem?_getD,List.getElem?_eq_getElem (by rw[aB];exact hj)]at e;have aeJ:=adv.mp hd;rcases Nat.lt_trichotomy i j with z|z|z
     .exact absurd e (aeJ i j (by rw[aB];exact hi) (by rw[aB];exact hj) z)
     .exact z
     .exact absurd e.symm (aeJ j i (by rw[aB];exact hj) (by rw[aB];exact hi) z)
    rw[hij]
   .rw[acq (by rw[aB];exact hi) (by rw[aB];exact hj),gi,gj]at hC;exact hC
  rintro⟨⟨⟩,st'⟩ s' ⟨rfl,har,hf⟩;dsimp only;have hout:=W.kat_snds rfl har;rw[hout];refine wpAny_bind (seqEpoch_at ho6 rfl ?_);refine wpAny_bind (listUpdate_at ho6 rfl ?_ (cB _) (by rw[eU,aB,hpm.length_eq,mK,sizeLine_eq];omega));rw[hf];simp only[bne_self_eq_false,QN,if_false];refine wpAny_pure (h π.toList hpm ?_);have e2:(π.toList.map λi=>(ps.map (·.1)).getD i 0)=π.toList.map λi=>(ps.getD i (0,0)).1:=lG λi hi=>by
   have:=iV.mp (hpm.mem_iff.mp hi);rw[List.getD_eq_getElem?_getD,List.getElem?_map,List.getD_eq_getElem?_getD,List.getElem?_eq_getElem this];rfl
  rw[<-e2];exact hpw
def apO{l:Addr}{vs:List Value}{ps:List (Int×Int)}{Q:Value->Shared->Prop}(hl:s.heap.IsList l vs.toArray)(hp:jJ s.heap vs ps)(hd:(ps.map (·.1)).Nodup)(h4:ps.length<5)
  (h:∀π:List Nat,π.Perm (eX ps.length)->(π.map λi=>(ps.getD i (0,0)).1).Pairwise (· < ·)->Q (.ref (s.heap.objs.size+1)) { s with heap:=sortedAll s.heap vs (π.map λi=>vs.getD i Value.none).toArray }):
  wpAny (model prog w) A (call (.builtin "sorted") [.ref l]) Q E s:=by
 have hlen:=hp.len;refine Y8 kind_sorted plain_sorted entry_sorted (args_sorted1 _) ?_;unfold Builtin.«sorted»;refine wpAny_bind (m:=checkCount "sorted" 1 1 _) (wpAny_pure ?_);refine wpAny_bind (collect_list hl ?_ (by rw[sizeLine_eq];omega));refine wpAny_bind (wpAny_newList ?_ (by rw[sizeLine_eq];omega));have hsz:((s.heap.push (seqObj "list" #[] 0)).update s.heap.objs.size (j8 (·++vs.toArray))).objs.size=s.heap.objs.size+1:=by
  rw[Heap.size_update,size_push']
 have hoL:(((s.heap.push (seqObj "list" #[] 0)).update s.heap.objs.size (j8 (·++vs.toArray))).push (seqObj "list" vs.toArray 0)).get? (s.heap.objs.size+1)=some (seqObj "list" vs.toArray 0):=by
  rw[<-hsz];exact Heap.get?_push_size _ rfl
 show wpAny _ _ _ _ _ { s with heap:=((s.heap.push (seqObj "list" #[] 0)).update s.heap.objs.size (j8 (·++vs.toArray))).push (seqObj "list" vs.toArray 0) };rw[hsz];refine wpAny_bind (wpAny_holding (wpAny_call_entry slot_list_sort ⟨_,hoL,rfl⟩ entry_list_sort (asj hoL (hp.keep λb o e _=>?_) hd h4 λπ a1 a2=>⟨_,rfl,?_⟩) (args_list_sort _)))
 .have hb:=cW e;exact Heap.get?_push_of_some _ ((Heap.get?_update_other _ _ (dF (jQ hb))).trans (Heap.get?_push_of_some _ e))
 .exact wpAny_pure ⟨_,rfl,h π a1 a2⟩
end
section
variable {X:Cx}
inductive vP(H:Hp):List V->List (Int×Int)->Prop
 |nil:vP H [] []
 |cons {t:Addr} {p:Int×Int} {xs:List V} {ps:List (Int×Int)}:H t=some (.tup [.int p.1,.int p.2])->vP H xs ps->vP H (.ref t::xs) (p::ps)
theorem vP.len{H:Hp}:∀{xs:List V} {ps:List (Int×Int)},vP H xs ps->xs.length=ps.length
 |_,_,.nil=>rfl
 |_,_,.cons _ r=>congrArg (· + 1) r.len
def ang:kj X (.builtin "sorted") (λvs H Q=>∃(l:Addr) (xs:List V) (ps:List (Int×Int)),vs=[.ref l]/\H l=some (.lst xs)/\vP H xs ps/\(ps.map (·.1)).Nodup/\ps.length<5/\
  ∀(l':Addr) (π:List Nat),π.Perm (eX ps.length)->(π.map λi=>(ps.getD i (0,0)).1).Pairwise (· < ·)->H l'=none->Q (.ref l') (upd H l' (.lst (π.map λi=>xs.getD i V.non)))):=by
 intro pins s σ H vs us Q I r h;obtain⟨l,xs,ps,rfl,hl,hp,hd,h4,q⟩:=h;obtain⟨u,rfl,ru⟩:=r.one;cases ru;obtain⟨z,its,nn,rv,hlen,eo⟩:=I.sS hl;have hil:s.heap.IsList l its.toArray:=⟨_,eo,rfl,_,rfl⟩;have hps:∀{xs:List V} {ps:List (Int×Int)} {its:List Value},vP H xs ps->Vals xs its->jJ s.heap its ps:=by
  intro xs ps its hp;induction hp generalizing its with
  |nil=>intro rv;cases rv;exact .nil
  |cons ht _ ih=>
   intro rv;cases rv with
   |cons r rr=>
    cases r;obtain⟨azH,trv,⟨o,e,c,n,d⟩,_⟩:=I.tuple (aA.of ht);refine .cons ?_ (ih rr);cases trv with
    |cons r1 rr1=>
     obtain⟨t1,rfl⟩:=r1;cases rr1 with
     |cons r2 rr2=>
      obtain⟨t2,rfl⟩:=r2;cases rr2;exact⟨_,o,n,t1,t2,rfl,e,c,d⟩
 refine apO hil (hps hp rv) hd h4 λπ a1 a2=>?_;obtain⟨e,he⟩:=sortedAll_at s.heap its (π.map λi=>its.getD i Value.none).toArray;have hlx:=hp.len;have hli:=rv.length;have hin:∀i∈π,i<ps.length:=λi hi=>iV.mp (a1.mem_iff.mp hi);have hv:Vals (π.map λi=>xs.getD i V.non) (π.map λi=>its.getD i Value.none):=by
  clear he e a1 a2;induction π with
  |nil=>exact .nil
  |cons i π ih=>
   have hi:=hin i (cV ..);have ex:xs[i]?=some (xs.getD i V.non):=by rw[List.getD_eq_getElem?_getD,List.getElem?_eq_getElem ⋯];rfl
   obtain⟨u,hu,ru⟩:=rv.get ex;refine .cons ?_ (ih λj hj=>hin j (cZ _ hj));have eu:its.getD i Value.none=u:=by rw[List.getD_eq_getElem?_getD,hu];rfl
   show RelV (xs.getD i V.non) (its.getD i Value.none);rw[eu];exact ru
 have hz:(π.map λi=>xs.getD i V.non).length<=sizeLine:=by rw[aB,a1.length_eq,mK,sizeLine_eq];omega
 exact⟨.ref _,_,I.laid (t':=s.toks) (λb o e=>sortedAll_old e) (Nat.le_succ _) (show dz X.prog X.w _ _ _ (.lst (π.map λi=>xs.getD i V.non))from⟨hz,_,e,hv,he⟩),rfl,q _ π a1 a2 (I.hok.fresh (Nat.le_succ _))⟩
def agf:bootBuiltins "sorted" = some (.builtin "sorted"):=by decide +kernel
end
section
variable {X:Cx} {pins:List (Addr×Obj)} {σ:St} {H:Hp} {s:Shared}
def Inv.swap{a:Addr}{u u':HO}(I:Inv X pins σ H s)(e:H a=some u)(h1:∀xs,u≠ .tup xs)(h2:∀x,u≠ .own x)(h3:∀ps,u≠ .rG ps)(hx:∀o v,X.H₀ a≠some (.dw o v))(new:dz X.prog X.w (upd H a u') s.heap a u'):Inv X pins σ (upd H a u') s:=by
 have Gz:∀b,H b=none->(upd H a u') b=none:=λb n=>by rw[bF λz=>by rw[z,e]at n;cases n];exact n
 have XI:∀b xs,H b=some (.tup xs)->(upd H a u') b=some (.tup xs):=λb xs q=>by rw[bF λz=>by rw[z,e]at q;cases q;exact h1 _ rfl];exact q
 refine⟨I.ok,I.os,I.bare,⟨I.base.keep,I.base.slot,λb o q n hb=>Gz b (I.base.free b o q n hb),I.base.there,λb xs q=>XI b xs (I.base.tups b xs q),λb o v q=>?_,λb ps q=>?_⟩,I.loc,I.cell,Gz _ I.free,λx c q=>Gz _ (I.pZ x c q),λp hp=>?_,λb v q=>?_,I.len⟩
 .rw[bF λz=>hx o v (by rw[<-z];exact q)];exact I.base.jR b o v q
 .obtain⟨more,q'⟩:=I.base.nM b ps q;exact⟨more,by rw[bF λz=>by rw[z,e]at q';cases q';exact h3 _ rfl];exact q'⟩
 .obtain⟨p1,p2,p3⟩:=I.pin p hp;exact⟨p1,Gz _ p2,p3⟩
 .by_cases z:b=a
  .subst z;rw[aC]at q;cases q;exact new
  .rw[bF z]at q;exact(I.hok b v q).stay (λ_ _ _ r=>r) (λc r=>by rw[bF λz=>by rw[z,e]at r;cases r;exact h2 _ rfl];exact r) XI
def dz.abP{P:Program}{w:World}{H':Hp}{h:Heap}{a:Addr}{kvs:List (Key×V)}(x:dz P w H h a (.dK kvs)):dz P w H' h a (.dK kvs):=x
def tFz(t:TE):TE:=λσ H Q=>∃(a:Addr) (kvs:List (Key×V)),H a=some (.dK kvs)/\∀o,t σ (upd H a (.dw o (.dK kvs))) λv H2=>H2 a=some (.dw o (.dK kvs))/\Q v (upd H2 a (.dK kvs))
def VQ{e:Expr}{t:TE}(h:PE X e t):PE X e (tFz t):=by
 intro pins s σ H Q I q;obtain⟨a,kvs,hA,q⟩:=q;obtain⟨z,y,vs,rel,o,es,ep,ho,rest⟩:=(show dz X.prog X.w H s.heap a (.dK kvs)from I.hok a _ hA);have nf:∀o v,X.H₀ a≠some (.dw o v):=λo v c=>by
  have:=I.base.jR a o v c;rw[hA]at this;cases this
 have I1:Inv X pins σ (upd H a (.dw o (.dK kvs))) s:=I.swap hA (λ_ c=>by cases c) (λ_ c=>by cases c) (λ_ c=>by cases c) nf ⟨ho,z,y,vs,rel,o,es,ep,ho,rest⟩;refine wpAny_mono (h pins s σ _ _ I1 (q o)) (λu s' hs=>?_) λ_ _ x=>x;obtain⟨v,H2,I2,r,hf,q2⟩:=hs;obtain⟨_,o2⟩:=(show dz X.prog X.w H2 s'.heap a (.dw o (.dK kvs))from I2.hok a _ hf);exact⟨v,_,I2.swap hf (λ_ c=>by cases c) (λ_ c=>by cases c) (λ_ c=>by cases c) nf (dz.abP o2),r,q2⟩
def Rt(a:Addr)(o:Obj)(kvs:List (Key×V)):It:=
 ⟨λi H=>H a=some (.dw o (.dK kvs))/\i<kvs.length,λi H x H'=>H'=H/\(kvs[i]?.map λkv=>kV kv.1)=some x,λi H=>H a=some (.dw o (.dK kvs))/\kvs.length<=i⟩
def aaQ{P:Program}{w:World}{k:Key}{v:Value}(h:(gY P w).is k v=true):RelV (kV k) v:=by
 rcases rW h with⟨i,t,rfl,rfl⟩|⟨x,t,rfl,rfl⟩
 .exact⟨t,rfl⟩
 .exact⟨t,rfl⟩
theorem Xh:∀{kvs:List (Key×V)} {vs:List (Key×Value)} {i:Nat} {p:Key×V} {q:Key×Value},KV kvs vs->kvs[i]?=some p->vs[i]?=some q->p.1=q.1
 |_,_,0,_,_,.cons r _,h1,h2=>by cases h1;cases h2;exact r.1
 |_,_,i+1,_,_,.cons _ r,h1,h2=>Xh (i:=i) r (by simpa using h1) (by simpa using h2)
def ahl{P:Program}{w:World}{K:aG}{tg:Expr}(a it:Addr)(o:Obj)(kvs:List (Key×V)){es:Array DictEntry}{ep:Nat}(hd:o.data = .dict es ep):Turn P w K tg (Rt a o kvs) [it] it (λi h=>i<=kvs.length/\h.IsKeyIter it a i kvs.length ep) where
 mem:=by simp
 obj:=λi h st b hb=>by
  have e:b=it:=by simpa using hb
  subst e;obtain⟨_,o,e,c,d⟩:=st;exact⟨o,e,λv z=>by rw[d]at z;cases z⟩
 keep:=λi h h' st k=>by
  obtain⟨hi,o,e,c,d⟩:=st;exact⟨hi,o,k it (by simp) o e,c,d⟩
 item:=by
  intro X hP hw hK hc i pins s σ H E I hf st hg;subst hP hw hK;obtain⟨hA,hi⟩:=hg;obtain⟨ho,z,y,vs,rel,o',es',ep',ho',hex,hd',hk,hp,hn⟩:=(show dz X.prog X.w H s.heap a (.dw o (.dK kvs))from I.hok a _ hA);rw[ho]at ho';cases ho';rw[hd]at hd';cases hd';have hl:kvs.length=vs.length:=rel.length;obtain⟨f0,f1,f2,f3,f4,f5⟩:=hf it (by simp);have hx:vs[i]?=some (vs[i]'⋯):=List.getElem?_eq_getElem _;have hkx:kvs[i]?=some kvs[i]:=List.getElem?_eq_getElem hi;obtain⟨_,stI⟩:=st;rw[hl]at stI;refine wpAny_pyNext_dict_item (knd:=gY X.prog X.w) stI ⟨o,es,ho,hex,hd,hk,hp,hn⟩ hx λkey h' hkey st' sb=>?_;have I1:Inv X pins σ H { s with heap:=h' }:=I.turned (t':=s.toks) (λb o hb e=>(sb.2 b hb).trans e) f0 f1 f3 f4 f5;obtain⟨oo,e,c,d⟩:=id st';have ek:kvs[i].1=(vs[i]'⋯).1:=Xh rel hkx hx;exact⟨key,rfl,zy (s:={ s with heap:=h' }) e c d ∅ ⟨kV kvs[i].1,H,I1,by rw[ek];exact aaQ hkey,⟨rfl,by rw[hkx];rfl⟩,⟨hi,by rw[hl];exact st'⟩,λb hb=>(hf b hb).1⟩⟩
 done:=by
  intro X hP hw hK hc i pins s σ H E I hf st hg;subst hP hw hK;obtain⟨hA,hi⟩:=hg;obtain⟨ho,z,y,vs,rel,o',es',ep',ho',hex,hd',hk,hp,hn⟩:=(show dz X.prog X.w H s.heap a (.dw o (.dK kvs))from I.hok a _ hA);rw[ho]at ho';cases ho';rw[hd]at hd';cases hd';have hl:kvs.length=vs.length:=rel.length;obtain⟨f0,f1,f2,f3,f4,f5⟩:=hf it (by simp);obtain⟨_,stI⟩:=st;rw[hl]at stI;exact wpAny_pyNext_dict_end (knd:=gY X.prog X.w) (I.ok.hd hc) stI ⟨o,es,ho,hex,hd,hk,hp,hn⟩ (List.getElem?_eq_none ⋯) λh' eb=>⟨rfl,I.turned (t':=s.toks) (λb o hb e=>eb b o hb e) f0 f1 f3 f4 f5⟩
 self:=λ_ _ _ _ _ st h=>wpAny_pyIter_keyiter st.2 h
def avA(tl:TE):TI:=λσ H R=>tl σ H λx H1=>∃(a:Addr) (o:Obj) (kvs:List (Key×V)),x = .ref a/\H1 a=some (.dw o (.dK kvs))/\R (Rt a o kvs) H1
def KL{tg l:Expr}{tl:TE}(hl:PE X l tl):PI X tg l (avA tl):=by
 intro pins s σ H R I h;refine wpAny_mono (hl pins s σ H _ I h) (λu s1 hs=>?_) λ_ _ x=>x;obtain⟨v,H1,I1,r,a,o,kvs,rfl,hA,q⟩:=hs;cases r;obtain⟨ho,z,y,vs,rel,o',es,ep,ho',hex,hd,hk,hp,hn⟩:=(show dz X.prog X.w H1 s1.heap a (.dw o (.dK kvs))from I1.hok a _ hA);rw[ho]at ho';cases ho';have hlen:kvs.length=vs.length:=rel.length;refine wpAny_pyIter_dict (knd:=gY X.prog X.w) y ⟨o,es,ho,hex,hd,hk,hp,hn⟩ ?_;have I2:Inv X pins σ H1 { s1 with heap:=s1.heap.push { cls:= .type "dict_keyiterator",data:= .fields #[.ref a,.int 0 0,.int vs.length 0,.int ep 0] } }:=I1.kept (t':=s1.toks) λb o e=>Heap.get?_push_of_some _ e;refine⟨_,[s1.heap.objs.size],_,_,H1,rfl,I2,ahl a _ o kvs hd,⟨cB _,_,Heap.get?_push_size _ rfl,rfl,by rw[hlen];rfl⟩,λc hc=>?_,q⟩;have e:c=s1.heap.objs.size:=by simpa using hc
 subst e;exact I1.pJ (aN _) (I1.hok.fresh (aN _))
def UN{a:Addr}{o:Obj}{kvs:List (Key×V)}{H1:Hp}(h:H1 a=some (.dw o (.dK kvs))):pQ (Rt a o kvs) (kvs.map λkv=>kV kv.1) H1:=by
 refine⟨λi H' g hi=>?_,λi H' x H2 g y=>⟨y.1,λhi=>?_⟩,λi H' g hi=>?_⟩
 .rw[aB]at hi;exact⟨g _ _ h,hi⟩
 .rw[List.getElem?_map];exact y.2
 .rw[aB]at hi;exact⟨g _ _ h,hi⟩
end
section
variable {X:Cx}
def sFz(t:TS):TS:=λD σ H=>∃(a:Addr) (kvs:List (Key×V)),H a=some (.dK kvs)/\∀o,t { nx:=λσ' H2=>H2 a=some (.dw o (.dK kvs))/\D.nx σ' (upd H2 a (.dK kvs)),rt:=λ_ _=>False } σ (upd H a (.dw o (.dK kvs)))
def amK{st:Stmt}{t:TS}(h:PS X st t):PS X st (sFz t):=by
 intro pins s σ H D I q;obtain⟨a,kvs,hA,q⟩:=q;obtain⟨z,y,vs,rel,o,es,ep,ho,rest⟩:=(show dz X.prog X.w H s.heap a (.dK kvs)from I.hok a _ hA);have nf:∀o v,X.H₀ a≠some (.dw o v):=λo v c=>by
  have:=I.base.jR a o v c;rw[hA]at this;cases this
 have I1:Inv X pins σ (upd H a (.dw o (.dK kvs))) s:=I.swap hA (λ_ c=>by cases c) (λ_ c=>by cases c) (λ_ c=>by cases c) nf ⟨ho,z,y,vs,rel,o,es,ep,ho,rest⟩;refine wpAny_mono (h pins s σ _ _ I1 (q o)) (λf s' hs=>?_) λ_ _ x=>x;cases f with
 |next=>
  obtain⟨σ2,H2,I2,hf,q2⟩:=hs;obtain⟨_,o2⟩:=(show dz X.prog X.w H2 s'.heap a (.dw o (.dK kvs))from I2.hok a _ hf);exact⟨σ2,_,I2.swap hf (λ_ c=>by cases c) (λ_ c=>by cases c) (λ_ c=>by cases c) nf (dz.abP o2),q2⟩
 |cont=>obtain⟨_,_,_,z⟩:=hs;exact z.elim
 |brk=>obtain⟨_,_,_,z⟩:=hs;exact z.elim
 |ret v=>obtain⟨_,_,_,_,_,z⟩:=hs;exact z.elim
theorem W0:∀{ns:List Int} {kvs:List (Key×V)} {vs:List (Key×Value)},kvs.map (·.1)=ns.map nY->KV kvs vs->vs.map (·.1)=ns.map nY
 |_,_,_,e,.nil=>e
 |[],_,_,e,.cons _ _=>by cases e
 |n::ns,_,_,e,.cons r rr=>by
  rw[bG,bG]at e;injection e with e1 e2;rw[bG,bG,W0 e2 rr,<-r.1,e1]
def ints_of{ns:List Int}{acc:List Value}(hl:acc.length=ns.length)(h:∀(j:Nat) (v:Value),acc[j]?=some v->∃n t,ns[j]?=some n/\v = .int n t):IntsAre acc ns:=by
 induction acc generalizing ns with
 |nil=>cases ns with|nil=>exact .nil|cons _ _=>cases hl
 |cons v acc ih=>
  cases ns with
  |nil=>cases hl
  |cons n ns=>
   obtain⟨m,t,e,rfl⟩:=h 0 v rfl;cases e;exact .cons _ t (ih (by simpa using hl) λj u hj=>h (j+1) u hj)
def am1(hc:X.calm=true):kj X (.builtin "sorted") (λvs H Q=>∃(a:Addr) (kvs:List (Key×V)) (ns:List Int),vs=[.ref a]/\H a=some (.dK kvs)/\kvs.map (·.1)=ns.map nY/\ns.length<64/\
  ∀(l':Addr) (ns':List Int),ns'.Perm ns->ns'.Pairwise (·<=·)->H l'=none->Q (.ref l') (upd H l' (.lst (ns'.map V.int)))):=by
 intro pins s σ H vs us Q I r h;obtain⟨a,kvs,ns,rfl,ha,hk,h64,q⟩:=h;obtain⟨u,rfl,ru⟩:=r.one;cases ru;obtain⟨z,y,ws,rel,o,es,ep,ho,hex,hd,hks,hps,hnd⟩:=(show dz X.prog X.w H s.heap a (.dK kvs)from I.hok a _ ha);have ew:=W0 hk rel;have lw:ws.length=ns.length:=by have:=congrArg sZ ew;simpa using this
 refine Y8 kind_sorted plain_sorted entry_sorted (args_sorted1 _) ?_;unfold Builtin.«sorted»;refine wpAny_bind (m:=checkCount "sorted" 1 1 _) (wpAny_pure ?_);refine wpAny_bind (W.kdu_collect (W.kdl_dict (knd:=gY X.prog X.w) (kvs:=ws) (ep:=ep) y) (by simpa using I.ok.hd hc) ⟨o,es,ho,hex,hd,hks,hps,hnd⟩ (by rw[sizeLine_eq];omega) λh1 tk acc keep hI=>?_);have hacc:IntsAre acc.toList ns:=ints_of (by rw[<-lw];simpa using hI.1) λj v hj=>by
  obtain⟨k,x,e1,e2⟩:=hI.2 j v (by simpa using hj);have e3:(ws.map (·.1))[j]?=some k:=by rw[List.getElem?_map,e1];rfl
  rw[ew,List.getElem?_map]at e3;cases e4:ns[j]? with
  |none=>rw[e4]at e3;cases e3
  |some n=>
   rw[e4]at e3;cases e3;obtain⟨t,rfl⟩:=(show RelV (.int n) v from aaQ (k:= .inl n) e2);exact⟨n,t,rfl,rfl⟩
 have hal:acc.toList.length=ns.length:=by rw[<-lw];simpa using hI.1
 have I1:Inv X pins σ H { s with heap:=h1,toks:=tk }:=I.kept (t':=tk) keep;refine wpAny_bind (wpAny_newList ?_ (by rw[sizeLine_eq];simp at hal ⊢;omega));have hoL:(h1.push (seqObj "list" acc.toList.toArray 0)).get? h1.objs.size=some (seqObj "list" acc.toList.toArray 0):=Heap.get?_push_size _ rfl;refine wpAny_bind (wpAny_holding (wpAny_call_entry slot_list_sort ⟨_,hoL,rfl⟩ entry_list_sort (list_sort_tree hoL hacc ⋯ λout ns' a1 a2 a3=>⟨_,rfl,?_⟩) (args_list_sort _)));obtain⟨e,he⟩:=sortedHeap_at (out:=out) hoL;have hz:(ns'.map V.int).length<=sizeLine:=by rw[aB,a2.length_eq,sizeLine_eq];omega
 have vi:∀{vs:List Value} {ns:List Int},IntsAre vs ns->Vals (ns.map V.int) vs:=λh=>by
  induction h with
  |nil=>exact .nil
  |cons n t _ ih=>exact .cons ⟨t,rfl⟩ ih
 exact wpAny_pure ⟨_,rfl,.ref _,_,I1.laid (t':=tk) (λb o q=>by
  have hb:=cW q;rw[sortedHeap_old (jQ hb) (by rw[size_push'];exact ZR hb)];exact Heap.get?_push_of_some _ q) (aN _) (show dz X.prog X.w _ _ _ (.lst (ns'.map V.int))from⟨hz,out.toList,e,vi a1,by simpa using he⟩),rfl,q _ ns' a2 a3 (I1.hok.fresh (aN _))⟩
end
section
variable {X:Cx}
def tFn(mg:Str->Option Value)(x:Str):TE:=λ_ H Q=>∀g,mg x=some (.ref g)->Q (.ref g) H
def arW{x:Str}{k:Nat}{ps:List Str}{sp:Sp}{pos:Pos}(C:iQ X.prog X.w X.K X.mg X.base x k ps sp)(hg:Gl X x)(hd:(x==("__debug__" : Str))=false:=by decide):PE X (.Name x pos) (tFn X.mg x):=by
 obtain⟨g,gd,hm,_,_,_⟩:=C.ex;intro pins s σ H Q I h;exact Wj (v:= .ref g) hg hm rfl hd pins s σ H Q I (h g hm)
def amg(mg:Str->Option Value)(x:Str)(sp:Sp)(tv:TE)(t:TA):TE:=λσ H Q=>tv σ H λv H1=>(∃g,mg x=some (.ref g)/\v = .ref g)/\t σ H1 λvs H2=>sp vs H2 Q E0
def auQ{mg:Str->Option Value}{x y:Str}{k k':Nat}{ps:List Str}{sp:Sp}{p pos:Pos}{e:Expr}{es:List Expr}{tv:TE}{t:TA}(C:iQ X.prog X.w X.K mg X.base x k ps sp)(hr:dU k' X.A)(hv:PE X (.Name y p) tv)(ha:PA X (e::es) t)
  (hmg:X.mg=mg:=by rfl) (hk:k<=k':=by decide) (he:starEach (e::es) X.env=(false,eval e X.env)::starEach es X.env:=by rfl) (hpl:(backTo pos (starEach es X.env)).any (·.1)=false:=by rfl):PE X (.Call (.Name y p) (e::es) [] pos) (amg mg x sp tv t):=by
 subst hmg;obtain⟨g,gd,hm,hkp,hb,F⟩:=C.ex;intro pins s σ H Q I h;refine wpAny_Call_Name_kw (aW (hv pins s σ H _ I h) λu s1 ⟨v,H1,I1,r,⟨g',hm',ev⟩,q⟩=>?_);subst ev;obtain rfl:u=Value.ref g':=r;rw[hm]at hm';cases hm';refine W.callWith_K (h₀:=X.base) I1.ok.mod.JY hkp (aW (ha pos pins s1 σ H1 _ I1 q) λus s2 ⟨vs,H2,I2,r2,q2⟩=>⟨I2.wQ,?_⟩) he hpl;refine VH F (hr.mono hk) hb .nil abH I2 r2 ?_;rw[xg];exact q2
end
end L2
namespace Rm
def tk(b n:Int):Int:=if b=0 then n else n%b
def aY(n:Int):tk 0 n=n:=if_pos rfl
def jY{b:Int}(h:b≠0)(n:Int):tk b n=n%b:=if_neg h
def gJ(b n:Int):tk b (tk b n)=tk b n:=by
 unfold tk;split
 .rfl
 .exact nO _ (nZ b)
def jD(b x y:Int):tk b (tk b x+y)=tk b (x+y):=by
 unfold tk;split
 .rfl
 .exact Int.emod_add_emod ..
def wO(b x y:Int):tk b (x+tk b y)=tk b (x+y):=by
 rw[n6,jD,n6]
def dI(b x y:Int):tk b (x*tk b y)=tk b (x*y):=by
 unfold tk;split
 .rfl
 .rw[mD,nO _ (nZ b),<-mD]
def jH(b x y:Int):tk b (tk b x*y)=tk b (x*y):=by
 rw[cA,dI,cA]
def jy{b x x' y y':Int}(h:tk b x=tk b x')(h':tk b y=tk b y'):tk b (x+y)=tk b (x'+y'):=by
 rw[<-jD,<-wO,h,h',wO,jD]
def S(rule:List Int)(f:Nat->Int)(n:Nat):Nat->Int
 |0=>0
 |m+1=>S rule f n m+rule.getD m 0*f (n-1-m)
theorem NK{rule:List Int}{f g:Nat->Int}{n:Nat}:∀{m:Nat},(∀k,k<m->f (n-1-k)=g (n-1-k))->S rule f n m=S rule g n m
 |0,_=>rfl
 |m+1,h=>by
  unfold S;rw[NK λk hk=>h k ⋯,h m ⋯]
theorem getD_map{f:Int->Int}(h0:f 0=0):∀(l:List Int) (k:Nat),(l.map f).getD k 0=f (l.getD k 0)
 |[],k=>by simp[h0]
 |x::r,0=>by simp
 |x::r,k+1=>by
  have:=getD_map h0 r k;simpa using this
def row(b:Int)(rule starts:List Int):Nat->List Int
 |0=>[]
 |n+1=>row b rule starts n++[if n<starts.length then starts.getD n 0 else tk b (S rule (λi=>(row b rule starts n).getD i 0) n rule.length)]
theorem sX(b:Int)(rule starts:List Int):∀n,(row b rule starts n).length=n
 |0=>rfl
 |n+1=>by simp[row,sX b rule starts n]
def at_(b:Int)(rule starts:List Int)(n:Nat):Int:=(row b rule starts (n+1)).getD n 0
theorem acD(b:Int)(rule starts:List Int):∀{n i:Nat},i<n->(row b rule starts n).getD i 0=at_ b rule starts i
 |n+1,i,h=>by
  by_cases e:i=n
  .subst e;rfl
  .have hi:i<n:=⋯;have hl:=sX b rule starts n;have:=acD b rule starts (n:=n) (i:=i) hi;rw[<-this];show(row b rule starts n++_).getD i 0=_;rw[List.getD_eq_getElem?_getD,List.getElem?_append_left ⋯,<-List.getD_eq_getElem?_getD]
def Gn(b:Int)(rule starts:List Int)(n:Nat):at_ b rule starts n=if n<starts.length then starts.getD n 0 else tk b (S rule (λi=>(row b rule starts n).getD i 0) n rule.length):=by
 unfold at_;have hl:=sX b rule starts n;show(row b rule starts n++_).getD n 0=_;rw[List.getD_eq_getElem?_getD,List.getElem?_append_right ⋯,hl];simp
def tG{b:Int}{rule starts:List Int}{n:Nat}(h:n<starts.length):at_ b rule starts n=starts.getD n 0:=by
 rw[Gn,if_pos h]
def Je{b:Int}{rule starts:List Int}{n:Nat}(hl:rule.length=starts.length)(h:starts.length<=n):at_ b rule starts n=tk b (S rule (at_ b rule starts) n rule.length):=by
 rw[Gn,if_neg ⋯];congr 1;refine NK λk hk=>acD b rule starts ⋯
theorem Ng(b:Int)(rule starts:List Int):∀n,row b rule starts n=(eX n).map (at_ b rule starts)
 |0=>rfl
 |n+1=>by
  rw[MH,fW,<-Ng b rule starts n];show _++[_]=_++[at_ b rule starts n];rw[Gn]
def ata(b:Int)(rule starts:List Int)(n:Nat):row b rule starts (n+1)=row b rule starts n++[at_ b rule starts n]:=by
 rw[Gn];rfl
def ZF{b:Int}{rule starts:List Int}(hl:rule.length=starts.length){g:Nat->Int}(h1:∀i,i<starts.length->g i=starts.getD i 0)
  (h2:∀i,starts.length<=i->g i=tk b (S rule g i rule.length)):∀n,at_ b rule starts n=g n:=by
 intro n;induction n using rQ with
 |ind n ih=>
  by_cases h:n<starts.length
  .rw[tG h,h1 n h]
  .rw[Je hl ⋯,h2 n ⋯];congr 1;exact NK λk hk=>ih _ ⋯
theorem UW{b:Int}{rule starts:List Int}:∀{n:Nat},n<=starts.length->row b rule starts n=starts.take n
 |0,_=>by simp[row]
 |n+1,h=>by
  rw[ata,UW ⋯,tG ⋯,qd,List.getD_eq_getElem?_getD,List.getElem?_eq_getElem ⋯];rfl
def Bd(n:Nat)(x:Int):Prop:=x.natAbs<2^n
def Bd.mono{m n:Nat}{x:Int}(h:Bd m x)(hmn:m<=n):Bd n x:=jo h (wj ∅ hmn)
def Bd.mul{m n:Nat}{x y:Int}(h:Bd m x)(h':Bd n y):Bd (m+n) (x*y):=by
 unfold Bd at *;rw[jT,Nat.pow_add];exact Nat.mul_lt_mul'' h h'
def Bd.add{n:Nat}{x y:Int}(h:Bd n x)(h':Bd n y):Bd (n+1) (x+y):=by
 unfold Bd at *;have:=Int.natAbs_add_le x y;rw[wH];omega
def Bd.zero(n:Nat):Bd n 0:=Nat.pow_pos ∅
def Bd.of{n:Nat}{x:Int}(h1:-(2^n)<x)(h2:x<2^n):Bd n x:=by
 unfold Bd;have e:((2^n:Nat):Int)=(2:Int)^n:=by simp
 omega
def Bd.emod{n:Nat}{x b:Int}(hb:0<b)(h:Bd n b):Bd n (x%b):=by
 unfold Bd at *;have:=rY x (show b≠0 by omega);have:=rK x hb;omega
theorem Bd.S{rule:List Int}{f:Nat->Int}{n a c:Nat}(hr:∀k,Bd a (rule.getD k 0)):∀m:Nat,(∀k,k<m->Bd c (f (n-1-k)))->Bd (a+c+m) (Rm.S rule f n m)
 |0,_=>Bd.zero _
 |m+1,h=>by
  unfold Rm.S;refine Bd.add (n:=a+c+m) (Bd.S hr m λk hk=>h k ⋯) (((hr m).mul (h m ⋯)).mono ⋯)
def awW(l:List Int)(k:Nat):l.getD k 0=0∨l.getD k 0∈l:=by
 by_cases h:k<l.length
 .right;rw[List.getD_eq_getElem?_getD,List.getElem?_eq_getElem h];exact wA h
 .left;rw[List.getD_eq_getElem?_getD,List.getElem?_eq_none ⋯];rfl
theorem Bd.getD{l:List Int}{n:Nat}(h:∀x∈l,Bd n x)(k:Nat):Bd n (l.getD k 0):=by
 rcases awW l k with e|e
 .rw[e];exact .zero n
 .exact h _ e
def qg{b x:Int}{n:Nat}(hb:0<=b)(hb':Bd n b)(h:Bd n x):Bd n (tk b x):=by
 unfold tk;split
 .exact h
 .exact Bd.emod ⋯ hb'
def afn{b:Int}{rule starts:List Int}{a c:Nat}(hl:rule.length=starts.length)(hb:0<=b)(hb':Bd c b)(hr:∀x∈rule,Bd a x)(hs:∀x∈starts,Bd c x):
  ∀n,Bd (c+n*(a+rule.length)) (at_ b rule starts n):=by
 intro n;induction n using rQ with
 |ind n ih=>
  by_cases h:n<starts.length
  .rw[tG h];exact(Bd.getD hs n).mono ⋯
  .rw[Je hl ⋯];by_cases h0:rule.length=0
   .rw[h0];exact qg hb (hb'.mono ⋯) (.zero _)
   .have hn:0<n:=⋯;have q:=Bd.S (rule:=rule) (f:=at_ b rule starts) (n:=n) (a:=a) (c:=c+(n-1)*(a+rule.length)) (λk=>Bd.getD hr k) rule.length λk hk=>by
     refine(ih (n-1-k) ⋯).mono ?_;have:(n-1-k)*(a+rule.length)<=(n-1)*(a+rule.length):=qe _ ⋯;omega
    have e:n*(a+rule.length)=(n-1)*(a+rule.length)+(a+rule.length):=by
     obtain⟨m,rfl⟩:∃m,n=m+1:=⟨n-1,⋯⟩;rw[fU,tY]
    exact qg hb (hb'.mono ⋯) (q.mono ⋯)
end Rm
namespace Om
def nU:List Nat:=[2,3,5,7,11,13,17,19,23,29,31,37,41,43,47,53,59,61,67,71,73,79,83,89,97,101,103,107,109,113,127,131,137,139,149,151,157,163,167,173,179,181,191,193,197,199,211,223,227,229,233,239,241,251,257,263,269,271,277,281,283,293,307,311,313,317,331,337,347,349,353,359,367,373,379,383,389,397,401,409,419,421,431,433,439,443,449,457,461,463,467,479,487,491,499,503,509,521,523,541,547,557,563,569,571,577,587,593,599,601,607,613,617,619,631,641,643,647,653,659,661,673,677,683,691,701,709,719,727,733,739,743,751,757,761,769,773,787,797,809,811,821,823,827,829,839,853,857,859,863,877,881,883,887,907,911,919,929,937,941,947,953,967,971,977,983,991,997]
def Ir(p:Nat):Nat->Bool
 |0=>true
 |a+1=>(J9 a 0||J9 ((Nat.pow a (p-1))%p) 1)&&Ir p a
set_option maxRecDepth 100000 in
def axG:(nU.all λp=>Ir p p)=true:=by decide +kernel
theorem Xg{p:Nat}:∀{n:Nat},Ir p n=true->∀a,a<n->a≠0->a^(p-1)%p=1
 |n+1,h,a,ha,h0=>by
  unfold Ir at h;rw[rN]at h;by_cases e:a=n
  .subst e;have h1:=h.1;rw[vU]at h1;rcases h1 with h1|h1
   .exact absurd (U9 h1) h0
   .exact U9 h1
  .exact Xg h.2 a ⋯ h0
def anH{p a:Nat}(hp:p∈nU)(h0:a≠0)(h:a<p):a^(p-1)%p=1:=
 Xg (lZ.mp axG p hp) a h h0
def D4{p a:Int}{P:Nat}(hP:p=(P:Int))(hp:P∈nU)(h0:0<a)(h:a<p):a^(P-1)%p=1:=by
 obtain⟨n,rfl⟩:∃n:Nat,a=(n:Int):=⟨a.toNat,⋯⟩;subst hP;have:=anH hp (a:=n) ⋯ ⋯;have e:((n:Int)^(P-1))=((n^(P-1):Nat):Int):=by simp
 rw[e,<-Cw,this];rfl
def mod_mul{x y x' y' p:Int}(h:x%p=x'%p)(h':y%p=y'%p):(x*y)%p=(x'*y')%p:=by
 rw[mD,h,h',<-mD]
theorem Rx{x x' p:Int}(h:x%p=x'%p):∀n:Nat,(x^n)%p=(x'^n)%p
 |0=>by simp
 |n+1=>by rw[jj,jj];exact mod_mul (Rx h n) h
def Keeps(p a:Int)(e:Nat)(power square:Int)(left:Nat):Prop:=(power*square^left)%p=(a^e)%p
def ahA(p a:Int)(e:Nat):Keeps p a e 1 a e:=by unfold Keeps;rw[iG]
theorem Nf(x:Int):∀n:Nat,(x*x)^n=x^(2*n)
 |0=>by simp
 |n+1=>by
  rw[jj,Nf x n,show 2*(n+1)=2*n+1+1 by omega,jj,jj,bU]
def aoQ{p a:Int}{e:Nat}{power square:Int}{left:Nat}(h:Keeps p a e power square left)(ho:left%2=1):Keeps p a e (power*square%p) (square*square%p) (left/2):=by
 unfold Keeps at *;have h1:(power*square%p)%p=(power*square)%p:=nO _ (nZ p);have h2:=Rx (p:=p) (x:=square*square%p) (x':=square*square) (nO _ (nZ p)) (left/2);rw[mod_mul h1 h2,<-h,Nf,bU];have e2:left=2*(left/2)+1:=⋯
 conv=>rhs;rw[e2,jj]
 rw[cA square]
def apZ{p a:Int}{e:Nat}{power square:Int}{left:Nat}(h:Keeps p a e power square left)(ho:¬left%2=1):Keeps p a e power (square*square%p) (left/2):=by
 unfold Keeps at *;have h2:=Rx (p:=p) (x:=square*square%p) (x':=square*square) (nO _ (nZ p)) (left/2);rw[mod_mul rfl h2,<-h,Nf];have e2:left=2*(left/2):=⋯
 conv=>rhs;rw[e2]
def ahX{p a:Int}{e:Nat}{power square:Int}(h:Keeps p a e power square 0):power%p=a^e%p:=by
 unfold Keeps at h
 rwa [tK,jr]at h
end Om
namespace Pm
open Rm
def sm:Nat->(Nat->Int)->Int
 |0,_=>0
 |n+1,f=>sm n f+f n
theorem aR{f g:Nat->Int}:∀{n:Nat},(∀k,k<n->f k=g k)->sm n f=sm n g
 |0,_=>rfl
 |n+1,h=>by rw[sm,sm,aR λk hk=>h k ⋯,h n ⋯]
theorem v7:∀n:Nat,sm n (λ_=>0)=0
 |0=>rfl
 |n+1=>by rw[sm,v7 n];rfl
def jh{f:Nat->Int}{n:Nat}(h:∀k,k<n->f k=0):sm n f=0:=by rw[aR h,v7]
theorem oU(f:Nat->Int):∀n:Nat,sm (n+1) f=f 0+sm n (λi=>f (i+1))
 |0=>by simp[sm]
 |n+1=>by
  rw[sm,oU f n,sm,Ie]
theorem iM(f g:Nat->Int):∀n:Nat,sm n (λk=>f k+g k)=sm n f+sm n g
 |0=>rfl
 |n+1=>by rw[sm,sm,sm,iM f g n];omega
theorem dD(c:Int)(f:Nat->Int):∀n:Nat,sm n (λk=>c*f k)=c*sm n f
 |0=>by simp[sm]
 |n+1=>by rw[sm,sm,dD c f n,f9]
theorem mU{f:Nat->Int}{m:Nat}:∀{n:Nat},m<=n->(∀k,m<=k->k<n->f k=0)->sm n f=sm m f
 |0,h,_=>by rw[show m=0 by omega]
 |n+1,h,h0=>by
  by_cases e:m=n+1
  .rw[e]
  .rw[sm,mU (n:=n) ⋯ (λk h1 h2=>h0 k h1 ⋯),h0 n ⋯ ⋯,dj]
def tk0(b:Int):tk b 0=0:=by unfold tk;split<;>simp
theorem iU{b:Int}{f g:Nat->Int}:∀{n:Nat},(∀k,k<n->tk b (f k)=tk b (g k))->tk b (sm n f)=tk b (sm n g)
 |0,_=>rfl
 |n+1,h=>by
  rw[sm,sm];exact jy (iU λk hk=>h k ⋯) (h n ⋯)
theorem abM(f:Nat->Int):∀n:Nat,((eX n).map f).sum=sm n f
 |0=>rfl
 |n+1=>by rw[MH,fW,C7,abM f n];simp[sm]
def cv:(Nat->Int)->(Nat->Int)->Nat->Int
 |f,g,0=>f 0*g 0
 |f,g,k+1=>f 0*g (k+1)+cv (λi=>f (i+1)) g k
theorem fV:∀(f g:Nat->Int) (k:Nat),cv f g k=sm (k+1) (λj=>f j*g (k-j))
 |f,g,0=>by simp[cv,sm]
 |f,g,k+1=>by
  rw[cv,fV _ g k,oU (λj=>f j*g (k+1-j))];refine congrArg (_ + ·) (aR λj hj=>?_);rw[show k+1-(j+1)=k-j by omega]
theorem RZ:∀(f g:Nat->Int) (k:Nat),cv f g (k+1)=cv f (λi=>g (i+1)) k+f (k+1)*g 0
 |f,g,0=>rfl
 |f,g,k+1=>by
  rw[cv,RZ (λi=>f (i+1)) g k,cv,Ie]
theorem ju:∀(f g:Nat->Int) (k:Nat),cv f g k=cv g f k
 |f,g,0=>cA _ _
 |f,g,k+1=>by
  rw[cv,RZ,ju (λi=>f (i+1)) g k,n6,cA]
def pN{f f' g g':Nat->Int}{k:Nat}(h:∀i,i<=k->f i=f' i)(h':∀i,i<=k->g i=g' i):cv f g k=cv f' g' k:=by
 rw[fV,fV];exact aR λj hj=>by rw[h j ⋯,h' _ ⋯]
def iI{b:Int}{f f' g g':Nat->Int}{k:Nat}(h:∀i,i<=k->tk b (f i)=tk b (f' i))(h':∀i,i<=k->tk b (g i)=tk b (g' i)):tk b (cv f g k)=tk b (cv f' g' k):=by
 rw[fV,fV];exact iU λj hj=>by rw[<-jH,<-dI,h j ⋯,h' _ ⋯,dI,jH]
def mH(f f' g:Nat->Int)(k:Nat):cv (λi=>f i+f' i) g k=cv f g k+cv f' g k:=by
 rw[fV,fV,fV,<-iM];exact aR λj _=>rZ ..
def Sq(f g g':Nat->Int)(k:Nat):cv f (λi=>g i+g' i) k=cv f g k+cv f g' k:=by
 rw[ju,mH,ju,ju g']
def mW(c:Int)(f g:Nat->Int)(k:Nat):cv (λi=>c*f i) g k=c*cv f g k:=by
 rw[fV,fV,<-dD];exact aR λj _=>bU ..
theorem gO:∀(f g h:Nat->Int) (k:Nat),cv (cv f g) h k=cv f (cv g h) k
 |f,g,h,0=>by simp[cv,bU]
 |f,g,h,k+1=>by
  have e:(λi=>cv f g (i+1))=λi=>f 0*(λi=>g (i+1)) i+cv (λi=>f (i+1)) g i:=rfl;rw[cv,e,mH (λi=>f 0*(λi=>g (i+1)) i),mW,gO (λi=>f (i+1)) g h k,cv,cv,cv];rw[f9,bU];omega
def j5{f g:Nat->Int}{k:Nat}(h:∀i,i<=k->f i=0∨g (k-i)=0):cv f g k=0:=by
 rw[fV];exact jh λj hj=>by rcases h j ⋯ with e|e<;>rw[e]<;>simp
def co(p:List Int)(k:Nat):Int:=p.getD k 0
def fR(k:Nat):co [] k=0:=by simp[co]
def fQ(x:Int)(r:List Int):co (x::r) 0=x:=by simp[co]
def jz(x:Int)(r:List Int)(k:Nat):co (x::r) (k+1)=co r k:=by simp[co]
def aX{p:List Int}{k:Nat}(h:p.length<=k):co p k=0:=by
 rw[co,List.getD_eq_getElem?_getD,List.getElem?_eq_none h];rfl
def jf{p:List Int}{k:Nat}(h:k<p.length):co p k=p[k]:=by
 rw[co,List.getD_eq_getElem?_getD,List.getElem?_eq_getElem h];rfl
def ux{p:List Int}{k:Nat}(h:k<p.length):co p k∈p:=by rw[jf h];exact wA h
def aM(n:Nat)(f:Nat->Int):List Int:=(eX n).map f
def cj(n:Nat)(f:Nat->Int):(aM n f).length=n:=by simp[aM]
def cY(n:Nat)(f:Nat->Int)(k:Nat):co (aM n f) k=if k<n then f k else 0:=by
 by_cases h:k<n
 .rw[if_pos h,co,aM,List.getD_eq_getElem?_getD,List.getElem?_map,List.getElem?_range h];rfl
 .rw[if_neg h,aX (by rw[cj];omega)]
def Pk(n:Nat)(f:Nat->Int):aM (n+1) f=aM n f++[f n]:=by
 rw[aM,MH,fW];rfl
def U8(p:List Int):aM p.length (co p)=p:=by
 apply agD (by rw[cj]);intro i h1 h2;simp only[aM,List.getElem_map,List.getElem_range];exact jf h2
def vq{p q:List Int}(hl:p.length=q.length)(h:∀k,co p k=co q k):p=q:=by
 rw[<-U8 p,<-U8 q,hl];exact lG λk _=>h k
def xH(p:List Int)(i:Nat)(x:Int)(k:Nat)(hi:i<p.length):co (p.set i x) k=if k=i then x else co p k:=by
 unfold co;rw[List.getD_eq_getElem?_getD,List.getElem?_set,List.getD_eq_getElem?_getD];by_cases e:i=k
 .subst e;simp[hi]
 .rw[if_neg e,if_neg (λz=>e z.symm)]
def lN{f:Int->Int}(h:f 0=0)(p:List Int)(k:Nat):co (p.map f) k=f (co p k):=getD_map h p k
def pB(p q:List Int)(k:Nat):co (p++q) k=if k<p.length then co p k else co q (k-p.length):=by
 unfold co;by_cases h:k<p.length
 .rw[if_pos h,List.getD_eq_getElem?_getD,List.getElem?_append_left h,<-List.getD_eq_getElem?_getD]
 .rw[if_neg h,List.getD_eq_getElem?_getD,List.getElem?_append_right ⋯,<-List.getD_eq_getElem?_getD]
def trim:List Int->List Int
 |[]=>[]
 |x::r=>if x=0/\trim r=[]then[]else x::trim r
theorem j6:∀(p:List Int) (k:Nat),co (trim p) k=co p k
 |[],k=>rfl
 |x::r,k=>by
  rw[trim];have ih:=j6 r;by_cases h:x=0/\trim r=[]
  .rw[if_pos h];rw[h.2]at ih;cases k with
   |zero=>rw[fR,fQ,h.1]
   |succ k=>rw[jz,<-ih k,fR,fR]
  .rw[if_neg h];cases k with
   |zero=>rw[fQ,fQ]
   |succ k=>rw[jz,jz,ih k]
def Hz{p:List Int}:trim p=[]↔∀k,co p k=0:=by
 constructor
 .intro h k;rw[<-j6,h,fR]
 .intro h;induction p with
  |nil=>rfl
  |cons x r ih=>
   rw[trim,if_pos ⟨by have:=h 0;rwa [fQ]at this,ih λk=>by have:=h (k+1);rwa [jz]at this⟩]
theorem xV:∀{p q:List Int},(∀k,co p k=co q k)->trim p=trim q
 |[],q,h=>by rw[show trim q=[]from Hz.mpr λk=>by rw[<-h k,fR]];rfl
 |x::r,[],h=>by rw[show trim (x::r)=[]from Hz.mpr λk=>by rw[h k,fR]];rfl
 |x::r,y::s,h=>by
  have e1:=h 0;rw[fQ,fQ]at e1;have e2:trim r=trim s:=xV λk=>by have:=h (k+1);rwa [jz,jz]at this
  rw[trim,trim,e1,e2]
def RT(p:List Int):trim (trim p)=trim p:=xV (j6 p)
theorem tO:∀p:List Int,(trim p).length<=p.length
 |[]=>aN _
 |x::r=>by
  have:=tO r;rw[trim];split
  .simp
  .simp;omega
theorem Ml:∀{p:List Int} {n:Nat},(∀k,n<=k->co p k=0)->(trim p).length<=n
 |[],n,_=>cB _
 |x::r,0,h=>by rw[Hz.mpr λk=>h k (cB _)];exact aN 0
 |x::r,n+1,h=>by
  have:=Ml (p:=r) (n:=n) λk hk=>by have:=h (k+1) ⋯;rwa [jz]at this
  rw[trim];split
  .simp
  .simp;omega
def acr(p:List Int):trim (p++[0])=trim p:=xV λk=>by
 rw[pB];by_cases h:k<p.length
 .rw[if_pos h]
 .rw[if_neg h,aX (p:=p) ⋯];cases k-p.length with
  |zero=>rfl
  |succ j=>rw[jz,fR]
theorem Uy:∀(p:List Int) {x:Int},x≠0->trim (p++[x])=p++[x]
 |[],x,h=>by simp[trim,h]
 |y::r,x,h=>by
  show trim (y::(r++[x]))=_;rw[trim,Uy r h,if_neg (by simp)];rfl
def Od{p:List Int}{x:Int}(h:x∈trim p):x∈p:=by
 induction p with
 |nil=>exact h
 |cons y r ih=>
  rw[trim]at h;split at h
  .cases h
  .rcases bN.mp h with rfl|h
   .exact cV
   .exact cZ _ (ih h)
structure Py(b:Int)(p:List Int):Prop where
 tr:trim p=p
 nu:∀x∈p,tk b x=x
theorem Py.co{b:Int}{p:List Int}(h:Py b p)(k:Nat):tk b (co p k)=co p k:=by
 by_cases hk:k<p.length
 .exact h.nu _ (ux hk)
 .rw[aX ⋯,tk0]
def Py.ext{b:Int}{p q:List Int}(h:Py b p)(h':Py b q)(e:∀k,tk b (Pm.co p k)=tk b (Pm.co q k)):p=q:=by
 rw[<-h.tr,<-h'.tr];exact xV λk=>by rw[<-h.co k,<-h'.co k];exact e k
def Py.of{b:Int}{p:List Int}(h:∀x∈p,tk b x=x):Py b (trim p):=⟨RT p,λx hx=>h x (Od hx)⟩
def Py.nil(b:Int):Py b []:=⟨rfl,λ_ h=>nomatch h⟩
def uD{n:Nat}{f:Nat->Int}{x:Int}(h:x∈aM n f):∃k,k<n/\x=f k:=by
 obtain⟨k,hk,e⟩:=bZ.mp h;exact⟨k,iV.mp hk,e.symm⟩
theorem Py.aM(b:Int)(n:Nat)(f:Nat->Int):Py b (trim (Pm.aM n λk=>tk b (f k))):=Py.of λx hx=>by
 obtain⟨k,_,rfl⟩:=uD hx;exact gJ ..
def add(b:Int)(p q:List Int):List Int:=trim (aM (max p.length q.length) λk=>tk b (co p k+co q k))
def mul(b:Int)(p q:List Int):List Int:=trim (aM (p.length+q.length) λk=>tk b (cv (co p) (co q) k))
def Kl(b:Int)(p q:List Int):Py b (add b p q):=Py.aM ..
def qH(b:Int)(p q:List Int):Py b (mul b p q):=Py.aM ..
def wM(b:Int)(p q:List Int)(k:Nat):co (add b p q) k=tk b (co p k+co q k):=by
 rw[add,j6,cY];split
 .rfl
 .rw[aX (p:=p) ⋯,aX (p:=q) ⋯,dj,tk0]
def jP(b:Int)(p q:List Int)(k:Nat):co (mul b p q) k=tk b (cv (co p) (co q) k):=by
 rw[mul,j6,cY];split
 .rfl
 .rw[j5,tk0];intro i hi;by_cases h:i<p.length
  .exact .inr (aX ⋯)
  .exact .inl (aX ⋯)
theorem add_comm(b:Int)(p q:List Int):add b p q=add b q p:=(Kl ..).ext (Kl ..) λk=>by rw[wM,wM,n6]
def mul_comm(b:Int)(p q:List Int):mul b p q=mul b q p:=(qH ..).ext (qH ..) λk=>by rw[jP,jP,ju]
def mul_one{b:Int}{p:List Int}(h:Py b p):mul b p [1]=p:=(qH ..).ext h λk=>by
 rw[jP,gJ];congr 1;rw[ju,fV,mU (m:=1) ⋯ λj h1 _=>by
  rw[show co [1] j=0 from aX (by simpa using h1),gh]]
 simp[sm,fQ]
def nil_add{b:Int}{p:List Int}(h:Py b p):add b [] p=p:=(Kl ..).ext h λk=>by
 rw[wM,fR,ig,gJ]
def W(f g:Nat->Int)(i k c:Nat):Int:=sm i (λj=>if j<=c then f j*g (c-j)else 0)+(if i<=c/\c-i<k then f i*g (c-i)else 0)
def aac(f g:Nat->Int)(c:Nat):W f g 0 0 c=0:=by simp[W,sm]
def VL{f g:Nat->Int}{i k c:Nat}:W f g i (k+1) c=W f g i k c+(if c=i+k then f i*g k else 0):=by
 unfold W;by_cases h:c=i+k
 .rw[if_pos h,if_pos ⋯,if_neg ⋯,show c-i=k by omega];omega
 .rw[if_neg h];by_cases h2:i<=c/\c-i<k
  .rw[if_pos h2,if_pos ⋯];omega
  .rw[if_neg h2,if_neg ⋯];omega
def acw{f g:Nat->Int}{i n c:Nat}(hg:∀k,n<=k->g k=0):W f g i n c=W f g (i+1) 0 c:=by
 unfold W;rw[sm,if_neg (show ¬(i+1<=c/\c-(i+1)<0)by omega)];by_cases h:i<=c
 .rw[if_pos h];by_cases h2:c-i<n
  .rw[if_pos ⟨h,h2⟩];omega
  .rw[if_neg ⋯,hg _ ⋯,aP];omega
 .rw[if_neg ⋯,if_neg h];omega
def Gh{f g:Nat->Int}{m c:Nat}(hf:∀k,m<=k->f k=0):W f g m 0 c=cv f g c:=by
 unfold W;rw[if_neg ⋯,dj,fV];by_cases h:m<=c+1
 .rw[mU (n:=c+1) h λk h1 _=>by rw[hf k h1,gh]];exact aR λj hj=>if_pos ⋯
 .rw[mU (m:=c+1) (n:=m) ⋯ λk h1 _=>if_neg ⋯];exact aR λj hj=>if_pos ⋯
end Pm
namespace Pm
open Rm
theorem Bl(F:Nat->Nat->Int)(m:Nat):∀n:Nat,sm m (λk=>sm n (λj=>F k j))=sm n (λj=>sm m (λk=>F k j))
 |0=>by simp only[sm];exact v7 m
 |n+1=>by
  simp only[sm];rw[iM,Bl F m n]
theorem zj(rule:List Int)(f:Nat->Int)(n:Nat):∀m:Nat,S rule f n m=sm m (λk=>co rule k*f (n-1-k))
 |0=>rfl
 |m+1=>by rw[S,sm,zj rule f n m];rfl
def ks(p:List Int)(a:Nat->Int)(n:Nat):Int:=sm p.length (λk=>co p k*a (n+k))
def akA{b:Int}{rule p:List Int}{a:Nat->Int}(ha:∀n,rule.length<=n->tk b (a n)=tk b (S rule a n rule.length)){n:Nat}(hn:rule.length<=n):
  tk b (ks p a n)=tk b (S rule (ks p a) n rule.length):=by
 have e1:tk b (ks p a n)=tk b (sm p.length (λk=>co p k*sm rule.length (λj=>co rule j*a (n+k-1-j)))):=by
  refine iU λk _=>?_;rw[<-dI,ha (n+k) ⋯,dI,zj]
 rw[e1,zj];congr 1;have e2:(λk=>co p k*sm rule.length (λj=>co rule j*a (n+k-1-j)))=λk=>sm rule.length (λj=>co rule j*(co p k*a (n+k-1-j))):=by
  funext k
  rw[<-dD];exact aR λj _=>fj ..
 rw[e2,Bl];refine aR λj hj=>?_;rw[dD];congr 1;refine aR λk _=>?_;rw[show n-1-j+k=n+k-1-j by omega]
def Um{b:Int}{rule p:List Int}{a:Nat->Int}(ha:∀n,rule.length<=n->tk b (a n)=tk b (S rule a n rule.length))(h0:∀n,n<rule.length->tk b (ks p a n)=0):
  ∀n,tk b (ks p a n)=0:=by
 intro n;induction n using rQ with
 |ind n ih=>
  by_cases h:n<rule.length
  .exact h0 n h
  .rw[akA ha ⋯,zj];have:tk b (sm rule.length λk=>co rule k*ks p a (n-1-k))=tk b (sm rule.length λ_=>0):=iU λk hk=>by
    rw[<-dI,ih (n-1-k) ⋯,aP]
   rw[this,v7,tk0]
def aV(b:Int)(c:List Int):List Int:=aM c.length (λk=>tk b (0-co c (c.length-1-k)))++[1]
def fL(b:Int)(p:List Int):List Int:=aM (p.length-1) (λk=>tk b (0-co p (p.length-1-1-k)))
def lE(b:Int)(c:List Int):(aV b c).length=c.length+1:=by simp[aV,cj]
def Ym(b x:Int):tk b (0-tk b (0-x))=tk b x:=by
 have h:tk b (tk b (0-x)+(0-tk b (0-x)))=tk b ((0-x)+(0-tk b (0-x))):=jD ..;have e1:tk b (0-x)+(0-tk b (0-x))=0:=⋯;rw[e1]at h;have h2:tk b (tk b (0-tk b (0-x))+(0-x))=tk b 0:=by rw[jD,n6];exact h.symm
 have h3:tk b (tk b (0-tk b (0-x)))=tk b x:=by
  have:=jy h2 (rfl:tk b x=tk b x);rw[show tk b (0-tk b (0-x))+(0-x)+x=tk b (0-tk b (0-x))by omega,ig]at this;exact this
 rwa [gJ]at h3
def UH{b:Int}{rule starts:List Int}(hl:rule.length=starts.length):∀n,rule.length<=n->tk b (at_ b rule starts n)=tk b (S rule (at_ b rule starts) n rule.length):=λn hn=>by
 rw[Je hl ⋯,gJ]
theorem yE{f:Nat->Int}{c:Nat}:∀n:Nat,(∀k,k<n->Bd c (f k))->Bd (c+n) (sm n f)
 |0,_=>Bd.zero _
 |n+1,h=>by
  rw[sm];exact Bd.add (n:=c+n) (yE n λk hk=>h k ⋯) ((h n ⋯).mono ⋯)
def jC{p:List Int}{u:Nat}(h:∀x∈p,Bd u x)(k:Nat):Bd u (co p k):=Bd.getD h k
def arG{p q:List Int}{u v:Nat}(h:∀x∈p,Bd u x)(h':∀x∈q,Bd v x)(k:Nat):Bd (u+v+p.length) (cv (co p) (co q) k):=by
 rw[<-Gh (m:=p.length) λj hj=>aX hj,W,if_neg ⋯,dj];refine yE _ λj _=>?_;split
 .exact(jC h j).mul (jC h' _)
 .exact Bd.zero _
def ax3{b:Int}{p q:List Int}{u v:Nat}(hb:0<=b)(hb1:b<1000)(hu:10<=u)(h:∀x∈p,Bd u x)(h':∀x∈q,Bd v x):∀x∈mul b p q,Bd (u+v+p.length) x:=by
 intro x hx;obtain⟨k,_,rfl⟩:=uD (Od hx);refine qg hb ?_ (arG h h' k);exact(Bd.of (n:=10) ⋯ ⋯).mono ⋯
def aaj{b:Int}{c:List Int}{u:Nat}(hb:0<=b)(hb1:b<1000)(hu:10<=u)(h:∀x∈c,Bd u x):∀x∈aV b c,Bd u x:=by
 intro x hx;rcases fM.mp hx with hx|hx
 .obtain⟨k,_,rfl⟩:=uD hx;refine qg hb ((Bd.of (n:=10) ⋯ ⋯).mono ⋯) ?_;have:=jC h (c.length-1-k);unfold Bd at this⊢;rw[mR,za];exact this
 .rw[eV.mp hx];exact(Bd.of (n:=10) ∅ ∅).mono hu
end Pm
namespace Pm
open Rm
theorem mC(x:Int)(j:Nat):∀n:Nat,sm n (λi=>if i=j then x else 0)=if j<n then x else 0
 |0=>by simp[sm]
 |n+1=>by
  rw[sm,mC x j n];by_cases h:n=j
  .rw[if_pos h,if_neg ⋯,if_pos ⋯];omega
  .rw[if_neg h];by_cases h2:j<n
   .rw[if_pos h2,if_pos ⋯];omega
   .rw[if_neg h2,if_neg ⋯];omega
def lX{b x y:Int}:tk b (x-y)=0↔tk b x=tk b y:=by
 constructor
 .intro h;have:=jy (b:=b) (x:=x-y) (x':=0) (y:=y) (y':=y) (by rw[h,tk0]) rfl
  rwa [show x-y+y=x by omega,ig]at this
 .intro h;have:=jy (b:=b) (x:=x) (x':=y) (y:=-y) (y':=-y) h rfl;rw[show x + -y=x-y by omega,show y + -y=0 by omega,tk0]at this;exact this
def D6(f:Int)(s:Nat)(g:Nat->Int)(k:Nat):cv (λi=>if i=s then f else 0) g k=if s<=k then f*g (k-s)else 0:=by
 rw[fV];have e:sm (k+1) (λj=>(if j=s then f else 0)*g (k-j))=sm (k+1) (λj=>if j=s then f*g (k-s)else 0):=aR λj _=>by
  by_cases h:j=s
  .rw[if_pos h,if_pos h,h]
  .rw[if_neg h,if_neg h,gh]
 rw[e,mC];by_cases h:s<=k
 .rw[if_pos h,if_pos ⋯]
 .rw[if_neg h,if_neg ⋯]
structure Mon(m:List Int):Prop where
 pos:0<m.length
 one:co m (m.length-1)=1
structure Div(b:Int)(p m q r:List Int):Prop where
 qy:Py b q
 ry:Py b r
 short:r.length<m.length
 eq:∀k,tk b (cv (co q) (co m) k+co r k)=tk b (co p k)
def Div.uniq{b:Int}{p m q r q' r':List Int}(hm:Mon m)(h:Div b p m q r)(h':Div b p m q' r'):q=q'/\r=r':=by
 have hp:=hm.pos;have e1:∀k,tk b (cv (λi=>co q i-co q' i) (co m) k+(co r k-co r' k))=0:=by
  intro k;have e2:cv (λi=>co q i-co q' i) (co m) k=cv (co q) (co m) k-cv (co q') (co m) k:=by
   have:=mH (co q) (λi=>-1*co q' i) (co m) k;rw[mW]at this;have e3:(λi=>co q i + -1*co q' i)=λi=>co q i-co q' i:=by funext i;omega
   rw[e3]at this;omega
  rw[e2,show cv (co q) (co m) k-cv (co q') (co m) k+(co r k-co r' k)=(cv (co q) (co m) k+co r k)-(cv (co q') (co m) k+co r' k)by omega,lX,h.eq,h'.eq]
 have e4:∀d j,q.length+q'.length<=j+d->tk b (co q j-co q' j)=0:=by
  intro d;induction d with
  |zero=>intro j hj;rw[aX ⋯,aX ⋯];exact tk0 b
  |succ d ih=>
   intro j hj;have e5:=e1 (j+(m.length-1));have hs:=h.short;have hs':=h'.short;rw[aX (p:=r) ⋯,aX (p:=r') ⋯,Dc,dj,fV]at e5;rw[<-e5];have e6:tk b (sm (j+(m.length-1)+1) λi=>(co q i-co q' i)*co m (j+(m.length-1)-i))=tk b (sm (j+(m.length-1)+1) λi=>if i=j then co q j-co q' j else 0):=iU λi hi=>by
    by_cases c:i=j
    .rw[if_pos c,c,show j+(m.length-1)-j=m.length-1 by omega,hm.one,jr]
    .rw[if_neg c];by_cases c2:i<j
     .rw[aX (p:=m) ⋯,aP]
     .rw[<-jH,ih i ⋯,gh]
   rw[e6,mC,if_pos ⋯]
 have eq:q=q':=h.qy.ext h'.qy λk=>lX.mp (e4 (q.length+q'.length) k ⋯);refine⟨eq,h.ry.ext h'.ry λk=>?_⟩;have e7:=e1 k;rw[eq]at e7;have e8:(λi=>co q' i-co q' i)=λ_=>0:=by funext i;omega
 rw[e8,j5 (λ_ _=> .inl rfl),ig]at e7;exact lX.mp e7
def Div.back{b:Int}{p m q r:List Int}(hp:Py b p)(h:Div b p m q r):add b (mul b q m) r=p:=(Kl ..).ext hp λk=>by
 rw[wM,jP,gJ,jD];exact h.eq k
structure qu(b:Int)(p m:List Int)(s:Nat)(o l:List Int):Prop where
 eq:∀k,tk b (cv (co o) (co m) k+co l k)=tk b (co p k)
 zero:∀k,s+(m.length-1)<=k->co l k=0
 low:∀k,k<s->co o k=0
 ol:o.length=p.length-(m.length-1)
 ll:l.length=p.length
 on:∀k,tk b (co o k)=co o k
 ln:∀k,tk b (co l k)=co l k
def qu.start{b:Int}{p m:List Int}(hp:∀k,tk b (co p k)=co p k):qu b p m (p.length-(m.length-1)) (aM (p.length-(m.length-1)) λ_=>0) p:=by
 have z:∀k,co (aM (p.length-(m.length-1)) λ_=>0) k=0:=λk=>by rw[cY];split<;>rfl
 exact⟨λk=>by rw[j5 λi _=> .inl (z i),ig],λk hk=>aX ⋯,λk _=>z k,cj _ _,rfl,λk=>by rw[z,tk0],hp⟩
def lf(b f:Int)(s t:Nat)(l m:List Int)(k:Nat):Int:=if s<=k/\k<s+t then tk b (co l k-f*co m (k-s))else co l k
def anW(b f:Int)(s:Nat)(l m:List Int)(k:Nat):lf b f s 0 l m k=co l k:=if_neg ⋯
def awE(b f:Int)(s t:Nat)(l m:List Int)(k:Nat):lf b f s (t+1) l m k=if k=s+t then tk b (lf b f s t l m k-f*co m t)else lf b f s t l m k:=by
 unfold lf;by_cases h:k=s+t
 .rw[if_pos h,if_pos ⋯,if_neg ⋯,show k-s=t by omega]
 .rw[if_neg h];by_cases h2:s<=k/\k<s+t
  .rw[if_pos h2,if_pos ⋯]
  .rw[if_neg h2,if_neg ⋯]
def av2{b f:Int}{s:Nat}{l m:List Int}(hl:∀k,tk b (co l k)=co l k)(k:Nat):lf b f s m.length l m k=tk b (co l k-(if s<=k then f*co m (k-s)else 0)):=by
 unfold lf;by_cases h:s<=k
 .rw[if_pos h];by_cases h2:k<s+m.length
  .rw[if_pos ⟨h,h2⟩]
  .rw[if_neg ⋯,aX (p:=m) ⋯,aP,Dc,hl]
 .rw[if_neg ⋯,if_neg h,Dc,hl]
def qu.step{b:Int}{p m o l l':List Int}{s:Nat}(hm:Mon m)(h:qu b p m (s+1) o l)(hs:s<p.length-(m.length-1))(hl:l'.length=l.length)(e:∀k,co l' k=lf b (co l (s+(m.length-1))) s m.length l m k):
  qu b p m s (o.set s (co l (s+(m.length-1)))) l':=by
 have hp:=hm.pos;have ho:=h.ol;have eo:co (o.set s (co l (s+(m.length-1))))=λk=>co o k+(if k=s then co l (s+(m.length-1))else 0):=by
  funext k
  rw[xH _ _ _ _ ⋯];by_cases c:k=s
  .rw[if_pos c,if_pos c,c,h.low s ⋯,ig]
  .rw[if_neg c,if_neg c,dj]
 have el:∀k,co l' k=tk b (co l k-(if s<=k then co l (s+(m.length-1))*co m (k-s)else 0)):=λk=>by rw[e,av2 h.ln]
 refine⟨λk=>?_,λk hk=>?_,λk hk=>?_,by rw[nF,ho],by rw[hl,h.ll],λk=>?_,λk=>by rw[el,gJ]⟩
 .rw[eo,mH (co o),D6,el,wO,<-h.eq k];congr 1;omega
 .rw[el,if_pos ⋯];by_cases c:k=s+(m.length-1)
  .rw[c,show s+(m.length-1)-s=m.length-1 by omega,hm.one,jr,Zu,tk0]
  .rw[h.zero k ⋯,aX (p:=m) ⋯,aP,Dc,tk0]
 .rw[eo];simp only;rw[h.low k ⋯,if_neg ⋯,dj]
 .rw[xH _ _ _ _ ⋯];split
  .exact h.ln _
  .exact h.on _
def qu.stop{b:Int}{p m o l:List Int}(hm:Mon m)(h:qu b p m 0 o l):Div b p m (trim o) (trim l):=by
 have hp:=hm.pos;have y:∀{x:List Int},(∀k,tk b (co x k)=co x k)->Py b (trim x):=λhx=>Py.of λz hz=>by
  obtain⟨k,hk,e⟩:=jA.mp hz;rw[<-e,<-jf hk];exact hx k
 refine⟨y h.on,y h.ln,?_,λk=>?_⟩
 .have:=Ml (p:=l) (n:=m.length-1) λk hk=>h.zero k ⋯;omega
 .rw[j6,<-h.eq k];congr 2;exact pN (λi _=>j6 _ _) (λ_ _=>rfl)
end Pm
namespace Pm
open Rm
theorem afC(g:Nat->Int)(j:Nat):∀m:Nat,sm (j+m) (λk=>if j<=k then g (k-j)else 0)=sm m g
 |0=>by
  rw[Ug];exact jh λk hk=>if_neg ⋯
 |m+1=>by
  rw[<-aaK,sm,sm,afC g j m,if_pos ⋯,Bx]
def uP(p:List Int)(a:Nat->Int)(n:Nat){N:Nat}(h:p.length<=N):sm N (λk=>co p k*a (n+k))=ks p a n:=
 mU h λk h1 _=>by rw[aX h1,gh]
def ZJ{b:Int}{p q:List Int}{a:Nat->Int}(h:∀k,tk b (co p k)=tk b (co q k))(n:Nat):tk b (ks p a n)=tk b (ks q a n):=by
 rw[<-uP p a n (agL p.length q.length),<-uP q a n (YH p.length q.length)];exact iU λk _=>by rw[<-jH,h k,jH]
def aoc{b:Int}(p q:List Int)(a:Nat->Int)(n:Nat):tk b (ks (add b p q) a n)=tk b (ks p a n+ks q a n):=by
 have hl:(add b p q).length<=max p.length q.length:=by
  have:=tO (aM (max p.length q.length) λk=>tk b (co p k+co q k))
  rwa [cj]at this
 rw[<-uP _ a n hl,<-uP p a n (agL p.length q.length),<-uP q a n (YH p.length q.length),<-iM];exact iU λk _=>by rw[wM,jH,rZ]
def YS{b:Int}(p q:List Int)(a:Nat->Int)(n:Nat):tk b (ks (mul b p q) a n)=tk b (ks p (ks q a) n):=by
 have hl:(mul b p q).length<=p.length+q.length:=by
  have:=tO (aM (p.length+q.length) λk=>tk b (cv (co p) (co q) k))
  rwa [cj]at this
 rw[<-uP _ a n hl];have e1:tk b (sm (p.length+q.length) λk=>co (mul b p q) k*a (n+k))=tk b (sm (p.length+q.length) λk=>sm p.length λj=>co p j*(if j<=k then co q (k-j)*a (n+k)else 0)):=iU λk _=>by
  rw[jP,jH,<-Gh (m:=p.length) λj hj=>aX hj,W,if_neg ⋯,dj,cA,<-dD];congr 1;refine aR λj _=>?_;by_cases h:j<=k
  .rw[if_pos h,if_pos h,cA,bU]
  .rw[if_neg h,if_neg h,aP,aP]
 rw[e1,Bl];congr 1;refine aR λj hj=>?_;rw[dD];congr 1;have e2:(λk=>if j<=k then co q (k-j)*a (n+k)else 0)=λk=>if j<=k then(λi=>co q i*a (n+j+i)) (k-j)else 0:=by
  funext k
  by_cases h:j<=k
  .rw[if_pos h,if_pos h];show _=co q (k-j)*a (n+j+(k-j));rw[show n+j+(k-j)=n+k by omega]
  .rw[if_neg h,if_neg h]
 rw[e2,show p.length+q.length=j+(p.length-j+q.length)by omega];refine(afC (λi=>co q i*a (n+j+i)) j _).trans ?_;exact uP q a (n+j) ⋯
def arR{b:Int}{p:List Int}{a:Nat->Int}(h:∀n,tk b (a n)=0)(n:Nat):tk b (ks p a n)=0:=by
 have:tk b (ks p a n)=tk b (sm p.length λ_=>0):=iU λk _=>by rw[<-dI,h,aP]
 rw[this,v7,tk0]
def Kp(b:Int)(p:List Int)(a:Nat->Int):Prop:=∀n,tk b (ks p a n)=0
def Kp.Jq{b:Int}{q:List Int}{a:Nat->Int}(h:Kp b q a)(p:List Int):Kp b (mul b p q) a:=λn=>by rw[YS];exact arR h n
def Kp.amE{b:Int}{q:List Int}{a:Nat->Int}(h:Kp b q a)(p:List Int):Kp b (mul b q p) a:=by rw[mul_comm];exact h.Jq p
def Kp.congr{b:Int}{p q:List Int}{a:Nat->Int}(e:∀k,tk b (co p k)=tk b (co q k))(h:Kp b p a):Kp b q a:=λn=>by rw[<-ZJ e];exact h n
theorem Kp.aV{b:Int}{rule:List Int}{a:Nat->Int}(ha:∀n,rule.length<=n->tk b (a n)=tk b (S rule a n rule.length)):Kp b (aV b rule) a:=λn=>by
 unfold ks;rw[lE,sm];have e1:co (Pm.aV b rule) rule.length=1:=by
  rw[Pm.aV,pB,cj,if_neg ⋯,rT];rfl
 have e2:tk b (sm rule.length λk=>co (Pm.aV b rule) k*a (n+k))=tk b (sm rule.length λk=>-1*(co rule (rule.length-1-k)*a (n+k))):=iU λk hk=>by
  rw[Pm.aV,pB,cj,if_pos hk,cY,if_pos hk,jH,mR,gM,zZ]
 have e3:S rule a (n+rule.length) rule.length=sm rule.length λk=>co rule (rule.length-1-k)*a (n+k):=by
  rw[zj];have rev:∀(m:Nat) (f:Nat->Int),sm m f=sm m λk=>f (m-1-k):=by
   intro m;induction m with
   |zero=>intro f;rfl
   |succ m ih=>
    intro f;rw[oU,sm,ih λi=>f (i+1),n6];have:m+1-1-m=0:=⋯;rw[this];congr 1;exact aR λk hk=>by rw[show m-1-k+1=m+1-1-k by omega]
  rw[rev];exact aR λk hk=>by rw[show n+rule.length-1-(rule.length-1-k)=n+k by omega]
 rw[e1,iG,<-jD,e2,jD,dD,<-e3,<-wO,ha (n+rule.length) ⋯,wO,zZ,Int.add_left_neg,tk0]
def Div.kp{b:Int}{p m q r:List Int}{a:Nat->Int}(h:Div b p m q r)(hm:Kp b m a):Kp b p a↔Kp b r a:=by
 have e:∀n,tk b (ks p a n)=tk b (ks r a n):=λn=>by
  have e1:∀k,tk b (co (Pm.add b (mul b q m) r) k)=tk b (co p k):=λk=>by rw[wM,jP,gJ,jD];exact h.eq k
  rw[<-ZJ e1,aoc,<-jD,hm.Jq q n,ig]
 exact⟨λz n=>by rw[<-e];exact z n,λz n=>by rw[e];exact z n⟩
def dJ(b:Int)(p q x:List Int):Prop:=∃u v,∀k,tk b (co x k)=tk b (cv (co u) (co p) k+cv (co v) (co q) k)
def ao1(p q:List Int)(k:Nat):co (add 0 p q) k=co p k+co q k:=by rw[wM,aY]
def Kg(p q:List Int)(k:Nat):co (mul 0 p q) k=cv (co p) (co q) k:=by rw[jP,aY]
def dJ.left(b:Int)(p q:List Int):dJ b p q p:=⟨[1],[],λk=>by
 rw[j5 (f:=co []) λi _=> .inl (fR _),dj,fV,mU (m:=1) ⋯ λj h1 _=>by rw[show co [1] j=0 from aX (by simpa using h1),gh]];simp[sm,fQ]⟩
def dJ.swap{b:Int}{p q x:List Int}(h:dJ b p q x):dJ b q p x:=by
 obtain⟨u,v,e⟩:=h;exact⟨v,u,λk=>by rw[e,n6]⟩
def dJ.trans{b:Int}{p q g s x:List Int}(hg:dJ b p q g)(hs:dJ b p q s)(h:dJ b g s x):dJ b p q x:=by
 obtain⟨a,c,eg⟩:=hg;obtain⟨a',c',es⟩:=hs;obtain⟨u,v,e⟩:=h;refine⟨add 0 (mul 0 u a) (mul 0 v a'),add 0 (mul 0 u c) (mul 0 v c'),λk=>?_⟩;have e1:tk b (cv (co u) (co g) k)=tk b (cv (co u) (λi=>cv (co a) (co p) i+cv (co c) (co q) i) k):=iI (λ_ _=>rfl) λi _=>eg i;have e2:tk b (cv (co v) (co s) k)=tk b (cv (co v) (λi=>cv (co a') (co p) i+cv (co c') (co q) i) k):=iI (λ_ _=>rfl) λi _=>es i;rw[e,jy e1 e2];congr 1;have f1:∀y z:List Int,co (add 0 (mul 0 u y) (mul 0 v z))=λi=>cv (co u) (co y) i+cv (co v) (co z) i:=λy z=>by
  funext i;rw[ao1,Kg,Kg]
 rw[f1,f1,mH (cv (co u) (co a)),mH (cv (co u) (co c)),Sq,Sq,gO,gO,gO,gO];omega
def Div.in1{b:Int}{p m q r:List Int}(h:Div b p m q r):dJ b m r p:=by
 refine⟨q,[1],λk=>?_⟩;obtain⟨u,v,e⟩:=dJ.left b r [];rw[<-h.eq k];have:cv (co [1]) (co r) k=co r k:=by
  rw[fV,mU (m:=1) ⋯ λj h1 _=>by rw[show co [1] j=0 from aX (by simpa using h1),gh]];simp[sm,fQ]
 rw[this]
def Div.in2{b:Int}{p m q r:List Int}(h:Div b p m q r):dJ b p m r:=by
 refine⟨[1],q.map (-1 * ·),λk=>?_⟩;have e1:cv (co [1]) (co p) k=co p k:=by
  rw[fV,mU (m:=1) ⋯ λj h1 _=>by rw[show co [1] j=0 from aX (by simpa using h1),gh]];simp[sm,fQ]
 have e2:co (q.map (-1 * ·))=λi=>-1*co q i:=by funext i;rw[lN (by simp)]
 rw[e1,e2,mW];have:=jy (h.eq k) (rfl:tk b (-1*cv (co q) (co m) k)=tk b (-1*cv (co q) (co m) k));rw[<-this];congr 1;omega
structure Gcd(b:Int)(p q g:List Int):Prop where
 py:Py b g
 mon:Mon g
 sum:dJ b p q g
 one:dJ b g [] p
 two:dJ b g [] q
def dJ.dv{b:Int}{g p:List Int}(h:dJ b g [] p):∃u,∀k,tk b (co p k)=tk b (cv (co u) (co g) k):=by
 obtain⟨u,v,e⟩:=h;exact⟨u,λk=>by rw[e,j5 (g:=co []) λi _=> .inr (fR _),dj]⟩
end Pm
namespace Pm
open Rm
def OX{p:List Int}(h:p≠[]):p=p.dropLast++[co p (p.length-1)]:=by
 have hp:0<p.length:=Aa.mpr h
 conv=>lhs;rw[<-List.dropLast_concat_getLast h]
 congr 2;rw[jf ⋯,List.getLast_eq_getElem]
def vR{p:List Int}(h:p≠[])(h0:co p (p.length-1)≠0):trim p=p:=by
 have e:=OX h;rw[e,Uy _ h0]
def rm{p:List Int}(h:p≠[])(ht:trim p=p):co p (p.length-1)≠0:=by
 intro z;have e:=OX h;rw[z]at e;have e2:trim p=trim p.dropLast:=by
  conv=>lhs;rw[e]
  exact acr _
 have:=tO p.dropLast;rw[<-e2,ht,vX]at this;have hp:0<p.length:=Aa.mpr h;omega
structure vQ(b:Int)(p m:List Int):Prop where
 py:Py b m
 len:m.length=p.length
 mon:p≠[]->Mon m
 to:∃c,∀k,tk b (co m k)=tk b (c*co p k)
 of:∃c,∀k,tk b (co p k)=tk b (c*co m k)
def dJ.scale{b:Int}{p m:List Int}(h:∃c,∀k,tk b (co m k)=tk b (c*co p k))(q:List Int):dJ b p q m:=by
 obtain⟨c,e⟩:=h;refine⟨[c],[],λk=>?_⟩;rw[j5 (f:=co []) λi _=> .inl (fR _),dj,e,fV,mU (m:=1) ⋯ λj h1 _=>by rw[show co [c] j=0 from aX (by simpa using h1),gh]];simp[sm,fQ]
theorem vQ.nil(b:Int):vQ b [] []:=⟨Py.nil b,rfl,λh=>absurd rfl h,⟨0,λk=>by rw[fR,gh]⟩,⟨0,λk=>by rw[fR,gh]⟩⟩
def uc(P:Nat)(p:List Int):List Int:=p.map λx=>x*(co p (p.length-1))^(P-2)%(P:Int)
structure sG(b:Int)(p q g s:List Int):Prop where
 gy:Py b g
 sy:Py b s
 gm:g≠[]->Mon g
 sm_:s≠[]->Mon s
 some:s=[]->g≠[]
 gi:dJ b p q g
 si:dJ b p q s
 pi:dJ b g s p
 qi:dJ b g s q
def sG.start{b:Int}{p q g s:List Int}(hg:vQ b p g)(hs:vQ b q s)(h:q=[]->p≠[]):sG b p q g s:=by
 have lg:=hg.len;have ls:=hs.len;have pn:g≠[]->p≠[]:=λz e=>z (sE (by rw[lg,e];rfl));have qn:s≠[]->q≠[]:=λz e=>z (sE (by rw[ls,e];rfl));refine⟨hg.py,hs.py,λz=>hg.mon (pn z),λz=>hs.mon (qn z),λz e=>?_,dJ.scale hg.to q,(dJ.scale hs.to p).swap,dJ.scale hg.of s,(dJ.scale hs.of g).swap⟩;have q0:q=[]:=sE (by rw[<-ls,z];rfl);exact h q0 (sE (by rw[<-lg,e];rfl))
def sG.step{b:Int}{p q g s o l m:List Int}(h:sG b p q g s)(hs:s≠[])(d:Div b g s o l)(hm:vQ b l m):sG b p q s m:=by
 have lm:=hm.len;have ln:m≠[]->l≠[]:=λz e=>z (sE (by rw[lm,e];rfl));have li:dJ b p q l:=h.gi.trans h.si d.in2;have gs:dJ b s m g:=(dJ.left b s m).trans (dJ.scale hm.of s).swap d.in1;refine⟨h.sy,hm.py,h.sm_,λz=>hm.mon (ln z),λ_=>hs,h.si,li.trans li (dJ.scale hm.to l),?_,?_⟩
 .exact gs.trans (dJ.left b s m) h.pi
 .exact gs.trans (dJ.left b s m) h.qi
def sG.stop{b:Int}{p q g s:List Int}(h:sG b p q g s)(hs:s=[]):Gcd b p q g:=by
 subst hs;exact⟨h.gy,h.gm (h.some rfl),h.gi,h.pi,h.qi⟩
end Pm
namespace Pm
open Rm
def awJ{p:List Int}{k:Nat}(h:co p k≠0):k<p.length:=by
 by_cases c:k<p.length
 .exact c
 .exact absurd (aX ⋯) h
def JB{b:Int}(hb:tk b 1=1){p q:List Int}(hp:Mon p)(hq:Mon q):Mon (mul b p q)/\(mul b p q).length=p.length+q.length-1:=by
 have h1:=hp.pos;have h2:=hq.pos;have e:co (mul b p q) (p.length+q.length-2)=1:=by
  rw[jP,fV];have:sm (p.length+q.length-2+1) (λj=>co p j*co q (p.length+q.length-2-j))=sm (p.length+q.length-2+1) (λj=>if j=p.length-1 then 1 else 0):=aR λj hj=>by
   by_cases c:j=p.length-1
   .rw[if_pos c,c,hp.one,show p.length+q.length-2-(p.length-1)=q.length-1 by omega,hq.one];rfl
   .rw[if_neg c];by_cases c2:j<p.length-1
    .rw[aX (p:=q) ⋯,aP]
    .rw[aX (p:=p) ⋯,gh]
  rw[this,mC,if_pos ⋯,hb]
 have l1:=awJ (p:=mul b p q) (k:=p.length+q.length-2) (by rw[e];decide);have l2:(mul b p q).length<=p.length+q.length-1:=by
  refine Ml λk hk=>?_;rw[cY];split
  .rw[j5 λi hi=>?_,tk0];by_cases c:i<p.length
   .exact .inr (aX ⋯)
   .exact .inl (aX ⋯)
  .rfl
 have l3:(mul b p q).length=p.length+q.length-1:=⋯;exact⟨⟨⋯,by rw[l3,show p.length+q.length-1-1=p.length+q.length-2 by omega];exact e⟩,l3⟩
def Bv(b:Int)(c:List Int):Mon (aV b c):=⟨by rw[lE];omega,by
 rw[lE,aV,pB,cj,if_neg ⋯,show c.length+1-1-c.length=0 by omega];rfl⟩
def nG(b:Int)(p:List Int):(fL b p).length=p.length-1:=by rw[fL,cj]
def CW{b:Int}{w:List Int}(hw:∀k,tk b (co w k)=co w k)(hm:Mon w):aV b (fL b w)=w:=by
 have hp:=hm.pos;refine vq (by rw[lE,nG];omega) λk=>?_;rw[aV,pB,cj,nG];by_cases h:k<w.length-1
 .rw[if_pos h,cY,if_pos h,fL,cY,if_pos ⋯,Ym,show w.length-1-1-(w.length-1-1-k)=k by omega,hw]
 .rw[if_neg h];by_cases c:k=w.length-1
  .rw[c,rT,hm.one];rfl
  .rw[aX (p:=w) ⋯,aX];simp;omega
def akb{b:Int}{rule:List Int}{a:Nat->Int}(n:Nat):tk b (ks (aV b rule) a n)=tk b (a (n+rule.length)-S rule a (n+rule.length) rule.length):=by
 unfold ks;rw[lE,sm];have e1:co (aV b rule) rule.length=1:=by
  rw[aV,pB,cj,if_neg ⋯,rT];rfl
 have e2:tk b (sm rule.length λk=>co (aV b rule) k*a (n+k))=tk b (sm rule.length λk=>-1*(co rule (rule.length-1-k)*a (n+k))):=iU λk hk=>by
  rw[aV,pB,cj,if_pos hk,cY,if_pos hk,jH,mR,gM,zZ]
 have e3:S rule a (n+rule.length) rule.length=sm rule.length λk=>co rule (rule.length-1-k)*a (n+k):=by
  rw[zj];have rev:∀(m:Nat) (f:Nat->Int),sm m f=sm m λk=>f (m-1-k):=by
   intro m;induction m with
   |zero=>intro f;rfl
   |succ m ih=>
    intro f;rw[oU,sm,ih λi=>f (i+1),n6];have:m+1-1-m=0:=⋯;rw[this];congr 1;exact aR λk hk=>by rw[show m-1-k+1=m+1-1-k by omega]
  rw[rev];exact aR λk hk=>by rw[show n+rule.length-1-(rule.length-1-k)=n+k by omega]
 rw[e1,iG,<-jD,e2,jD,dD,<-e3];congr 1;omega
def Kp.rec{b:Int}{rule:List Int}{a:Nat->Int}(h:Kp b (Pm.aV b rule) a):∀n,rule.length<=n->tk b (a n)=tk b (S rule a n rule.length):=λn hn=>by
 have:=h (n-rule.length);rw[akb,show n-rule.length+rule.length=n by omega]at this;exact lX.mp this
def abR{b:Int}{w:List Int}{a:Nat->Int}(hw:∀k,tk b (co w k)=co w k)(hm:Mon w)(hk:Kp b w a)(ha:∀n,tk b (a n)=a n){starts:List Int}(hl:starts.length=w.length-1)(hs:∀i,i<starts.length->starts.getD i 0=a i)(n:Nat):
  at_ b (fL b w) starts n=a n:=by
 have lr:=nG b w;rw[<-CW hw hm]at hk;refine ZF ⋯ (g:=a) (λi hi=>(hs i hi).symm) (λi hi=>?_) n;rw[<-ha i];exact hk.rec i ⋯
end Pm
namespace Dm
open Pm
def sg(m:Nat):Int:=if m%2=0 then 1 else -1
def yL(m:Nat):sg (m+1)=-sg m:=by
 unfold sg;by_cases h:m%2=0
 .rw[if_pos h,if_neg ⋯]
 .rw[if_neg h,if_pos ⋯];rfl
def IL(m n:Nat):sg (m+n)=sg m*sg n:=by
 induction n with
 |zero=>simp[sg]
 |succ n ih=>rw[<-aaK,yL,yL,ih,qp]
def UY(m:Nat):sg m*sg m=1:=by
 unfold sg;split<;>rfl
def sk(c k:Nat):Nat:=if k<c then k else k+1
def aut(c k:Nat):sk c k≠c:=by unfold sk;split<;>omega
def det:Nat->(Nat->Nat->Int)->Int
 |0,_=>1
 |n+1,f=>sm (n+1) λc=>sg (n+c)*f n c*det n λi k=>f i (sk c k)
theorem jx:∀{n:Nat} {f g:Nat->Nat->Int},(∀i k,i<n->k<n->f i k=g i k)->det n f=det n g
 |0,_,_,_=>rfl
 |n+1,f,g,h=>by
  unfold det;refine aR λc hc=>?_;rw[h n c ⋯ hc,jx λi k hi hk=>h i (sk c k) ⋯ (by unfold sk;split<;>omega)]
def cJ(f:Nat->Nat->Int)(j:Nat)(u:Nat->Int):Nat->Nat->Int:=λi k=>if k=j then u i else f i k
def fG(f:Nat->Nat->Int)(j:Nat)(u:Nat->Int):Nat->Nat->Int:=λi k=>if i=j then u k else f i k
def mZ(f:Nat->Nat->Int)(j:Nat)(u:Nat->Int)(i:Nat):cJ f j u i j=u i:=if_pos rfl
def nQ{f:Nat->Nat->Int}{j k:Nat}{u:Nat->Int}{i:Nat}(h:k≠j):cJ f j u i k=f i k:=if_neg h
def anq{c j:Nat}(h:c≠j):∃j',sk c j'=j/\(∀k,sk c k=j->k=j'):=by
 refine⟨if j<c then j else j-1,?_,λk hk=>?_⟩
 .unfold sk;split<;>(try split)<;>omega
 .unfold sk at hk;split at hk<;>split<;>omega
def ald{n c j:Nat}(f:Nat->Nat->Int)(u:Nat->Int)(h:c≠j)(hc:c<n+1)(hj:j<n+1):∃j',j'<n/\∀u,(λi k=>cJ f j u i (sk c k))=cJ (λi k=>f i (sk c k)) j' u:=by
 obtain⟨j',e1,e2⟩:=anq h;refine⟨j',?_,λu=>?_⟩
 .unfold sk at e1;split at e1<;>omega
 .funext i k
  unfold cJ;by_cases z:k=j'
  .rw[if_pos z,if_pos (by rw[z,e1])]
  .rw[if_neg z,if_neg λw=>z (e2 k w)]
theorem vA:∀{n:Nat} (f:Nat->Nat->Int) {j:Nat} (_:j<n) (a:Int) (u v:Nat->Int),det n (cJ f j λi=>a*u i+v i)=a*det n (cJ f j u)+det n (cJ f j v)
 |0,_,_,h,_,_,_=>absurd h (mO _)
 |n+1,f,j,hj,a,u,v=>by
  unfold det;rw[<-dD,<-iM];refine aR λc hc=>?_;by_cases e:c=j
  .subst e;have m:∀w,(λi k=>cJ f c w i (sk c k))=λi k=>f i (sk c k):=λw=>by funext i k;exact nQ (aut c k)
   rw[m,m,m,mZ,mZ,mZ];rw[f9,rZ];congr 1;rw[show sg (n+c)*(a*u n)=a*(sg (n+c)*u n)from fj ..,bU a]
  .obtain⟨j',hj',m⟩:=ald f u e hc hj;rw[m,m,m,vA _ hj',nQ e,nQ e,nQ e,f9];congr 1;exact fj ..
theorem GB:∀{n:Nat} {f:Nat->Nat->Int} {j:Nat},j+1<n->(∀i,i<n->f i j=f i (j+1))->det n f=0
 |0,_,_,h,_=>absurd h (mO _)
 |n+1,f,j,hj,h=>by
  unfold det;have e:sm (n+1) (λc=>sg (n+c)*f n c*det n λi k=>f i (sk c k))=sm (n+1) (λc=>(if c=j then sg (n+j)*f n j*det n (λi k=>f i (sk j k))else 0)+(if c=j+1 then -(sg (n+j)*f n j*det n (λi k=>f i (sk j k)))else 0)):=aR λc hc=>by
   by_cases e1:c=j
   .rw[if_pos e1,if_neg ⋯,e1,dj]
   .by_cases e2:c=j+1
    .rw[if_neg e1,if_pos e2,e2,ig,<-h n ⋯,show n+(j+1)=n+j+1 by omega,yL];have:det n (λi k=>f i (sk (j+1) k))=det n (λi k=>f i (sk j k)):=jx λi k hi hk=>by
      by_cases z:k=j
      .subst z;rw[show sk (k+1) k=k by unfold sk;rw[if_pos ⋯],show sk k k=k+1 by unfold sk;rw[if_neg ⋯],h i ⋯]
      .rw[show sk (j+1) k=sk j k by unfold sk;split<;>split<;>omega]
     rw[this,gM,gM]
    .rw[if_neg e1,if_neg e2,dj];have:det n (λi k=>f i (sk c k))=0:=by
      by_cases z:j+1<c
      .exact GB (j:=j) ⋯ λi hi=>by rw[show sk c j=j by unfold sk;rw[if_pos ⋯],show sk c (j+1)=j+1 by unfold sk;rw[if_pos ⋯]];exact h i ⋯
      .exact GB (j:=j-1) ⋯ λi hi=>by rw[show sk c (j-1)=j by unfold sk;rw[if_neg ⋯];omega,show sk c (j-1+1)=j+1 by unfold sk;rw[if_neg ⋯];omega];exact h i ⋯
     rw[this,aP]
  rw[e,iM];have s1:∀(x:Int) (t N:Nat),t<N->sm N (λc=>if c=t then x else 0)=x:=λx t N ht=>by rw[mC,if_pos ht]
  rw[s1 _ _ _ ⋯,s1 _ _ _ hj];omega
def sw(j i:Nat):Nat:=if i=j then j+1 else if i=j+1 then j else i
def zN(f:Nat->Nat->Int)(j:Nat):cJ f j (λi=>f i j)=f:=by
 funext i k;unfold cJ;split
 .rename_i h;rw[h]
 .rfl
def av3{n:Nat}(f:Nat->Nat->Int){j:Nat}(hj:j+1<n):det n (λi k=>f i (sw j k))=-det n f:=by
 let D:=λ(x y:Nat->Int)=>det n (cJ (cJ f j x) (j+1) y)
 have z:∀x,D x x=0:=λx=>GB hj λi _=>by
  rw[nQ ⋯,mZ,mZ]
 have l2:∀x y y',D x (λi=>1*y i+y' i)=1*D x y+D x y':=λx y y'=>vA _ hj 1 y y';have cm:∀x y,cJ (cJ f j x) (j+1) y=cJ (cJ f (j+1) y) j x:=λx y=>by
  funext i k;unfold cJ;split<;>(try split)<;>first|rfl|omega
 have l1:∀x x' y,D (λi=>1*x i+x' i) y=1*D x y+D x' y:=λx x' y=>by
  show det n _=1*det n _+det n _;rw[cm,cm,cm];exact vA _ ⋯ 1 x x'
 have a:=z λi=>1*f i j+f i (j+1);rw[l1,l2,l2,z,z]at a;have e1:D (λi=>f i j) (λi=>f i (j+1))=det n f:=by
  show det n _=_;rw[zN f j,zN]
 have e2:D (λi=>f i (j+1)) (λi=>f i j)=det n (λi k=>f i (sw j k)):=jx λi k _ _=>by
  unfold cJ sw;by_cases c1:k=j+1
  .rw[if_pos c1,if_neg ⋯,if_pos c1]
  .rw[if_neg c1];by_cases c2:k=j
   .rw[if_pos c2,if_pos c2]
   .rw[if_neg c2,if_neg c2,if_neg c1]
 rw[e1,e2]at a;omega
def mv(h m k:Nat):Nat:=if k<h then k else if k<m then k+1 else if k=m then h else k
def Yr{h m:Nat}(hm:h<m)(k:Nat):mv h m k=sw h (mv (h+1) m k):=by
 unfold mv sw
 repeat' split
 all_goals omega
theorem Mw{n:Nat}:∀(d:Nat) (f:Nat->Nat->Int) {h m:Nat},m=h+d->m<n->det n (λi k=>f i (mv h m k))=sg d*det n f
 |0,f,h,m,e,hm=>by
  have:det n (λi k=>f i (mv h m k))=det n f:=jx λi k _ _=>by
   rw[show mv h m k=k by unfold mv;split<;>(try split)<;>(try split)<;>omega]
  rw[this];simp[sg]
 |d+1,f,h,m,e,hm=>by
  have e1:(λi k=>f i (mv h m k))=λi k=>(λi k=>f i (sw h k)) i (mv (h+1) m k):=by
   funext i k;rw[Yr ⋯]
  rw[e1,Mw d (λi k=>f i (sw h k)) ⋯ hm,av3 f ⋯,yL,qp,gM]
def tE{n:Nat}{f:Nat->Nat->Int}{a b:Nat}(hab:a<b)(hb:b<n)(h:∀i,i<n->f i a=f i b):det n f=0:=by
 have e:=Mw (n:=n) (b-1-a) f (h:=a) (m:=b-1) ⋯ ⋯;have z:det n (λi k=>f i (mv a (b-1) k))=0:=GB (j:=b-1) ⋯ λi hi=>by
  rw[show mv a (b-1) (b-1)=a by unfold mv;rw[if_neg ⋯,if_neg ⋯,if_pos rfl],show mv a (b-1) (b-1+1)=b by unfold mv;rw[if_neg ⋯,if_neg ⋯,if_neg ⋯];omega];exact h i hi
 rw[z]at e;have s:=UY (b-1-a);have:sg (b-1-a)*(sg (b-1-a)*det n f)=det n f:=by rw[<-bU,s,iG]
 rw[<-e,aP]at this;exact this.symm
theorem Ci:∀{n:Nat} (f:Nat->Nat->Int) {j:Nat} (_:j<n) (a:Int) (u v:Nat->Int),det n (fG f j λi=>a*u i+v i)=a*det n (fG f j u)+det n (fG f j v)
 |0,_,_,h,_,_,_=>absurd h (mO _)
 |n+1,f,j,hj,a,u,v=>by
  unfold det;rw[<-dD,<-iM];refine aR λc hc=>?_;by_cases e:j=n
  .subst e;have m:∀w,det j (λi k=>fG f j w i (sk c k))=det j (λi k=>f i (sk c k)):=λw=>jx λi k hi _=>if_neg ⋯;rw[m,m,m];show sg (j+c)*(if j=j then _ else _)*_=a*(sg (j+c)*(if j=j then _ else _)*_)+sg (j+c)*(if j=j then _ else _)*_;rw[if_pos rfl,if_pos rfl,if_pos rfl,f9,rZ];congr 1;rw[show sg (j+c)*(a*u c)=a*(sg (j+c)*u c)from fj ..,bU a]
  .have m:∀w:Nat->Int,(λi k=>fG f j w i (sk c k))=fG (λi k=>f i (sk c k)) j λk=>w (sk c k):=λw=>by funext i k;rfl
   have r:∀w:Nat->Int,fG f j w n c=f n c:=λw=>if_neg (λz=>e z.symm);rw[m,m,m,r,r,r,Ci (λi k=>f i (sk c k)) ⋯ a (λk=>u (sk c k)) (λk=>v (sk c k)),f9];congr 1;exact fj ..
theorem tri(T:Nat->Nat->Int):∀N:Nat,sm (N+1) (λc=>sm N (λc'=>T c c'))=sm (N+1) (λb=>sm b (λa=>T b a+T a (b-1)))
 |0=>by simp[sm]
 |N+1=>by
  have ih:=tri T N;rw[sm,show(λc=>sm (N+1) λc'=>T c c')=λc=>sm N (λc'=>T c c')+T c N from rfl,iM,ih]
  conv=>rhs;rw[sm]
  rw[iM,fU];have e:(λc'=>T (N+1) c')=T (N+1):=rfl;rw[e];omega
def amw{a b:Nat}(h:a<b)(k:Nat):sk b (sk a k)=sk a (sk (b-1) k):=by
 unfold sk
 repeat' split
 all_goals omega
theorem Qe:∀{n:Nat} {f:Nat->Nat->Int} {j:Nat},j+1<n->(∀k,k<n->f j k=f (j+1) k)->det n f=0
 |0,_,_,h,_=>absurd h (mO _)
 |1,_,_,h,_=>absurd h ⋯
 |n+2,f,j,hj,h=>by
  by_cases e:j=n
  .subst e;have e1:det (j+2) f=sm (j+1+1) λc=>sm (j+1) λc'=>sg (j+1+c)*f (j+1) c*(sg (j+c')*f j (sk c c')*det j λi k=>f i (sk c (sk c' k))):=by
    show sm (j+1+1) _=_;refine aR λc _=>?_;rw[show det (j+1) (λi k=>f i (sk c k))=sm (j+1) λc'=>sg (j+c')*f j (sk c c')*det j λi k=>f i (sk c (sk c' k))from rfl,<-dD]
   rw[e1,tri];refine jh λb hb=>jh λa ha=>?_;have f1:sk b a=a:=by unfold sk;rw[if_pos ha]
   have f2:sk a (b-1)=b:=by unfold sk;rw[if_neg ⋯];omega
   have f3:(λi k=>f i (sk b (sk a k)))=λi k=>f i (sk a (sk (b-1) k)):=by funext i k;rw[amw ha]
   rw[f1,f2,f3,<-h b ⋯,<-h a ⋯];have s1:sg (j+1+b)*sg (j+a)=-(sg (j+1+a)*sg (j+(b-1))):=by
    rw[<-IL,<-IL,<-yL];unfold sg;rw[show(j+1+b+(j+a))%2=(j+1+a+(j+(b-1))+1)%2 by omega]
   generalize det j (λi k=>f i (sk a (sk (b-1) k)))=M;have t1:sg (j+1+b)*f j b*(sg (j+a)*f j a*M)=(sg (j+1+b)*sg (j+a))*(f j b*f j a*M):=by
    simp only[bU,fj]
   have t2:sg (j+1+a)*f j a*(sg (j+(b-1))*f j b*M)=(sg (j+1+a)*sg (j+(b-1)))*(f j b*f j a*M):=by
    simp only[bU,fj]
   rw[t1,t2,s1,gM];omega
  .unfold det;refine jh λc hc=>?_;rw[Qe (n:=n+1) (j:=j) ⋯ λk hk=>h (sk c k) (by unfold sk;split<;>omega),aP]
def IB(f:Nat->Nat->Int)(j:Nat):fG f j (f j)=f:=by
 funext i k;unfold fG;split
 .rename_i h;rw[h]
 .rfl
def aqo{n:Nat}(f:Nat->Nat->Int){j:Nat}(hj:j+1<n):det n (λi k=>f (sw j i) k)=-det n f:=by
 let D:=λ(x y:Nat->Int)=>det n (fG (fG f j x) (j+1) y)
 have z:∀x,D x x=0:=λx=>Qe hj λk _=>by
  show(if j=j+1 then x k else if j=j then x k else f j k)=(if j+1=j+1 then x k else _);rw[if_neg ⋯,if_pos rfl,if_pos rfl]
 have l2:∀x y y',D x (λi=>1*y i+y' i)=1*D x y+D x y':=λx y y'=>Ci _ hj 1 y y';have cm:∀x y,fG (fG f j x) (j+1) y=fG (fG f (j+1) y) j x:=λx y=>by
  funext i k;unfold fG;split<;>(try split)<;>first|rfl|omega
 have l1:∀x x' y,D (λi=>1*x i+x' i) y=1*D x y+D x' y:=λx x' y=>by
  show det n _=1*det n _+det n _;rw[cm,cm,cm];exact Ci _ ⋯ 1 x x'
 have a:=z λi=>1*f j i+f (j+1) i;rw[l1,l2,l2,z,z]at a;have e1:D (λi=>f j i) (λi=>f (j+1) i)=det n f:=by
  show det n _=_;rw[IB f j,IB]
 have e2:D (λi=>f (j+1) i) (λi=>f j i)=det n (λi k=>f (sw j i) k):=jx λi k _ _=>by
  unfold fG sw;by_cases c1:i=j+1
  .rw[if_pos c1,if_neg ⋯,if_pos c1]
  .rw[if_neg c1];by_cases c2:i=j
   .rw[if_pos c2,if_pos c2]
   .rw[if_neg c2,if_neg c2,if_neg c1]
 rw[e1,e2]at a;omega
theorem Uv{n:Nat}:∀(d:Nat) (f:Nat->Nat->Int) {h m:Nat},m=h+d->m<n->det n (λi k=>f (mv h m i) k)=sg d*det n f
 |0,f,h,m,e,hm=>by
  have:det n (λi k=>f (mv h m i) k)=det n f:=jx λi k _ _=>by
   rw[show mv h m i=i by unfold mv;split<;>(try split)<;>(try split)<;>omega]
  rw[this];simp[sg]
 |d+1,f,h,m,e,hm=>by
  have e1:(λi k=>f (mv h m i) k)=λi k=>(λi k=>f (sw h i) k) (mv (h+1) m i) k:=by
   funext i k;rw[Yr ⋯]
  rw[e1,Uv d (λi k=>f (sw h i) k) ⋯ hm,aqo f ⋯,yL,qp,gM]
def aaZ{n:Nat}{f:Nat->Nat->Int}{a b:Nat}(hab:a<b)(hb:b<n)(h:∀k,k<n->f a k=f b k):det n f=0:=by
 have e:=Uv (n:=n) (b-1-a) f (h:=a) (m:=b-1) ⋯ ⋯;have z:det n (λi k=>f (mv a (b-1) i) k)=0:=Qe (j:=b-1) ⋯ λk hk=>by
  rw[show mv a (b-1) (b-1)=a by unfold mv;rw[if_neg ⋯,if_neg ⋯,if_pos rfl],show mv a (b-1) (b-1+1)=b by unfold mv;rw[if_neg ⋯,if_neg ⋯,if_neg ⋯];omega];exact h k hk
 rw[z]at e;have s:=UY (b-1-a);have:sg (b-1-a)*(sg (b-1-a)*det n f)=det n f:=by rw[<-bU,s,iG]
 rw[<-e,aP]at this;exact this.symm
def aoF(n:Nat)(f:Nat->Nat->Int):det (n+1) f=sm (n+1) λc=>sg c*f 0 c*det n λi k=>f (i+1) (sk c k):=by
 have e:=Uv (n:=n+1) n f (h:=0) (m:=n) ⋯ ⋯;have e1:det (n+1) (λi k=>f (mv 0 n i) k)=sg n*sm (n+1) λc=>sg c*f 0 c*det n λi k=>f (i+1) (sk c k):=by
  rw[<-dD];show sm (n+1) _=_;refine aR λc _=>?_;have m:det n (λi k=>f (mv 0 n i) (sk c k))=det n λi k=>f (i+1) (sk c k):=jx λi k hi _=>by
   rw[show mv 0 n i=i+1 by unfold mv;rw[if_neg ⋯,if_pos hi]]
  have z0:mv 0 n n=0:=by unfold mv;rw[if_neg ⋯,if_neg ⋯,if_pos rfl]
  show sg (n+c)*f (mv 0 n n) c*det n (λi k=>f (mv 0 n i) (sk c k))=_;rw[m,z0,IL];simp only[bU]
 have s:=UY n;have:sg n*(sg n*det (n+1) f)=det (n+1) f:=by rw[<-bU,s,iG]
 rw[<-e,e1,<-bU,s,iG]at this;exact this.symm
def Wk{n:Nat}(f:Nat->Nat->Int){a b:Nat}(hab:a<b)(hb:b<n):det n (fG (fG f a (f b)) b λk=>-1*f a k+0)=det n f:=by
 let D:=λ(x y:Nat->Int)=>det n (fG (fG f a x) b y)
 have z:∀x,D x x=0:=λx=>aaZ hab hb λk _=>by
  show(if a=b then x k else if a=a then x k else f a k)=(if b=b then x k else _);rw[if_neg ⋯,if_pos rfl,if_pos rfl]
 have l2:∀(c:Int) x y y',D x (λi=>c*y i+y' i)=c*D x y+D x y':=λc x y y'=>Ci _ hb c y y';have cm:∀x y,fG (fG f a x) b y=fG (fG f b y) a x:=λx y=>by
  funext i k;unfold fG;split<;>(try split)<;>first|rfl|omega
 have l1:∀x x' y,D (λi=>1*x i+x' i) y=1*D x y+D x' y:=λx x' y=>by
  show det n _=1*det n _+det n _;rw[cm,cm,cm];exact Ci _ ⋯ 1 x x'
 have q:=z λi=>1*f a i+f b i;rw[l1,l2,l2,z,z]at q;have e1:D (f a) (f b)=det n f:=by
  show det n _=_;rw[IB f a,IB]
 have e3:D (f b) (λk=>-1*f a k+0)=-1*D (f b) (f a)+D (f b) (λ_=>0):=l2 (-1) (f b) (f a) (λ_=>0);have e4:D (f b) (λ_=>0)=0:=by
  have:=l2 0 (f b) (λ_=>0) (λ_=>0);have e5:=l2 (-1) (f b) (λ_=>0) (λ_=>0);simp only[aP,dj]at e5;omega
 show D (f b) (λk=>-1*f a k+0)=_;rw[e3,e4];have e6:D (λi=>f a i) (λi=>f b i)=det n f:=e1;have e7:D (λi=>f b i) (λi=>f a i)=D (f b) (f a):=rfl;rw[e6,e7]at q;omega
end Dm
namespace Dm
open Pm
def C9{n:Nat}(f:Nat->Nat->Int){j:Nat}(hj:j<n):det n (cJ f j λ_=>0)=0:=by
 have e:=vA f hj (-1) (λ_=>0) (λ_=>0);simp only[aP,dj]at e;omega
theorem Dl{n:Nat}(f:Nat->Nat->Int){j:Nat}(hj:j<n)(x:Nat->Int)(u:Nat->Nat->Int):∀m:Nat,det n (cJ f j λi=>sm m λh=>x h*u h i)=sm m λh=>x h*det n (cJ f j (u h))
 |0=>C9 f hj
 |m+1=>by
  rw[sm,<-Dl f hj x u m];have e:=vA f hj (x m) (u m) (λi=>sm m λh=>x h*u h i);rw[n6,<-e];congr 2
  funext i
  rw[sm,n6]
def arx{n:Nat}{f:Nat->Nat->Int}{x:Nat->Int}(h:∀i,i<n->sm n (λk=>f i k*x k)=0){j:Nat}(hj:j<n):x j*det n f=0:=by
 have e1:det n (cJ f j λi=>sm n λk=>x k*f i k)=0:=by
  rw[<-C9 f hj];refine jx λi k hi _=>?_;unfold cJ;split
  .rw[<-h i hi];exact aR λk _=>cA ..
  .rfl
 rw[Dl f hj x (λk i=>f i k)]at e1;have e2:sm n (λk=>x k*det n (cJ f j λi=>f i k))=sm n (λk=>if k=j then x j*det n f else 0):=aR λk hk=>by
  by_cases c:k=j
  .rw[if_pos c,c,zN]
  .rw[if_neg c];have z:det n (cJ f j λi=>f i k)=0:=by
    rcases GY c with l|l
    .exact tE l hj λi _=>by rw[mZ,nQ ⋯]
    .exact tE l hk λi _=>by rw[mZ,nQ ⋯]
   rw[z,aP]
 rw[e2,mC,if_pos hj]at e1;exact e1
def Bk(A:Nat->Nat->Int)(hd:Nat->Nat):Nat->Nat->Int:=λi h=>A i (hd h)
def dt(A:Nat->Nat->Int)(hd:Nat->Nat)(r:Nat):Int:=det r (Bk A hd)
def cr(A:Nat->Nat->Int)(hd:Nat->Nat)(r h k:Nat):Int:=det r (cJ (Bk A hd) h λi=>A i k)
def bd(A:Nat->Nat->Int)(hd:Nat->Nat)(r i k:Nat):Int:=det (r+1) λi' k'=>A (if i'=r then i else i') (if k'=r then k else hd k')
def tV(A:Nat->Nat->Int)(hd:Nat->Nat)(r i k:Nat):bd A hd r i k=A i k*dt A hd r-sm r λh=>A i (hd h)*cr A hd r h k:=by
 unfold bd;rw[det,sm];have e1:sg (r+r)*A (if r=r then i else r) (if r=r then k else hd r)*det r (λi' k'=>A (if i'=r then i else i') (if sk r k'=r then k else hd (sk r k')))=A i k*dt A hd r:=by
  rw[if_pos rfl,if_pos rfl,show sg (r+r)=1 by unfold sg;rw[if_pos ⋯],iG];congr 1;exact jx λi' k' hi hk=>by
   rw[if_neg ⋯,show sk r k'=k' by unfold sk;rw[if_pos hk],if_neg ⋯];rfl
 rw[e1];have e2:sm r (λc=>sg (r+c)*A (if r=r then i else r) (if c=r then k else hd c)*det r (λi' k'=>A (if i'=r then i else i') (if sk c k'=r then k else hd (sk c k'))))=sm r λh=>-1*(A i (hd h)*cr A hd r h k):=aR λc hc=>by
  rw[if_pos rfl,if_neg ⋯];have m:det r (λi' k'=>A (if i'=r then i else i') (if sk c k'=r then k else hd (sk c k')))=sg (r-1-c)*cr A hd r c k:=by
   rw[cr,<-Mw (n:=r) (r-1-c) (cJ (Bk A hd) c λi=>A i k) (h:=c) (m:=r-1) ⋯ ⋯];refine jx λi' k' hi hk=>?_;rw[if_neg ⋯];unfold sk mv cJ Bk;by_cases c1:k'<c
   .rw[if_pos c1,if_pos c1,if_neg ⋯,if_neg ⋯]
   .rw[if_neg c1,if_neg c1];by_cases c2:k'<r-1
    .rw[if_pos c2,if_neg ⋯,if_neg ⋯]
    .rw[if_neg c2,if_pos (show k'+1=r by omega),if_pos (show k'=r-1 by omega),if_pos rfl]
  rw[m];have s:sg (r+c)*sg (r-1-c)=-1:=by
   rw[<-IL];unfold sg;rw[if_neg ⋯]
  have t:sg (r+c)*A i (hd c)*(sg (r-1-c)*cr A hd r c k)=(sg (r+c)*sg (r-1-c))*(A i (hd c)*cr A hd r c k):=by simp only[bU,fj]
  rw[t,s]
 rw[e2,dD];omega
def Ua{A:Nat->Nat->Int}{hd:Nat->Nat}{r i:Nat}(k:Nat)(h:i<r):bd A hd r i k=0:=aaZ h (DC r) λk' _=>by
 rw[if_neg ⋯,if_pos rfl]
def aej{A:Nat->Nat->Int}{hd:Nat->Nat}{r i:Nat}(k:Nat)(h:i<r):sm r (λh=>A i (hd h)*cr A hd r h k)=A i k*dt A hd r:=by
 have:=tV A hd r i k;rw[Ua k h]at this;omega
def Qc(A:Nat->Nat->Int)(hd:Nat->Nat)(r i k:Nat):sm r (λh=>A i (hd h)*cr A hd r h k)=A i k*dt A hd r-bd A hd r i k:=by
 have:=tV A hd r i k;omega
def more(hd:Nat->Nat)(r c:Nat):Nat->Nat:=λh=>if h=r then c else hd h
def Gu(A:Nat->Nat->Int)(hd:Nat->Nat)(r c:Nat):dt A (more hd r c) (r+1)=bd A hd r r c:=jx λi k _ _=>by
 unfold Bk more;by_cases h:i=r
 .rw[if_pos h,h]
 .rw[if_neg h]
def Ww(A:Nat->Nat->Int)(hd:Nat->Nat)(r c k:Nat):cr A (more hd r c) (r+1) r k=bd A hd r r k:=jx λi k' _ _=>by
 unfold cJ Bk more;by_cases h:i=r
 .rw[if_pos h,h];by_cases h2:k'=r
  .rw[if_pos h2,if_pos h2]
  .rw[if_neg h2,if_neg h2,if_neg h2]
 .rw[if_neg h];by_cases h2:k'=r
  .rw[if_pos h2,if_pos h2]
  .rw[if_neg h2,if_neg h2,if_neg h2]
def ZD(A:Nat->Nat->Int)(hd:Nat->Nat)(r c i k:Nat):
  sm r (λh=>A i (hd h)*(bd A hd r r c*cr A hd r h k-cr A hd r h c*bd A hd r r k))+A i c*(dt A hd r*bd A hd r r k)=bd A hd r r c*(A i k*dt A hd r-bd A hd r i k)+bd A hd r r k*bd A hd r i c:=by
 have e1:sm r (λh=>A i (hd h)*(bd A hd r r c*cr A hd r h k-cr A hd r h c*bd A hd r r k))=bd A hd r r c*sm r (λh=>A i (hd h)*cr A hd r h k) + -(bd A hd r r k)*sm r (λh=>A i (hd h)*cr A hd r h c):=by
  rw[<-dD,<-dD,<-iM];refine aR λh _=>?_;rw[iH,gM,fj,<-bU (A i (hd h)),cA (A i (hd h)*cr A hd r h c)];omega
 rw[e1,Qc,Qc,iH (-bd A hd r r k),gM,gM];have e2:A i c*(dt A hd r*bd A hd r r k)=bd A hd r r k*(A i c*dt A hd r):=by simp only[bU,fj,cA]
 rw[e2];omega
def af2{A:Nat->Nat->Int}{hd:Nat->Nat}{r c:Nat}(hp:bd A hd r r c≠0){h:Nat}(hh:h<r)(k:Nat):dt A hd r*cr A (more hd r c) (r+1) h k=bd A hd r r c*cr A hd r h k-cr A hd r h c*bd A hd r r k:=by
 let x:=λh=>dt A hd r*cr A (more hd r c) (r+1) h k-(if h=r then dt A hd r*bd A hd r r k else bd A hd r r c*cr A hd r h k-cr A hd r h c*bd A hd r r k)
 have key:=arx (n:=r+1) (f:=Bk A (more hd r c)) (x:=x) (λi hi=>?_) (j:=h) ⋯
 .have e:det (r+1) (Bk A (more hd r c))=bd A hd r r c:=Gu A hd r c;rw[e]at key;rcases kZ.mp key with z|z
  .have z':dt A hd r*cr A (more hd r c) (r+1) h k-(if h=r then dt A hd r*bd A hd r r k else bd A hd r r c*cr A hd r h k-cr A hd r h c*bd A hd r r k)=0:=z;rw[if_neg ⋯]at z';omega
  .exact absurd z hp
 .have e1:sm (r+1) (λh=>Bk A (more hd r c) i h*x h)=dt A hd r*sm (r+1) (λh=>A i (more hd r c h)*cr A (more hd r c) (r+1) h k) + -1*sm (r+1) (λh=>A i (more hd r c h)*(if h=r then dt A hd r*bd A hd r r k else bd A hd r r c*cr A hd r h k-cr A hd r h c*bd A hd r r k)):=by
   rw[<-dD,<-dD,<-iM];refine aR λh _=>?_;show A i (more hd r c h)*(dt A hd r*cr A (more hd r c) (r+1) h k-_)=_;rw[iH,fj];omega
  rw[e1,aej k hi,Gu,sm,if_pos rfl,show more hd r c r=c from if_pos rfl];have e2:sm r (λh=>A i (more hd r c h)*(if h=r then dt A hd r*bd A hd r r k else bd A hd r r c*cr A hd r h k-cr A hd r h c*bd A hd r r k))=sm r (λh=>A i (hd h)*(bd A hd r r c*cr A hd r h k-cr A hd r h c*bd A hd r r k)):=aR λh hh=>by
   rw[if_neg ⋯,show more hd r c h=hd h from if_neg ⋯]
  rw[e2,ZD];have e3:dt A hd r*(A i k*bd A hd r r c)=bd A hd r r c*(A i k*dt A hd r):=by simp only[bU,fj,cA]
  rw[e3,iH];have e4:bd A hd r r c*bd A hd r i k=bd A hd r r k*bd A hd r i c:=by
   by_cases z:i<r
   .rw[Ua k z,Ua c z,aP,aP]
   .rw[show i=r by omega,cA]
  rw[e4];omega
def ajP{A:Nat->Nat->Int}{hd:Nat->Nat}{r c:Nat}(hp:bd A hd r r c≠0)(i k:Nat):dt A hd r*bd A (more hd r c) (r+1) i k=bd A hd r r c*bd A hd r i k-bd A hd r i c*bd A hd r r k:=by
 rw[tV A (more hd r c) (r+1),Gu,iH,<-dD,sm,Ww,show more hd r c r=c from if_pos rfl];have e2:sm r (λh=>dt A hd r*(A i (more hd r c h)*cr A (more hd r c) (r+1) h k))=sm r (λh=>A i (hd h)*(bd A hd r r c*cr A hd r h k-cr A hd r h c*bd A hd r r k)):=aR λh hh=>by
  rw[fj,af2 hp hh,show more hd r c h=hd h from if_neg ⋯]
 have e5:=ZD A hd r c i k;rw[e2,show dt A hd r*(A i c*bd A hd r r k)=A i c*(dt A hd r*bd A hd r r k)from fj ..,e5,iH];have e3:dt A hd r*(A i k*bd A hd r r c)=bd A hd r r c*(A i k*dt A hd r):=by simp only[bU,fj,cA]
 rw[e3,cA (bd A hd r i c)];omega
def En(A:Nat->Nat->Int)(hd:Nat->Nat)(r i k:Nat):Int:=if i<r then cr A hd r i k else bd A hd r i k
def as9(A:Nat->Nat->Int)(hd:Nat->Nat)(i k:Nat):En A hd 0 i k=A i k:=by
 unfold En;rw[if_neg ⋯,tV];simp[sm,dt,det]
def CZ{A:Nat->Nat->Int}{hd:Nat->Nat}{r c:Nat}(hp:En A hd r r c≠0){i:Nat}(hi:i≠r)(k:Nat):dt A hd r*En A (more hd r c) (r+1) i k=En A hd r r c*En A hd r i k-En A hd r i c*En A hd r r k:=by
 have er:∀k,En A hd r r k=bd A hd r r k:=λk=>if_neg ⋯;rw[er]at hp⊢;rw[er];unfold En;by_cases h:i<r
 .rw[if_pos ⋯,if_pos h,if_pos h];exact af2 hp h k
 .rw[if_neg ⋯,if_neg h,if_neg h];exact ajP hp i k
def W3(A:Nat->Nat->Int)(hd:Nat->Nat)(r c k:Nat):En A (more hd r c) (r+1) r k=En A hd r r k:=by
 unfold En;rw[if_pos ⋯,if_neg ⋯];exact Ww A hd r c k
def Pg(A:Nat->Nat->Int)(hd:Nat->Nat)(r c:Nat):dt A (more hd r c) (r+1)=En A hd r r c:=by
 rw[Gu];exact(if_neg ⋯).symm
def Mz(A:Nat->Nat->Int)(hd:Nat->Nat):dt A hd 0=1:=rfl
def ax2{A:Nat->Nat->Int}{hd:Nat->Nat}{r i h:Nat}(hh:h<r):En A hd r i (hd h)=if i=h then dt A hd r else 0:=by
 unfold En;by_cases c:i<r
 .rw[if_pos c];by_cases e:i=h
  .rw[if_pos e,e];show det r (cJ (Bk A hd) h λi=>Bk A hd i h)=_;rw[zN];rfl
  .rw[if_neg e];show det r (cJ (Bk A hd) i λi'=>A i' (hd h))=0;rcases GY e with l|l
   .exact tE l hh λi' _=>by rw[mZ,nQ ⋯];rfl
   .exact tE l c λi' _=>by rw[mZ,nQ ⋯];rfl
 .rw[if_neg c,if_neg ⋯];exact tE (a:=h) (b:=r) hh (DC r) λi' _=>by rw[if_neg (show ¬h=r by omega),if_pos (show r=r from rfl)]
def V3(A:Nat->Nat->Int)(hd:Nat->Nat)(r i k:Nat):A i k*dt A hd r=sm r (λh=>A i (hd h)*En A hd r h k)+(if i<r then 0 else En A hd r i k):=by
 have e:sm r (λh=>A i (hd h)*En A hd r h k)=sm r (λh=>A i (hd h)*cr A hd r h k):=aR λh hh=>by
  unfold En;rw[if_pos hh]
 rw[e];by_cases c:i<r
 .rw[if_pos c,aej k c,dj]
 .rw[if_neg c,Qc];unfold En;rw[if_neg c];omega
def ahL{A:Nat->Nat->Int}{hd:Nat->Nat}{n r c:Nat}{p:Int}(hc:c<n)(hn:∀h,h<r->hd h<n/\hd h≠c)(hz:∀i,r<=i->i<n->∃e,En A hd r i c=p*e):∃e,dt A hd r*det n A=p*e:=by
 have hz':∀i,i<n->∃e,(if i<r then 0 else En A hd r i c)=p*e:=λi hi=>by
  by_cases z:i<r
  .exact⟨0,by rw[if_pos z,aP]⟩
  .obtain⟨e,he⟩:=hz i ⋯ hi;exact⟨e,by rw[if_neg z,he]⟩
 let y:=λi=>if h:i<n then acB (hz' i h)else 0
 have hy:∀i,i<n->(if i<r then 0 else En A hd r i c)=p*y i:=λi hi=>by
  show _=p*(if h:i<n then acB (hz' i h)else 0);rw[dif_pos hi];exact Classical.choose_spec (hz' i hi)
 refine⟨det n (cJ A c y),?_⟩;have e1:dt A hd r*det n A=det n (cJ A c λi=>dt A hd r*A i c+0):=by
  have:=vA A hc (dt A hd r) (λi=>A i c) (λ_=>0);rw[zN,C9 A hc,dj]at this;exact this.symm
 have e2:det n (cJ A c λi=>dt A hd r*A i c+0)=det n (cJ A c λi=>p*y i+sm r λh=>En A hd r h c*A i (hd h)):=jx λi k hi _=>by
  unfold cJ;split
  .have:=V3 A hd r i c;rw[hy i hi]at this;have e3:sm r (λh=>A i (hd h)*En A hd r h c)=sm r (λh=>En A hd r h c*A i (hd h)):=aR λh _=>cA ..;rw[e3]at this;show dt A hd r*A i c+0=p*y i+sm r λh=>En A hd r h c*A i (hd h);rw[cA (dt A hd r),this];omega
  .rfl
 rw[e1,e2,vA A hc p y,Dl A hc (λh=>En A hd r h c) (λh i=>A i (hd h))];have e4:sm r (λh=>En A hd r h c*det n (cJ A c λi=>A i (hd h)))=0:=jh λh hh=>by
  obtain⟨h1,h2⟩:=hn h hh;have z:det n (cJ A c λi=>A i (hd h))=0:=by
   rcases GY h2 with l|l
   .exact tE l hc λi _=>by rw[mZ,nQ ⋯]
   .exact tE l h1 λi _=>by rw[mZ,nQ ⋯]
  rw[z,aP]
 rw[e4,dj]
end Dm
namespace Dm
open Pm Rm
def Dom(b:Int):Prop:=∀x y,tk b x≠0->tk b (x*y)=0->tk b y=0
def Dom.zero:Dom 0:=λx y hx h=>by
 rw[aY]at *;rcases kZ.mp h with z|z
 .exact absurd z hx
 .exact z
def Dom.prime{P:Nat}(hP:P∈Om.nU)(h2:2<=P):Dom (P:Int):=λx y hx h=>by
 have u5:(P:Int)≠0:=⋯;have ji:∀n,tk (P:Int) n=n%(P:Int):=λn=>jY u5 n;rw[ji]at *;have r0:=rY x u5;have r1:=rK x (show(0:Int)<P by omega);have hinv:((x%P)^(P-2)*(x%P))%(P:Int)=1:=by
  rw[<-jj,show(P-2).succ=P-1 by omega];exact Om.D4 rfl hP ⋯ r1
 have e1:((x%P)^(P-2)*(x*y))%(P:Int)=0:=by rw[mD,h,aP];exact K4 _
 have e2:((x%P)^(P-2)*(x*y))%(P:Int)=y%(P:Int):=by
  have e3:((x%P)^(P-2)*x)%(P:Int)=1:=by rw[mD,<-hinv,mD ((x%P)^(P-2)) (x%P),nO _ (nZ _)]
  rw[<-bU,mD,e3,iG,nO _ (nZ _)]
 rw[<-e2,e1]
def sV{b x:Int}:tk b x=0↔∃e,x=b*e:=by
 unfold tk;split
 .rename_i h
  constructor
  .intro z;exact⟨0,by rw[z,aP]⟩
  .rintro⟨e,he⟩;rw[he,h,gh]
 .constructor
  .intro z;exact⟨x/b,(Ou (DX z)).symm⟩
  .rintro⟨e,he⟩;rw[he];exact Int.mul_emod_right b e
def turn(A:Nat->Nat->Int)(a c:Nat):Nat->Nat->Int:=fG (fG A a (A c)) c λk=>-1*A a k+0
inductive ug(n:Nat)(A0:Nat->Nat->Int):(Nat->Nat->Int)->Prop
 |refl:ug n A0 A0
 |step {A:Nat->Nat->Int} {a c:Nat}:ug n A0 A->a<c->c<n->ug n A0 (turn A a c)
theorem ug.det{n:Nat}{A0 A:Nat->Nat->Int}(h:ug n A0 A):Dm.det n A=Dm.det n A0:=by
 induction h with
 |refl=>rfl
 |step _ h1 h2 ih=>rw[<-ih];exact Wk _ h1 h2
def vH{A:Nat->Nat->Int}{a c i:Nat}(h1:i≠a)(h2:i≠c)(k:Nat):turn A a c i k=A i k:=by
 unfold turn fG;rw[if_neg h2,if_neg h1]
def Cq{A:Nat->Nat->Int}{a c:Nat}(h:a≠c)(k:Nat):turn A a c a k=A c k:=by
 unfold turn fG;rw[if_neg h,if_pos rfl]
def wR(A:Nat->Nat->Int)(a c k:Nat):turn A a c c k=-A a k:=by
 unfold turn fG;rw[if_pos rfl];show -1*A a k+0=-A a k;omega
def Gf{A:Nat->Nat->Int}{hd:Nat->Nat}{r a c:Nat}(ha:r<=a)(hc:r<=c):dt (turn A a c) hd r=dt A hd r:=jx λi k hi _=>vH ⋯ ⋯ _
def Wu{A:Nat->Nat->Int}{hd:Nat->Nat}{r a c:Nat}(ha:r<=a)(hc:r<=c)(h k:Nat):cr (turn A a c) hd r h k=cr A hd r h k:=jx λi k' hi _=>by
 show(if k'=h then turn A a c i k else turn A a c i (hd k'))=if k'=h then A i k else A i (hd k');rw[vH ⋯ ⋯,vH ⋯ ⋯]
def BR{A:Nat->Nat->Int}{hd:Nat->Nat}{r a c:Nat}(ha:r<=a)(hac:a<c)(i k:Nat):En (turn A a c) hd r i k=if i=a then En A hd r c k else if i=c then -En A hd r a k else En A hd r i k:=by
 have hc:r<=c:=⋯;unfold En;by_cases h:i<r
 .rw[if_pos h,if_neg ⋯,if_neg ⋯,if_pos h];exact Wu ha hc i k
 .rw[if_neg h,tV,Gf ha hc];have e:∀j,sm r (λh=>turn A a c j (hd h)*cr (turn A a c) hd r h k)=sm r (λh=>turn A a c j (hd h)*cr A hd r h k):=λj=>aR λh _=>by rw[Wu ha hc]
  rw[e];by_cases h1:i=a
  .rw[if_pos h1,if_neg ⋯,tV,h1,Cq ⋯];congr 1;exact aR λh _=>by rw[Cq ⋯]
  .rw[if_neg h1];by_cases h2:i=c
   .rw[if_pos h2,if_neg ⋯,tV,h2,wR];have:sm r (λh=>turn A a c c (hd h)*cr A hd r h k)=-1*sm r (λh=>A a (hd h)*cr A hd r h k):=by
     rw[<-dD];exact aR λh _=>by rw[wR,gM];omega
    rw[this,gM];omega
   .rw[if_neg h2,if_neg h,tV,vH h1 h2];congr 1;exact aR λh _=>by rw[vH h1 h2]
def ln(L:List (List Int))(i:Nat):List Int:=L.getD i []
structure dG(b:Int)(n W u:Nat)(A0:Nat->Nat->Int)(c:Nat)(A:Nat->Nat->Int)(hd:Nat->Nat)(r:Nat)(L:List (List Int))(last:Int):Prop where
 sw:ug n A0 A
 len:L.length=n
 wd:∀i,i<n->(ln L i).length=W
 en:∀i k,i<n->k<W->co (ln L i) k=tk b (En A hd r i k)
 la:last=tk b (dt A hd r)
 nz:tk b (dt A hd r)≠0
 rn:r<=n
 hc:∀h,h<r->hd h<c
 up:∀h h',h<h'->h'<r->hd h<hd h'
 zero:∀k,k<c->(∀h,h<r->hd h≠k)->∀i,r<=i->i<n->tk b (En A hd r i k)=0
 full:c<=n->(r=c/\∀h,h<r->hd h=h)∨tk b (det n A)=0
 su:∀i k,Bd u (A i k)
 ge:∀h,h<r->∀k,k<hd h->(∀h',h'<r->hd h'≠k)->tk b (En A hd r h k)=0
def dG.start{b:Int}{W u:Nat}{L:List (List Int)}(hb:tk b 1=1)(hw:∀i,i<L.length->(ln L i).length=W)(hn:∀i k,tk b (co (ln L i) k)=co (ln L i) k)(hu:∀i k,Bd u (co (ln L i) k)):
  dG b L.length W u (λi k=>co (ln L i) k) 0 (λi k=>co (ln L i) k) (λ_=>0) 0 L 1:=
 ⟨.refl,rfl,hw,λi k _ _=>by rw[as9,hn],by rw[Mz,hb],by rw[Mz,hb];decide,cB _,λh hh=>absurd hh (mO _),λ_ _ _ h=>absurd h (mO _),λk hk=>absurd hk (mO _),λ_=> .inl ⟨rfl,λh hh=>absurd hh (mO _)⟩,hu,λh hh=>absurd hh (mO _)⟩
def dG.skip{b:Int}{n W u:Nat}{A0:Nat->Nat->Int}{c:Nat}{A:Nat->Nat->Int}{hd:Nat->Nat}{r:Nat}{L:List (List Int)}{last:Int}(h:dG b n W u A0 c A hd r L last)(hD:Dom b)(lV:c<W)
  (hz:∀i,r<=i->i<n->co (ln L i) c=0):dG b n W u A0 (c+1) A hd r L last:=by
 have hz':∀i,r<=i->i<n->tk b (En A hd r i c)=0:=λi h1 h2=>by rw[<-h.en i c h2 lV];exact hz i h1 h2
 refine⟨h.sw,h.len,h.wd,h.en,h.la,h.nz,h.rn,λk hk=>by have:=h.hc k hk;omega,h.up,λk hk hn i h1 h2=>?_,λhcn=> .inr ?_,h.su,h.ge⟩
 .by_cases e:k=c
  .rw[e];exact hz' i h1 h2
  .exact h.zero k ⋯ hn i h1 h2
 .obtain⟨e,he⟩:=ahL (A:=A) (hd:=hd) (n:=n) (r:=r) (c:=c) (p:=b) ⋯ (λk hk=>by have:=h.hc k hk;omega) λi h1 h2=>sV.mp (hz' i h1 h2);exact hD _ _ h.nz (sV.mpr ⟨e,he⟩)
def dG.bring{b:Int}{n W u:Nat}{A0:Nat->Nat->Int}{c:Nat}{A:Nat->Nat->Int}{hd:Nat->Nat}{r:Nat}{L L':List (List Int)}{last:Int}(h:dG b n W u A0 c A hd r L last){a:Nat}(hra:r<a)(han:a<n)
  (hl:L'.length=n) (e1:ln L' r=ln L a) (e2:ln L' a=(ln L r).map λx=>tk b (0-x)) (e3:∀i,i≠r->i≠a->ln L' i=ln L i):dG b n W u A0 c (turn A r a) hd r L' last:=by
 have hrn:r<n:=⋯;refine⟨.step h.sw hra han,hl,λi hi=>?_,λi k hi hk=>?_,by rw[Gf (aN _) ⋯];exact h.la,by rw[Gf (aN _) ⋯];exact h.nz,h.rn,h.hc,h.up,λk hk hn i h1 h2=>?_,λhcn=>?_,λi k=>?_,λj hj k hk hn=>by rw[BR (aN _) hra,if_neg ⋯,if_neg ⋯];exact h.ge j hj k hk hn⟩
 .by_cases c1:i=r
  .rw[c1,e1];exact h.wd a han
  .by_cases c2:i=a
   .rw[c2,e2,aB];exact h.wd r hrn
   .rw[e3 i c1 c2];exact h.wd i hi
 .rw[BR (aN _) hra];by_cases c1:i=r
  .rw[if_pos c1,c1,e1];exact h.en a k han hk
  .rw[if_neg c1];by_cases c2:i=a
   .rw[if_pos c2,c2,e2,lN (by simp[tk0]),h.en r k hrn hk];rw[show 0-tk b (En A hd r r k)=-1*tk b (En A hd r r k)by omega,dI];congr 1;omega
   .rw[if_neg c2,e3 i c1 c2];exact h.en i k hi hk
 .rw[BR (aN _) hra];by_cases c1:i=r
  .rw[if_pos c1];exact h.zero k hk hn a ⋯ han
  .rw[if_neg c1];by_cases c2:i=a
   .rw[if_pos c2];have:=h.zero k hk hn r (aN _) hrn;rw[<-zZ,<-dI,this,aP];exact tk0 b
   .rw[if_neg c2];exact h.zero k hk hn i h1 h2
 .have e:det n (turn A r a)=det n A:=Wk A hra han;rw[e];exact h.full hcn
 .by_cases c2:i=a
  .rw[c2,wR];have:=h.su r k;unfold Bd at this⊢;rw[za];exact this
  .by_cases c1:i=r
   .rw[c1,Cq ⋯];exact h.su a k
   .rw[vH c1 c2];exact h.su i k
def dG.free{b:Int}{n W u:Nat}{A0:Nat->Nat->Int}{c:Nat}{A:Nat->Nat->Int}{hd:Nat->Nat}{r:Nat}{L L':List (List Int)}{last:Int}(h:dG b n W u A0 c A hd r L last)(hD:Dom b)(lV:c<W)(hrn:r<n)
  (hp:co (ln L r) c≠0) (hl:L'.length=n) (e1:ln L' r=ln L r) (e2:∀i,i<n->i≠r->(ln L' i).length=W/\∀k,k<W->co (ln L' i) k=tk b (co (ln L' i) k)/\tk b (last*co (ln L' i) k)=tk b (co (ln L r) c*co (ln L i) k-co (ln L i) c*co (ln L r) k)):
  dG b n W u A0 (c+1) A (more hd r c) (r+1) L' (co (ln L r) c):=by
 have hpe:tk b (En A hd r r c)≠0:=by rw[<-h.en r c hrn lV];exact hp
 have hpi:En A hd r r c≠0:=λz=>hpe (by rw[z];exact tk0 b);have hen:∀i k,i<n->k<W->co (ln L' i) k=tk b (En A (more hd r c) (r+1) i k):=λi k hi hk=>by
  by_cases c1:i=r
  .rw[c1,e1,W3];exact h.en r k hrn hk
  .obtain⟨_,q⟩:=e2 i hi c1;obtain⟨q1,q2⟩:=q k hk;have s:=CZ hpi c1 k;have e3:tk b (dt A hd r*co (ln L' i) k)=tk b (dt A hd r*En A (more hd r c) (r+1) i k):=by
    rw[s,<-jH,<-h.la,q2,h.en r c hrn lV,h.en i k hi hk,h.en i c hi lV,h.en r k hrn hk];have t1:tk b (tk b (En A hd r r c)*tk b (En A hd r i k))=tk b (En A hd r r c*En A hd r i k):=by rw[jH,dI]
    have t2:tk b (-1*(tk b (En A hd r i c)*tk b (En A hd r r k)))=tk b (-1*(En A hd r i c*En A hd r r k)):=by rw[<-dI,jH,dI b (En A hd r i c),dI]
    have:=jy t1 t2;rw[show tk b (En A hd r r c)*tk b (En A hd r i k)-tk b (En A hd r i c)*tk b (En A hd r r k)=tk b (En A hd r r c)*tk b (En A hd r i k) + -1*(tk b (En A hd r i c)*tk b (En A hd r r k))by omega,this];congr 1;omega
   have e4:tk b (dt A hd r*(co (ln L' i) k-En A (more hd r c) (r+1) i k))=0:=by
    rw[iH];exact lX.mpr e3
   have e5:=lX.mp (hD _ _ h.nz e4);rw[q1];exact e5
 refine⟨h.sw,hl,λi hi=>?_,hen,?_,?_,⋯,λk hk=>?_,λk k' h1 h2=>?_,λk hk hn i h1 h2=>?_,λhcn=>?_,h.su,λj hj k hk hn=>?_⟩
 .by_cases c1:i=r
  .rw[c1,e1];exact h.wd r hrn
  .exact(e2 i hi c1).1
 .rw[Pg];exact h.en r c hrn lV
 .rw[Pg];exact hpe
 .unfold more;split
  .omega
  .have:=h.hc k ⋯;omega
 .unfold more;rw[if_neg ⋯];split
  .exact h.hc k ⋯
  .exact h.up k k' h1 ⋯
 ·-- columns without a head stay nought
  by_cases e:k=c
  .exact absurd (show more hd r c r=k by unfold more;rw[if_pos rfl,e]) (hn r ⋯)
  .have hn':∀h',h'<r->hd h'≠k:=λh' hh=>by
    have:=hn h' ⋯;unfold more at this
    rwa [if_neg ⋯]at this
   have z1:=h.zero k ⋯ hn' i ⋯ h2;have z2:=h.zero k ⋯ hn' r (aN _) hrn;have s:=CZ hpi (show i≠r by omega) k;refine hD _ _ h.nz ?_;rw[s];refine lX.mpr ?_;rw[<-dI,z1,aP,<-dI b (En A hd r i c),z2,aP]
 .rcases h.full ⋯ with⟨f1,f2⟩|f
  .refine .inl ⟨⋯,λk hk=>?_⟩;unfold more;split
   .omega
   .exact f2 k ⋯
  .exact .inr f
 ·-- ahead of a line's head there is nothing but heads
  have hn':∀h',h'<r->hd h'≠k:=λh' hh=>by
   have:=hn h' ⋯;unfold more at this
   rwa [if_neg ⋯]at this
  have hkc:k<c:=by
   unfold more at hk;split at hk
   .exact hk
   .have:=h.hc j ⋯;omega
  have z2:=h.zero k hkc hn' r (aN _) hrn;by_cases e:j=r
  .rw[e,W3];exact z2
  .have hk':k<hd j:=by unfold more at hk;rwa [if_neg e]at hk
   have z1:=h.ge j ⋯ k hk' hn';have s:=CZ hpi e k;refine hD _ _ h.nz ?_;rw[s];refine lX.mpr ?_;rw[<-dI,z1,aP,<-dI b (En A hd r j c),z2,aP]
theorem AX{u:Nat}:∀{n:Nat} {f:Nat->Nat->Int},(∀i k,i<n->k<n->Bd u (f i k))->Bd (n*(u+n)+1) (det n f)
 |0,_,_=>by
  show Bd (0*(u+0)+1) 1;rw[OD];exact Bd.of ∅ ∅
 |n+1,f,h=>by
  unfold det;have e:Bd (u+(n*(u+n)+1)+(n+1)) (sm (n+1) λc=>sg (n+c)*f n c*det n λi k=>f i (sk c k)):=yE _ λc hc=>by
   have b1:=h n c ⋯ hc;have b2:=AX (u:=u) (n:=n) (f:=λi k=>f i (sk c k)) λi k hi hk=>h i (sk c k) ⋯ (by unfold sk;split<;>omega);have b3:=b1.mul b2;unfold Bd at b3⊢;rw[bU,jT];have:(sg (n+c)).natAbs=1:=by unfold sg;split<;>rfl
   rw[this,m6];exact b3
  refine e.mono ?_;have:(n+1)*(u+(n+1))=n*(u+n)+n+u+(n+1):=by
   rw[tY,show u+(n+1)=u+n+1 by omega,yC n (u+n) 1];omega
  omega
def dG.Wf{b:Int}{n W u:Nat}{A0:Nat->Nat->Int}{c:Nat}{A:Nat->Nat->Int}{hd:Nat->Nat}{r:Nat}{L:List (List Int)}{last:Int}(h:dG b n W u A0 c A hd r L last)(i k:Nat):Bd ((r+1)*(u+(r+1))+1) (En A hd r i k):=by
 unfold En;split
 .refine(AX (u:=u) λi' k' _ _=>?_).mono ?_
  .unfold cJ Bk;split<;>exact h.su _ _
  .have:r*(u+r)<=(r+1)*(u+(r+1)):=gU ⋯ ⋯;omega
 .exact AX (u:=u) λi' k' _ _=>h.su _ _
end Dm
namespace Dm
open Rm Pm
def yg{b x:Int}(h:tk b x=0):tk b (-x)=0:=by
 have:=dI b (-1) x;rw[h,aP,tk0]at this;rw[show -x=-1*x by omega,<-this]
def Br{b x:Int}(y:Int)(h:tk b x=0):tk b (y*x)=0:=by rw[<-dI,h,aP,tk0]
def amq{b x y:Int}(h:tk b x=0)(h':tk b y=0):tk b (x+y)=0:=by rw[<-jD,h,ig,h']
def ad7{b x y:Int}(h:tk b x=0)(h':tk b y=0):tk b (x-y)=0:=by rw[Nx];exact amq h (yg h')
def aez(f:Nat->Int)(n:Nat):sm n (λk=>-f k)=-sm n f:=by
 have e:(λk=>-f k)=λk=>-1*f k:=funext λk=>⋯;rw[e,dD];omega
def adM(f g:Nat->Int)(n:Nat):sm n (λk=>f k-g k)=sm n f-sm n g:=by
 have e:(λk=>f k-g k)=λk=>f k + -g k:=funext λk=>⋯;rw[e,iM,aez];omega
def ab1{b:Int}{f:Nat->Int}{n:Nat}(h:∀k,k<n->tk b (f k)=0):tk b (sm n f)=0:=by
 have:=iU (b:=b) (f:=f) (g:=λ_=>0) (n:=n) λk hk=>by rw[h k hk,tk0]
 rw[this,v7,tk0]
def Rel(b:Int)(n m:Nat)(A:Nat->Nat->Int)(x:Nat->Int):Prop:=∀i,i<n->tk b (sm m λk=>A i k*x k)=0
def ad6(A:Nat->Nat->Int)(x:Nat->Int)(i m:Nat):sm m (λk=>-A i k*x k)=-sm m λk=>A i k*x k:=by
 rw[<-aez];exact aR λk _=>gM ..
theorem Rel.turn{b:Int}{n m:Nat}{A:Nat->Nat->Int}{x:Nat->Int}{a c:Nat}(hac:a<c)(hc:c<n):Rel b n m A x↔Rel b n m (turn A a c) x:=by
 have ha:a<n:=⋯;constructor
 .intro h i hi;by_cases c1:i=c
  .rw[c1,aR (g:=λk=>-A a k*x k) λk _=>by rw[wR],ad6];exact yg (h a ha)
  .by_cases c2:i=a
   .rw[c2,aR (g:=λk=>A c k*x k) λk _=>by rw[Cq ⋯]];exact h c hc
   .rw[aR (g:=λk=>A i k*x k) λk _=>by rw[vH c2 c1]];exact h i hi
 .intro h i hi;by_cases c1:i=c
  .have:=h a ha;rw[aR (g:=λk=>A c k*x k) λk _=>by rw[Cq ⋯]]at this;rw[c1];exact this
  .by_cases c2:i=a
   .have:=h c hc;rw[aR (g:=λk=>-A a k*x k) λk _=>by rw[wR],ad6]at this;rw[c2];have:=yg this
    rwa [wZ]at this
   .have:=h i hi;rw[aR (g:=λk=>A i k*x k) λk _=>by rw[vH c2 c1]]at this;exact this
def ug.rel{b:Int}{n m:Nat}{A0 A:Nat->Nat->Int}{x:Nat->Int}(h:ug n A0 A):Rel b n m A0 x↔Rel b n m A x:=by
 induction h with
 |refl=>exact Iff.rfl
 |step _ h1 h2 ih=>exact ih.trans (Rel.turn h1 h2)
theorem aas{b:Int}:∀{n:Nat} {f g:Nat->Nat->Int},(∀i k,i<n->k<n->tk b (f i k)=tk b (g i k))->tk b (det n f)=tk b (det n g)
 |0,_,_,_=>rfl
 |n+1,f,g,h=>by
  unfold det;refine iU λc hc=>?_;have e1:tk b (det n λi k=>f i (sk c k))=tk b (det n λi k=>g i (sk c k)):=aas λi k hi hk=>h i _ ⋯ (by unfold sk;split<;>omega);rw[<-dI,e1,dI,bU,<-dI,<-jH b (f n c),h n c ⋯ hc,jH,dI,bU]
def Rel.en{b:Int}{n m:Nat}{A:Nat->Nat->Int}{x:Nat->Int}(hx:Rel b n m A x)(hd:Nat->Nat){r:Nat}(hr:r<=n):Rel b n m (En A hd r) x:=by
 have low:∀i,i<r->tk b (sm m λk=>cr A hd r i k*x k)=0:=λi hi=>by
  have e:=Dl (n:=r) (Bk A hd) hi x (λk i'=>A i' k) m;have e2:sm m (λk=>cr A hd r i k*x k)=sm m λk=>x k*det r (cJ (Bk A hd) i λi'=>A i' k):=aR λk _=>cA ..;rw[e2,<-e,aas (g:=cJ (Bk A hd) i λ_=>0) (λi' k' hi' _=>?_),C9 _ hi,tk0];unfold cJ;split
  .have:=hx i' ⋯;rw[tk0,<-this];exact congrArg (tk b) (aR λk _=>cA ..)
  .rfl
 intro i hi;by_cases c:i<r
 .rw[aR (g:=λk=>cr A hd r i k*x k) λk _=>by unfold En;rw[if_pos c]];exact low i c
 .have e:sm m (λk=>En A hd r i k*x k)=dt A hd r*sm m (λk=>A i k*x k)-sm r λh=>A i (hd h)*sm m λk=>cr A hd r h k*x k:=by
   rw[<-dD];have e2:sm r (λh=>A i (hd h)*sm m λk=>cr A hd r h k*x k)=sm m λk=>sm r λh=>A i (hd h)*(cr A hd r h k*x k):=by
    rw[Bl];exact aR λh _=>(dD ..).symm
   rw[e2,<-adM];refine aR λk _=>?_;unfold En;rw[if_neg c,tV,wC];congr 1
   .rw[cA (A i k),bU]
   .rw[cA,<-dD];exact aR λh _=>by rw[cA,bU]
  rw[e];exact ad7 (Br _ (hx i hi)) (ab1 λh hh=>Br _ (low h hh))
def tW(b:Int)(n m:Nat)(A:Nat->Nat->Int):Prop:=∀x,Rel b n m A x->∀k,k<m->tk b (x k)=0
def MV{A:Nat->Nat->Int}{hd:Nat->Nat}{r m k:Nat}{b:Int}{n:Nat}(hm:∀h,h<r->hd h<m)(hk:k<m)(hz:∀i,r<=i->i<n->tk b (En A hd r i k)=0):
  Rel b n m A λj=>sm r (λh=>if j=hd h then En A hd r h k else 0)-if j=k then dt A hd r else 0:=λi hi=>by
 have e:sm m (λj=>A i j*(sm r (λh=>if j=hd h then En A hd r h k else 0)-if j=k then dt A hd r else 0))=sm r (λh=>A i (hd h)*En A hd r h k)-A i k*dt A hd r:=by
  rw[aR (g:=λj=>sm r (λh=>if j=hd h then A i (hd h)*En A hd r h k else 0)-if j=k then A i k*dt A hd r else 0) λj _=>?_,adM,mC,if_pos hk,Bl]
  .congr 1;exact aR λh hh=>by rw[mC,if_pos (hm h hh)]
  .rw[iH,<-dD];congr 1
   .refine aR λh _=>?_;by_cases c:j=hd h
    .rw[if_pos c,if_pos c,c]
    .rw[if_neg c,if_neg c,aP]
   .by_cases c:j=k
    .rw[if_pos c,if_pos c,c]
    .rw[if_neg c,if_neg c,aP]
 rw[e];have q:=V3 A hd r i k;by_cases c:i<r
 .rw[if_pos c,dj]at q;rw[q,Zu,tk0]
 .rw[if_neg c]at q;rw[q,show sm r (λh=>A i (hd h)*En A hd r h k)-(sm r (λh=>A i (hd h)*En A hd r h k)+En A hd r i k)=-En A hd r i k by omega];exact yg (hz i ⋯ hi)
def dG.auS{b:Int}{n W u m:Nat}{A0 A:Nat->Nat->Int}{hd:Nat->Nat}{r:Nat}{L:List (List Int)}{last:Int}(h:dG b n W u A0 m A hd r L last):∀j,j<r->j<=hd j:=λj=>by
 induction j with
 |zero=>intro _;exact cB _
 |succ j ih=>
  intro hj;have:=ih ⋯;have:=h.up j (j+1) ⋯ hj;omega
def dG.axP{b:Int}{n W u m:Nat}{A0 A:Nat->Nat->Int}{hd:Nat->Nat}{r:Nat}{L:List (List Int)}{last:Int}(h:dG b n W u A0 m A hd r L last)(Uj:∀k,k<m->∃j,j<r/\hd j=k):r=m/\∀k,k<m->hd k=k:=by
 have ge:=h.auS;have all:∀k,k<m->k<r/\hd k=k:=λk=>by
  induction k using rQ with
  |ind k ih=>
   intro hk;obtain⟨j,hj,e⟩:=Uj k hk;have g:=ge j hj;by_cases c:j=k
   .rw[<-c];exact⟨hj,by rw[e,c]⟩
   .have:=(ih j ⋯ ⋯).2;omega
 refine⟨?_,λk hk=>(all k hk).2⟩;by_cases c:r<=m
 .by_cases c2:r=m
  .exact c2
  .have:=(all r ⋯).1;omega
 .have:=h.hc m ⋯;have:=ge m ⋯;omega
def dG.ajJ{b:Int}{n W u m:Nat}{A0 A:Nat->Nat->Int}{hd:Nat->Nat}{r:Nat}{L:List (List Int)}{last:Int}(h:dG b n W u A0 m A hd r L last)(hI:tW b n m A0):r=m/\∀k,k<m->hd k=k:=by
 refine h.axP λk hk=>?_;by_cases c:∃j,j<r/\hd j=k
 .exact c
 .exfalso
  have hn:∀j,j<r->hd j≠k:=λj hj e=>c ⟨j,hj,e⟩;have R:=MV (A:=A) (hd:=hd) (r:=r) (m:=m) (k:=k) (b:=b) (n:=n) h.hc hk (h.zero k hk hn);have z:=hI _ (h.sw.rel.mpr R) k hk;rw[if_pos rfl,jh (λj hj=>by rw[if_neg (λe=>hn j hj e.symm)]),mR]at z;have:=yg z;rw[wZ]at this;exact h.nz this
def gW(b:Int)(n m:Nat)(A:Nat->Nat->Int)(x:Nat->Int)(bot:Int):Prop:=∀i,i<n->tk b (sm m λk=>A i k*x k)=tk b (bot*A i m)
def gW.rel{b:Int}{n m:Nat}{A:Nat->Nat->Int}{x:Nat->Int}{bot:Int}:gW b n m A x bot↔Rel b n (m+1) A λk=>if k=m then -bot else x k:=by
 have e:∀i,sm (m+1) (λk=>A i k*if k=m then -bot else x k)=sm m (λk=>A i k*x k)-bot*A i m:=λi=>by
  rw[sm,if_pos rfl,aR (g:=λk=>A i k*x k) λk hk=>by rw[if_neg ⋯],qp,cA bot];omega
 constructor
 .intro h i hi;show tk b (sm (m+1) λk=>A i k*if k=m then -bot else x k)=0;rw[e];exact lX.mpr (h i hi)
 .intro h i hi;have q:tk b (sm (m+1) λk=>A i k*if k=m then -bot else x k)=0:=h i hi;rw[e]at q;exact lX.mp q
def dG.sums{b:Int}{n W u m:Nat}{A0 A:Nat->Nat->Int}{hd:Nat->Nat}{r:Nat}{L:List (List Int)}{last:Int}(h:dG b n W u A0 m A hd r L last){x:Nat->Int}{bot:Int}(hx:gW b n m A0 x bot):gW b n m (En A hd r) x bot:=
 gW.rel.mpr ((h.sw.rel.mp (gW.rel.mp hx)).en hd h.rn)
def dG.asG{b:Int}{n W u m:Nat}{A0 A:Nat->Nat->Int}{hd:Nat->Nat}{r:Nat}{L:List (List Int)}{last:Int}(h:dG b n W u A0 m A hd r L last){x:Nat->Int}{bot:Int}(hD:Dom b)(hb:tk b bot≠0)(hx:gW b n m A0 x bot):
  ∀i,r<=i->i<n->tk b (En A hd r i m)=0:=λi h1 h2=>by
 have q:=h.sums hx i h2;refine hD bot _ hb ?_;rw[<-q];refine ab1 λk hk=>?_;rw[cA];refine Br _ ?_;by_cases c:∃j,j<r/\hd j=k
 .obtain⟨j,hj,e⟩:=c;rw[<-e,ax2 hj,if_neg ⋯,tk0]
 .exact h.zero k hk (λj hj e=>c ⟨j,hj,e⟩) i h1 h2
def pL(b:Int)(L:List (List Int))(ws:List Int):List (List Int):=(eX L.length).map λi=>(ln L i++[co ws i]).map (tk b)
def xR(b:Int)(L:List (List Int))(ws:List Int):(pL b L ws).length=L.length:=by rw[pL,aB,mK]
def Cj{b:Int}{L:List (List Int)}{ws:List Int}{i:Nat}(hi:i<L.length):ln (pL b L ws) i=(ln L i++[co ws i]).map (tk b):=by
 show(pL b L ws).getD i []=_;rw[pL,List.getD_eq_getElem?_getD,List.getElem?_map,List.getElem?_range hi];rfl
def aug(b:Int)(L:List (List Int))(ws:List Int):Nat->Nat->Int:=λi k=>co (ln (pL b L ws) i) k
def aiz{b:Int}{L:List (List Int)}{ws:List Int}{i k m:Nat}(hi:i<L.length)(hm:(ln L i).length=m)(hk:k<m):aug b L ws i k=tk b (co (ln L i) k):=by
 unfold aug;rw[Cj hi,lN (tk0 b),pB,if_pos ⋯]
def alF{b:Int}{L:List (List Int)}{ws:List Int}{i m:Nat}(hi:i<L.length)(hm:(ln L i).length=m):aug b L ws i m=tk b (co ws i):=by
 unfold aug;rw[Cj hi,lN (tk0 b),pB,if_neg ⋯,hm,rT,fQ]
def ajT{b:Int}{L:List (List Int)}{ws:List Int}(i k:Nat):tk b (aug b L ws i k)=aug b L ws i k:=by
 unfold aug;by_cases hi:i<L.length
 .rw[Cj hi,lN (tk0 b),gJ]
 .have e:ln (pL b L ws) i=[]:=by
   unfold ln;rw[List.getD_eq_getElem?_getD,List.getElem?_eq_none (by rw[xR];omega)];rfl
  rw[e,fR,tk0]
def pF(E:Nat->Int)(hd:Nat->Nat)(wide i:Nat):List Int:=aM wide λk=>sm i λh=>if k=hd h then E h else 0
def Ad(E:Nat->Int)(hd:Nat->Nat)(wide i:Nat):(pF E hd wide i).length=wide:=cj ..
def apf(E:Nat->Int)(hd:Nat->Nat)(wide:Nat):pF E hd wide 0=aM wide λ_=>0:=rfl
def ap9{E:Nat->Int}{hd:Nat->Nat}{wide i:Nat}(hi:hd i<wide)(hu:∀h,h<i->hd h≠hd i):(pF E hd wide i).set (hd i) (E i)=pF E hd wide (i+1):=by
 refine vq (by rw[nF,Ad,Ad]) λk=>?_;rw[xH _ _ _ _ (by rw[Ad];exact hi),pF,pF,cY,cY];by_cases hk:k<wide
 .rw[if_pos hk,if_pos hk,sm];by_cases c:k=hd i
  .rw[if_pos c,if_pos c,c,jh λh hh=>if_neg λe=>hu h hh e.symm,ig]
  .rw[if_neg c,if_neg c,dj]
 .rw[if_neg hk,if_neg hk,if_neg ⋯]
end Dm
namespace Pm
open Rm
def Fs(f:Nat->Int)(n:Nat):Prop:=∀k,n<=k->f k=0
theorem Fs.co(p:List Int):Fs (co p) p.length:=λ_ h=>aX h
def Fs.mono{f:Nat->Int}{m n:Nat}(h:Fs f m)(hmn:m<=n):Fs f n:=λk hk=>h k ⋯
def Fs.add{f g:Nat->Int}{n:Nat}(h:Fs f n)(h':Fs g n):Fs (λk=>f k+g k) n:=λk hk=>by show f k+g k=0;rw[h k hk,h' k hk];rfl
def Fs.mul{f:Nat->Int}{n:Nat}(c:Int)(h:Fs f n):Fs (λk=>c*f k) n:=λk hk=>by show c*f k=0;rw[h k hk,aP]
theorem Fs.cv{f g:Nat->Int}{m n:Nat}(h:Fs f m)(h':Fs g n):Fs (Pm.cv f g) (m+n):=λk hk=>j5 λi _=>by
 by_cases c:m<=i
 .exact .inl (h i c)
 .exact .inr (h' _ ⋯)
def Fl{b x:Int}(y:Int)(h:tk b x=0):tk b (y*x)=0:=by rw[<-dI,h,aP,tk0]
def Jo{b:Int}{m:List Int}(hm:Mon m){f:Nat->Int}{n:Nat}(hf:Fs f n)(h:∀k,m.length-1<=k->tk b (cv f (co m) k)=0):∀k,tk b (f k)=0:=by
 have q:∀d j,n<=j+d->tk b (f j)=0:=λd=>by
  induction d with
  |zero=>intro j hj;rw[hf j hj,tk0]
  |succ d ih=>
   intro j hj;have e:=h (j+(m.length-1)) ⋯;rw[fV]at e;have e2:tk b (sm (j+(m.length-1)+1) λi=>f i*co m (j+(m.length-1)-i))=tk b (sm (j+(m.length-1)+1) λi=>if i=j then f j else 0):=iU λi hi=>by
    by_cases c:i=j
    .rw[if_pos c,c,Bx,hm.one,jr]
    .rw[if_neg c,tk0];by_cases d2:i<j
     .rw[aX (by have:=hm.pos;omega),aP,tk0]
     .rw[cA];exact Fl _ (ih i ⋯)
   rw[e2,mC,if_pos ⋯]at e;exact e
 exactλk=>q n k ⋯
def Dv(b:Int)(m:List Int)(f:Nat->Int):Prop:=∃s n,Fs s n/\∀k,tk b (f k)=tk b (cv s (co m) k)
def Dv.congr{b:Int}{m:List Int}{f g:Nat->Int}(e:∀k,tk b (f k)=tk b (g k))(h:Dv b m f):Dv b m g:=by
 obtain⟨s,n,hs,h⟩:=h;exact⟨s,n,hs,λk=>by rw[<-e,h]⟩
def Dv.zero(b:Int)(m:List Int):Dv b m λ_=>0:=⟨λ_=>0,0,λ_ _=>rfl,λk=>by rw[j5 λi _=> .inl rfl]⟩
theorem Dv.add{b:Int}{m:List Int}{f g:Nat->Int}(h:Dv b m f)(h':Dv b m g):Dv b m λk=>f k+g k:=by
 obtain⟨s,n,hs,h⟩:=h;obtain⟨s',n',hs',h'⟩:=h';exact⟨λk=>s k+s' k,n+n',(hs.mono ⋯).add (hs'.mono ⋯),λk=>by rw[mH];exact jy (h k) (h' k)⟩
def Dv.smul{b:Int}{m:List Int}{f:Nat->Int}(c:Int)(h:Dv b m f):Dv b m λk=>c*f k:=by
 obtain⟨s,n,hs,h⟩:=h;exact⟨λk=>c*s k,n,hs.mul c,λk=>by rw[mW,<-dI,h,dI]⟩
def Dv.sub{b:Int}{m:List Int}{f g:Nat->Int}(h:Dv b m f)(h':Dv b m g):Dv b m λk=>f k-g k:=
 (h.add (h'.smul (-1))).congr λk=>by rw[show f k + -1*g k=f k-g k by omega]
def Dv.mul{b:Int}{m:List Int}{f g:Nat->Int}{n:Nat}(hg:Fs g n)(h:Dv b m f):Dv b m (cv g f):=by
 obtain⟨s,n',hs,h⟩:=h;exact⟨cv g s,n+n',hg.cv hs,λk=>by rw[gO];exact iI (λi _=>rfl) λi _=>h i⟩
def Dv.self{b:Int}{m:List Int}{g:Nat->Int}{n:Nat}(hg:Fs g n):Dv b m (cv g (co m)):=⟨g,n,hg,λ_=>rfl⟩
def Dv.short{b:Int}{m:List Int}(hm:Mon m){f:Nat->Int}(hf:Fs f (m.length-1))(h:Dv b m f):∀k,tk b (f k)=0:=by
 obtain⟨s,n,hs,h⟩:=h;have z:=Jo (b:=b) hm hs λk hk=>by rw[<-h,hf k hk,tk0]
 intro k;rw[h,<-tk0 b,<-j5 (f:=λ_=>(0:Int)) (g:=co m) (k:=k) λi _=> .inl rfl];exact iI (λi _=>by rw[z,tk0]) λi _=>rfl
def tp(P:List Int)(a:Nat->Int)(k:Nat):Int:=sm (P.length-1-k) λi=>co P (k+1+i)*a i
def AW(P:List Int)(a:Nat->Int):Fs (tp P a) (P.length-1):=λk hk=>by unfold tp;rw[show P.length-1-k=0 by omega];rfl
def agJ{b:Int}{P:List Int}{a a':Nat->Int}(h:∀n,tk b (a n)=tk b (a' n))(k:Nat):tk b (tp P a k)=tk b (tp P a' k):=iU λi _=>by rw[<-dI,h,dI]
def apD(P:List Int)(c:Int)(a a':Nat->Int)(k:Nat):tp P (λn=>c*a n+a' n) k=c*tp P a k+tp P a' k:=by
 unfold tp;rw[<-dD,<-iM];refine aR λi _=>?_;rw[f9,fj]
def anA{b:Int}{P:List Int}(hP:0<P.length){a:Nat->Int}(h0:tk b (ks P a 0)=0)(k:Nat):tk b (if k=0 then 0 else tp P a (k-1))=tk b (tp P (λn=>a (n+1)) k+a 0*co P k):=by
 by_cases c:k=0
 .rw[if_pos c,c,tk0,<-h0];refine congrArg (tk b) ?_;unfold ks tp;obtain⟨N,hN⟩:∃N,P.length=N+1:=⟨P.length-1,⋯⟩;rw[hN,oU,fU,vf,n6,cA (co P 0)];congr 1;exact aR λi _=>by rw[J6,J6,YJ 1 i]
 .rw[if_neg c];by_cases d:k<P.length
  .refine congrArg (tk b) ?_;unfold tp;rw[show P.length-1-(k-1)=(P.length-1-k)+1 by omega,oU,n6];congr 1
   .exact aR λi _=>by rw[show k-1+1+(i+1)=k+1+i by omega]
   .rw[show k-1+1+0=k by omega,cA]
  .rw[AW P a (k-1) ⋯,AW P _ k ⋯,aX ⋯,aP];rfl
def aaF(x:Int)(q:List Int)(f:Nat->Int)(k:Nat):cv (co (x::q)) f k=x*f k+(if k=0 then 0 else cv (co q) f (k-1)):=by
 cases k with
 |zero=>rw[cv,fQ,if_pos rfl,dj]
 |succ k=>
  rw[cv,fQ,if_neg ⋯,fU];congr 1
def avF(q f:Nat->Int)(k:Nat):(if k=0 then 0 else cv q f (k-1))=cv q (λi=>if i=0 then 0 else f (i-1)) k:=by
 cases k with
 |zero=>rw[if_pos rfl,cv,if_pos rfl,aP]
 |succ k=>rw[if_neg ⋯,fU,RZ,if_pos rfl,aP,dj];rfl
def awr(x:Int)(q:List Int)(a:Nat->Int)(n:Nat):ks (x::q) a n=x*a n+ks q (λn=>a (n+1)) n:=by
 unfold ks;rw[iK,oU,fQ,Ug];congr 1
theorem Pz{b:Int}{P:List Int}(hP:0<P.length):∀(q:List Int) {a:Nat->Int},Kp b P a->Dv b P λk=>cv (co q) (tp P a) k-tp P (ks q a) k
 |[],a,_=>(Dv.zero b P).congr λk=>by
  rw[j5 λi _=> .inl (fR i)];have:tp P (ks [] a) k=0:=jh λi _=>by show co P (k+1+i)*0=0;exact aP _
  rw[this];rfl
 |x::q,a,h=>by
  have h1:Kp b P λn=>a (n+1):=λn=>by
   have e:ks P (λn=>a (n+1)) n=ks P a (n+1):=aR λk _=>by show _*a (n+k+1)=_*a (n+1+k);rw[show n+k+1=n+1+k by omega]
   rw[e];exact h (n+1)
  have ih:=Pz hP q h1;have d:=Dv.self (b:=b) (m:=P) ((Fs.co q).mul (a 0));refine(ih.add d).congr λk=>?_;have e1:tk b (if k=0 then 0 else cv (co q) (tp P a) (k-1))=tk b (cv (co q) (tp P λn=>a (n+1)) k+a 0*cv (co q) (co P) k):=by
   rw[avF,<-mW,iI (λi _=>rfl) λi _=>anA hP (h 0) i,Sq];congr 2;rw[ju,mW,mW,ju]
  have e2:tp P (ks (x::q) a) k=x*tp P a k+tp P (ks q λn=>a (n+1)) k:=by
   rw[<-apD];unfold tp;exact aR λi _=>by rw[awr]
  rw[aaF,e2,mW];have e3:=jy e1 (rfl:tk b (-(tp P (ks q λn=>a (n+1)) k))=_);rw[show x*tp P a k+(if k=0 then 0 else cv (co q) (tp P a) (k-1))-(x*tp P a k+tp P (ks q λn=>a (n+1)) k)=(if k=0 then 0 else cv (co q) (tp P a) (k-1)) + -(tp P (ks q λn=>a (n+1)) k)by omega,e3];refine congrArg (tk b) ?_;omega
def Z4{b:Int}{P:List Int}(hm:Mon P){e:Nat->Int}(h:∀k,tk b (tp P e k)=0):∀n,n<P.length-1->tk b (e n)=0:=λn=>by
 induction n using rQ with
 |ind n ih=>
  intro hn;have q:=h (P.length-1-1-n);unfold tp at q;rw[show P.length-1-(P.length-1-1-n)=n+1 by omega,sm]at q;have z:tk b (sm n λi=>co P (P.length-1-1-n+1+i)*e i)=0:=by
   have:=iU (b:=b) (n:=n) (f:=λi=>co P (P.length-1-1-n+1+i)*e i) (g:=λ_=>0) λi hi=>by rw[tk0];exact Fl _ (ih i hi ⋯)
   rw[this,v7,tk0]
  rw[<-jD,z,ig,show P.length-1-1-n+1+n=P.length-1 by omega,hm.one,iG]at q;exact q
def aqc{b:Int}{rule:List Int}{a:Nat->Int}(ha:∀n,rule.length<=n->tk b (a n)=tk b (S rule a n rule.length))(q:List Int):
  Kp b q a↔Dv b (aV b rule) (cv (co q) (tp (aV b rule) a)):=by
 have hm:=Bv b rule;have hK:Kp b (aV b rule) a:=Kp.aV ha;have A:=Pz hm.pos q hK;constructor
 .intro h;have z:Dv b (aV b rule) (tp (aV b rule) (ks q a)):=(Dv.zero b _).congr λk=>by
   have:=agJ (b:=b) (P:=aV b rule) (a:=ks q a) (a':=λ_=>0) (λn=>by rw[h n,tk0]) k;rw[this];exact(congrArg (tk b) (show tp (aV b rule) (λ_=>0) k=0 from jh λi _=>aP _)).symm
  exact(A.add z).congr λk=>by rw[Zb]
 .intro h;have z:Dv b (aV b rule) (tp (aV b rule) (ks q a)):=(h.sub A).congr λk=>by
   rw[show cv (co q) (tp (aV b rule) a) k-(cv (co q) (tp (aV b rule) a) k-tp (aV b rule) (ks q a) k)=tp (aV b rule) (ks q a) k by omega]
  have n0:=Z4 hm (z.short hm (AW _ _));rw[lE,fU]at n0;exact Um ha n0
structure K9(b:Int)(p:List Int)(t:Nat->Int)(g:List Int):Prop where
 mon:Mon g
 one:Dv b g (co p)
 two:Dv b g t
 sum:∃(N:Int) (u v:Nat->Int) (n:Nat),tk b N≠0/\Fs u n/\Fs v n/\∀k,tk b (N*co g k)=tk b (cv u (co p) k+cv v t k)
def ZV{b:Int}{m:List Int}(hm:Mon m){p:List Int}(hp:∀k,tk b (co p k)=co p k):∃q r,Div b p m q r:=by
 have go:∀d,d<=p.length-(m.length-1)->∃o l,qu b p m (p.length-(m.length-1)-d) o l:=λd=>by
  induction d with
  |zero=>intro _;exact⟨_,_,qu.start hp⟩
  |succ d ih=>
   intro hd;obtain⟨o,l,I⟩:=ih ⋯;obtain⟨s,hs⟩:∃s,p.length-(m.length-1)-d=s+1:=⟨p.length-(m.length-1)-d-1,⋯⟩;rw[hs]at I;refine⟨o.set s (co l (s+(m.length-1))),aM l.length λk=>lf b (co l (s+(m.length-1))) s m.length l m k,?_⟩;rw[show p.length-(m.length-1)-(d+1)=s by omega];refine I.step hm ⋯ (cj ..) λk=>?_;rw[cY];by_cases c:k<l.length
   .rw[if_pos c]
   .rw[if_neg c];have hl:=I.ll;have hmp:=hm.pos;unfold lf;rw[if_neg ⋯,aX ⋯]
 obtain⟨o,l,I⟩:=go _ (aN _);rw[rT]at I;exact⟨_,_,I.stop hm⟩
def akB{b:Int}(hD:∀x y,tk b x≠0->tk b (x*y)=0->tk b y=0){L:List Int}(hL:Mon L){N:Int}(hN:tk b N≠0){f:Nat->Int}{n:Nat}(hf:Fs f n)(h:Dv b L λk=>N*f k):Dv b L f:=by
 obtain⟨o,r,D⟩:=ZV (b:=b) hL (p:=aM n λk=>tk b (f k)) λk=>by
  rw[cY];split
  .exact gJ ..
  .exact tk0 b
 have ef:∀k,tk b (co (aM n λk=>tk b (f k)) k)=tk b (f k):=λk=>by
  rw[cY];by_cases c:k<n
  .rw[if_pos c,gJ]
  .rw[if_neg c,hf k ⋯]
 have e:∀k,tk b (f k)=tk b (cv (co o) (co L) k+co r k):=λk=>by rw[D.eq,ef]
 have z:Dv b L λk=>N*co r k:=(h.sub ((Dv.self (b:=b) (m:=L) (Fs.co o)).smul N)).congr λk=>by
  rw[show N*f k-N*cv (co o) (co L) k=N*(f k-cv (co o) (co L) k)by rw[iH],<-dI,<-dI b N (co r k)];congr 2;have:=e k;have q:=jy this (rfl:tk b (-cv (co o) (co L) k)=_);rw[show f k-cv (co o) (co L) k=f k + -cv (co o) (co L) k by omega,q];exact congrArg (tk b) ⋯
 have hr:Fs (λk=>N*co r k) (L.length-1):=((Fs.co r).mono (by have:=D.short;omega)).mul N;have z0:=z.short hL hr;refine⟨co o,o.length,Fs.co o,λk=>?_⟩;rw[e,<-wO,hD N _ hN (z0 k),dj]
def K9.keeps{b:Int}(hD:∀x y,tk b x≠0->tk b (x*y)=0->tk b y=0){rule:List Int}{a:Nat->Int}(ha:∀n,rule.length<=n->tk b (a n)=tk b (S rule a n rule.length)){g L:List Int}(h:K9 b (aV b rule) (tp (aV b rule) a) g)(hL:Mon L)
  (hP:∀k,tk b (co (aV b rule) k)=tk b (cv (co L) (co g) k)) (q:List Int):Kp b q a↔Dv b L (co q):=by
 rw[aqc ha q];generalize aV b rule=P at h hP;obtain⟨t,nt,ht,hT⟩:=h.two;obtain⟨N,u,v,n,hN,hu,hv,hs⟩:=h.sum;generalize tp P a=T at h hT hs;have bez:∀k,tk b ((if k=0 then N else 0)-(cv u (co L) k+cv v t k))=0:=by
  refine Jo (b:=b) h.mon (n:=1+(n+L.length)+(n+nt)) (λk hk=>?_) λk _=>?_
  .show(if k=0 then N else 0)-(cv u (co L) k+cv v t k)=0;rw[if_neg ⋯,hu.cv (Fs.co L) k ⋯,hv.cv ht k ⋯];rfl
  .have e:cv (λk=>(if k=0 then N else 0)-(cv u (co L) k+cv v t k)) (co g) k=N*co g k + -1*(cv u (cv (co L) (co g)) k+cv v (cv t (co g)) k):=by
    rw[<-gO,<-gO,<-mH,<-mW];have e2:N*co g k=cv (λk=>if k=0 then N else 0) (co g) k:=by rw[D6,if_pos (cB _),vf]
    rw[e2,<-mH];refine pN (λi _=>?_) λi _=>rfl;omega
   rw[e,<-jD,hs,jD];have e3:tk b (cv u (co P) k+cv v T k)=tk b (cv u (cv (co L) (co g)) k+cv v (cv t (co g)) k):=jy (iI (λi _=>rfl) λi _=>hP i) (iI (λi _=>rfl) λi _=>hT i);have e4:=jy e3 (rfl:tk b (-1*(cv u (cv (co L) (co g)) k+cv v (cv t (co g)) k))=_);rw[e4,show ∀x:Int,x + -1*x=0 fromλx=>⋯,tk0]
 constructor
 .rintro⟨s,ns,hs',e⟩;have qt:∀k,tk b (cv (co q) t k-cv s (co L) k)=0:=by
   refine Jo (b:=b) h.mon (n:=(q.length+nt)+(ns+L.length)) (λk hk=>?_) λk _=>?_
   .show cv (co q) t k-cv s (co L) k=0;rw[(Fs.co q).cv ht k ⋯,hs'.cv (Fs.co L) k ⋯];rfl
   .have e1:cv (λk=>cv (co q) t k-cv s (co L) k) (co g) k=cv (co q) (cv t (co g)) k + -1*cv s (cv (co L) (co g)) k:=by
     rw[<-gO,<-gO,<-mW,<-mH];exact pN (λi _=>⋯) λi _=>rfl
    have e2:tk b (cv (co q) (cv t (co g)) k)=tk b (cv s (cv (co L) (co g)) k):=by
     rw[<-iI (λi _=>rfl) (λi _=>hT i),e,iI (λi _=>rfl) λi _=>hP i]
    have e3:=jy e2 (rfl:tk b (-1*cv s (cv (co L) (co g)) k)=_);rw[e1,e3,show ∀x:Int,x + -1*x=0 fromλx=>⋯,tk0]
  refine akB hD hL hN (Fs.co q) ?_;refine⟨λk=>cv (co q) u k+cv v s k,(q.length+n)+(n+ns),((((Fs.co q).cv hu)).mono ⋯).add ((hv.cv hs').mono ⋯),λk=>?_⟩;have e1:tk b (N*co q k)=tk b (cv (λk=>cv u (co L) k+cv v t k) (co q) k):=by
   have e2:N*co q k=cv (λk=>if k=0 then N else 0) (co q) k:=by rw[D6,if_pos (cB _),vf]
   rw[e2];exact iI (λi _=>lX.mp (bez i)) λi _=>rfl
  rw[e1,mH,mH];refine jy ?_ ?_
  .exact congrArg (tk b) ((ju ..).trans (gO ..).symm)
  .rw[gO,gO];refine iI (λi _=>rfl) λi _=>?_;rw[ju];exact lX.mp (qt i)
 .rintro⟨s,ns,hs',e⟩;refine⟨cv s t,ns+nt,hs'.cv ht,λk=>?_⟩;rw[iI (λi _=>e i) (λi _=>hT i),iI (f:=cv s t) (λi _=>rfl) (λi _=>hP i)];refine congrArg (tk b) ?_;rw[gO,gO];refine pN (λi _=>rfl) λi _=>?_;rw[<-gO,<-gO];exact pN (λj _=>ju ..) λj _=>rfl
end Pm
namespace Om
def cF(p:Nat):Prop:=2<=p/\∀d,d∣p->d=1∨d=p
def cF.cop{p x:Nat}(h:cF p)(hx:¬p∣x):Nat.Coprime p x:=by
 rcases h.2 _ (Ro p x)with e|e
 .exact e
 .exact absurd (e▸RQ p x) hx
def cF.dvd{p x y:Nat}(h:cF p)(hd:p∣x*y):p∣x∨p∣y:=by
 by_cases c:p∣x
 .exact .inl c
 .exact .inr ((h.cop c).dvd_of_dvd_mul_left hd)
def ch:Nat->Nat->Nat
 |_,0=>1
 |0,_+1=>0
 |n+1,k+1=>ch n k+ch n (k+1)
def Bj(n:Nat):ch n 0=1:=by cases n<;>rfl
theorem Az:∀(n k:Nat),n<k->ch n k=0
 |0,k+1,_=>rfl
 |n+1,k+1,h=>by rw[ch,Az n k ⋯,Az n (k+1) ⋯]
theorem Xn:∀n,ch n n=1
 |0=>rfl
 |n+1=>by rw[ch,Xn n,Az n (n+1) ⋯]
theorem KH:∀n k:Nat,(k+1)*ch (n+1) (k+1)=(n+1)*ch n k
 |0,0=>rfl
 |0,k+1=>by
  have e:ch (0+1) (k+1+1)=ch 0 (k+1)+ch 0 (k+1+1):=rfl;rw[e,Az 0 (k+1) ⋯,Az 0 (k+1+1) ⋯];simp
 |n+1,0=>by
  have:=KH n 0;have e:ch (n+1+1) (0+1)=ch (n+1) 0+ch (n+1) (0+1):=rfl;simp only[Bj]at e⊢;rw[e];rw[Bj]at this;omega
 |n+1,k+1=>by
  have h1:=KH n k;have h2:=KH n (k+1);rw[ch,yC];have e1:(k+1+1)*ch (n+1) (k+1)=(n+1)*ch n k+ch (n+1) (k+1):=by rw[tY,h1]
  rw[e1,h2];have e2:ch (n+1) (k+1)=ch n k+ch n (k+1):=rfl;rw[e2,tY (n+1),yC];omega
def cF.dch{p k:Nat}(h:cF p)(h0:0<k)(hk:k<p):p∣ch p k:=by
 obtain⟨n,rfl⟩:∃n,p=n+1:=⟨p-1,by have:=h.1;omega⟩;obtain⟨j,rfl⟩:∃j,k=j+1:=⟨k-1,⋯⟩;have e:=KH n j;rcases h.dvd (x:=j+1) (y:=Om.ch (n+1) (j+1)) (by rw[e];exact abo ..)with d|d
 .exact absurd (pI ⋯ d) ⋯
 .exact d
def sN(f:Nat->Nat):Nat->Nat
 |0=>0
 |n+1=>sN f n+f n
theorem Xm{f g:Nat->Nat}:∀{n:Nat},(∀k,k<n->f k=g k)->sN f n=sN g n
 |0,_=>rfl
 |n+1,h=>by rw[sN,sN,Xm λk hk=>h k ⋯,h n ⋯]
theorem adU(f g:Nat->Nat):∀n,sN (λk=>f k+g k) n=sN f n+sN g n
 |0=>rfl
 |n+1=>by rw[sN,sN,sN,adU f g n];omega
theorem aec(c:Nat)(f:Nat->Nat):∀n,sN (λk=>c*f k) n=c*sN f n
 |0=>rfl
 |n+1=>by rw[sN,sN,aec c f n,yC]
theorem JD(f:Nat->Nat):∀n,sN f (n+1)=f 0+sN (λk=>f (k+1)) n
 |0=>by rw[sN,sN,sN];omega
 |n+1=>by rw[sN,JD f n,sN];omega
theorem aeo{p:Nat}{f:Nat->Nat}:∀{n:Nat},(∀k,k<n->p∣f k)->p∣sN f n
 |0,_=>Nat.dvd_zero _
 |n+1,h=>Nat.dvd_add (aeo λk hk=>h k ⋯) (h n ⋯)
theorem ZG(a:Nat):∀n,(a+1)^n=sN (λk=>ch n k*a^k) (n+1)
 |0=>by simp[sN,ch]
 |n+1=>by
  rw[wH,ZG a n,JD (λk=>ch (n+1) k*a^k) (n+1)];have e1:sN (λk=>ch (n+1) (k+1)*a^(k+1)) (n+1)=sN (λk=>a*(ch n k*a^k)) (n+1)+sN (λk=>ch n (k+1)*a^(k+1)) (n+1):=by
   rw[<-adU];refine Xm λk _=>?_;rw[ch,yI,wH];congr 1;rw[pU a,Il]
  have e2:sN (λk=>ch n k*a^k) (n+1)=1+sN (λk=>ch n (k+1)*a^(k+1)) (n+1):=by
   have e3:sN (λk=>ch n k*a^k) (n+1+1)=sN (λk=>ch n k*a^k) (n+1):=by rw[sN,Az n (n+1) ⋯,OD,Ug]
   rw[<-e3,JD];rw[Bj,Fj]
  rw[e1,aec,Bj,Fj,yC,DB,pU];omega
theorem cF.pow{p:Nat}(h:cF p):∀a:Nat,a^p%p=a%p
 |0=>by rw[Nat.zero_pow (by have:=h.1;omega)]
 |a+1=>by
  obtain⟨n,rfl⟩:∃n,p=n+1:=⟨p-1,by have:=h.1;omega⟩;have e:(a+1)^(n+1)=1+sN (λk=>ch (n+1) (k+1)*a^(k+1)) n+a^(n+1):=by
   rw[ZG,sN,JD,Bj,Fj,Xn,m6,m6]
  obtain⟨c,hc⟩:(n+1)∣sN (λk=>ch (n+1) (k+1)*a^(k+1)) n:=aeo λk hk=>Bq (h.dch ⋯ ⋯) (abo ..);rw[e,hc,show 1+(n+1)*c+a^(n+1)=(a^(n+1)+1)+(n+1)*c by omega,VF,Nat.add_mod,cF.pow h a,<-Nat.add_mod]
def cF.arZ{p a:Nat}(h:cF p)(h0:a≠0)(ha:a<p):a^(p-1)%p=1:=by
 have hp:=h.1;have e:=h.pow a;obtain⟨n,rfl⟩:∃n,p=n+1:=⟨p-1,⋯⟩;rw[fU];have one:1<=a^n:=Nat.pow_pos ⋯;have d:(n+1)∣a*(a^n-1):=by
  have e2:a*(a^n-1)=a^(n+1)-a:=by rw[Nat.mul_sub,DB,wH,pU]
  rw[e2];exact aa1 (Nat.sub_mod_eq_zero_of_mod_eq e)
 rcases h.dvd d with d|⟨c,hc⟩
 .exact absurd (pI ⋯ d) ⋯
 .rw[show a^n=1+(n+1)*c by omega,VF];exact Nat.mod_eq_of_lt ⋯
end Om
namespace Pm
open Rm
def Kf(f:Nat->Int)(n:Nat)(a:Nat->Int):Prop:=∀m,sm n (λk=>f k*a (m+k))=0
def Kf.less{f:Nat->Int}{n m:Nat}{a:Nat->Int}(h:Kf f m a)(hf:Fs f n)(hm:n<=m):Kf f n a:=λi=>by
 rw[<-mU (n:=m) hm λk h1 _=>by rw[hf k h1,gh]];exact h i
def Kf.lin{f g:Nat->Int}{n:Nat}{a:Nat->Int}(c d:Int)(h:Kf f n a)(h':Kf g n a):Kf (λk=>c*f k+d*g k) n a:=λi=>by
 have e:sm n (λk=>(c*f k+d*g k)*a (i+k))=c*sm n (λk=>f k*a (i+k))+d*sm n (λk=>g k*a (i+k)):=by
  rw[<-dD,<-dD,<-iM];exact aR λk _=>by rw[rZ,bU,bU]
 rw[e,h i,h' i];simp
def Kf.shift{f:Nat->Int}{n:Nat}{a:Nat->Int}(s:Nat)(h:Kf f n a):Kf (λk=>if s<=k then f (k-s)else 0) (s+n) a:=λi=>by
 have e:∀s,sm (s+n) (λk=>(if s<=k then f (k-s)else 0)*a (i+k))=sm n (λk=>f k*a (i+s+k)):=λs=>by
  induction s generalizing i with
  |zero=>rw[J6];exact aR λk _=>by rw[if_pos (cB _)];rfl
  |succ s ih=>
   rw[show s+1+n=(s+n)+1 by omega,oU,if_neg ⋯,gh,ig];rw[show i+(s+1)=(i+1)+s by omega,<-ih (i+1)];refine aR λk _=>?_;rw[show i+(k+1)=i+1+k by omega];by_cases c:s<=k
   .rw[if_pos c,if_pos ⋯,show k+1-(s+1)=k-s by omega]
   .rw[if_neg c,if_neg ⋯]
 rw[e];exact h _
def Kf.div{f:Nat->Int}{n:Nat}{a:Nat->Int}{c:Int}(hc:c≠0)(h:Kf (λk=>c*f k) n a):Kf f n a:=λi=>by
 have e:=h i;rw[show(λk=>c*f k*a (i+k))=λk=>c*(f k*a (i+k))from funext λk=>bU ..,dD]at e;exact(kZ.mp e).resolve_left hc
def Kf.of{p:List Int}{a:Nat->Int}(h:Kp 0 p a):Kf (co p) p.length a:=λi=>by
 have:=h i;rw[aY]at this;exact this
def axQ:∀n:Nat,2<=n->∃p,Om.cF p/\p∣n:=λn=>by
 induction n using rQ with
 |ind n ih=>
  intro hn;by_cases h:∀d,d∣n->d=1∨d=n
  .exact⟨n,⟨hn,h⟩,aeh n⟩
  .obtain⟨d,hd⟩:=Eh.mp h;obtain⟨hd,hn1⟩:=Ob.mp hd;have h0:d≠0:=λe=>by rw[e]at hd;have:=Nat.eq_zero_of_zero_dvd hd;omega
   have hl:=pI ⋯ hd;have h1:d≠1:=λe=>hn1 (.inl e);have h2:d≠n:=λe=>hn1 (.inr e);obtain⟨p,hp,hq⟩:=ih d ⋯ ⋯;exact⟨p,hp,Bq hq hd⟩
def least_of{Q:Nat->Prop}(h:∃n,Q n):∃n,Q n/\∀m,Q m->n<=m:=by
 obtain⟨n,hn⟩:=h;induction n using rQ with
 |ind n ih=>
  by_cases c:∃m,m<n/\Q m
  .obtain⟨m,h1,h2⟩:=c;exact ih m h1 h2
  .exact⟨n,hn,λm hm=>by
    by_cases d:m<n
    .exact absurd ⟨m,d,hm⟩ c
    .omega⟩
def D8{p:Nat}{x:Int}:(p:Int)∣x↔p∣x.natAbs:=ML
def GP{p:Nat}(hp:Om.cF p){x y:Int}(h:(p:Int)∣x*y):(p:Int)∣x∨(p:Int)∣y:=by
 rw[D8,jT]at h;rcases hp.dvd h with h|h
 .exact .inl (D8.mpr h)
 .exact .inr (D8.mpr h)
theorem agY{d:Int}{f:Nat->Int}:∀{n:Nat},(∀k,k<n->d∣f k)->d∣sm n f
 |0,_=>⟨0,by rw[aP];rfl⟩
 |n+1,h=>sI (agY λk hk=>h k ⋯) (h n ⋯)
def aqD{d:Int}{f:Nat->Int}{n j:Nat}(hj:j<n)(h:d∣sm n f)(ho:∀k,k<n->k≠j->d∣f k):d∣f j:=by
 have e:sm n f=sm n (λk=>if k=j then f j else 0)+sm n (λk=>if k=j then 0 else f k):=by
  rw[<-iM];refine aR λk _=>?_;by_cases c:k=j
  .rw[if_pos c,if_pos c,c,dj]
  .rw[if_neg c,if_neg c,ig]
 rw[mC,if_pos hj]at e;have h2:d∣sm n (λk=>if k=j then 0 else f k):=agY λk hk=>by
  by_cases c:k=j
  .rw[if_pos c];exact⟨0,by rw[aP]⟩
  .rw[if_neg c];exact ho k hk c
 have:f j=sm n f-sm n (λk=>if k=j then 0 else f k):=⋯;rw[this];exact Int.dvd_sub h h2
def alm{p:Nat}(hp:Om.cF p){f g:Nat->Int}(h:∀k,(p:Int)∣cv f g k):(∀k,(p:Int)∣f k)∨∀k,(p:Int)∣g k:=by
 by_cases hf:∀k,(p:Int)∣f k
 .exact .inl hf
 by_cases hg:∀k,(p:Int)∣g k
 .exact .inr hg
 obtain⟨i,hi,hi'⟩:=least_of (Eh.mp hf);obtain⟨j,hj,hj'⟩:=least_of (Eh.mp hg);have e:=h (i+j);rw[fV]at e;have t:=aqD (j:=i) ⋯ e λk hk hne=>by
  by_cases c:k<i
  .have:(p:Int)∣f k:=uW λz=>by have:=hi' k z;omega
   exact Ca this (Di ..)
  .have:(p:Int)∣g (i+j-k):=uW λz=>by have:=hj' _ z;omega
   exact Ca this (Yd ..)
 rw[Bx]at t;rcases GP hp t with t|t
 .exact absurd t hi
 .exact absurd t hj
theorem Fs.top{f:Nat->Int}:∀{n:Nat},Fs f n->(∀k,f k=0)∨∃d,d<n/\f d≠0/\Fs f (d+1)
 |0,h=> .inl λk=>h k (cB _)
 |n+1,h=>by
  by_cases c:f n=0
  .have h':Fs f n:=λk hk=>by
    by_cases e:k=n
    .rw[e];exact c
    .exact h k ⋯
   rcases Fs.top h' with z|⟨d,h1,h2,h3⟩
   .exact .inl z
   .exact .inr ⟨d,⋯,h2,h3⟩
  .exact .inr ⟨n,⋯,c,h⟩
structure Lk(a:Nat->Int)(d:Nat)(f:Nat->Int):Prop where
 fs:Fs f (d+1)
 ne:f d≠0
 kf:Kf f (d+1) a
def awY{a f:Nat->Int}{d:Nat}(hf:Lk a d f)(hd:∀e g,Lk a e g->d<=e):∀(n:Nat) (q:Nat->Int),Fs q n->Kf q n a->∃(m:Int) (G:Nat->Int) (N:Nat),m≠0/\Fs G N/\∀k,m*q k=cv G f k:=λn=>by
 induction n using rQ with
 |ind n ih=>
  intro q hq hk;rcases hq.top with z|⟨e,hen,hne,hfe⟩
  .exact⟨1,λ_=>0,0,∅,λ_ _=>rfl,λk=>by rw[z k,j5 λi _=> .inl rfl];rfl⟩
  .have hke:Kf q (e+1) a:=hk.less hfe ⋯;have hde:=hd e q ⟨hfe,hne,hke⟩;have ks:=hf.kf.shift (e-d);rw[show e-d+(d+1)=e+1 by omega]at ks;have kl:=hke.lin (f d) (-(q e)) ks;have fl:Fs (λk=>f d*q k + -(q e)*(if e-d<=k then f (k-(e-d))else 0)) e:=λk hk=>by
    show f d*q k + -(q e)*(if e-d<=k then f (k-(e-d))else 0)=0;rw[if_pos ⋯];by_cases c:k=e
    .rw[c,show e-(e-d)=d by omega,gM,cA (q e),Int.add_right_neg]
    .rw[hfe k ⋯,hf.fs (k-(e-d)) ⋯,aP,aP];rfl
   obtain⟨m,G,N,hm,hG,hE⟩:=ih e hen _ fl (kl.less fl ⋯);refine⟨m*f d,λk=>G k+m*q e*(if k=e-d then 1 else 0),N+(e-d+1),Xc hm hf.ne,λk hk=>?_,λk=>?_⟩
   .show G k+m*q e*(if k=e-d then 1 else 0)=0;rw[hG k ⋯,if_neg ⋯,aP];rfl
   .rw[mH,mW,D6,<-hE k];by_cases c:e-d<=k
    .rw[if_pos c,if_pos c,f9,iG,gM,qp,bU,bU,Int.neg_add_cancel_right]
    .rw[if_neg c,if_neg c,f9];simp[bU]
def ajp{a:Nat->Int}{P:List Int}(hP:Mon P)(hk:Kp 0 P a):∃L,Mon L/\Py 0 L/\Kp 0 L a/\L.length<=P.length/\(∀q,Kp 0 q a->Dv 0 L (co q))/\∀e g,Lk a e g->L.length-1<=e:=by
 have hp:=hP.pos;have p0:Lk a (P.length-1) (co P):=⟨by rw[show P.length-1+1=P.length by omega];exact Fs.co P,by rw[hP.one];decide,by rw[show P.length-1+1=P.length by omega];exact Kf.of hk⟩;obtain⟨d,⟨f0,hf0⟩,hd⟩:=least_of (Q:=λd=>∃f,Lk a d f) ⟨_,_,p0⟩;have hd':∀e g,Lk a e g->d<=e:=λe g h=>hd e ⟨g,h⟩;obtain⟨c,⟨f,hf,hc⟩,hc'⟩:=least_of (Q:=λc=>∃f,Lk a d f/\(f d).natAbs=c) ⟨_,f0,hf0,rfl⟩;obtain⟨m0,G0,N0,hm0,hG0,hE0⟩:=awY hf hd' P.length (co P) (Fs.co P) (Kf.of hk);obtain⟨n,⟨m,G,N,hm,hG,hE,hn⟩,hn'⟩:=least_of (Q:=λn=>∃(m:Int) (G:Nat->Int) (N:Nat),m≠0/\Fs G N/\(∀k,m*co P k=cv G f k)/\m.natAbs=n) ⟨_,m0,G0,N0,hm0,hG0,hE0,rfl⟩;have h1:m.natAbs=1:=by
  by_cases c2:m.natAbs=1
  .exact c2
  .have h0:m.natAbs≠0:=⋯;obtain⟨p,hp,hd⟩:=axQ m.natAbs ⋯;have hpp:=hp.1;have hp0:(p:Int)≠0:=⋯;obtain⟨m',em⟩:=D8.mpr hd;have hm':m'≠0:=λz=>hm (by rw[em,z,aP]);rcases alm hp (f:=G) (g:=f) λk=>by rw[<-hE k,em,bU];exact Di .. with z|z
   .exfalso
    obtain⟨G',hg⟩:=Pn.mp z;refine absurd (hn' m'.natAbs ⟨m',G',N,hm',λk hk=>?_,λk=>?_,rfl⟩) ?_
    .have:=hg k;rw[hG k hk]at this;exact(kZ.mp this.symm).resolve_left hp0
    .refine Gw hp0 ?_;rw[<-mW,<-bU,<-em,hE k];exact pN (λi _=>hg i) λ_ _=>rfl
    .rw[<-hn,em,jT,uU];have:0<m'.natAbs:=⋯;have:2*m'.natAbs<=p*m'.natAbs:=qe _ hpp;omega
   .exfalso
    obtain⟨f',hg⟩:=Pn.mp z;have e:f=λk=>p*f' k:=funext λk=>hg k;have q:Lk a d f':=⟨λk hk=>by
     have:=hg k;rw[hf.fs k hk]at this;exact(kZ.mp this.symm).resolve_left hp0,λz=>hf.ne (by rw[hg d,z,aP]),by
     have:=hf.kf;rw[e]at this;exact this.div hp0⟩
    refine absurd (hc' _ ⟨_,q,rfl⟩) ?_;have e2:=congrArg C8 (hg d);rw[jT,uU,hc]at e2;have hne:=q.ne;have:0<(f' d).natAbs:=⋯;have:2*(f' d).natAbs<=p*(f' d).natAbs:=qe _ hpp;rw[e2];show ¬p*(f' d).natAbs<=(f' d).natAbs;omega
 have hu:(f d).natAbs=1:=by
  rcases hG.top with z|⟨e,_,hne,hfe⟩
  .exfalso
   have:=hE (P.length-1);rw[hP.one,jr,j5 λi _=> .inl (z i)]at this;exact hm this
  .have t:cv G f (e+d)=G e*f d:=by
    rw[fV,aR (g:=λi=>if i=e then G e*f d else 0) λi _=>by
     by_cases c3:i=e
     .rw[if_pos c3,c3,Bx]
     .rw[if_neg c3];by_cases c4:i<e
      .rw[hf.fs _ ⋯,aP]
      .rw[hfe i ⋯,gh],mC,if_pos ⋯]
   have hx:G e*f d≠0:=Xc hne hf.ne;have e1:=hE (e+d);rw[t]at e1;have hl:e+d=P.length-1:=by
    by_cases c3:P.length<=e+d
    .rw[aX c3,aP]at e1;exact absurd e1.symm hx
    .by_cases c4:e+d=P.length-1
     .exact c4
     .exfalso
      have e2:=hE (P.length-1);rw[hP.one,jr,j5 λi hi=>by
       by_cases c5:e+1<=i
       .exact .inl (hfe i c5)
       .exact .inr (hf.fs _ ⋯)]at e2
      exact hm e2
   rw[hl,hP.one,jr]at e1;have e3:=congrArg C8 e1;rw[jT,h1]at e3;exact Nat.eq_one_of_mul_eq_one_left e3.symm
 have hs:f d*f d=1:=by
  rcases Int.natAbs_eq (f d)with h|h<;>rw[h,hu]<;>rfl
 have hLc:∀k,co (aM (d+1) λk=>f d*f k) k=f d*f k:=λk=>by
  rw[cY];by_cases c3:k<d+1
  .rw[if_pos c3]
  .rw[if_neg c3,hf.fs k ⋯,aP]
 have hM:Mon (aM (d+1) λk=>f d*f k):=⟨by rw[cj];omega,by rw[cj,fU,hLc,hs]⟩;have hK:Kp 0 (aM (d+1) λk=>f d*f k) a:=λi=>by
  rw[aY];unfold ks;rw[cj,aR (g:=λk=>f d*(f k*a (i+k))) λk _=>by rw[hLc,bU],dD,hf.kf i,aP]
 refine⟨aM (d+1) λk=>f d*f k,hM,⟨?_,λx _=>aY x⟩,hK,?_,λq hq=>?_,λe g h=>by rw[cj];exact hd' e g h⟩
 .refine vR (λz=>?_) (by rw[hM.one];decide);have:=hM.pos;rw[z]at this;exact absurd this ∅
 .rw[cj];have:=hd' _ _ p0;omega
 .obtain⟨o,r,D⟩:=ZV (b:=0) hM (p:=q) λk=>aY _;have kr:=(D.kp hK).mp hq;have rn:r=[]:=by
   by_cases c3:r=[]
   .exact c3
   .exfalso
    have hl:0<r.length:=Aa.mpr c3;have hne:=rm c3 D.ry.tr;have:=hd' (r.length-1) (co r) ⟨by rw[show r.length-1+1=r.length by omega];exact Fs.co r,hne,by rw[show r.length-1+1=r.length by omega];exact Kf.of kr⟩;have hsh:=D.short;rw[cj]at hsh;omega
  refine⟨co o,o.length,Fs.co o,λk=>?_⟩;rw[<-D.eq k,rn,fR,dj]
end Pm
namespace Dm
open Pm Rm
def auP{n:Nat}(f:Nat->Nat->Int)(x:Nat->Int){j:Nat}(hj:j<n):det n (cJ f j λi=>sm n λk=>f i k*x k)=x j*det n f:=by
 have e0:(λi=>sm n λk=>f i k*x k)=λi=>sm n λk=>x k*f i k:=funext λi=>aR λk _=>cA ..;rw[e0,Dl f hj x (λk i=>f i k)];have e2:sm n (λk=>x k*det n (cJ f j λi=>f i k))=sm n (λk=>if k=j then x j*det n f else 0):=aR λk hk=>by
  by_cases c:k=j
  .rw[if_pos c,c,zN]
  .rw[if_neg c];have z:det n (cJ f j λi=>f i k)=0:=by
    rcases GY c with l|l
    .exact tE l hj λi _=>by rw[mZ,nQ ⋯]
    .exact tE l hk λi _=>by rw[mZ,nQ ⋯]
   rw[z,aP]
 rw[e2,mC,if_pos hj]
def awA{b:Int}{n:Nat}{f:Nat->Nat->Int}{x:Nat->Int}(h:Rel b n n f x){j:Nat}(hj:j<n):tk b (x j*det n f)=0:=by
 have hx:∀i,∃e,i<n->(sm n λk=>f i k*x k)=b*e:=λi=>by
  by_cases c:i<n
  .obtain⟨e,he⟩:=sV.mp (h i c);exact⟨e,λ_=>he⟩
  .exact⟨0,λz=>absurd z c⟩
 obtain⟨e,he⟩:=Pn.mp hx;rw[<-auP f x hj];have e1:det n (cJ f j λi=>sm n λk=>f i k*x k)=det n (cJ f j λi=>b*e i+0):=jx λi k hi _=>by
  unfold cJ;split
  .show(sm n λk=>f i k*x k)=b*e i+0;rw[he i hi,dj]
  .rfl
 rw[e1,vA f hj b e (λ_=>0),C9 f hj,dj];exact sV.mpr ⟨_,rfl⟩
def alw{b:Int}{n:Nat}{f:Nat->Nat->Int}(hD:Dom b)(h:tk b (det n f)≠0):tW b n n f:=λx hx k hk=>
 hD (det n f) (x k) h (by rw[cA];exact awA hx hk)
structure Cp(b:Int)(n:Nat)(A0:Nat->Nat->Int)(c:Nat)(A:Nat->Nat->Int)(hd:Nat->Nat)(r:Nat):Prop where
 sw:ug n A0 A
 nz:tk b (dt A hd r)≠0
 rn:r<=n
 hc:∀h,h<r->hd h<c
 up:∀h h',h<h'->h'<r->hd h<hd h'
 zero:∀k,k<c->(∀h,h<r->hd h≠k)->∀i,r<=i->i<n->tk b (En A hd r i k)=0
def Cp.bring{b:Int}{n:Nat}{A0:Nat->Nat->Int}{c:Nat}{A:Nat->Nat->Int}{hd:Nat->Nat}{r:Nat}(h:Cp b n A0 c A hd r){a:Nat}(hra:r<a)(han:a<n):Cp b n A0 c (turn A r a) hd r:=
 ⟨.step h.sw hra han,by rw[Gf (aN _) ⋯];exact h.nz,h.rn,h.hc,h.up,λk hk hn i h1 h2=>by
  rw[BR (aN _) hra];split
  .exact h.zero k hk hn a ⋯ han
  .split
   .exact yg (h.zero k hk hn r (aN _) ⋯)
   .exact h.zero k hk hn i h1 h2⟩
def Cp.free{b:Int}{n:Nat}{A0:Nat->Nat->Int}{c:Nat}{A:Nat->Nat->Int}{hd:Nat->Nat}{r:Nat}(h:Cp b n A0 c A hd r)(hD:Dom b)(hrn:r<n)(hp:tk b (En A hd r r c)≠0):Cp b n A0 (c+1) A (more hd r c) (r+1):=by
 have hpi:En A hd r r c≠0:=λz=>hp (by rw[z];exact tk0 b);have ml:∀j,j<r->more hd r c j=hd j:=λj hj=>if_neg ⋯;have me:more hd r c r=c:=if_pos rfl;refine⟨h.sw,by rw[Pg];exact hp,⋯,λj hj=>?_,λj j' h1 h2=>?_,λk hk hn i h1 h2=>?_⟩
 .by_cases e:j=r
  .rw[e,me];omega
  .rw[ml j ⋯];have:=h.hc j ⋯;omega
 .by_cases e:j'=r
  .rw[e,me,ml j ⋯];exact h.hc j ⋯
  .rw[ml j' ⋯,ml j ⋯];exact h.up j j' h1 ⋯
 .have hkc:k≠c:=λe=>hn r ⋯ (by rw[me,e]);have hn':∀j,j<r->hd j≠k:=λj hj=>by rw[<-ml j hj];exact hn j ⋯
  refine hD _ _ h.nz ?_;rw[CZ hpi ⋯];exact ad7 (Br _ (h.zero k ⋯ hn' i ⋯ h2)) (Br _ (h.zero k ⋯ hn' r (aN _) hrn))
def Cp.step{b:Int}{n:Nat}{A0:Nat->Nat->Int}{c:Nat}{A:Nat->Nat->Int}{hd:Nat->Nat}{r:Nat}(h:Cp b n A0 c A hd r)(hD:Dom b):∃A hd r,Cp b n A0 (c+1) A hd r:=by
 by_cases z:∀i,r<=i->i<n->tk b (En A hd r i c)=0
 .refine⟨A,hd,r,h.sw,h.nz,h.rn,λj hj=>by have:=h.hc j hj;omega,h.up,λk hk hn i h1 h2=>?_⟩;by_cases e:k=c
  .rw[e];exact z i h1 h2
  .exact h.zero k ⋯ hn i h1 h2
 .obtain⟨i,hi⟩:=Eh.mp z;obtain⟨h1,hi⟩:=Ob.mp hi;obtain⟨h2,hi⟩:=Ob.mp hi;by_cases e:i=r
  .rw[e]at hi;exact⟨_,_,_,h.free hD ⋯ hi⟩
  .refine⟨_,_,_,(h.bring (a:=i) ⋯ h2).free hD ⋯ ?_⟩;rw[BR (aN _) ⋯,if_pos rfl];exact hi
theorem Cp.ex{b:Int}(hD:Dom b)(h1:tk b 1≠0)(n:Nat)(A0:Nat->Nat->Int):∀c,∃A hd r,Cp b n A0 c A hd r
 |0=>⟨A0,λ_=>0,0,.refl,by rw[Mz];exact h1,cB _,λh hh=>absurd hh (mO _),λ_ _ _ h=>absurd h (mO _),λk hk=>absurd hk (mO _)⟩
 |c+1=>by
  obtain⟨A,hd,r,h⟩:=Cp.ex hD h1 n A0 c;exact h.step hD
def axX{hd:Nat->Nat}{r m:Nat}(hc:∀h,h<r->hd h<m)(up:∀h h',h<h'->h'<r->hd h<hd h')(Uj:∀k,k<m->∃j,j<r/\hd j=k):r=m/\∀k,k<m->hd k=k:=by
 have ge:∀j,j<r->j<=hd j:=λj=>by
  induction j with
  |zero=>intro _;exact cB _
  |succ j ih=>
   intro hj;have:=ih ⋯;have:=up j (j+1) ⋯ hj;omega
 have all:∀k,k<m->k<r/\hd k=k:=λk=>by
  induction k using rQ with
  |ind k ih=>
   intro hk;obtain⟨j,hj,e⟩:=Uj k hk;have g:=ge j hj;by_cases c:j=k
   .rw[<-c];exact⟨hj,by rw[e,c]⟩
   .have:=(ih j ⋯ ⋯).2;omega
 refine⟨?_,λk hk=>(all k hk).2⟩;by_cases c:r<=m
 .by_cases c2:r=m
  .exact c2
  .have:=(all r ⋯).1;omega
 .have:=hc m ⋯;have:=ge m ⋯;omega
def aeE{b:Int}{n:Nat}{A0:Nat->Nat->Int}(hD:Dom b)(h1:tk b 1≠0)(hI:tW b n n A0):tk b (det n A0)≠0:=by
 obtain⟨A,hd,r,h⟩:=Cp.ex hD h1 n A0 n;have H:=axX h.hc h.up λk hk=>by
  by_cases c:∃j,j<r/\hd j=k
  .exact c
  .exfalso
   have hn:∀j,j<r->hd j≠k:=λj hj e=>c ⟨j,hj,e⟩;have R:=MV (A:=A) (hd:=hd) (r:=r) (m:=n) (k:=k) (b:=b) (n:=n) h.hc hk (h.zero k hk hn);have z:=hI _ (h.sw.rel.mpr R) k hk;rw[if_pos rfl,jh (λj hj=>by rw[if_neg (λe=>hn j hj e.symm)]),mR]at z;have:=yg z;rw[wZ]at this;exact h.nz this
 obtain⟨e,H⟩:=H;subst e;rw[<-h.sw.det];have:=h.nz;have q:dt A hd r=det r A:=jx λi k _ hk=>by unfold Bk;rw[H k hk]
 rwa [q]at this
end Dm
namespace Dm
open Pm Rm
def hk(a:Nat->Int):Nat->Nat->Int:=λi j=>a (i+j)
def afe(x a:Nat->Int)(l i:Nat):sm l (λk=>hk a i k*x k)=ks (aM l x) a i:=by
 unfold ks;rw[cj];refine aR λk hk'=>?_;rw[cY,if_pos hk',cA];rfl
def aii{b:Int}(hD:Dom b)(h1:tk b 1≠0){L:List Int}{a:Nat->Int}(hL:Mon L)(hw:∀k,tk b (co L k)=co L k)(hK:Kp b L a)(hm:∀q,Kp b q a->Dv b L (co q)):tk b (det (L.length-1) (hk a))≠0:=by
 refine aeE hD h1 λx hx k hk'=>?_;have e:=CW hw hL;have ha:∀n,(fL b L).length<=n->tk b (a n)=tk b (S (fL b L) a n (fL b L).length):=Kp.rec (by rw[e];exact hK);have hq:Kp b (aM (L.length-1) x) a:=Um ha λn hn=>by
  rw[nG]at hn;rw[<-afe];exact hx n hn
 have z:=(hm _ hq).short hL (by have:=Fs.co (aM (L.length-1) x);rwa [cj]at this) k
 rwa [cY,if_pos hk']at z
def ams{b:Int}(hD:Dom b){l:Nat}{a:Nat->Int}(h:tk b (det l (hk a))≠0){q:List Int}(hq:q.length<=l)(hK:Kp b q a):∀k,tk b (co q k)=0:=λk=>by
 have hI:=alw hD h (co q) λi hi=>by
  rw[afe];have e:ks (aM l (co q)) a i=ks q a i:=by
   rw[<-uP q a i hq];unfold ks;rw[cj];exact aR λk hk'=>by rw[cY,if_pos hk']
  rw[e];exact hK i
 by_cases c:k<l
 .exact hI k c
 .rw[aX ⋯,tk0]
def Dom.pr{p:Nat}(hp:Om.cF p):Dom (p:Int):=λx y hx h=>by
 have h2:=hp.1;obtain⟨e,he⟩:=sV.mp h;rcases GP hp (x:=x) (y:=y) ⟨e,he⟩with⟨z,hz⟩|⟨z,hz⟩
 .exact absurd (sV.mpr ⟨z,hz⟩) hx
 .exact sV.mpr ⟨z,hz⟩
end Dm
namespace Pm
open Rm Dm
structure uE(P:List Int)(T:Nat->Int)(g:List Int)(N:Int):Prop where
 mon:Mon g
 py:Py 0 g
 ne:N≠0
 one:Dv 0 g (co P)
 two:Dv 0 g T
 all:∀h:List Int,Mon h->Dv 0 h (co P)->Dv 0 h T->Dv 0 h (co g)
 good:∀(p:Nat) (s:List Int),Om.cF p->¬(p:Int)∣N->Mon s->Dv p s (co P)->Dv p s T->s.length<=g.length
theorem Dv.by{b:Int}{m:List Int}{f:Nat->Int}(h:Dv 0 m f):Dv b m f:=by
 obtain⟨s,n,hs,h⟩:=h;exact⟨s,n,hs,λk=>by have:=h k;rw[aY,aY]at this;rw[this]⟩
def Dv.len{b:Int}(h1:tk b 1=1){m p:List Int}(hm:Mon m)(hp:Mon p)(h:Dv b m (co p)):m.length<=p.length:=by
 by_cases c:m.length<=p.length
 .exact c
 .exfalso
  have:=h.short hm ((Fs.co p).mono ⋯) (p.length-1);rw[hp.one,h1]at this;exact absurd this ∅
def AK{b:Int}(h1:tk b 1=1){P g:List Int}(hP:Mon P)(hg:Mon g)(h:Dv b g (co P)):∃L:List Int,Mon L/\(∀k,tk b (co L k)=co L k)/\L.length+g.length=P.length+1/\∀k,tk b (co P k)=tk b (cv (co L) (co g) k):=by
 have hl:=h.len h1 hg hP;have hp:=hP.pos;have hgp:=hg.pos;obtain⟨s,n,hs,h⟩:=h;have key:∀d j,n<=j+d->P.length-g.length<j->tk b (s j)=0:=λd=>by
  induction d with
  |zero=>intro j hj _;rw[hs j hj,tk0]
  |succ d ih=>
   intro j hj hj2;have e:=h (j+(g.length-1));rw[aX ⋯,tk0,fV]at e;have e2:tk b (sm (j+(g.length-1)+1) λi=>s i*co g (j+(g.length-1)-i))=tk b (sm (j+(g.length-1)+1) λi=>if i=j then s j else 0):=iU λi hi=>by
    by_cases c:i=j
    .rw[if_pos c,c,Bx,hg.one,jr]
    .rw[if_neg c,tk0];by_cases d2:i<j
     .rw[aX ⋯,aP,tk0]
     .rw[cA];exact Fl _ (ih i ⋯ ⋯)
   rw[e2,mC,if_pos ⋯]at e;exact e.symm
 have z:∀k,P.length-g.length<k->tk b (s k)=0:=λk hk=>key n k ⋯ hk;have t1:tk b (s (P.length-g.length))=1:=by
  have e:=h (P.length-1);rw[hP.one,h1,fV]at e;have e2:tk b (sm (P.length-1+1) λi=>s i*co g (P.length-1-i))=tk b (sm (P.length-1+1) λi=>if i=P.length-g.length then s (P.length-g.length)else 0):=iU λi hi=>by
   by_cases c:i=P.length-g.length
   .rw[if_pos c,c,show P.length-1-(P.length-g.length)=g.length-1 by omega,hg.one,jr]
   .rw[if_neg c,tk0];by_cases d2:i<P.length-g.length
    .rw[aX ⋯,aP,tk0]
    .rw[cA];exact Fl _ (z i ⋯)
  rw[e2,mC,if_pos ⋯]at e;exact e.symm
 have hc:∀k,co (aM (P.length-g.length+1) λk=>tk b (s k)) k=tk b (s k):=λk=>by
  rw[cY];by_cases c:k<P.length-g.length+1
  .rw[if_pos c]
  .rw[if_neg c,z k ⋯]
 refine⟨aM (P.length-g.length+1) λk=>tk b (s k),⟨by rw[cj];omega,?_⟩,λk=>?_,by rw[cj];omega,λk=>?_⟩
 .rw[cj,fU,hc,t1]
 .rw[hc,gJ]
 .rw[h k];exact iI (λi _=>by rw[hc,gJ]) λi _=>rfl
def aqO{b:Int}{P:List Int}(hP:Mon P)(k:Nat):tk b (co P k)=tk b (co (aV b (fL b P)) k):=by
 have hp:=hP.pos;rw[aV,pB,cj,nG];by_cases c:k<P.length-1
 .rw[if_pos c,cY,if_pos c,fL,cY,if_pos ⋯,Ym,gJ];rw[show P.length-1-1-(P.length-1-1-k)=k by omega]
 .rw[if_neg c];by_cases d:k=P.length-1
  .rw[d,hP.one,rT];rfl
  .rw[aX ⋯,aX (by simp;omega)]
def keepsP{b:Int}{P:List Int}{a:Nat->Int}(hm:Mon P)(hK:Kp b P a)(q:List Int):Kp b q a↔Dv b P (cv (co q) (tp P a)):=by
 have A:=Pz hm.pos q hK;constructor
 .intro h;have z:Dv b P (tp P (ks q a)):=(Dv.zero b _).congr λk=>by
   have:=agJ (b:=b) (P:=P) (a:=ks q a) (a':=λ_=>0) (λn=>by rw[h n,tk0]) k;rw[this];exact(congrArg (tk b) (show tp P (λ_=>0) k=0 from jh λi _=>aP _)).symm
  exact(A.add z).congr λk=>by rw[Zb]
 .intro h;have z:Dv b P (tp P (ks q a)):=(h.sub A).congr λk=>by
   rw[show cv (co q) (tp P a) k-(cv (co q) (tp P a) k-tp P (ks q a) k)=tp P (ks q a) k by omega]
  have n0:=Z4 hm (z.short hm (AW _ _));have ha:∀n,(fL b P).length<=n->tk b (a n)=tk b (S (fL b P) a n (fL b P).length):=Kp.rec (hK.congr (aqO hm));exact Um ha λn hn=>n0 n (by rw[nG]at hn;exact hn)
def ags{b:Int}{m:List Int}(hm:Mon m){f g:Nat->Int}{n n':Nat}(hf:Fs f n)(hg:Fs g n')(h:∀k,tk b (cv f (co m) k)=tk b (cv g (co m) k)):∀k,tk b (f k)=tk b (g k):=λk=>by
 refine lX.mp (Jo (b:=b) hm (f:=λk=>f k-g k) (n:=n+n') (λk hk=>?_) (λk _=>?_) k)
 .show f k-g k=0;rw[hf k ⋯,hg k ⋯];rfl
 .have e:cv (λk=>f k-g k) (co m) k=cv f (co m) k + -1*cv g (co m) k:=by
   rw[<-mW,<-mH];exact pN (λi _=>⋯) λi _=>rfl
  rw[e,jy (h k) rfl,show ∀x:Int,x + -1*x=0 fromλx=>⋯,tk0]
def akS{P:List Int}{a:Nat->Int}(hP:Mon P)(hK:Kp 0 P a):∃g L,Mon L/\Py 0 L/\Kp 0 L a/\(∀q,Kp 0 q a->Dv 0 L (co q))/\L.length+g.length=P.length+1/\(∀k,co P k=cv (co L) (co g) k)/\uE P (tp P a) g (det (L.length-1) (hk a)):=by
 obtain⟨L,hL,Dz,hKL,hLP,hall,_⟩:=ajp hP hK;obtain⟨g,hg,hgy,hlen,hE⟩:=AK (b:=0) rfl hP hL (hall P hK);have hE':∀k,co P k=cv (co g) (co L) k:=λk=>by have:=hE k;rwa [aY,aY]at this
 have hgP:Py 0 g:=⟨vR (λz=>by have:=hg.pos;rw[z]at this;exact absurd this ∅) (by rw[hg.one];decide),λx _=>aY x⟩;have U7:=hL.pos;have hgp:=hg.pos;refine⟨g,L,hL,Dz,hKL,hall,⋯,λk=>by rw[hE',ju],hg,hgP,?_,⟨co L,L.length,Fs.co L,λk=>by rw[hE',ju]⟩,?_,λh hh h1 h2=>?_,λp s hp hN hs h1 h2=>?_⟩
 .have:=aii Dom.zero ∅ hL (λk=>aY _) hKL hall
  rwa [aY]at this
 .obtain⟨s,n,hs,e⟩:=(keepsP hP hK L).mp hKL;refine⟨s,n,hs,ags hL (AW P a) (hs.cv (Fs.co g)) λk=>?_⟩;rw[ju,e k,gO];exact congrArg (tk 0) (pN (λ_ _=>rfl) λi _=>hE' i)
 .obtain⟨A,hA,hAy,hAl,Fo⟩:=AK (b:=0) rfl hP hh h1;obtain⟨B,nB,hB,Vq⟩:=h2;have TJ:Kp 0 A a:=(keepsP hP hK A).mpr ⟨B,nB,hB,λk=>by
   have e1:tk 0 (cv (co A) (tp P a) k)=tk 0 (cv (co A) (cv B (co h)) k):=iI (λ_ _=>rfl) λi _=>Vq i;have e2:tk 0 (cv B (co P) k)=tk 0 (cv B (cv (co A) (co h)) k):=iI (λ_ _=>rfl) λi _=>Fo i;rw[e1,e2,<-gO,<-gO];exact congrArg (tk 0) (pN (λi _=>ju ..) λ_ _=>rfl)⟩
  obtain⟨C,nC,hC,hCe⟩:=hall A TJ;refine⟨C,nC,hC,ags hL (Fs.co g) (hC.cv (Fs.co h)) λk=>?_⟩;rw[<-hE',Fo k,iI (λi _=>hCe i) λ_ _=>rfl,gO,gO];exact congrArg (tk 0) (pN (λ_ _=>rfl) λi _=>ju ..)
 .have hp2:=hp.1;have hp1:tk (p:Int) 1=1:=by rw[jY ⋯];exact Cv ∅ ⋯
  obtain⟨A,hA,hAy,hAl,Fo⟩:=AK (b:=p) hp1 hP hs h1;obtain⟨B,nB,hB,Vq⟩:=h2;have hKp:Kp p P a:=λn=>by have:=hK n;rw[aY]at this;rw[this,tk0]
  have TJ:Kp p A a:=(keepsP hP hKp A).mpr ⟨B,nB,hB,λk=>by
   have e1:tk p (cv (co A) (tp P a) k)=tk p (cv (co A) (cv B (co s)) k):=iI (λ_ _=>rfl) λi _=>Vq i;have e2:tk p (cv B (co P) k)=tk p (cv B (cv (co A) (co s)) k):=iI (λ_ _=>rfl) λi _=>Fo i;rw[e1,e2,<-gO,<-gO];exact congrArg (tk p) (pN (λi _=>ju ..) λ_ _=>rfl)⟩
  by_cases c:A.length<=L.length-1
  .exfalso
   have z:=ams (Dom.pr hp) (λz=>hN (sV.mp z)) c TJ (A.length-1);rw[hA.one,hp1]at z;exact absurd z ∅
  .omega
end Pm
namespace Dm
open Rm Pm
end Dm
namespace Pm
open Rm Dm
def awb{p:Int}(hp:p≠0){x y:Int}:tk p x=tk p y↔p∣x-y:=by
 rw[<-lX,sV];exact⟨λ⟨e,h⟩=>⟨e,h⟩,λ⟨e,h⟩=>⟨e,h⟩⟩
def QS{p:Nat}(hp:Om.cF p):tk (p:Int) 1=1:=by
 have:=hp.1;rw[jY ⋯];exact Cv ∅ ⋯
def Dv.same{b:Int}(h1:tk b 1=1){m p:List Int}(hm:Mon m)(hp:Mon p)(h:Dv b m (co p))(hl:m.length=p.length)(k:Nat):tk b (co p k)=tk b (co m k):=by
 obtain⟨L,hL,_,hlen,e⟩:=AK h1 hp hm h;have hm0:=hm.pos;have h2:L.length=1:=⋯;have e0:co L 0=1:=by have:=hL.one;rwa [h2]at this
 rw[e k];refine congrArg (tk b) ?_;rw[fV,mU (m:=1) ⋯ λj h3 _=>by rw[aX (p:=L) ⋯,gh]];simp[sm,e0]
structure Seen(g:List Int)(N:Int)(p:Nat)(s:List Int):Prop where
 mon:Mon s
 nu:∀k,tk (p:Int) (co s k)=co s k
 ge:g.length<=s.length
 eq:s.length=g.length->∀k,(p:Int)∣co s k-co g k
 good:¬(p:Int)∣N->s.length=g.length
def dJ.to{b:Int}{g p q:List Int}(h:dJ b g [] p)(e:∀k,tk b (co p k)=tk b (co q k)):Dv b g (co q):=by
 obtain⟨u,h⟩:=h.dv;exact⟨co u,u.length,Fs.co u,λk=>by rw[<-e,h]⟩
def uE.seen{P t g:List Int}{N:Int}(h:uE P (co t) g N){p:Nat}(hp:Om.cF p){P' t' s:List Int}(eP:∀k,tk (p:Int) (co P' k)=tk p (co P k))(et:∀k,tk (p:Int) (co t' k)=tk p (co t k))(hs:Gcd p P' t' s):Seen g N p s:=by
 have h2:=hp.1;have h1:=QS hp;have d1:Dv p s (co P):=hs.one.to eP;have d2:Dv p s (co t):=hs.two.to et;have d3:Dv p g (co s):=by
  obtain⟨u,v,e⟩:=hs.sum;refine((((h.one.by (b:=p))).mul (Fs.co u)).add ((h.two.by (b:=p)).mul (Fs.co v))).congr λk=>?_;rw[e];exact jy (iI (λ_ _=>rfl) λi _=>(eP i).symm) (iI (λ_ _=>rfl) λi _=>(et i).symm)
 have hge:=d3.len h1 h.mon hs.mon;exact⟨hs.mon,hs.py.co,hge,λe k=>(awb ⋯).mp (d3.same h1 h.mon hs.mon e.symm k),λz=>by
  have:=h.good p s hp z hs.mon d1 d2;omega⟩
def uE.told{P t g h:List Int}{N:Int}(H:uE P (co t) g N)(hh:Mon h)(h1:Dv 0 h (co P))(h2:Dv 0 h (co t))(hl:g.length<=h.length):h=g:=by
 have d:=H.all h hh h1 h2;have:=d.len rfl hh H.mon;exact vq ⋯ λk=>by have:=d.same rfl hh H.mon ⋯ k;rw[aY,aY]at this;exact this.symm
def nr(M x:Int):Int:=if 2*(x%M)>M then x%M-M else x%M
def Nr(M x:Int):Prop:=-M<2*x/\2*x<=M
def HB(M x:Int):M∣nr M x-x:=by
 have e:=Int.emod_add_mul_ediv x M;unfold nr;split
 .exact⟨-(x/M)-1,by rw[iH,qp];omega⟩
 .exact⟨-(x/M),by rw[qp];omega⟩
def QB{M:Int}(hM:0<M)(x:Int):Nr M (nr M x):=by
 have h0:=rY x (show M≠0 by omega);have h1:=rK x hM;unfold nr Nr;split<;>omega
def Nr.eq{M x y:Int}(hM:0<M)(hx:Nr M x)(hy:Nr M y)(h:M∣x-y):x=y:=by
 obtain⟨c,hc⟩:=h;unfold Nr at hx hy;by_cases c0:c=0
 .rw[c0,aP]at hc;omega
 .exfalso
  rcases Int.lt_or_gt_of_ne c0 with l|l
  .have:M*c<=M*(-1):=G4 ⋯ ⋯;omega
  .have:M*1<=M*c:=G4 ⋯ ⋯;omega
def aiW{M:Int}(hM:2<=M){x:Int}(h:M∣x-1):nr M x=1:=Nr.eq (M:=M) ⋯ (QB ⋯ x) (by unfold Nr;omega) (by
 have:=sI (HB M x) h
 rwa [show nr M x-x+(x-1)=nr M x-1 by omega]at this)
def NS{M:Int}{p:Nat}(hp:Om.cF p)(hM:¬(p:Int)∣M){x:Int}(h1:M∣x)(h2:(p:Int)∣x):M*p∣x:=by
 obtain⟨y,rfl⟩:=h1;rcases GP hp h2 with z|⟨e,he⟩
 .exact absurd z hM
 .exact⟨e,by rw[he,bU]⟩
structure jW(P g:List Int)(N:Int)(told:List Int)(M:Int)(prime:Nat)(ripe:Bool)(bad good:Nat):Prop where
 mon:Mon told
 ge:g.length<=told.length
 le:told.length<=P.length
 pos:0<M
 div:∀q:Nat,Om.cF q->(q:Int)∣M->q<=prime
 Qi:told.length=g.length->∀k,M∣co told k-co g k
 near:M≠1->∀k,Nr M (co told k)
 AJ:∃X:Nat,(X:Int)∣N/\2^(19*bad)<=X/\∀q:Nat,Om.cF q->q∣X->q<=prime
 BH:0<good->told.length=g.length/\2^(19*good)<=M
 aeA:2<=good->(∀k,2*(co g k).natAbs<2^(19*(good-1)))->ripe=true/\told=g
 hi:M<=2^(21*(bad+good))
 first:M=1->told=P
def jW.start{P g:List Int}{N:Int}(hP:Mon P)(hl:g.length<=P.length)(prime:Nat):jW P g N P 1 prime true 0 0:=
 ⟨hP,hl,aN _,∅,λq hq h=>by
  have:=hq.1;have h3:=Int.le_of_dvd ∅ h;omega,λ_ k=>⟨_,(iG _).symm⟩,λh=>absurd rfl h,⟨1,⟨N,(iG N).symm⟩,∅,λq hq h=>by
  have:=hq.1;have h3:=pI ∅ h;omega⟩,λh=>absurd h ∅,λh=>absurd h ∅,∅,λ_=>rfl⟩
def SM{N:Int}{prime p bad:Nat}(hp:Om.cF p)(hlt:prime<p)(hbig:2^19<=p)(hN:(p:Int)∣N)(h:∃X:Nat,(X:Int)∣N/\2^(19*bad)<=X/\∀q:Nat,Om.cF q->q∣X->q<=prime):
  ∃X:Nat,(X:Int)∣N/\2^(19*(bad+1))<=X/\∀q:Nat,Om.cF q->q∣X->q<=p:=by
 obtain⟨X,h1,h2,h3⟩:=h;refine⟨X*p,?_,?_,λq hq hd=>?_⟩
 .have:=NS (M:=(X:Int)) hp (λz=>by have:=h3 p hp (Cm.mp z);omega) h1 hN
  rwa [afJ]
 .rw[yC,Nat.pow_add];exact gU h2 hbig
 .rcases hq.dvd hd with z|z
  .have:=h3 q hq z;omega
  .exact pI ⋯ z
def jW.stay{P g told s:List Int}{N M:Int}{prime p bad good:Nat}{ripe:Bool}(h:jW P g N told M prime ripe bad good)(hp:Om.cF p)(hlt:prime<p)(hbig:2^19<=p)(hs:Seen g N p s)(hl:told.length<s.length):jW P g N told M p ripe (bad+1) good:=by
 have hN:(p:Int)∣N:=uW λz=>by have:=hs.good z;have:=h.ge;omega
 exact⟨h.mon,h.ge,h.le,h.pos,λq hq hd=>by have:=h.div q hq hd;omega,h.Qi,h.near,SM hp hlt hbig hN h.AJ,h.BH,h.aeA,agb h.hi (by
  have:(2:Nat)^(21*(bad+good))<=2^(21*(bad+1+good)):=wj ∅ ⋯
  exact_mod_cast this),h.first⟩
def jW.anew{P g told s:List Int}{N M:Int}{prime p bad good:Nat}{ripe:Bool}(h:jW P g N told M prime ripe bad good)(hp:Om.cF p)(hlt:prime<p)(hbig:2^19<=p)(hhi:p<=2^21)(hs:Seen g N p s)(hl:s.length<told.length):
  ∃qG pY,qG+pY=bad+good+1/\jW P g N (s.map (nr p)) p p true qG pY:=by
 have hp2:=hp.1;have hg0:good=0:=by
  by_cases c:good=0
  .exact c
  .have:=(h.BH ⋯).1;have:=hs.ge;omega
 have hle:=h.le;have hsp:=hs.mon.pos;have hpp:(2:Int)<=p:=⋯;have hc:∀k,co (s.map (nr p)) k=nr p (co s k):=λk=>lN (by unfold nr;rw[K4];split<;>omega) s k;have hm:Mon (s.map (nr p)):=⟨by rw[aB];exact hsp,by rw[aB,hc,hs.mon.one];exact aiW hpp ⟨0,by rw[aP];rfl⟩⟩;have zV:(s.map (nr p)).length=g.length->∀k,(p:Int)∣co (s.map (nr p)) k-co g k:=λe k=>by
  rw[hc];have:=sI (HB p (co s k)) (hs.eq (by rwa [aB]at e) k)
  rwa [show nr p (co s k)-co s k+(co s k-co g k)=nr p (co s k)-co g k by omega]at this
 have hnear:(p:Int)≠1->∀k,Nr p (co (s.map (nr p)) k):=λ_ k=>by rw[hc];exact QB ⋯ _
 have hdiv:∀q:Nat,Om.cF q->(q:Int)∣p->q<=p:=λq _ hd=>pI ⋯ (Cm.mp hd);by_cases c:s.length=g.length
 .refine⟨bad,1,⋯,hm,by rw[aB];exact hs.ge,by rw[aB];omega,⋯,hdiv,zV,hnear,?_,λ_=>⟨by rw[aB];exact c,by exact_mod_cast hbig⟩,λz=>absurd z ∅,?_,λz=>⋯⟩
  .obtain⟨X,h1,h2,h3⟩:=h.AJ;exact⟨X,h1,h2,λq hq hd=>by have:=h3 q hq hd;omega⟩
  .have:(2:Nat)^21<=2^(21*(bad+1)):=wj ∅ ⋯
   exact_mod_cast fY hhi this
 .have hN:(p:Int)∣N:=uW λz=>c (hs.good z);refine⟨bad+1,0,⋯,hm,by rw[aB];exact hs.ge,by rw[aB];omega,⋯,hdiv,zV,hnear,SM hp hlt hbig hN h.AJ,λz=>absurd z ∅,λz=>absurd z ∅,?_,λz=>⋯⟩;have:(2:Nat)^21<=2^(21*(bad+1+0)):=wj ∅ ⋯
  exact_mod_cast fY hhi this
def jW.join{P g told s jt:List Int}{N M:Int}{prime p bad good:Nat}{ripe Vk:Bool}(h:jW P g N told M prime ripe bad good)(hp:Om.cF p)(hlt:prime<p)(hbig:2^19<=p)(hhi:p<=2^21)(hs:Seen g N p s)(hl:s.length=told.length)
  (hl':jt.length=told.length) (ht:∀k,k<told.length->∃w:Int,(p:Int)∣M*w-(co s k-co told k)/\co jt k=nr (M*p) (co told k+M*w)) (hr:Vk=true↔jt=told):
  ∃qG pY,qG+pY=bad+good+1/\jW P g N jt (M*p) p Vk qG pY:=by
 have hp2:=hp.1;have hM:=h.pos;have yc:¬(p:Int)∣M:=λz=>by have:=h.div p hp z;omega
 have hpp:(2:Int)<=p:=⋯;have hMp:(2:Int)<=M*p:=by
  have:1*(2:Int)<=M*p:=Jv ⋯ hpp ∅ ⋯;omega
 have hle:=h.le;have hge:=h.ge;have htp:=h.mon.pos;have a1:∀k,M∣co jt k-co told k:=λk=>by
  by_cases c:k<told.length
  .obtain⟨w,_,e⟩:=ht k c;rw[e];have e1:M∣nr (M*p) (co told k+M*w)-(co told k+M*w):=Ca (Di M p) (HB _ _);have e2:M∣M*w:=Di ..;have:=sI e1 e2
   rwa [show nr (M * ↑p) (co told k+M*w)-(co told k+M*w)+M*w=nr (M * ↑p) (co told k+M*w)-co told k by omega]at this
  .rw[aX ⋯,aX ⋯];exact⟨0,by rw[aP];rfl⟩
 have a2:∀k,(p:Int)∣co jt k-co s k:=λk=>by
  by_cases c:k<told.length
  .obtain⟨w,h1,e⟩:=ht k c;rw[e];have e1:(p:Int)∣nr (M*p) (co told k+M*w)-(co told k+M*w):=Ca (Yd M p) (HB _ _);have:=sI e1 h1
   rwa [show nr (M * ↑p) (co told k+M*w)-(co told k+M*w)+(M*w-(co s k-co told k))=nr (M * ↑p) (co told k+M*w)-co s k by omega]at this
  .rw[aX ⋯,aX ⋯];exact⟨0,by rw[aP];rfl⟩
 have hnear:M*p≠1->∀k,Nr (M*p) (co jt k):=λ_ k=>by
  by_cases c:k<told.length
  .obtain⟨w,_,e⟩:=ht k c;rw[e];exact QB ⋯ _
  .rw[aX ⋯];unfold Nr;omega
 have ai0:co jt (jt.length-1)=1:=by
  rw[hl'];refine Nr.eq (M:=M*p) ⋯ (hnear ⋯ _) (by unfold Nr;omega) (NS hp yc ?_ ?_)
  .have:=a1 (told.length-1)
   rwa [h.mon.one]at this
  .have:=a2 (told.length-1);have e:=hs.mon.one;rw[hl]at e
   rwa [e]at this
 have hm:Mon jt:=⟨⋯,ai0⟩;have hdiv:∀q:Nat,Om.cF q->(q:Int)∣M*p->q<=p:=λq hq hd=>by
  rcases GP hq hd with z|z
  .have:=h.div q hq z;omega
  .exact pI ⋯ (Cm.mp z)
 have zV:jt.length=g.length->∀k,M*p∣co jt k-co g k:=λe k=>by
  refine NS hp yc ?_ ?_
  .have:=sI (a1 k) (h.Qi ⋯ k)
   rwa [show co jt k-co told k+(co told k-co g k)=co jt k-co g k by omega]at this
  .have:=sI (a2 k) (hs.eq ⋯ k)
   rwa [show co jt k-co s k+(co s k-co g k)=co jt k-co g k by omega]at this
 have hhi':∀x,x=bad+good+1->M*p<=2^(21*x):=λx hx=>by
  rw[hx,show 21*(bad+good+1)=21*(bad+good)+21 by omega,EG];exact Jv h.hi (by exact_mod_cast hhi) ⋯ (Int.le_of_lt (Int.pow_pos ∅))
 by_cases c:s.length=g.length
 .refine⟨bad,good+1,⋯,hm,⋯,⋯,⋯,hdiv,zV,hnear,?_,λ_=>⟨⋯,?_⟩,λh2 hb=>?_,hhi' _ ⋯,λz=>⋯⟩
  .obtain⟨X,h1,h2,h3⟩:=h.AJ;exact⟨X,h1,h2,λq hq hd=>by have:=h3 q hq hd;omega⟩
  .rw[show 19*(good+1)=19*good+19 by omega,EG];refine Jv ?_ (by exact_mod_cast hbig) ∅ ⋯;by_cases c0:good=0
   .rw[c0];show(1:Int)<=M;omega
   .exact(h.BH ⋯).2
  .rw[fU]at hb;have hgo:=h.BH ⋯;have KZ:M≠1:=λz=>by
    rw[z]at hgo;have h3:=hgo.2;have:(2:Int)^(19*1)<=2^(19*good):=by exact_mod_cast wj (n:=2) ∅ (show 19*1<=19*good by omega)
    have:(2:Int)^(19*1)=524288:=∅;omega
   have gn:∀k,Nr M (co g k):=λk=>by
    have h3:=hb k;have h4:=hgo.2;have h5:((2*(co g k).natAbs:Nat):Int)<M:=Int.lt_of_lt_of_le (by exact_mod_cast h3) h4;unfold Nr;omega
   have et:told=g:=vq hgo.1 λk=>(h.near KZ k).eq hM (gn k) (h.Qi hgo.1 k);have gn':∀k,Nr (M*p) (co g k):=λk=>by
    have h3:=gn k;unfold Nr at h3⊢;have:M*1<=M*p:=G4 ⋯ ⋯;omega
   have et':jt=g:=vq ⋯ λk=>(hnear ⋯ k).eq ⋯ (gn' k) (zV ⋯ k);exact⟨hr.mpr (by rw[et',et]),et'⟩
 .have hN:(p:Int)∣N:=uW λz=>c (hs.good z);have hg0:good=0:=by
   by_cases c0:good=0
   .exact c0
   .have:=(h.BH ⋯).1;omega
  subst hg0;exact⟨bad+1,0,⋯,hm,⋯,⋯,⋯,hdiv,zV,hnear,SM hp hlt hbig hN h.AJ,λz=>absurd z ∅,λz=>absurd z ∅,hhi' _ ⋯,λz=>⋯⟩
def jW.few{P g told:List Int}{N M:Int}{prime bad good U V:Nat}{ripe:Bool}(h:jW P g N told M prime ripe bad good)(hN:N≠0)(hV:Bd V N)(hU:∀k,Bd U (co g k))(hne:¬(ripe=true/\told=g)):19*(bad+good)<=V+U+38:=by
 obtain⟨X,h1,h2,_⟩:=h.AJ;have b1:19*bad<=V:=by
  have h3:=pI ⋯ (D8.mp h1);have h4:2^(19*bad)<2^V:=qw (fY h2 h3) hV;have:=(aeO (∅:1<2)).mp h4;omega
 have b2:19*good<=U+38:=by
  by_cases c:2<=good
  .by_cases d:∀k,2*(co g k).natAbs<2^(19*(good-1))
   .exact absurd (h.aeA c d) hne
   .obtain⟨k,hk⟩:=Eh.mp d;have h3:(co g k).natAbs<2^U:=hU k;have h4:2^(19*(good-1))<2^(U+1):=by rw[wH];omega
    have:=(aeO (∅:1<2)).mp h4;omega
  .omega
 omega
end Pm
namespace Om
def Ol{n:Nat}(h2:2<=n)(h:∀d,2<=d->d*d<=n->¬d∣n):cF n:=⟨h2,λd hd=>by
 by_cases c1:d=1
 .exact .inl c1
 by_cases c2:d=n
 .exact .inr c2
 exfalso
 obtain⟨e,he⟩:=hd;have d0:d≠0:=λz=>by rw[z,OD]at he;omega
 have e0:e≠0:=λz=>by rw[z,Tn]at he;omega
 have e1:e≠1:=λz=>by rw[z,DB]at he;omega
 by_cases c:d<=e
 .exact h d ⋯ (by rw[he];exact v8 d c) ⟨e,he⟩
 .exact h e ⋯ (by rw[he];exact qe e ⋯) ⟨d,by rw[he,pU]⟩⟩
def avG{n d:Nat}(h2:2<=d)(h:d*d<=n)(hd:d∣n):¬cF n:=λhp=>by
 have:d*2<=d*d:=v8 d h2;rcases hp.2 d hd with e|e<;>omega
def PR:Nat:=43571519119201362812999826845982751305620981793717429470673603275936152927709399635933610669671466973821241878720715105717436485894379942430461626673440299163796924436746229228614460476842261843714753967609841797025310982960825865753598345091694825344721438391478216968398650913464229700972723456395252658036295111351718208197542229884535562911430701228833268752819967566938433518416018400115565501955319083147587583881953995536441781216694995306260888155507575210
def at9:∀d,d<1100->2<=d->j7 d PR≠1:=by decide +kernel
def aw0{n:Nat}(h2:2<=n)(hn:n<1210000)(h:j7 n PR=1):cF n:=Ol h2 λd hd hdd hdv=>by
 by_cases c:d<1100
 .refine at9 d c hd ?_;have:j7 d PR∣j7 n PR:=Nat.dvd_gcd (Bq (Ro ..) hdv) (RQ ..);rw[h]at this;exact Nat.dvd_one.mp this
 .have:1100*1100<=d*d:=gU ⋯ ⋯;omega
def Mu:Nat->Nat->List Nat
 |0,_=>[]
 |k+1,n=>2*(n%64)::Mu k (n/64)
def steps:List Nat:=3::([0x20750130318504818904528504f0c23d908c0421c30c218714c28518120a0892411830c218610918224954108f,0x4908d14c10620a1460431880ca08114418618f24b0c70870cf2070810c63870831c2244093141189381141252,0x4504205514d0811431d224b0432c61051030861903830423030c42e41051810c21d42853421c528510e0c90c6,0xc24c528804b0d50460870c32040c204f0841851c204818904308f3433024831083420c31050c31c50c90cc348,0x811441532c13c81030830c40892476020c11441940cd1530cf2031c818108114118f2060c72540436842c10c3,0x9892460420c74850c11410da40314714d24320408418e3c45031c50c40d41865432822413861c308a0e00c7189,0x2413063811473051871490451c22490461491c228324e0450c310320d24504c0cb0c12c41850c32830875c310f,0x4c0c51810812c10812c61c21020c604c0860c10c50421c540230d2070872462c32413990c37855442c1207083].flatMap (Mu 60)++Mu 19 0x708a08a0cc1821890c72c10cb114)
def Ey:Nat->List Nat->Bool
 |_,[]=>true
 |c,d::r=>match decide (0<d)&&(decide (c+d<1210000)&&J9 (j7 (c+d) PR) 1)with
  |true=>Ey (c+d) r
  |false=>false
def auu:Ey 1000000 steps=true:=by decide +kernel
def avW:steps.length=500:=by decide +kernel
inductive Many:Nat->Nat->Prop
 |none (c:Nat):Many 0 c
 |more {k c q:Nat}:cF q->c<q->q<1210000->Many k q->Many (k+1) c
theorem ZP:∀(l:List Nat) (c:Nat),2<=c->Ey c l=true->Many l.length c
 |[],c,_,_=> .none c
 |d::r,c,h2,h=>by
  rw[Ey]at h;split at h
  .rename_i e
   obtain⟨e1,e2⟩:=HZ.mp e;obtain⟨e2,e3⟩:=HZ.mp e2;have h1:=of_decide_eq_true e1;have h3:=of_decide_eq_true e2;exact .more (aw0 ⋯ h3 (U9 e3)) ⋯ h3 (ZP r (c+d) ⋯ h)
  .exact absurd h ∅
def many:Many 500 1000000:=by
 have:=ZP steps 1000000 ∅ auu
 rwa [avW]at this
def Many.down{k c c':Nat}(h:Many k c)(hc:c'<=c):Many k c':=by
 cases h with
 |none=>exact .none _
 |more h1 h2 h3 h4=>exact .more h1 ⋯ h3 h4
def Many.next{k c:Nat}(h:Many (k+1) c):∃q,cF q/\c<q/\q<1210000/\∀p,p<=q->Many k p:=by
 cases h with
 |more h1 h2 h3 h4=>exact⟨_,h1,h2,h3,λp hp=>h4.down hp⟩
def cF.D4{p:Nat}{a:Int}(h:cF p)(h0:0<a)(ha:a<(p:Int)):a^(p-1)%(p:Int)=1:=by
 obtain⟨n,rfl⟩:∃n:Nat,a=(n:Int):=⟨a.toNat,⋯⟩;have:=h.arZ (a:=n) ⋯ ⋯;have e:((n^(p-1)%p:Nat):Int)=((1:Nat):Int):=by rw[this]
 rw[Cw,aaX]at e;exact e
end Om
namespace Pm
open Rm
def aum{P:Nat}(hP:Om.cF P){p:List Int}(hp:Py P p)(hn:p≠[]):vQ P p (uc P p):=by
 have h2:=hP.1;have hpos:0<p.length:=Aa.mpr hn;have u5:(P:Int)≠0:=⋯;have ji:∀n,tk (P:Int) n=n%(P:Int):=λn=>jY u5 n;have l0:=rm hn hp.tr;have l1:=hp.co (p.length-1);rw[ji]at l1;have r0:0<=co p (p.length-1):=by rw[<-l1];exact rY _ u5
 have r1:co p (p.length-1)<(P:Int):=by rw[<-l1];exact rK _ ⋯
 generalize hl:co p (p.length-1)=a at l0 r0 r1;have hinv:(a^(P-2)*a)%(P:Int)=1:=by
  rw[<-jj,show(P-2).succ=P-1 by omega];exact hP.D4 ⋯ r1
 have e:∀k,co (uc P p) k=co p k*a^(P-2)%(P:Int):=λk=>by
  rw[uc,lN (by simp),hl]
 have len:(uc P p).length=p.length:=by rw[uc,aB]
 have top:co (uc P p) ((uc P p).length-1)=1:=by
  rw[len,e,hl,cA];exact hinv
 have hm:uc P p≠[]:=λz=>by rw[z]at len;simp at len;omega
 refine⟨⟨vR hm (by rw[top];decide),λx hx=>?_⟩,len,λ_=>⟨⋯,top⟩,⟨a^(P-2),λk=>?_⟩,⟨a,λk=>?_⟩⟩
 .obtain⟨y,_,rfl⟩:=bZ.mp hx;rw[ji];exact nO _ (nZ _)
 .rw[e,ji,ji,nO _ (nZ _),cA]
 .rw[e,ji,ji,mD a,nO _ (nZ _),<-mD,fj a,cA a,mD,hinv];rw[jr,nO _ (nZ _)]
def axf{P:Nat}(hP:Om.cF P){one other:Int}(h0:0<other)(h:other<(P:Int)):(P:Int)∣other*(one*other^(P-2)%(P:Int))-one:=by
 have h2:=hP.1;have hinv:(other^(P-2)*other)%(P:Int)=1:=by
  rw[<-jj,show(P-2).succ=P-1 by omega];exact hP.D4 h0 h
 have h1:(1:Int)%(P:Int)=1:=Cv ∅ ⋯;refine DX (Int.emod_eq_emod_iff_emod_sub_eq_zero.mp ?_);rw[mD,nO _ (nZ _),<-mD,fj,cA other,mD,hinv,jr,nO _ (nZ _)]
def apE{b f:Int}{s t:Nat}{l m:List Int}{u v:Nat}(hb:0<=b)(hb1:b<2097152)(hu:21<=u)(hf:Bd u f)(hl:∀k,Bd u (co l k))(hm:∀x∈m,Bd v x)(k:Nat):Bd (u+v+1) (lf b f s t l m k):=by
 unfold lf;split
 .refine qg hb ((Bd.of (n:=21) ⋯ ⋯).mono ⋯) ?_;rw[Nx];refine Bd.add ((hl k).mono ⋯) ?_;have:=hf.mul (jC hm (k-s));unfold Bd at this⊢;rw[za];exact this
 .exact(hl k).mono ⋯
def jw(M t:Int)(p:Nat)(s:Int):Int:=(tk p (s-t))*(tk p M)^(p-2)%(p:Int)
def jn(M t:Int)(p:Nat)(s:Int):Int:=nr (M*p) (t+M*jw M t p s)
def asI{M t s:Int}{p:Nat}(hp:Om.cF p)(hM:¬(p:Int)∣M):(p:Int)∣M*jw M t p s-(s-t):=by
 have h2:=hp.1;have hp0:(p:Int)≠0:=⋯;have r0:=rY M hp0;have r1:=rK M (show(0:Int)<p by omega);have rn:M%(p:Int)≠0:=λz=>hM (DX z);have h:=axf hp (one:=tk p (s-t)) (other:=M%(p:Int)) ⋯ r1;unfold jw;rw[jY hp0 M];generalize tk (p:Int) (s-t)*(M%(p:Int))^(p-2)%(p:Int)=w at h;rw[jY hp0]at h;have e1:(p:Int)∣M*w-M%(p:Int)*w:=by
  rw[<-wC];exact Ca (Yv) (Di ..)
 have e2:(p:Int)∣(s-t)%(p:Int)-(s-t):=by
  have:(p:Int)∣(s-t)-(s-t)%(p:Int):=Yv;have:=Int.dvd_neg.mpr this
  rwa [Int.neg_sub]at this
 have:=sI (sI e1 h) e2
 rwa [show M*w-M%(p:Int)*w+(M%(p:Int)*w-(s-t)%(p:Int))+((s-t)%(p:Int)-(s-t))=M*w-(s-t)by omega]at this
def ao3{M t s:Int}{p:Nat}(hp:Om.cF p):0<=jw M t p s/\jw M t p s<p:=by
 have h2:=hp.1;exact⟨rY _ ⋯,rK _ ⋯⟩
def Div.dv{b:Int}{P M q r:List Int}(h:Div b P M q r)(hM:Mon M):r=[]↔Dv b M (co P):=by
 constructor
 .rintro rfl;exact⟨co q,q.length,Fs.co q,λk=>by rw[<-h.eq k,fR,dj]⟩
 .intro d;have e:Dv b M (co r):=(d.sub (Dv.self (b:=b) (m:=M) (Fs.co q))).congr λk=>by
   have e1:tk b (co P k + -cv (co q) (co M) k)=tk b ((cv (co q) (co M) k+co r k) + -cv (co q) (co M) k):=jy (h.eq k).symm rfl;rw[show co P k-cv (co q) (co M) k=co P k + -cv (co q) (co M) k by omega,e1];exact congrArg (tk b) ⋯
  have z:=e.short hM ((Fs.co r).mono (by have:=h.short;omega));rw[<-h.ry.tr];exact Hz.mpr λk=>by rw[<-h.ry.co k];exact z k
end Pm
namespace Pm
open Rm Dm
def abd{n:Nat}{x:Int}(h:Bd n x):Bd n (-x):=by unfold Bd at h ⊢;rw[za];exact h
def ajm{P L g:List Int}(hL:Mon L)(e:∀k,co P k=cv (co L) (co g) k){u B:Nat}(hu:∀k,Bd u (co P k))(hB:∀k,Bd B (co L k)):∀d j,g.length<=j+d->Bd (u+d*(B+L.length+1)) (co g j):=λd=>by
 have hp:=hL.pos;induction d with
 |zero=>intro j hj;rw[aX ⋯];exact Bd.zero _
 |succ d ih=>
  intro j hj;obtain⟨l,hl⟩:∃l,L.length=l+1:=⟨L.length-1,⋯⟩;have h1:=hL.one;rw[hl,fU]at h1;have q:=e (j+l);rw[fV,mU (m:=l+1) ⋯ λi h2 _=>by rw[aX (p:=L) ⋯,gh],sm,h1,iG,fU]at q;have q2:co g j=co P (j+l) + -(sm l λi=>co L i*co g (j+l-i)):=⋯;rw[q2];have b1:Bd (B+(u+d*(B+L.length+1))+l) (sm l λi=>co L i*co g (j+l-i)):=yE l λi hi=>(hB i).mul (ih (j+l-i) ⋯);have hx:(d+1)*(B+L.length+1)=d*(B+L.length+1)+(B+L.length+1):=tY ..;refine(Bd.add (n:=B+(u+d*(B+L.length+1))+l) ((hu _).mono ⋯) (abd b1)).mono ⋯
end Pm
namespace Pm
open Rm Dm
def atk{f:Nat->Int}{n:Nat}(h:Fs f n):∃S:List Int,∀k,co S k=f k:=⟨aM n f,λk=>by
 rw[cY];by_cases c:k<n
 .rw[if_pos c]
 .rw[if_neg c,h k ⋯]⟩
end Pm
namespace Pm
open Rm
def ev(p:List Int)(x:Int):Int:=sm p.length λk=>co p k*x^k
def lH{p:List Int}{n:Nat}(h:p.length<=n)(x:Int):sm n (λk=>co p k*x^k)=ev p x:=
 mU h λk h1 _=>by rw[aX h1,gh]
def acQ(x:Int):ev [] x=0:=rfl
def abW(c x:Int):ev [c] x=c:=by
 show 0+co [c] 0*x^0=c;rw[fQ,tK,jr,ig]
abbrev lin(r:Int):List Int:=[0-r,1]
def Mv(r:Int):Mon (lin r):=⟨by show 0<2;decide,rfl⟩
def KP(f:Nat->Int)(r:Int):∀k,cv f (co (lin r)) k=(if k=0 then 0 else f (k-1))-r*f k:=λk=>by
 rw[fV];cases k with
 |zero=>
  show 0+f 0*co (lin r) 0=_;rw[if_pos rfl,fQ,ig,iH,aP,cA]
 |succ k=>
  rw[if_neg (acY _),fU];rw[sm,rT,sm,show k+1-k=1 by omega];rw[jh λj hj=>by rw[aX (p:=lin r) (show 2<=k+1-j by omega),aP]];rw[fQ,jz,fQ,jr,ig,iH,aP,mR,cA (f (k+1))];rfl
def ad1(f:Nat->Int)(x:Int):∀n,sm (n+1) (λk=>(if k=0 then 0 else f (k-1))*x^k)=x*sm n λk=>f k*x^k:=λn=>by
 rw[oU,if_pos rfl,gh,ig,<-dD];refine aR λk _=>?_;rw[if_neg (acY _),fU,jj,cA (x^k) x,<-bU,<-bU,cA (f k) x]
theorem Div.ev{p q l:List Int}{r:Int}(h:Div 0 p (lin r) q l)(x:Int):Pm.ev p x=(x-r)*Pm.ev q x+Pm.ev l x:=by
 obtain⟨n,h1,h2,h3⟩:∃n,p.length<=n+1/\q.length<=n/\l.length<=n+1:=⟨p.length+q.length+l.length,⋯,⋯,⋯⟩;rw[<-lH h1 x,<-lH h2 x,<-lH h3 x];have e:∀k,co p k=(if k=0 then 0 else co q (k-1))-r*co q k+co l k:=λk=>by
  have:=h.eq k;rw[aY,aY,KP]at this;exact this.symm
 rw[aR (g:=λk=>(if k=0 then 0 else co q (k-1))*x^k+(-r*(co q k*x^k)+co l k*x^k)) λk _=>?_,iM,iM,ad1,dD]
 .have e2:sm (n+1) (λk=>co q k*x^k)=sm n λk=>co q k*x^k:=by
   rw[sm,aX h2,gh,dj]
  rw[e2,wC,gM];omega
 .rw[e k,rZ,wC,gM,bU];omega
def apH{p:List Int}{r:Int}{j:Nat}(hj:∀k,k<j->co p k=0)(h:ev p r=0)(hr:r≠0):r∣co p j:=by
 by_cases c:j<p.length
 .obtain⟨d,hd⟩:∃d,p.length=j+1+d:=⟨p.length-(j+1),⋯⟩;have split:∀d,sm (j+1+d) (λk=>co p k*r^k)=r^j*(co p j+r*sm d λi=>co p (j+1+i)*r^i):=λd=>by
   induction d with
   |zero=>
    have z:sm j (λk=>co p k*r^k)=0:=jh λk hk=>by rw[hj k hk,gh]
    show sm j (λk=>co p k*r^k)+co p j*r^j=r^j*(co p j+r*0);rw[z,ig,aP,dj,cA]
   |succ d ih=>
    show sm (j+1+d) _+co p (j+1+d)*r^(j+1+d)=_;rw[ih,sm,show j+1+d=j+(1+d)by omega,EG,EG,Int.pow_one];simp only[f9,bU,cA,fj,Ie]
  unfold ev at h;rw[hd,split d]at h;rcases kZ.mp h with z|z
  .exact absurd z (Int.pow_ne_zero hr)
  .exact⟨-(sm d λi=>co p (j+1+i)*r^i),by rw[qp];omega⟩
 .rw[aX ⋯];exact ae1 r
inductive Rep(r:Int):Nat->List Int->List Int->Prop
 |zero (q:List Int):Rep r 0 q q
 |succ {m:Nat} {p p' q:List Int}:Div 0 p (lin r) p' []->Rep r m p' q->Rep r (m+1) p q
theorem Rep.ev{r:Int}{m:Nat}{p q:List Int}(h:Rep r m p q)(x:Int):Pm.ev p x=(x-r)^m*Pm.ev q x:=by
 induction h with
 |zero q=>rw[tK,iG]
 |succ d _ ih=>
  rw[d.ev x,ih,acQ,dj,jj,cA ((x-r)^_) (x-r),bU]
def dh(r:Int):Nat->List Int->List Int
 |0,q=>q
 |m+1,q=>mul 0 (dh r m q) (lin r)
def RP:List (Int×Nat)->List Int->List Int
 |[],R=>R
 |(r,m)::t,R=>dh r m (RP t R)
def acJ{r:Int}{q:List Int}(h:Py 0 q):∀m,Py 0 (dh r m q)
 |0=>h
 |_+1=>qH ..
theorem Zz{R:List Int}(h:Py 0 R):∀l,Py 0 (RP l R)
 |[]=>h
 |(_,m)::t=>acJ (Zz h t) m
theorem Div.lin{q:List Int}(r:Int)(hq:Py 0 q):Div 0 (mul 0 q (Pm.lin r)) (Pm.lin r) q []:=
 ⟨hq,Py.nil 0,by show 0<2;decide,λk=>by rw[fR,dj,jP,aY,aY]⟩
theorem aax{r:Int}{q:List Int}(h:Py 0 q):∀m,Rep r m (dh r m q) q
 |0=> .zero q
 |m+1=> .succ (Div.lin r (acJ h m)) (aax h m)
inductive Scan:List Int->List Int->List (Int×Nat)->List Int->Prop
 |nil (p:List Int):Scan [] p [] p
 |hit {c:Int} {cs p q:List Int} {m:Nat} {l:List (Int×Nat)} {R:List Int}:Rep c (m+1) p q->ev q c≠0->Scan cs q l R->Scan (c::cs) p ((c,m+1)::l) R
 |miss {c:Int} {cs p:List Int} {l:List (Int×Nat)} {R:List Int}:ev p c≠0->Scan cs p l R->Scan (c::cs) p l R
theorem Rep.back{r:Int}{m:Nat}{p q:List Int}(h:Rep r m p q)(hp:Py 0 p):p=dh r m q/\Py 0 q:=by
 induction h with
 |zero q=>exact⟨rfl,hp⟩
 |@succ m p p' q d _ ih=>
  obtain⟨e1,e2⟩:=ih d.qy;refine⟨?_,e2⟩;have b:=d.back hp;rw[add_comm,nil_add (qH ..)]at b;rw[<-b,e1];rfl
theorem Ej{R:List Int}(h:Py 0 R){x:Int}(e:ev R x=0):∀l,ev (RP l R) x=0
 |[]=>e
 |(r,m)::t=>by
  have q:=(aax (r:=r) (Zz h t) m).ev x;rw[Ej h e t,aP]at q;exact q
theorem Scan.back{cs p:List Int}{l:List (Int×Nat)}{R:List Int}(h:Scan cs p l R):Py 0 p->p=RP l R/\Py 0 R/\(∀c∈cs,ev R c≠0)/\(l.map (·.1)).Sublist cs/\∀x∈l,0<x.2:=by
 induction h with
 |nil p=>intro hp;exact⟨rfl,hp,(λc hc=>(by cases hc)),ax7,(λx hx=>(by cases hx))⟩
 |@hit c cs p q m l R hr hq _ ih=>
  intro hp;obtain⟨e1,e2⟩:=hr.back hp;obtain⟨i1,i2,i3,i4,i5⟩:=ih e2;refine⟨by rw[e1,i1];rfl,i2,λd hd=>?_,i4.cons_cons c,λx hx=>?_⟩
  .rcases bN.mp hd with rfl|hd
   .intro z;exact hq (by rw[i1];exact Ej i2 z l)
   .exact i3 d hd
  .rcases bN.mp hx with rfl|hx
   .exact Nat.succ_pos _
   .exact i5 x hx
 |@miss c cs p l R hn _ ih=>
  intro hp;obtain⟨i1,i2,i3,i4,i5⟩:=ih hp;refine⟨i1,i2,λd hd=>?_,i4.cons c,i5⟩;rcases bN.mp hd with rfl|hd
  .intro z;exact hn (by rw[i1];exact Ej i2 z l)
  .exact i3 d hd
end Pm
namespace Pm
open Rm
def Oh(a:Int)(p:List Int)(x:Int):ev (a::p) x=a+x*ev p x:=by
 rw[<-lH (p:=a::p) (n:=p.length+1) (aN _) x,oU,fQ,tK,jr,<-lH (p:=p) (aN _) x,<-dD];congr 1;refine aR λk _=>?_;rw[jz,jj,cA (x^k) x,<-bU,<-bU,cA (co p k) x]
theorem V1(x:Int)(g:List Int):∀(L P:List Int),(∀k,co P k=cv (co L) (co g) k)->ev P x=ev L x*ev g x
 |[],P,h=>by
  rw[acQ,gh];unfold ev;exact jh λk _=>by rw[h,j5 (λi _=> .inl (fR i)),gh]
 |a::L,P,h=>by
  obtain⟨Q,hQ⟩:∃Q:List Int,∀k,co Q k=cv (co L) (co g) k:=atk ((Fs.co L).cv (Fs.co g));have ih:=V1 x g L Q hQ;obtain⟨n,h1,h2,h3⟩:∃n,P.length<=n+1/\Q.length<=n/\g.length<=n+1:=⟨P.length+Q.length+g.length,⋯,⋯,⋯⟩;have e:∀k,co P k=a*co g k+(if k=0 then 0 else co Q (k-1)):=λk=>by
   rw[h,aaF];split
   .rfl
   .rw[hQ]
  rw[Oh,<-lH h1 x,aR (g:=λk=>a*(co g k*x^k)+(if k=0 then 0 else co Q (k-1))*x^k) λk _=>by rw[e k,rZ,bU],iM,dD,ad1,lH h3,lH h2,ih,rZ,bU]
def axR{P:List Int}{a:Nat->Int}(hP:Mon P)(hK:Kp 0 P a){d u ua B U:Nat}(hS:∃Q0,Mon Q0/\Kp 0 Q0 a/\Q0.length<=d+1)(ha:∀n,n<=2*d->Bd ua (a n))(hu:∀k,Bd u (co P k))
  (hB:∀L,Mon L->Kp 0 L a->(∀q,Kp 0 q a->Dv 0 L (co q))->∀k,Bd B (co L k)) (hU:u+P.length*(B+d+2)<=U):
  ∃g L N,Mon L/\Py 0 L/\Kp 0 L a/\(∀q,Kp 0 q a->Dv 0 L (co q))/\L.length+g.length=P.length+1/\(∀k,co P k=cv (co L) (co g) k)/\uE P (tp P a) g N/\Bd (d*(ua+d)+1) N/\∀k,Bd U (co g k):=by
 obtain⟨g,L,hL,Dz,hKL,hall,hlen,hE,G⟩:=akS hP hK;obtain⟨Q0,hQ,hKQ,hQl⟩:=hS;have U7:=hL.pos;have hl:L.length<=d+1:=fY ((hall Q0 hKQ).len rfl hL hQ) hQl;have hm:(L.length-1)*(ua+(L.length-1))+1<=d*(ua+d)+1:=by
  have:=gU (show L.length-1<=d by omega) (show ua+(L.length-1)<=ua+d by omega);omega
 refine⟨g,L,_,hL,Dz,hKL,hall,hlen,hE,G,?_,λk=>?_⟩
 .exact(Dm.AX (u:=ua) λi j hi hj=>ha _ ⋯).mono hm
 .refine(ajm hL hE hu (hB L hL hKL hall) g.length k ⋯).mono (fY ?_ hU);have:=gU (show g.length<=P.length by omega) (show B+L.length+1<=B+d+2 by omega);omega
end Pm
namespace Lm
def dg(g:Nat):List Int->Nat
 |[]=>g
 |t::ts=>dg (j7 g t.natAbs) ts
def Wl(g:Nat)(ts:List Int)(t:Int):dg g (ts++[t])=j7 (dg g ts) t.natAbs:=by
 induction ts generalizing g with
 |nil=>rfl
 |cons s ts ih=>exact ih _
def AZ(g:Nat)(ts:List Int):dg g ts∣g:=by
 induction ts generalizing g with
 |nil=>exact aeh _
 |cons s ts ih=>exact Bq (ih _) (Ro ..)
def Qx(g:Nat)(ts:List Int):∀t∈ts,(dg g ts:Int)∣t:=by
 induction ts generalizing g with
 |nil=>intro t h;cases h
 |cons s ts ih=>
  intro t h;rcases bN.mp h with rfl|h
  .exact ML.mpr (Bq (AZ _ ts) (RQ ..))
  .exact ih _ t h
def Hh{g:Nat}(h:0<g)(ts:List Int):0<dg g ts:=Nat.pos_of_dvd_of_pos (AZ g ts) h
def HX(c g:Nat)(ts:List Int):dg (c*g) (ts.map λt=>(c:Int)*t)=c*dg g ts:=by
 induction ts generalizing g with
 |nil=>rfl
 |cons s ts ih=>
  show dg (j7 (c*g) ((c:Int)*s).natAbs) _=_;rw[jT,uU,Nat.gcd_mul_left];exact ih _
def aiw{ts ts':List Int}(g:Nat)(h:ts.map C8=ts'.map C8):dg g ts=dg g ts':=by
 induction ts generalizing g ts' with
 |nil=>cases ts' with
  |nil=>rfl
  |cons s r=>cases h
 |cons s ts ih=>cases ts' with
  |nil=>cases h
  |cons s' r=>
   rw[bG,bG]at h;injection h with h1 h2;show dg (j7 g s.natAbs) ts=dg (j7 g s'.natAbs) r;rw[h1];exact ih _ h2
def low(a:Int)(ts:List Int):Int:=if a<0 then 0-(dg a.natAbs ts:Int)else(dg a.natAbs ts:Int)
def low_ne{a:Int}(h:a≠0)(ts:List Int):low a ts≠0:=by
 have:=Hh (g:=a.natAbs) ⋯ ts;unfold low;split<;>omega
def WZ(a:Int)(ts:List Int):low a ts∣a:=by
 have h:(dg a.natAbs ts:Int)∣a:=ML.mpr (AZ _ ts);unfold low;split
 .rw[mR];exact Int.neg_dvd.mpr h
 .exact h
def alQ(a:Int)(ts:List Int):∀t∈ts,low a ts∣t:=λt ht=>by
 have h:=Qx a.natAbs ts t ht;unfold low;split
 .rw[mR];exact Int.neg_dvd.mpr h
 .exact h
def apz(a:Int)(h:a≠0)(ts:List Int):∃e,0<e/\a=low a ts*e:=by
 obtain⟨e,he⟩:=WZ a ts;refine⟨e,?_,he⟩;have g:=Hh (g:=a.natAbs) ⋯ ts;by_cases c:a<0
 .have el:low a ts=0-(dg a.natAbs ts:Int):=if_pos c;rw[el]at he;by_cases p:0<e
  .exact p
  .exfalso
   have:0<=(0-(dg a.natAbs ts:Int))*e:=Int.mul_nonneg_of_nonpos_of_nonpos ⋯ ⋯;omega
 .have el:low a ts=(dg a.natAbs ts:Int):=if_neg c;rw[el]at he;by_cases p:0<e
  .exact p
  .exfalso
   have:(dg a.natAbs ts:Int)*e<=0:=Int.mul_nonpos_of_nonneg_of_nonpos ⋯ ⋯;omega
end Lm
namespace Lm
end Lm
namespace Dm
open Rm Pm
def Rel.cut{b:Int}{n m:Nat}{A:Nat->Nat->Int}{x y:Nat->Int}{d:Int}(hD:Dom b)(hd:tk b d≠0)(e:∀k,k<m->tk b (y k*d)=tk b (x k))(h:Rel b n m A x):Rel b n m A y:=λi hi=>by
 refine hD d _ hd ?_;rw[<-dD];have q:tk b (sm m λk=>A i k*x k)=0:=h i hi;rw[<-q];refine iU λk hk=>?_;rw[show d*(A i k*y k)=A i k*(y k*d)by rw[fj,cA d],<-dI,e k hk,dI]
end Dm
namespace Dm
open Rm Pm
def Hs:∀P∈Om.nU,2<=P:=by decide +kernel
abbrev By(b:Int):Prop:=b=0∨∃P:Nat,P∈Om.nU/\b=(P:Int)
def By.dom{b:Int}(h:By b):Dom b:=by
 rcases h with rfl|⟨P,hP,rfl⟩
 .exact Dom.zero
 .exact Dom.prime hP (Hs P hP)
structure Low(b bt:Int)(ts:List Int)(bot:Int)(us:List Int):Prop where
 pr:∀P:Nat,b=(P:Int)->P∈Om.nU->bot=1/\us=ts.map λt=>t*bt^(P-2)%(P:Int)
 ze:b=0->bot=bt.fdiv (Lm.low bt ts)/\us=ts.map λt=>t.fdiv (Lm.low bt ts)
 len:us.length=ts.length
def asD{P:Nat}(hP:P∈Om.nU){a:Int}(h0:a≠0)(ht:tk (P:Int) a=a):tk (P:Int) (a^(P-2)*a)=1:=by
 have h2:=Hs P hP;have ji:∀n,tk (P:Int) n=n%(P:Int):=λn=>jY ⋯ n;have h1:=rY a (show(P:Int)≠0 by omega);have h3:=rK a (show(0:Int)<(P:Int)by omega);rw[ji]at ht⊢;rw[<-jj,show(P-2).succ=P-1 by omega];exact Om.D4 rfl hP ⋯ ⋯
def axb(a:Int)(ts:List Int):(Lm.low a ts).natAbs=Lm.dg a.natAbs ts:=by
 unfold Lm.low;split<;>omega
def Low.told{b bt:Int}{ts:List Int}{bot:Int}{us:List Int}(hB:By b)(h0:bt≠0)(ht:tk b bt=bt)(h:Low b bt ts bot us):
  ∃d,tk b d≠0/\(∀k,tk b (co us k*d)=tk b (co ts k))/\tk b (bot*d)=tk b bt/\(∀x∈us,tk b x=x)/\1<=bot/\(b≠0->bot=1)/\(b=0->Lm.dg bot.natAbs us=1):=by
 rcases hB with rfl|⟨P,hP,rfl⟩
 .obtain⟨e1,e2⟩:=h.ze rfl;have n0:=Lm.low_ne h0 ts;obtain⟨e,he,hf⟩:=Lm.apz bt h0 ts;have eb:bot=e:=by
   rw[e1]
   conv=>lhs;arg 1;rw[hf]
   exact LK _ n0
  have eu:∀k,co us k*Lm.low bt ts=co ts k:=λk=>by
   rw[e2,lN (f:=λt=>t.fdiv (Lm.low bt ts)) (by simp)];by_cases c:k<ts.length
   .obtain⟨x,hx⟩:=Lm.alQ bt ts (co ts k) (by rw[jf c];exact wA c);rw[hx,LK _ n0,cA]
   .rw[aX ⋯];simp
  refine⟨Lm.low bt ts,by rw[aY];exact n0,λk=>by rw[aY,aY,eu k],by rw[aY,aY,eb,cA,<-hf],λx _=>aY x,⋯,λz=>absurd rfl z,λ_=>?_⟩;have g1:=axb bt ts;have m1:=Lm.HX (Lm.low bt ts).natAbs bot.natAbs us;have e3:(Lm.low bt ts).natAbs*bot.natAbs=bt.natAbs:=by rw[eb,<-jT,<-hf]
  have e4:Lm.dg bt.natAbs (us.map λt=>((Lm.low bt ts).natAbs:Int)*t)=Lm.dg bt.natAbs ts:=by
   refine Lm.aiw _ ?_;refine agD (by simp[h.len]) λk h1 h2=>?_;simp only[aB]at h1 h2;have q:=congrArg C8 (eu k);rw[jf h1,jf h2,jT]at q;simp[jT];rw[pU];exact q
  rw[e3,e4,<-g1]at m1;have:0<(Lm.low bt ts).natAbs:=⋯;exact(WT this (by rw[DB];exact m1)).symm
 .obtain⟨e1,e2⟩:=h.pr P rfl hP;have h2:=Hs P hP;have ji:∀n,tk (P:Int) n=n%(P:Int):=λn=>jY ⋯ n;have inv:=asD hP h0 ht;refine⟨bt,by rw[ht];exact h0,λk=>?_,by rw[e1,iG],λx hx=>?_,⋯,λ_=>e1,λz=>⋯⟩
  .rw[e2,lN (f:=λt=>t*bt^(P-2)%(P:Int)) (by rw[gh];exact K4 _),<-ji,jH,bU,<-dI,inv,jr]
  .rw[e2]at hx;obtain⟨t,_,rfl⟩:=bZ.mp hx;rw[<-ji,gJ]
section
variable {b:Int} {n W u m:Nat} {A0 A A':Nat->Nat->Int} {hd hd':Nat->Nat} {r r':Nat} {L L':List (List Int)} {last azp:Int}
def gW.congr{x y:Nat->Int}{bt Xj:Int}(e:∀k,k<m->tk b (x k)=tk b (y k))(eb:tk b bt=tk b Xj)(h:gW b n m A0 x bt):gW b n m A0 y Xj:=λi hi=>by
 have q:=h i hi;rw[<-jH,<-eb,jH,<-q];exact iU λk hk=>by rw[<-dI,<-e k hk,dI]
def dG.avN(h:dG b n W u A0 m A hd r L last)(hz:∀i,r<=i->i<n->tk b (En A hd r i m)=0):gW b n m A0 (co (pF (λh=>tk b (En A hd r h m)) hd m r)) last:=by
 have R:=MV (A:=A) (hd:=hd) (r:=r) (m:=m+1) (k:=m) (b:=b) (n:=n) (λj hj=>by have:=h.hc j hj;omega) (DC _) hz;have S:gW b n m A0 (λj=>sm r λh=>if j=hd h then En A hd r h m else 0) (dt A hd r):=by
  refine gW.rel.mpr (h.sw.rel.mpr ?_);intro i hi;refine Eq.trans ?_ (R i hi);refine congrArg (Rm.tk b) (aR λk hk=>?_);congr 1;dsimp only;by_cases c:k=m
  .rw[if_pos c,if_pos c,jh (λj hj=>by rw[if_neg (by have:=h.hc j hj;omega)]),mR]
  .rw[if_neg c,if_neg c,Dc]
 refine S.congr (λk hk=>?_) (by rw[h.la,gJ]);rw[pF,cY,if_pos hk];refine iU λj _=>?_;by_cases e:k=hd j
 .rw[if_pos e,if_pos e,gJ]
 .rw[if_neg e,if_neg e]
def dG.rm(h:dG b n W u A0 m A hd r L last):last≠0/\tk b last=last:=⟨by rw[h.la];exact h.nz,by rw[h.la,gJ]⟩
end
structure zf(n u:Nat):Prop where
 lo:10<=u
 hi:(n+1)*(u+(n+1))+n+1<=2400
def wg(u:Nat)(b:Int)(n m:Nat)(A0:Nat->Nat->Int)(bot:Int)(us:List Int):Prop:=
 ∃A hd r L last,dG b n (m+1) u A0 m A hd r L last/\(∀i,r<=i->i<n->tk b (En A hd r i m)=0)/\Low b last (pF (λh=>tk b (En A hd r h m)) hd m r) bot us
def gW.ajv{b:Int}{n m:Nat}{A:Nat->Nat->Int}{x y:Nat->Int}{bt bot d:Int}(hD:Dom b)(hd:tk b d≠0)(e:∀k,k<m->tk b (y k*d)=tk b (x k))(eb:tk b (bot*d)=tk b bt)(h:gW b n m A x bt):gW b n m A y bot:=
 gW.rel.mpr (Rel.cut hD hd (λk hk=>by
  by_cases c:k=m
  .rw[if_pos c,if_pos c,gM,<-zZ,<-dI,eb,dI,zZ]
  .rw[if_neg c,if_neg c];exact e k ⋯) (gW.rel.mp h))
structure avq(b:Int)(n m:Nat)(A0:Nat->Nat->Int)(bot:Int)(us:List Int):Prop where
 len:us.length=m
 tk:∀x∈us,Rm.tk b x=x
 pos:1<=bot
 pr:b≠0->bot=1
 ze:b=0->Lm.dg bot.natAbs us=1
 sums:gW b n m A0 (co us) bot
def wg.ok{u:Nat}{b:Int}{n m:Nat}{A0:Nat->Nat->Int}{bot:Int}{us:List Int}(hB:By b)(h:wg u b n m A0 bot us):avq b n m A0 bot us:=by
 obtain⟨A,hd,r,L,last,I,hz,lo⟩:=h;obtain⟨d,d0,d1,d2,d3,d4,d5,d6⟩:=lo.told hB I.rm.1 I.rm.2;exact⟨by rw[lo.len,Ad],d3,d4,d5,d6,gW.ajv hB.dom d0 (λk _=>d1 k) d2 (I.avN hz)⟩
end Dm
namespace Dm
open Rm Pm
end Dm
namespace Dm
open Rm Pm
def RX:∀P∈Om.nU,P<1000:=by decide +kernel
def Bd.X5{u:Nat}{x d:Int}(hd:d≠0)(h:Bd u (x*d)):Bd u x:=by
 unfold Bd at h⊢;rw[jT]at h;have:x.natAbs*1<=x.natAbs*d.natAbs:=v8 _ ⋯;omega
def Low.bd{b bt:Int}{ts:List Int}{bot:Int}{us:List Int}{u:Nat}(hB:By b)(hu:10<=u)(h0:bt≠0)(ht:tk b bt=bt)(h:Low b bt ts bot us)(h1:Bd u bt)(h2:∀x∈ts,Bd u x):Bd u bot/\∀x∈us,Bd u x:=by
 obtain⟨d,d0,d1,d2,d3,d4,d5,d6⟩:=h.told hB h0 ht;rcases hB with rfl|⟨P,hP,rfl⟩
 .simp only[aY]at d0 d1 d2;refine⟨Bd.X5 d0 (by rw[d2];exact h1),λx hx=>?_⟩;obtain⟨k,hk,e⟩:=jA.mp hx;have e':co us k=x:=by rw[jf hk];exact e
  rw[<-e'];exact Bd.X5 d0 (by rw[d1 k];exact jC h2 k)
 .have p2:=Hs P hP;have p1:=RX P hP;refine⟨by rw[d5 ⋯];exact(Bd.of (n:=1) ∅ ∅).mono ⋯,λx hx=>?_⟩;rw[<-d3 x hx,jY ⋯];exact(Bd.emod (n:=10) ⋯ (Bd.of ⋯ ⋯)).mono hu
theorem zf.n{n u:Nat}(h:zf n u):n<=100:=by
 have h:=h.hi;refine aaH λz=>?_;have:102*102<=(n+1)*(u+(n+1)):=gU ⋯ ⋯;omega
def dG.bdL{b:Int}{n W u m:Nat}{A0 A:Nat->Nat->Int}{hd:Nat->Nat}{r:Nat}{L:List (List Int)}{last:Int}(hB:By b)(h:dG b n W u A0 m A hd r L last)(hn:zf n u)(i k:Nat):Bd (2400-n) (tk b (En A hd r i k)):=by
 have hb:0<=b/\Bd 10 b:=by
  rcases hB with rfl|⟨P,hP,rfl⟩
  .exact⟨∅,Bd.zero _⟩
  .have p1:=RX P hP;exact⟨⋯,Bd.of ⋯ ⋯⟩
 have:=h.rn;have hn':=hn.n;have hn2:=hn.hi;refine qg hb.1 (hb.2.mono ⋯) ((h.Wf i k).mono ?_);have:(r+1)*(u+(r+1))<=(n+1)*(u+(n+1)):=gU ⋯ ⋯;omega
def dG.ami{b:Int}{n W u m:Nat}{A0 A:Nat->Nat->Int}{hd:Nat->Nat}{r:Nat}{L:List (List Int)}{last:Int}(hB:By b)(h:dG b n W u A0 m A hd r L last)(hn:zf n u):Bd (2400-n) last:=by
 have hb:0<=b/\Bd 10 b:=by
  rcases hB with rfl|⟨P,hP,rfl⟩
  .exact⟨∅,Bd.zero _⟩
  .have p1:=RX P hP;exact⟨⋯,Bd.of ⋯ ⋯⟩
 have:=h.rn;have hn':=hn.n;have hn2:=hn.hi;rw[h.la];refine qg hb.1 (hb.2.mono ⋯) ((AX (u:=u) λi k _ _=>h.su _ _).mono ?_);have:r*(u+r)<=(n+1)*(u+(n+1)):=gU ⋯ ⋯;omega
theorem wg.bd{u:Nat}{b:Int}{n m:Nat}{A0:Nat->Nat->Int}{bot:Int}{us:List Int}(hB:By b)(hn:zf n u)(h:wg u b n m A0 bot us):Bd 2400 bot/\∀x∈us,Bd 2400 x:=by
 obtain⟨A,hd,r,L,last,I,hz,lo⟩:=h;have hr:=I.rn;have hn':=hn.n;refine lo.bd hB ∅ I.rm.1 I.rm.2 ((I.ami hB hn).mono ⋯) λx hx=>?_;obtain⟨k,_,rfl⟩:=uD hx;refine(yE (c:=2400-n) r λh _=>?_).mono ⋯;split
 .exact I.bdL hB hn _ _
 .exact Bd.zero _
end Dm
namespace Dm
open Rm Pm
end Dm
namespace Dm
open Rm Pm
end Dm
namespace Dm
open Rm Pm
def ar9{b:Int}(hD:Dom b)(h1:tk b 1≠0)(n:Nat)(A:Nat->Nat->Int):∃x:Nat->Int,(∃k,k<n+1/\tk b (x k)≠0)/\Rel b n (n+1) A x:=by
 refine uW λhno=>?_;have hI:tW b (n+1) (n+1) (λi k=>if i=0 then 0 else A (i-1) k):=λx hx k hk=>by
  refine uW λhk0=>hno ⟨x,⟨k,hk,hk0⟩,λi hi=>?_⟩;have:=hx (i+1) ⋯;refine Eq.trans (congrArg (tk b) (aR λk _=>?_)) this;show A i k*x k=(if i+1=0 then 0 else A (i+1-1) k)*x k;rw[if_neg ⋯];rfl
 refine aeE hD h1 hI ?_;rw[aoF,jh λc _=>by rw[if_pos rfl,aP,gh],tk0]
def aoo{b:Int}(hD:Dom b)(h1:tk b 1≠0){n m:Nat}(h:n<m)(A:Nat->Nat->Int):¬tW b n m A:=λhI=>by
 obtain⟨x,⟨k,hk,hne⟩,hx⟩:=ar9 hD h1 n A;refine hne ?_;have q:=hI (λj=>if j<n+1 then x j else 0) (λi hi=>?_) k ⋯
 .rw[if_pos hk]at q;exact q
 .show tk b (sm m λj=>A i j*if j<n+1 then x j else 0)=0;rw[mU (m:=n+1) ⋯ λj h2 _=>by rw[if_neg ⋯,aP]];rw[aR (g:=λj=>A i j*x j) λj hj=>by rw[if_pos hj]];exact hx i hi
end Dm
namespace Pm
open Rm
def syn:List Int->Int->List Int×Int
 |[],_=>([],0)
 |a::t,r=>((syn t r).2::(syn t r).1,a+r*(syn t r).2)
theorem adX:∀(p:List Int) (r:Int),(syn p r).1.length=p.length
 |[],_=>rfl
 |a::t,r=>by show(_::(syn t r).1).length=_;rw[iK,adX t r,iK]
theorem G5:∀(p:List Int) (r:Int) (k:Nat),co p k=(if k=0 then(syn p r).2 else co (syn p r).1 (k-1))-r*co (syn p r).1 k
 |[],r,k=>by
  show co [] k=(if k=0 then(0:Int)else co [] (k-1))-r*co [] k;rw[fR,fR];split<;>omega
 |a::t,r,0=>by
  show co (a::t) 0=(a+r*(syn t r).2)-r*co ((syn t r).2::_) 0;rw[fQ,fQ];omega
 |a::t,r,k+1=>by
  rw[if_neg ⋯,fU,jz,G5 t r k];show _=co ((syn t r).2::(syn t r).1) k-r*co ((syn t r).2::(syn t r).1) (k+1);rw[jz];cases k with
  |zero=>rw[if_pos rfl,fQ]
  |succ k=>rw[if_neg ⋯,fU,jz]
def iy(p:List Int)(r:Int):List Int:=trim (syn p r).1
def oB(p:List Int)(r:Int):Int:=(syn p r).2
def aww(f:Nat->Int)(r:Int)(k:Nat):cv f (co [0-r,1]) k=(if k=0 then 0 else f (k-1))-r*f k:=by
 have g0:co [0-r,1] 0=0-r:=rfl;have g1:co [0-r,1] 1=1:=rfl;have g2:∀j,2<=j->co [0-r,1] j=0:=λj hj=>aX (by show 2<=j;exact hj);rw[fV,sm,rT,g0];cases k with
 |zero=>rw[if_pos rfl,sm,iH,aP,cA];omega
 |succ k=>
  rw[if_neg ⋯,sm,show k+1-k=1 by omega,g1,jr,fU];have z:sm k (λi=>f i*co [0-r,1] (k+1-i))=0:=by
   rw[aR (g:=λ_=>0) λi hi=>by rw[g2 _ ⋯,aP]];exact v7 k
  rw[z,iH,aP,cA];omega
def agh(p:List Int):Py 0 (trim p):=⟨RT p,λx _=>aY x⟩
def Qd(p:List Int)(r:Int):Div 0 p [0-r,1] (iy p r) (trim [oB p r]):=by
 refine⟨agh _,agh _,?_,λk=>?_⟩
 .have:=tO [oB p r];exact qw this (by show 1<2;decide)
 .have ec:co (iy p r)=co (syn p r).1:=funext λj=>j6 ..;rw[ec,aww,j6,G5 p r k];congr 1;cases k with
  |zero=>rw[if_pos rfl,if_pos rfl,fQ];show _+(syn p r).2=_;omega
  |succ k=>rw[if_neg ⋯,if_neg ⋯,jz,fR];omega
def Jb{p:List Int}{r:Int}(h:Mon p)(h2:2<=p.length):Mon (iy p r)/\(iy p r).length=p.length-1:=by
 have l:=adX p r;have z1:co (syn p r).1 (p.length-1)=0:=by
  have e:=G5 p r p.length;rw[aX (aN _),if_neg ⋯,aX (k:=p.length) ⋯]at e;omega
 have z2:co (syn p r).1 (p.length-2)=1:=by
  have e:=G5 p r (p.length-1);rw[h.one,if_neg ⋯,z1,show p.length-1-1=p.length-2 by omega]at e;omega
 have e:iy p r=aM (p.length-1) (co (syn p r).1):=by
  have e1:trim (aM (p.length-1) (co (syn p r).1))=aM (p.length-1) (co (syn p r).1):=vR (λz=>by have:=congrArg sZ z;rw[cj]at this;simp at this;omega) (by
   rw[cj,cY,if_pos ⋯,show p.length-1-1=p.length-2 by omega,z2];decide)
  rw[<-e1];refine xV λk=>?_;rw[cY];split
  .rfl
  .by_cases c:k=p.length-1
   .rw[c,z1]
   .exact aX ⋯
 have le:(iy p r).length=p.length-1:=by rw[e,cj]
 refine⟨⟨⋯,?_⟩,le⟩;rw[le,e,cY,if_pos ⋯,show p.length-1-1=p.length-2 by omega,z2]
def outF:Nat->List Int->Int->Nat×List Int
 |0,p,_=>(0,p)
 |n+1,p,r=>if oB p r=0 then((outF n (iy p r) r).1+1,(outF n (iy p r) r).2)else(0,p)
def pH(n:Nat):Nat->Nat->List Int->List Int->List Int
 |0,_,s,g=>s++g.reverse
 |f+1,t,s,g=>if t*t<=n then(if n%t=0 then(if t*t<n then pH n f (t+1) (s++[(t:Int)]) (g++[((n/t:Nat):Int)])else pH n f (t+1) (s++[(t:Int)]) g)else pH n f (t+1) s g)else s++g.reverse
def divs(n:Nat):List Int:=pH n (n+1) 1 [] []
def iW(p:List Int):Int:=(p.filter λx=>decide (x≠0)).headD 0
def cands(p:List Int):List Int:=((divs (iW p).natAbs).reverse.map λx=>0-x)++[0]++divs (iW p).natAbs
def oV:List Int->List (List Int)->List Int->List (List Int)×List Int
 |[],rs,l=>(rs,l)
 |c::cs,rs,l=>if 0<(outF l.length l c).1 then oV cs (rs++[[c,((outF l.length l c).1:Int)]]) (outF l.length l c).2 else oV cs rs l
def wr(p:List Int):List (List Int)×List Int:=oV (cands p) [] p
def ur(p q:List Int):List Int:=aM (p.length+q.length-1) (cv (co p) (co q))
end Pm
namespace Pm
open Rm
theorem Xv{r:Int}{u v:Nat}(hr:Bd v r):∀{p:List Int},(∀x∈p,Bd u x)->(∀x∈(syn p r).1,Bd (u+p.length*(v+1)) x)/\Bd (u+p.length*(v+1)) (syn p r).2
 |[],_=>⟨λx hx=>(gR hx).elim,Bd.zero _⟩
 |a::t,h=>by
  obtain⟨h1,h2⟩:=Xv hr (p:=t) λx hx=>h x (cZ _ hx);have e:u+(t.length+1)*(v+1)=u+t.length*(v+1)+v+1:=by rw[tY];omega
  rw[iK,e];refine⟨λx hx=>?_,?_⟩
  .rcases bN.mp hx with rfl|hx
   .exact h2.mono ⋯
   .exact(h1 x hx).mono ⋯
  .show Bd _ (a+r*(syn t r).2);refine(Bd.add (n:=u+t.length*(v+1)+v) ((h a (cV ..)).mono ⋯) ((hr.mul h2).mono ⋯)).mono ⋯
def Yl{r:Int}{u v:Nat}(hr:Bd v r){p:List Int}(h:∀x∈p,Bd u x):∀x∈iy p r,Bd (u+p.length*(v+1)) x:=λx hx=>by
 obtain⟨k,hk,e⟩:=jA.mp hx;rw[<-e,<-jf hk];unfold iy;rw[j6];exact jC (Xv hr h).1 k
structure amW(p:List Int)(u:Nat)(n:Nat)(l:List Int):Prop where
 mon:Mon l
 len:l.length+n=p.length
 bd:∀x∈l,Bd (u+n*1640) x
def Jw{p:List Int}(h:Mon p)(h1:p.length<2)(r:Int):oB p r≠0:=by
 have hp:=h.pos;obtain⟨a,rfl⟩:∃a,p=[a]:=by
  match p,hp,h1 with
  |[a],_,_=>exact⟨a,rfl⟩
 have:=h.one;rw[show[a].length-1=0 from rfl,fQ]at this;subst this;show(1:Int)+r*0≠0;rw[aP];decide
theorem agy{r:Int}(hr:Bd 40 r):∀(n:Nat) {p:List Int} {u:Nat},Mon p->p.length<=40->(∀x∈p,Bd u x)->amW p u (outF n p r).1 (outF n p r).2
 |0,p,u,h,_,b=>⟨h,rfl,λx hx=>(b x hx).mono ⋯⟩
 |n+1,p,u,h,hl,b=>by
  unfold outF;split
  .rename_i c
   have h2:2<=p.length:=by
    by_cases z:2<=p.length
    .exact z
    .exact absurd c (Jw h ⋯ r)
   obtain⟨m1,l1⟩:=Jb (r:=r) h h2;obtain⟨a,b1,c1⟩:=agy hr n (u:=u+1640) m1 ⋯ (λx hx=>(Yl hr b x hx).mono (by have:p.length*(40+1)<=40*41:=qe _ hl;omega));refine⟨a,by show(outF n (iy p r) r).2.length+((outF n (iy p r) r).1+1)=_;omega,λx hx=>(c1 x hx).mono ?_⟩;show _<=u+((outF n (iy p r) r).1+1)*1640;rw[tY];omega
  .exact⟨h,rfl,λx hx=>(b x hx).mono ⋯⟩
theorem Ay(n:Nat){m:Int}(hm:(n:Int)<=m):∀(f t:Nat) (s g:List Int),1<=t->(∀x∈s,0<x/\x<=m)->(∀x∈g,0<x/\x<=m)->∀x∈pH n f t s g,0<x/\x<=m
 |0,t,s,g,_,hs,hg,x,hx=>by
  rcases fM.mp hx with hx|hx
  .exact hs x hx
  .exact hg x (pO.mp hx)
 |f+1,t,s,g,ht,hs,hg,x,hx=>by
  unfold pH at hx;split at hx
  .rename_i c
   have htt:t<=t*t:=Qq t ht;have hs':∀y∈s++[(t:Int)],0<y/\y<=m:=λy hy=>by
    rcases fM.mp hy with hy|hy
    .exact hs y hy
    .rw[eV.mp hy];omega
   split at hx
   .split at hx
    .refine Ay n hm f (t+1) _ _ ⋯ hs' (λy hy=>?_) x hx;rcases fM.mp hy with hy|hy
     .exact hg y hy
     .rw[eV.mp hy];have a1:0<n/t:=Nat.div_pos ⋯ ⋯;have a2:n/t<=n:=Nat.div_le_self ..;omega
    .exact Ay n hm f (t+1) _ _ ⋯ hs' hg x hx
   .exact Ay n hm f (t+1) _ _ ⋯ hs hg x hx
  .rcases fM.mp hx with hx|hx
   .exact hs x hx
   .exact hg x (pO.mp hx)
end Pm
namespace Pm
end Pm
namespace Pm
open Rm
def evC(a:Int)(p:List Int)(x:Int):ev (a::p) x=a+x*ev p x:=by
 rw[<-lH (p:=a::p) (n:=p.length+1) (aN _) x,oU,fQ,tK,jr,<-lH (p:=p) (aN _) x,<-dD];congr 1;refine aR λk _=>?_;rw[jz,jj,cA (x^k) x,<-bU,<-bU,cA (co p k) x]
theorem Gd:∀(p:List Int) (r:Int),oB p r=ev p r
 |[],r=>rfl
 |a::t,r=>by rw[evC,<-Gd t r];rfl
theorem abb(c:Int):∀(n:Nat) {p:List Int},Mon p->p.length<=n->Rep c (outF n p c).1 p (outF n p c).2/\ev (outF n p c).2 c≠0/\Mon (outF n p c).2
 |0,p,h,hl=>by have:=h.pos;omega
 |n+1,p,h,hl=>by
  unfold outF;split
  .rename_i z
   have h2:2<=p.length:=by
    by_cases y:2<=p.length
    .exact y
    .exact absurd z (Jw h ⋯ c)
   obtain⟨m1,l1⟩:=Jb (r:=c) h h2;obtain⟨a1,a2,a3⟩:=abb c n m1 ⋯;have d:=Qd p c;rw[z]at d;exact⟨.succ d a1,a2,a3⟩
  .rename_i z
   rw[Gd]at z;exact⟨.zero p,z,h⟩
def gw(x:Int×Nat):List Int:=[x.1,(x.2:Int)]
theorem LX:∀(cs:List Int) (rs:List (List Int)) {p:List Int},Mon p->∃l,(oV cs rs p).1=rs++l.map gw/\Scan cs p l (oV cs rs p).2/\Mon (oV cs rs p).2
 |[],rs,p,h=>⟨[],by simp[oV],.nil p,h⟩
 |c::cs,rs,p,h=>by
  obtain⟨a1,a2,a3⟩:=abb c p.length h (aN _);unfold oV;generalize outF p.length p c=o at a1 a2 a3;obtain⟨m,q⟩:=o;dsimp only at a1 a2 a3⊢;split
  .rename_i z
   obtain⟨l,e1,e2,e3⟩:=LX cs (rs++[[c,(m:Int)]]) a3;obtain⟨k,rfl⟩:∃k,m=k+1:=⟨m-1,⋯⟩;exact⟨(c,k+1)::l,by rw[e1];simp[gw],.hit a1 a2 e2,e3⟩
  .rename_i z
   have:m=0:=⋯;subst this;cases a1;obtain⟨l,e1,e2,e3⟩:=LX cs rs h;exact⟨l,e1,.miss a2 e2,e3⟩
structure WdI(n t:Nat)(s g:List Int):Prop where
 s1:∀x:Int,x∈s↔∃d:Nat,x=d/\1<=d/\d<t/\d*d<=n/\d∣n
 g1:∀x:Int,x∈g↔∃d:Nat,x=(n/d:Nat)/\1<=d/\d<t/\d*d<n/\d∣n
 s2:s.Pairwise (· < ·)
 g2:g.Pairwise (· > ·)
def asK{n b c:Nat}(h:b<c)(h1:1<=b)(hb:b∣n)(hc:c∣n)(hn:0<n):n/c<n/b:=by
 obtain⟨k,hk⟩:=hb;obtain⟨m,hm⟩:=hc;have e1:n/b=k:=by rw[hk];exact Nt k h1
 have e2:n/c=m:=by rw[hm];exact Nt m ⋯
 rw[e1,e2];rcases vg m k with z|z
 .exact z
 .exfalso
  have hm0:0<m:=by
   rcases SW m with y|y
   .rw[y,Tn]at hm;omega
   .exact y
  have:b*k<c*m:=qw (v8 b z) (SD h hm0);omega
def XE{n t:Nat}{s g:List Int}(hn:0<n)(I:WdI n t s g)(ht:n<t*t):(s++g.reverse).Pairwise (· < ·)/\∀d:Nat,1<=d->d∣n->(d:Int)∈s++g.reverse:=by
 have big:∀{b:Nat},1<=b->b*b<n->b∣n->n<n/b*(n/b):=λ{b} h1 h2 h3=>by
  obtain⟨k,hk⟩:=h3;have e:n/b=k:=by rw[hk];exact Nt k h1
  rw[e];have:b<k:=by
   rcases vg b k with z|z
   .exact z
   .have:=v8 b z;omega
  have k0:0<k:=⋯;rw[hk];exact SD this k0
 have small:∀{d:Nat},d*d<=n->d<t:=λ{d} h=>by
  rcases vg d t with z|z
  .exact z
  .have:=gU z z;omega
 refine⟨DF.mpr ⟨I.s2,ace.mpr I.g2,λa ha b hb=>?_⟩,λd h1 h2=>?_⟩
 .obtain⟨d,rfl,d1,d2,d3,d4⟩:=(I.s1 a).mp ha;obtain⟨e,rfl,e1,e2,e3,e4⟩:=(I.g1 b).mp (pO.mp hb);have:=big e1 e3 e4;have:d<n/e:=by
   rcases vg d (n/e)with z|z
   .exact z
   .have:=gU z z;omega
  omega
 .by_cases c:d*d<=n
  .exact fM.mpr (.inl ((I.s1 _).mpr ⟨d,rfl,h1,small c,c,h2⟩))
  .obtain⟨k,hk⟩:=h2;have k0:1<=k:=by
    rcases SW k with z|z
    .rw[z,Tn]at hk;omega
    .exact z
   have hkd:k<d:=by
    rcases vg k d with z|z
    .exact z
    .have:=v8 d z;omega
   have kk:k*k<n:=by rw[hk];exact SD hkd k0
   refine fM.mpr (.inr (pO.mpr ((I.g1 _).mpr ⟨k,?_,k0,small ⋯,kk,⟨d,by rw[hk,pU]⟩⟩)));rw[hk,Nat.mul_div_cancel d ⋯]
theorem Fv{n:Nat}(hn:0<n):∀(f t:Nat) (s g:List Int),f+t=n+2->1<=t->WdI n t s g->(pH n f t s g).Pairwise (· < ·)/\∀d:Nat,1<=d->d∣n->(d:Int)∈pH n f t s g
 |0,t,s,g,h,h1,I=>XE hn I (by have:t<=t*t:=Qq t ⋯;omega)
 |f+1,t,s,g,h,h1,I=>by
  unfold pH;have sNew:t∣n->t*t<=n->(∀x:Int,x∈s++[(t:Int)]↔∃d:Nat,x=d/\1<=d/\d<t+1/\d*d<=n/\d∣n)/\(s++[(t:Int)]).Pairwise (· < ·):=λhd hs=>by
   refine⟨λx=>?_,DF.mpr ⟨I.s2,BZ ..,λa ha b hb=>?_⟩⟩
   .rw[fM,I.s1,eV];constructor
    .rintro(⟨d,h1,h2,h3,h4⟩|rfl)
     .exact⟨d,h1,h2,⋯,h4⟩
     .exact⟨t,rfl,h1,⋯,hs,hd⟩
    .rintro⟨d,rfl,h2,h3,h4⟩;by_cases c:d=t
     .exact .inr (by rw[c])
     .exact .inl ⟨d,rfl,h2,⋯,h4⟩
   .obtain⟨d,rfl,_,h3,_⟩:=(I.s1 a).mp ha;rw[eV.mp hb];omega
  have agk:(¬(t∣n/\t*t<n))->∀x:Int,x∈g↔∃d:Nat,x=(n/d:Nat)/\1<=d/\d<t+1/\d*d<n/\d∣n:=λhno x=>by
   rw[I.g1];constructor
   .rintro⟨d,h1,h2,h3,h4⟩;exact⟨d,h1,h2,⋯,h4⟩
   .rintro⟨d,h1,h2,h3,h4,h5⟩;refine⟨d,h1,h2,?_,h4,h5⟩;by_cases c:d=t
    .subst c;exact absurd ⟨h5,h4⟩ hno
    .omega
  split
  .rename_i c
   split
   .rename_i c2
    have hd:t∣n:=aa1 c2;obtain⟨n1,n2⟩:=sNew hd c;split
    .rename_i c3
     refine Fv hn f (t+1) _ _ ⋯ ⋯ ⟨n1,λx=>?_,n2,DF.mpr ⟨I.g2,BZ ..,λa ha b hb=>?_⟩⟩
     .rw[fM,I.g1,eV];constructor
      .rintro(⟨d,h1,h2,h3,h4⟩|rfl)
       .exact⟨d,h1,h2,⋯,h4⟩
       .exact⟨t,rfl,h1,⋯,c3,hd⟩
      .rintro⟨d,rfl,h2,h3,h4⟩;by_cases z:d=t
       .exact .inr (by rw[z])
       .exact .inl ⟨d,rfl,h2,⋯,h4⟩
     .obtain⟨d,rfl,d1,d2,d3,d4⟩:=(I.g1 a).mp ha;rw[eV.mp hb];have:=asK d2 d1 d4 hd hn;show((n/t:Nat):Int)<_;omega
    .rename_i c3
     exact Fv hn f (t+1) _ _ ⋯ ⋯ ⟨n1,agk λz=>c3 z.2,n2,I.g2⟩
   .rename_i c2
    have hd:¬t∣n:=λz=>c2 (aeW z);refine Fv hn f (t+1) s g ⋯ ⋯ ⟨λx=>?_,agk λz=>hd z.1,I.s2,I.g2⟩;rw[I.s1];constructor
    .rintro⟨d,h1,h2,h3,h4⟩;exact⟨d,h1,h2,⋯,h4⟩
    .rintro⟨d,h1,h2,h3,h4,h5⟩;refine⟨d,h1,h2,?_,h4,h5⟩;by_cases z:d=t
     .subst z;exact absurd h5 hd
     .omega
  .rename_i c
   exact XE hn I ⋯
def aaf{n:Nat}(hn:0<n):(divs n).Pairwise (· < ·)/\∀d:Nat,1<=d->d∣n->(d:Int)∈divs n:=
 Fv hn (n+1) 1 [] [] ⋯ (aN _) ⟨λx=>⟨(λh=>(by cases h)),(λ⟨d,_,h1,h2,_⟩=>⋯)⟩,λx=>⟨(λh=>(by cases h)),(λ⟨d,_,h1,h2,_⟩=>⋯)⟩,.nil,.nil⟩
theorem Oe:∀{p:List Int},(∃k,co p k≠0)->∃j,co p j=iW p/\iW p≠0/\∀k,k<j->co p k=0
 |[],⟨k,h⟩=>absurd (fR k) h
 |a::t,⟨k,h⟩=>by
  by_cases c:a=0
  .subst c;have e:iW (0::t)=iW t:=by unfold iW;rw[sO,if_neg (by simp)]
   cases k with
   |zero=>exact absurd (fQ 0 t) h
   |succ k=>
    rw[jz]at h;obtain⟨j,h1,h2,h3⟩:=Oe (p:=t) ⟨k,h⟩;refine⟨j+1,by rw[jz,h1,e],by rw[e];exact h2,λi hi=>?_⟩;cases i with
    |zero=>rw[fQ]
    |succ i=>rw[jz];exact h3 i ⋯
  .have e:iW (a::t)=a:=by unfold iW;rw[sO,if_pos (by simpa using c)];rfl
   exact⟨0,by rw[fQ,e],by rw[e];exact c,λi hi=>⋯⟩
def Mon.low{p:List Int}(h:Mon p):∃k,co p k≠0:=⟨p.length-1,by rw[h.one];decide⟩
def awU{p:List Int}(h:Mon p):(cands p).Pairwise (· < ·):=by
 obtain⟨j,_,hl,_⟩:=Oe h.low;obtain⟨d1,_⟩:=aaf (n:=(iW p).natAbs) ⋯;have pos:∀x∈divs (iW p).natAbs,0<x:=λx hx=>(Ay _ (m:=(iW p).natAbs) (Int.le_refl _) _ 1 [] [] (aN _) (λy hy=>nomatch hy) (λy hy=>nomatch hy) x hx).1;unfold cands;refine DF.mpr ⟨DF.mpr ⟨vd.mpr (ace.mpr (d1.imp λ{a b} hab=>⋯)),BZ ..,λa ha b hb=>?_⟩,d1,λa ha b hb=>?_⟩
 .obtain⟨y,hy,rfl⟩:=bZ.mp ha;have:=pos y (pO.mp hy);rw[eV.mp hb];omega
 .have:=pos b hb;rcases fM.mp ha with ha|ha
  .obtain⟨y,hy,rfl⟩:=bZ.mp ha;have:=pos y (pO.mp hy);omega
  .rw[eV.mp ha];omega
def auD{p:List Int}(h:Mon p){x:Int}(hx:ev p x=0):x∈cands p:=by
 obtain⟨j,h1,hl,h3⟩:=Oe h.low;obtain⟨_,d2⟩:=aaf (n:=(iW p).natAbs) ⋯;unfold cands;by_cases c:x=0
 .exact fM.mpr (.inl (fM.mpr (.inr (by rw[c];exact eV.mpr rfl))))
 .have hd:=apH h3 hx c;rw[h1]at hd;have hd':x.natAbs∣(iW p).natAbs:=U4.mpr hd;have hm:=d2 x.natAbs ⋯ hd';by_cases s:0<x
  .exact fM.mpr (.inr (by rwa [show((x.natAbs:Nat):Int)=x by omega]at hm))
  .refine fM.mpr (.inl (fM.mpr (.inl (bZ.mpr ⟨_,pO.mpr hm,⋯⟩))))
def arP{p:List Int}(h:Mon p):∃l:List (Int×Nat),(wr p).1=l.map gw/\Scan (cands p) p l (wr p).2/\Mon (wr p).2:=by
 obtain⟨l,h1,h2,h3⟩:=LX (cands p) [] h;exact⟨l,by show(oV (cands p) [] p).1=_;simpa using h1,h2,h3⟩
def Mon.pW{p:List Int}(h:Mon p):Py 0 p:=by
 have:trim p=p:=vR (λz=>by have:=h.pos;rw[z]at this;exact absurd this ∅) (by rw[h.one];decide);exact⟨this,λx _=>aY x⟩
def agu{p:List Int}(h:Mon p):∃l:List (Int×Nat),(wr p).1=l.map gw/\p=RP l (wr p).2/\(∀x,ev (wr p).2 x≠0)/\(l.map (·.1)).Pairwise (· < ·)/\(∀x∈l,0<x.2)/\Mon (wr p).2/\∀x∈l,x.1∈cands p:=by
 obtain⟨l,h1,h2,h3⟩:=arP h;obtain⟨b1,b2,b3,b4,b5⟩:=h2.back h.pW;refine⟨l,h1,b1,λx hx=>?_,(awU h).sublist b4,b5,h3,λx hx=>b4.subset (bZ.mpr ⟨x,hx,rfl⟩)⟩;have:ev p x=0:=by rw[b1];exact Ej b2 hx l
 exact b3 x (auD h this) hx
end Pm
namespace Pm
open Rm
def vo(p q r:List Int):mul 0 (mul 0 p q) r=mul 0 p (mul 0 q r):=(qH ..).ext (qH ..) λk=>by
 rw[jP,jP];have e1:co (mul 0 p q)=cv (co p) (co q):=funext λi=>by rw[jP,aY]
 have e2:co (mul 0 q r)=cv (co q) (co r):=funext λi=>by rw[jP,aY]
 rw[e1,e2,gO]
theorem Oq(r:Int)(a R:List Int):∀m,dh r m (mul 0 a R)=mul 0 (dh r m a) R
 |0=>rfl
 |m+1=>by
  show mul 0 (dh r m (mul 0 a R)) (lin r)=mul 0 (mul 0 (dh r m a) (lin r)) R;rw[Oq r a R m,vo,vo,mul_comm 0 R]
theorem V7(r s:Int)(k:Nat)(X:List Int):∀m,dh r m (dh s k X)=dh s k (dh r m X)
 |0=>rfl
 |m+1=>by
  show mul 0 (dh r m (dh s k X)) (lin r)=dh s k (mul 0 (dh r m X) (lin r));rw[V7 r s k X m,Oq]
theorem XH(r:Int)(m:Nat)(X:List Int):∀t,RP t (dh r m X)=dh r m (RP t X)
 |[]=>rfl
 |(s,k)::t=>by
  show dh s k (RP t (dh r m X))=dh r m (dh s k (RP t X));rw[XH r m X t,V7]
def jU:List (Int×Nat)->List Int->List Int
 |[],a=>a
 |(r,m)::t,a=>jU t (dh r m a)
theorem RH(R:List Int):∀(l:List (Int×Nat)) (a:List Int),mul 0 (jU l a) R=RP l (mul 0 a R)
 |[],_=>rfl
 |(r,m)::t,a=>by
  show mul 0 (jU t (dh r m a)) R=dh r m (RP t (mul 0 a R));rw[RH R t,<-Oq,XH]
def Dy:Mon [1]:=⟨∅,rfl⟩
def b01:tk (0:Int) 1=1:=aY 1
theorem Hl{r:Int}{a:List Int}(h:Mon a):∀m,Mon (dh r m a)/\(dh r m a).length=a.length+m
 |0=>⟨h,rfl⟩
 |m+1=>by
  obtain⟨h1,h2⟩:=Hl (r:=r) h m;obtain⟨a1,a2⟩:=JB b01 h1 (Mv r);exact⟨a1,by show(mul 0 (dh r m a) (lin r)).length=_;rw[a2,h2];show a.length+m+2-1=_;omega⟩
def many(l:List (Int×Nat)):Nat:=(l.map (·.2)).sum
theorem E4:∀(l:List (Int×Nat)) {a:List Int},Mon a->Mon (jU l a)/\(jU l a).length=a.length+many l
 |[],a,h=>⟨h,by simp[jU,many]⟩
 |(r,m)::t,a,h=>by
  obtain⟨h1,h2⟩:=Hl (r:=r) h m;obtain⟨a1,a2⟩:=E4 t h1;exact⟨a1,by show(jU t (dh r m a)).length=_;rw[a2,h2];simp[many];omega⟩
def one_mul{R:List Int}(h:Py 0 R):mul 0 [1] R=R:=by rw[mul_comm,mul_one h]
def aed{p q:List Int}(hp:Mon p)(hq:Mon q):ur p q=mul 0 p q/\Mon (ur p q)/\(ur p q).length=p.length+q.length-1:=by
 obtain⟨h1,h2⟩:=JB b01 hp hq;have e:ur p q=mul 0 p q:=by
  unfold ur;refine vq (by rw[cj,h2]) λk=>?_;rw[cY,jP,aY];split
  .rfl
  .rename_i c
   exact(j5 λi hi=>by
    by_cases z:p.length<=i
    .exact .inl (aX z)
    .exact .inr (aX ⋯)).symm
 rw[e];exact⟨rfl,h1,h2⟩
end Pm
namespace Cf
def El(r:Int)(g:Nat->Int):Nat->Int:=λn=>g (n+1)-r*g n
def W(r:Int):Nat->(Nat->Int)->Prop
 |0,g=>∀n,g n=0
 |m+1,g=>W r m (El r g)
def afG(r s:Int)(g:Nat->Int):El r (El s g)=El s (El r g):=funext λn=>by
 unfold El;rw[iH,iH,<-bU,<-bU,cA r s];omega
def zx{r:Int}{g:Nat->Int}(h:∀n,g n=0)(n:Nat):El r g n=0:=by unfold El;rw[h,h,aP];rfl
def anM(r:Int)(g h:Nat->Int):El r (λn=>g n+h n)=λn=>El r g n+El r h n:=funext λn=>by
 show g (n+1)+h (n+1)-r*(g n+h n)=(g (n+1)-r*g n)+(h (n+1)-r*h n);rw[f9];omega
def auZ(r c:Int)(g:Nat->Int):El r (λn=>c*g n)=λn=>c*El r g n:=funext λn=>by
 show c*g (n+1)-r*(c*g n)=c*(g (n+1)-r*g n);rw[iH,fj]
theorem W.zero{r:Int}:∀{m:Nat} {g:Nat->Int},(∀n,g n=0)->W r m g
 |0,_,h=>h
 |m+1,g,h=>W.zero (m:=m) (g:=El r g) (zx h)
theorem W.el{r:Int}(s:Int):∀{m:Nat} {g:Nat->Int},W r m g->W r m (El s g)
 |0,_,h=>zx h
 |m+1,g,h=>by
  show W r m (El r (El s g));rw[afG];exact W.el s h
theorem W.mul{r:Int}(c:Int):∀{m:Nat} {g:Nat->Int},W r m g->W r m λn=>c*g n
 |0,g,h=>λn=>by show c*g n=0;rw[h n,aP]
 |m+1,g,h=>by
  show W r m (El r λn=>c*g n);rw[auZ];exact W.mul c h
theorem W.add{r:Int}:∀{m:Nat} {g h:Nat->Int},W r m g->W r m h->W r m λn=>g n+h n
 |0,g,h,h1,h2=>λn=>by show g n+h n=0;rw[h1 n,h2 n];rfl
 |m+1,g,h,h1,h2=>by
  show W r m (El r λn=>g n+h n);rw[anM];exact W.add h1 h2
theorem W.up{r:Int}:∀{m:Nat} {g:Nat->Int},W r m g->W r (m+1) g
 |0,_,h=>zx h
 |m+1,g,h=>W.up (m:=m) (g:=El r g) h
def W.le{r:Int}{m m':Nat}{g:Nat->Int}(h:W r m g)(hm:m<=m'):W r m' g:=by
 induction m' with
 |zero=>
  obtain rfl:m=0:=⋯;exact h
 |succ k ih=>
  by_cases e:m=k+1
  .subst e;exact h
  .exact(ih ⋯).up
theorem W.kill{r s:Int}(hne:r≠s):∀{m:Nat} {g:Nat->Int},W s m g->(∀n,El r g n=0)->∀n,g n=0
 |0,_,h,_=>h
 |m+1,g,h,e=>λn=>by
  have e1:∀n,El s g n=(r-s)*g n:=λn=>by
   have:=e n;unfold El at this⊢;rw[wC];omega
  have k:∀n,El s g n=0:=W.kill hne h λn=>by rw[afG];exact zx e n
  have:=k n;rw[e1]at this;rcases kZ.mp this with z|z
  .exact absurd ⋯ hne
  .exact z
abbrev Tm:=Int×Nat×(Nat->Int)
def jX(l:List Tm)(n:Nat):Int:=(l.map λt=>t.2.2 n).sum
def um(t:Tm)(l:List Tm)(n:Nat):jX (t::l) n=t.2.2 n+jX l n:=by simp[jX]
theorem YL(r:Int):∀(l:List Tm) (n:Nat),jX (l.map λt=>(t.1,t.2.1,El r t.2.2)) n=El r (jX l) n
 |[],n=>by simp[jX,El]
 |t::l,n=>by
  rw[bG,um,YL r l n];show El r t.2.2 n+El r (jX l) n=El r (jX (t::l)) n;unfold El;rw[um,um,f9];omega
def ayn{l:List Tm}(h:∀t∈l,∀n,t.2.2 n=0)(n:Nat):jX l n=0:=by
 induction l with
 |nil=>rfl
 |cons t l ih=>rw[um,h t (cV ..) n,ih λx hx=>h x (cZ _ hx)];rfl
theorem indep:∀(K:Nat) (l:List Tm),(l.map λt=>t.2.1+1).sum<=K->(l.map (·.1)).Nodup->(∀t∈l,W t.1 t.2.1 t.2.2)->(∀n,jX l n=0)->∀t∈l,∀n,t.2.2 n=0
 |_,[],_,_,_,_,t,ht,_=>by cases ht
 |0,t0::l,hK,_,_,_,_,_,_=>by simp at hK
 |K+1,(r,m,g)::l,hK,hd,hW,hs,t,ht,n=>by
  simp only[bG,gF]at hK;have hd':=mL.mp hd;have RL:∀t∈l,W t.1 t.2.1 t.2.2:=λt ht=>hW t (cZ _ ht);have hg:=hW (r,m,g) (cV ..);have rest:∀t∈l,∀n,t.2.2 n=0:=by
   cases m with
   |zero=>exact indep K l ⋯ hd'.2 RL λn=>by have:=hs n;rw[um]at this;have z:g n=0:=hg n;show jX l n=0;simp only at this;omega
   |succ k=>
    have ih:=indep K ((r,k,El r g)::l.map λt=>(t.1,t.2.1,El r t.2.2)) (by
     simp only[bG,gF,cR];have:((λt:Tm=>t.2.1+1)∘λt:Tm=>((t.1,t.2.1,El r t.2.2):Tm))=λt:Tm=>t.2.1+1:=rfl;rw[this];omega) (by
     have:(((r,k,El r g)::l.map λt=>((t.1,t.2.1,El r t.2.2):Tm)):List Tm).map (·.1)=((r,k+1,g)::l).map (·.1):=by
      simp only[bG,cR];rfl
     rw[this];exact hd) (λt ht=>by
     rcases bN.mp ht with rfl|ht
     .exact hg
     .obtain⟨u,hu,rfl⟩:=bZ.mp ht;exact(RL u hu).el r) (λn=>by
     have e:=YL r ((r,k+1,g)::l) n;simp only[bG]at e;have e2:jX ((r,k,El r g)::l.map λt=>((t.1,t.2.1,El r t.2.2):Tm)) n=El r (jX ((r,k+1,g)::l)) n:=by rw[<-e,um,um]
     rw[e2];exact zx hs n)
    intro t ht n;have hne:r≠t.1:=λz=>hd'.1 (by show r∈l.map (·.1);rw[z];exact iJ ht);exact W.kill hne (RL t ht) (λn=>ih (t.1,t.2.1,El r t.2.2) (cZ _ (iJ (f:=λt:Tm=>((t.1,t.2.1,El r t.2.2):Tm)) ht)) n) n
  rcases bN.mp ht with rfl|ht
  .have:=hs n;rw[um,ayn rest]at this;simp only at this⊢;omega
  .exact rest t ht n
def pv:List Int->Int->Int
 |[],_=>0
 |c::q,x=>c+x*pv q x
def Pf:Nat->(Int->Int)->Prop
 |0,q=>∀x,q x=0
 |m+1,q=>Pf m λx=>q (x+1)-q x
theorem Pf.zero:∀{m:Nat} {q:Int->Int},(∀x,q x=0)->Pf m q
 |0,_,h=>h
 |m+1,q,h=>Pf.zero (m:=m) (q:=λx=>q (x+1)-q x) λx=>by show q (x+1)-q x=0;rw[h,h];rfl
theorem Pf.add:∀{m:Nat} {p q:Int->Int},Pf m p->Pf m q->Pf m λx=>p x+q x
 |0,p,q,h1,h2=>λx=>by show p x+q x=0;rw[h1,h2];rfl
 |m+1,p,q,h1,h2=>by
  have:Pf m λx=>(p (x+1)-p x)+(q (x+1)-q x):=Pf.add h1 h2;have e:(λx=>(p (x+1)-p x)+(q (x+1)-q x))=λx=>(p (x+1)+q (x+1))-(p x+q x):=funext λx=>⋯;rw[e]at this;exact this
theorem Pf.mul(c:Int):∀{m:Nat} {q:Int->Int},Pf m q->Pf m λx=>c*q x
 |0,q,h=>λx=>by show c*q x=0;rw[h,aP]
 |m+1,q,h=>by
  have:Pf m λx=>c*(q (x+1)-q x):=Pf.mul c h;have e:(λx=>c*(q (x+1)-q x))=λx=>c*q (x+1)-c*q x:=funext λx=>by rw[iH]
  rw[e]at this;exact this
theorem Pf.on:∀{m:Nat} {q:Int->Int},Pf m q->Pf m λx=>q (x+1)
 |0,_,h=>λx=>h (x+1)
 |m+1,q,h=>Pf.on (m:=m) (q:=λx=>q (x+1)-q x) h
theorem Pf.x:∀{m:Nat} {q:Int->Int},Pf m q->Pf (m+1) λx=>x*q x
 |0,q,h=>Pf.zero λx=>by show x*q x=0;rw[h,aP]
 |m+1,q,h=>by
  show Pf (m+1) λx=>(x+1)*q (x+1)-x*q x;have h1:Pf (m+1) λx=>x*(q (x+1)-q x):=Pf.x (m:=m) h;have h2:Pf (m+1) λx=>q (x+1):=Pf.on (m:=m+1) h;have h3:=Pf.add h1 h2;have e:(λx=>x*(q (x+1)-q x)+q (x+1))=λx=>(x+1)*q (x+1)-x*q x:=funext λx=>by
   rw[iH,rZ,iG];omega
  rw[e]at h3;exact h3
theorem G6:∀q:List Int,Pf q.length (pv q)
 |[]=>λ_=>rfl
 |c::q=>by
  show Pf (q.length+1) λx=>c+x*pv q x;refine Pf.add ?_ (G6 q).x;have k:∀m,Pf (m+1) λ_=>c:=λm=>by
   show Pf m λx=>c-c;exact Pf.zero λ_=>⋯
  exact k _
theorem W.of_pf(r:Int):∀{m:Nat} {q:Int->Int},Pf m q->W r m λn=>r^n*q (n:Int)
 |0,q,h=>λn=>by show r^n*q (n:Int)=0;rw[h,aP]
 |m+1,q,h=>by
  show W r m (El r λn=>r^n*q (n:Int));have e:(El r λn:Nat=>r^n*q (n:Int))=λn:Nat=>r^n*(r*(q ((n:Int)+1)-q (n:Int))):=funext λn=>by
   show r^(n+1)*q ((n:Int)+1)-r*(r^n*q (n:Int))=r^n*(r*(q ((n:Int)+1)-q (n:Int)));rw[jj,iH,iH,bU,fj r (r^n)]
  rw[e];exact W.of_pf r (q:=λx=>r*(q (x+1)-q x)) (Pf.mul r h)
theorem EW:∀(q:List Int) (N:Nat),(∀n:Nat,N<=n->pv q (n:Int)=0)->∀c∈q,c=0
 |[],_,_,c,hc=>by cases hc
 |a::q,N,h,c,hc=>by
  have a0:a=0:=by
   have h1:=h (N+a.natAbs+1) ⋯;have d:((N+a.natAbs+1:Nat):Int)∣a:=⟨-pv q ((N+a.natAbs+1:Nat):Int),by
    have:pv (a::q) ((N+a.natAbs+1:Nat):Int)=a+((N+a.natAbs+1:Nat):Int)*pv q ((N+a.natAbs+1:Nat):Int):=rfl;rw[this]at h1;rw[qp];omega⟩
   by_cases z:a=0
   .exact z
   .exfalso
    have:=pI (Int.natAbs_pos.mpr z) (U4.mpr d);rw[uU]at this;omega
  rcases bN.mp hc with rfl|hc
  .exact a0
  .refine EW q (N+1) (λn hn=>?_) c hc;have h1:=h n ⋯;have:pv (a::q) (n:Int)=a+(n:Int)*pv q (n:Int):=rfl;rw[this,a0,ig]at h1;rcases kZ.mp h1 with z|z
   .omega
   .exact z
theorem Jl{r:Int}(h:r≠0):∀n:Nat,r^n≠0
 |0=>by rw[tK];decide
 |n+1=>by
  rw[jj];intro z;rcases kZ.mp z with y|y
  .exact Jl h n y
  .exact h y
end Cf
namespace Cf
open Pm Rm
def elN(r:Int):Nat->(Nat->Int)->Nat->Int
 |0,g=>g
 |m+1,g=>El r (elN r m g)
theorem ag1{r:Int}:∀(m:Nat) {g:Nat->Int},(∀n,g n=0)->∀n,elN r m g n=0
 |0,_,h=>h
 |m+1,_,h=>zx (ag1 m h)
theorem aap(r:Int):∀(m:Nat) (g:Nat->Int),elN r m (El r g)=El r (elN r m g)
 |0,_=>rfl
 |m+1,g=>by show El r (elN r m (El r g))=_;rw[aap r m g];rfl
theorem W.elN(r:Int):∀{m:Nat} {g:Nat->Int},W r m g->∀n,elN r m g n=0
 |0,_,h=>h
 |m+1,g,h=>by
  have:=W.elN r (m:=m) (g:=El r g) h;rw[aap]at this;exact this
theorem W.elNs{r:Int}(s:Int):∀(k:Nat) {m:Nat} {g:Nat->Int},W r m g->W r m (Cf.elN s k g)
 |0,_,_,h=>h
 |k+1,_,_,h=>(W.elNs s k h).el s
def ari(r:Int)(g:Nat->Int)(n:Nat):ks (Pm.lin r) g n=El r g n:=by
 show 0+co (Pm.lin r) 0*g (n+0)+co (Pm.lin r) 1*g (n+1)=g (n+1)-r*g n;rw[show co (Pm.lin r) 0=0-r from rfl,show co (Pm.lin r) 1=1 from rfl,iG,wC];show 0+(0*g n-r*g n)+g (n+1)=_;omega
def aq3(p q:List Int)(a:Nat->Int)(n:Nat):ks (mul 0 p q) a n=ks p (ks q a) n:=by
 have:=YS (b:=0) p q a n;rw[aY,aY]at this;exact this
theorem MN(r:Int)(q:List Int)(f:Nat->Int):∀(m n:Nat),ks (dh r m q) f n=elN r m (ks q f) n
 |0,_=>rfl
 |m+1,n=>by
  show ks (mul 0 (dh r m q) (Pm.lin r)) f n=El r (elN r m (ks q f)) n;rw[Pm.mul_comm,aq3,ari,show ks (dh r m q) f=elN r m (ks q f)from funext (MN r q f m)]
def alo(f:Nat->Int)(n:Nat):ks [1] f n=f n:=by
 show 0+co [1] 0*f (n+0)=f n;rw[show co [1] 0=1 from rfl,iG,ig];rfl
theorem W.ofRP{r:Int}:∀(l:List (Int×Nat)) {m:Nat} {g:Nat->Int},W r m g->W r m (ks (RP l [1]) g)
 |[],_,g,h=>by rw[show ks (RP [] [1]) g=g from funext (alo g)];exact h
 |(s,k)::t,_,g,h=>by
  rw[show ks (RP ((s,k)::t) [1]) g=Cf.elN s k (ks (RP t [1]) g)from funext (MN s _ g k)];exact(W.ofRP t h).elNs s k
theorem W.keep{r:Int}{m:Nat}:∀(l:List (Int×Nat)) {g:Nat->Int},(r,m)∈l->W r m g->∀n,ks (RP l [1]) g n=0
 |(s,k)::t,g,hm,h,n=>by
  show ks (dh s k (RP t [1])) g n=0;rw[MN];rcases bN.mp hm with e|hm
  .cases e;exact(W.ofRP t h).elN r n
  .exact ag1 k (W.keep t hm h) n
def afk{P:List Int}(hm:Mon P){f:Nat->Int}(hk:∀n,ks P f n=0)(h0:∀n,n<P.length-1->f n=0)(n:Nat):f n=0:=by
 induction n using rQ with
 |ind n ih=>
  by_cases c:n<P.length-1
  .exact h0 n c
  .have hp:=hm.pos;obtain⟨k,rfl⟩:∃k,n=k+(P.length-1):=⟨n-(P.length-1),⋯⟩;have e:=hk k;unfold ks at e;obtain⟨N,hN⟩:∃N,P.length=N+1:=⟨P.length-1,⋯⟩;rw[hN]at e;have z:sm N (λi=>co P i*f (k+i))=0:=jh λi hi=>by rw[ih (k+i) ⋯,aP]
   have e2:sm (N+1) (λi=>co P i*f (k+i))=sm N (λi=>co P i*f (k+i))+co P N*f (k+N):=rfl;have o:co P N=1:=by have:=hm.one;rw[hN,fU]at this;exact this
   rw[e2,z,o,iG,ig]at e;rw[hN,fU];exact e
def dot:List Int->List Int->Int
 |x::xs,y::ys=>x*y+dot xs ys
 |_,_=>0
def gQ:List (Int×Nat)->Nat->List Int
 |[],_=>[]
 |(r,m)::t,n=>((eX m).map λj=>r^n*(n:Int)^j)++gQ t n
def fK:List (Int×Nat)->List Int->List (Int×List Int)
 |[],_=>[]
 |(r,m)::t,cs=>(r,cs.take m)::fK t (cs.drop m)
def bJ(ps:List (Int×List Int))(n:Nat):Int:=(ps.map λp=>p.1^n*pv p.2 (n:Int)).sum
def aQ(l:List (Int×Nat)):Nat:=(l.map (·.2)).sum
theorem Y4:∀(xs ys cs:List Int),xs.length<=cs.length->dot (xs++ys) cs=dot xs (cs.take xs.length)+dot ys (cs.drop xs.length)
 |[],ys,cs,_=>by simp[dot]
 |x::xs,ys,[],h=>by simp at h
 |x::xs,ys,c::cs,h=>by
  show x*c+dot (xs++ys) cs=(x*c+dot xs (cs.take xs.length))+dot ys (cs.drop xs.length);rw[Y4 xs ys cs (by simpa using h),Ie]
theorem afm(x s:Int):∀(q:List Int) (k:Nat),dot ((adn k q.length).map λj=>s*x^j) q=s*(x^k*pv q x)
 |[],k=>by simp[dot,pv]
 |c::q,k=>by
  show s*x^k*c+dot ((adn (k+1) q.length).map λj=>s*x^j) q=s*(x^k*(c+x*pv q x));rw[afm x s q (k+1),jj,f9,f9,bU,bU (x^k)]
theorem Aq:∀(l:List (Int×Nat)) (n:Nat),(gQ l n).length=aQ l
 |[],_=>rfl
 |(r,m)::t,n=>by
  show(((eX m).map λj=>r^n*(n:Int)^j)++gQ t n).length=m+aQ t;rw[dW,aB,mK,Aq t n]
def qR(r:Int)(m:Nat)(t:List (Int×Nat)):aQ ((r,m)::t)=m+aQ t:=rfl
theorem LQ:∀(l:List (Int×Nat)) (cs:List Int) (n:Nat),cs.length=aQ l->dot (gQ l n) cs=bJ (fK l cs) n
 |[],cs,n,h=>by simp[gQ,dot,fK,bJ]
 |(r,m)::t,cs,n,h=>by
  rw[qR]at h;show dot (((eX m).map λj=>r^n*(n:Int)^j)++gQ t n) cs=bJ ((r,cs.take m)::fK t (cs.drop m)) n;rw[Y4 _ _ _ (by rw[aB,mK];omega),aB,mK,LQ t (cs.drop m) n (by rw[pC];omega)];have lt:(cs.take m).length=m:=by rw[jd];omega
  have e:=afm (n:Int) (r^n) (cs.take m) 0;rw[lt,tK,iG]at e;rw[List.range_eq_range',e];simp[bJ]
theorem CQ:∀(l:List (Int×Nat)) (cs:List Int),cs.length=aQ l->∀p∈fK l cs,(p.1,p.2.length)∈l
 |(r,m)::t,cs,h,p,hp=>by
  rw[qR]at h;rcases bN.mp hp with rfl|hp
  .have lt:(cs.take m).length=m:=by rw[jd];omega
   show(r,(cs.take m).length)∈_;rw[lt];exact cV ..
  .exact cZ _ (CQ t (cs.drop m) (by rw[pC];omega) p hp)
theorem EA:∀(l:List (Int×Nat)) (cs:List Int),(fK l cs).map (·.1)=l.map (·.1)
 |[],_=>rfl
 |(r,m)::t,cs=>by
  show r::(fK t (cs.drop m)).map (·.1)=r::t.map (·.1);rw[EA t]
theorem Wa:∀(l:List (Int×Nat)) (cs:List Int),cs.length=aQ l->(∀p∈fK l cs,∀c∈p.2,c=0)->∀c∈cs,c=0
 |[],cs,h,_,c,hc=>by
  have:cs=[]:=List.length_eq_zero_iff.mp h;rw[this]at hc;cases hc
 |(r,m)::t,cs,h,hz,c,hc=>by
  rw[qR]at h;rw[<-JW m cs]at hc;rcases fM.mp hc with hc|hc
  .exact hz (r,cs.take m) (cV ..) c hc
  .exact Wa t (cs.drop m) (by rw[pC];omega) (λp hp=>hz p (cZ _ hp)) c hc
def Bc(ps:List (Int×List Int)):List Tm:=ps.map λp=>(p.1,p.2.length,λn:Nat=>p.1^n*pv p.2 (n:Int))
def akU(ps:List (Int×List Int)):∀t∈Bc ps,W t.1 t.2.1 t.2.2:=λt ht=>by
 obtain⟨p,_,rfl⟩:=bZ.mp ht;exact W.of_pf p.1 (G6 p.2)
def av5(ps:List (Int×List Int))(n:Nat):jX (Bc ps) n=bJ ps n:=by
 unfold jX bJ Bc;rw[cR];rfl
def awy{ps:List (Int×List Int)}(hd:(ps.map (·.1)).Nodup)(h0:∀p∈ps,p.1≠0)(h:∀n,bJ ps n=0):∀p∈ps,∀c∈p.2,c=0:=λp hp=>by
 have:=indep _ (Bc ps) (aN _) (by unfold Bc;rw[cR];exact hd) (akU ps) (λn=>by rw[av5];exact h n) _ (iJ (f:=λp:Int×List Int=>((p.1,p.2.length,λn:Nat=>p.1^n*pv p.2 (n:Int)):Tm)) hp);refine EW p.2 0 λn _=>?_;have e:=this n;rcases kZ.mp e with z|z
 .exact absurd z (Jl (h0 p hp) n)
 .exact z
theorem JG:∀(ps:List (Int×List Int)) (l:List (Int×Nat)),(∀p∈ps,(p.1,p.2.length)∈l)->∀n,ks (RP l [1]) (bJ ps) n=0
 |[],l,_,n=>by
  refine jh λk _=>?_;show _*(0:Int)=0;rw[aP]
 |p::ps,l,h,n=>by
  have e:bJ (p::ps)=λn:Nat=>p.1^n*pv p.2 (n:Int)+bJ ps n:=funext λn=>by simp[bJ]
  have e2:ks (RP l [1]) (bJ (p::ps)) n=ks (RP l [1]) (λn:Nat=>p.1^n*pv p.2 (n:Int)) n+ks (RP l [1]) (bJ ps) n:=by
   rw[e];unfold ks;rw[<-iM];exact aR λk _=>f9 ..
  rw[e2,W.keep l (h p (cV ..)) (W.of_pf p.1 (G6 p.2)) n,JG ps l (λq hq=>h q (cZ _ hq)) n];rfl
def axi{l:List (Int×Nat)}(hd:(l.map (·.1)).Nodup)(h0:∀x∈l,x.1≠0)(hm:Mon (RP l [1]))(hl:(RP l [1]).length=aQ l+1){cs:List Int}(hc:cs.length=aQ l)(h:∀n,n<aQ l->dot (gQ l n) cs=0):∀c∈cs,c=0:=by
 have hz:∀n,bJ (fK l cs) n=0:=afk hm (JG _ l (CQ l cs hc)) λn hn=>by
  rw[hl,fU]at hn;rw[<-LQ l cs n hc];exact h n hn
 exact Wa l cs hc (awy (by rw[EA];exact hd) (λp hp=>h0 _ (CQ l cs hc p hp)) hz)
def alY{l:List (Int×Nat)}(hm:Mon (RP l [1]))(hl:(RP l [1]).length=aQ l+1){cs:List Int}(hc:cs.length=aQ l){f:Nat->Int}{D:Int}(hk:∀n,ks (RP l [1]) f n=0)(h:∀n,n<aQ l->dot (gQ l n) cs=D*f n)(n:Nat):bJ (fK l cs) n=D*f n:=by
 have key:∀n,(λn=>bJ (fK l cs) n+(-D)*f n) n=0:=afk hm (λn=>by
  have e:ks (RP l [1]) (λn=>bJ (fK l cs) n+(-D)*f n) n=ks (RP l [1]) (bJ (fK l cs)) n+(-D)*ks (RP l [1]) f n:=by
   unfold ks;rw[<-dD,<-iM];exact aR λk _=>by rw[f9,fj]
  rw[e,JG _ l (CQ l cs hc),hk,aP];rfl) λn hn=>by
  rw[hl,fU]at hn;show bJ (fK l cs) n+(-D)*f n=0;rw[<-LQ l cs n hc,h n hn,gM];omega
 have:=key n;simp only at this;rw[gM]at this;omega
end Cf
namespace Cf
open Pm Rm
def bI:List Int->List Int
 |[]=>[1]
 |r::t=>mul 0 (bI t) (Pm.lin r)
def iD:List (Int×Nat)->List Int
 |[]=>[]
 |(r,m)::t=>cN m r++iD t
theorem agi(r:Int)(t:List Int):∀m,bI (cN m r++t)=dh r m (bI t)
 |0=>rfl
 |m+1=>by
  show mul 0 (bI (cN m r++t)) (Pm.lin r)=mul 0 (dh r m (bI t)) (Pm.lin r);rw[agi r t m]
theorem yG:∀l,RP l [1]=bI (iD l)
 |[]=>rfl
 |(r,m)::t=>by
  show dh r m (RP t [1])=bI (cN m r++iD t);rw[agi,yG t]
theorem N6:∀l,(iD l).length=aQ l
 |[]=>rfl
 |(r,m)::t=>by rw[qR,<-N6 t,iD,dW,rP]
theorem DW{x:Int}:∀{l:List (Int×Nat)},x∈iD l↔∃m,(x,m)∈l/\0<m
 |[]=>by simp[iD]
 |(r,m)::t=>by
  rw[iD,fM,Wx,DW (l:=t)];constructor
  .rintro(⟨h1,rfl⟩|⟨k,h1,h2⟩)
   .exact⟨m,cV ..,⋯⟩
   .exact⟨k,cZ _ h1,h2⟩
  .rintro⟨k,h1,h2⟩;rcases bN.mp h1 with e|h1
   .cases e;exact .inl ⟨⋯,rfl⟩
   .exact .inr ⟨k,h1,h2⟩
theorem nR:∀rs,Mon (bI rs)/\(bI rs).length=rs.length+1
 |[]=>⟨Dy,rfl⟩
 |r::t=>by
  obtain⟨h1,h2⟩:=nR t;have:=Hl (r:=r) h1 1;refine⟨this.1,?_⟩;have e:(dh r 1 (bI t)).length=(bI t).length+1:=this.2;rw[h2]at e;exact e
def uZ(l:List (Int×Nat)):Mon (RP l [1])/\(RP l [1]).length=aQ l+1:=by
 rw[yG];have:=nR (iD l);rw[N6]at this;exact this
def acO(p q:List Int)(x:Int):ev (mul 0 p q) x=ev p x*ev q x:=V1 x q p _ λk=>Kg p q k
def as6(r x:Int):ev (Pm.lin r) x=x-r:=by
 show ev [0-r,1] x=_;rw[Oh,abW];omega
theorem xU{x:Int}:∀{rs:List Int},ev (bI rs) x=0↔x∈rs
 |[]=>by
  show ev [1] x=0↔_;rw[abW];simp
 |r::t=>by
  show ev (mul 0 (bI t) (Pm.lin r)) x=0↔_;rw[acO,as6,kZ,xU (rs:=t),bN];constructor
  .rintro(h|h)
   .exact .inr h
   .exact .inl ⋯
  .rintro(h|h)
   .exact .inr ⋯
   .exact .inl h
def afg{L:List Int}{r:Int}(hL:Mon L)(h:ev L r=0):∃q,Mon q/\q=iy L r/\L=mul 0 q (Pm.lin r):=by
 have h2:2<=L.length:=by
  by_cases c:2<=L.length
  .exact c
  .exact absurd (by rw[Gd,h]) (Jw hL ⋯ r)
 obtain⟨m1,l1⟩:=Jb (r:=r) hL h2;have D:=Qd L r;rw[Gd,h]at D;have B:=D.back (Mon.pW hL);have e:trim [(0:Int)]=[]:=rfl;rw[e,Pm.add_comm,nil_add (qH ..)]at B;exact⟨_,m1,rfl,B.symm⟩
def KQ{p q:List Int}{r:Int}(hp:Py 0 p)(hq:Py 0 q)(h:mul 0 p (Pm.lin r)=mul 0 q (Pm.lin r)):p=q:=
 ((Div.lin r hp).uniq (Mv r) (h▸Div.lin r hq)).1
def asY{L:List Int}(h:Mon L)(h1:L.length=1):L=[1]:=by
 have:=h.one
 match L,h1 with
 |[x],_=>have e:x=1:=this;rw[e]
def aky{L S:List Int}(hL:Mon L)(hS:Mon S):Mon (mul 0 L S)/\(mul 0 L S).length+1=L.length+S.length:=by
 obtain⟨e,m,l⟩:=aed hL hS;rw[<-e];refine⟨m,?_⟩;have:=hL.pos;omega
theorem Gj:∀(rs:List Int) {L S:List Int},Mon L->Mon S->mul 0 L S=bI rs->∃rs',rs'.Sublist rs/\L=bI rs'
 |[],L,S,hL,hS,e=>by
  have l:=(aky hL hS).2;have:=hL.pos;have:=hS.pos;rw[e]at l;exact⟨[],.slnil,asY hL (by simp[bI]at l;omega)⟩
 |r::rs,L,S,hL,hS,e=>by
  have z:ev L r*ev S r=0:=by
   rw[<-acO,e];exact xU.mpr (cV ..)
  have e':mul 0 L S=mul 0 (bI rs) (Pm.lin r):=e;rcases kZ.mp z with z|z
  .obtain⟨q,hq,_,eq⟩:=afg hL z;have:mul 0 q S=bI rs:=KQ (qH ..) (Mon.pW (nR rs).1) (by rw[<-e',vo,Pm.mul_comm 0 S,<-vo,<-eq]);obtain⟨rs',h1,h2⟩:=Gj rs hq hS this;exact⟨r::rs',h1.cons_cons r,by rw[eq,h2];rfl⟩
  .obtain⟨q,hq,_,eq⟩:=afg hS z;have:mul 0 L q=bI rs:=KQ (qH ..) (Mon.pW (nR rs).1) (by rw[<-e',vo,<-eq]);obtain⟨rs',h1,h2⟩:=Gj rs hL hq this;exact⟨rs',h1.cons r,h2⟩
def arM{rs:List Int}:∃l:List (Int×Nat),(wr (bI rs)).1=l.map gw/\(wr (bI rs)).2=[1]/\bI rs=RP l [1]/\(l.map (·.1)).Pairwise (· < ·)/\(∀x∈l,0<x.2)/\∀x∈l,x.1∈rs:=by
 obtain⟨l,h1,h2,h3,h4,h5,h6,_⟩:=agu (nR rs).1;have e1:=RH (wr (bI rs)).2 l [1];rw[Pm.one_mul (Mon.pW h6),<-h2]at e1;obtain⟨rs',_,er⟩:=Gj rs h6 (E4 l Dy).1 (by rw[Pm.mul_comm];exact e1);have e2:(wr (bI rs)).2=[1]:=by
  cases rs' with
  |nil=>exact er
  |cons r t=>exact absurd (by rw[er];exact xU.mpr (cV ..)) (h3 r)
 rw[e2]at h2;refine⟨l,h1,e2,h2,h4,h5,λx hx=>?_⟩;rw[<-xU,h2,yG,xU,DW];exact⟨x.2,hx,h5 x hx⟩
def BD(q:List Int)(r:Int)(k:Nat):co (mul 0 q (Pm.lin r)) k=(if k=0 then 0 else co q (k-1))-r*co q k:=by
 rw[Kg,KP]
theorem uO:∀(q:List Int) (x:Int),pv q x=ev q x
 |[],_=>rfl
 |c::q,x=>by rw[Oh,<-uO q x];rfl
def atL{q:List Int}(h0:co q (q.length-1)=0)(x:Int):pv q.dropLast x=pv q x:=by
 by_cases c:q=[]
 .subst c;rfl
 .have e:=OX c;rw[h0]at e;rw[uO,uO]
  conv=>rhs;rw[e]
  unfold ev;rw[dW,aeb];show _=sm q.dropLast.length (λk=>co (q.dropLast++[0]) k*x^k)+co (q.dropLast++[0]) q.dropLast.length*x^q.dropLast.length;rw[pB,if_neg (lA _),rT,fQ,gh,dj];exact aR λk hk=>by rw[pB,if_pos hk]
theorem afb{α:Type}:∀{ps:List (Int×α)},(ps.map (·.1)).Nodup->∀{p q:Int×α},p∈ps->q∈ps->p.1=q.1->p=q
 |[],_,_,_,hp,_,_=>by cases hp
 |a::t,hd,p,q,hp,hq,e=>by
  rw[bG,mL]at hd;rcases bN.mp hp with z|hp'<;>rcases bN.mp hq with y|hq'
  .rw[z,y]
  .exact absurd (by rw[<-z,e];exact iJ hq') hd.1
  .exact absurd (by rw[<-y,<-e];exact iJ hp') hd.1
  .exact afb hd.2 hp' hq' e
theorem afZ{α:Type}(f g:α->Nat):∀{l:List α},(∀x∈l,f x<=g x)->(∃x∈l,f x<g x)->(l.map f).sum<(l.map g).sum
 |[],_,⟨_,h,_⟩=>by cases h
 |a::t,h,⟨x,hx,hl⟩=>by
  rw[bG,bG,gF,gF];have ha:=h a (cV ..);have le:(t.map f).sum<=(t.map g).sum:=by
   have ht:∀x∈t,f x<=g x:=λx hx=>h x (cZ _ hx);clear h hx hl ha;induction t with
   |nil=>exact aN _
   |cons b t ih=>
    rw[bG,bG,gF,gF];have:=ht b (cV ..);have:=ih λx hx=>ht x (cZ _ hx);omega
  rcases bN.mp hx with rfl|hx
  .omega
  .have:=afZ f g (λx hx=>h x (cZ _ hx)) ⟨x,hx,hl⟩;omega
theorem Sh:∀(l:List (Int×Nat)) (cs:List Int),cs.length=aQ l->(fK l cs).map (λp=>(p.1,p.2.length))=l
 |[],_,_=>rfl
 |(r,m)::t,cs,h=>by
  rw[qR]at h;show(r,(cs.take m).length)::(fK t (cs.drop m)).map _=_;rw[Sh t _ (by rw[pC];omega),jd,PB ⋯]
def akP{f:Nat->Int}{ps:List (Int×List Int)}{N:Nat}{bot:Int}(hN:(ps.map λp=>p.2.length).sum=N)(hmin:∀q,Mon q->Kp 0 q f->N+1<=q.length)(hd:(ps.map (·.1)).Nodup)(hb:bot≠0)(h:∀n,bJ ps n=bot*f n):∀p∈ps,p.2≠[]->co p.2 (p.2.length-1)≠0:=λp hp hne h0=>by
 let F:Int×List Int->Int×List Int:=λx=>if x.1=p.1 then(x.1,x.2.dropLast)else x
 have eS:∀n,bJ (ps.map F) n=bJ ps n:=λn=>by
  unfold bJ;rw[cR];congr 1;refine lG λx hx=>?_;show(F x).1^n*pv (F x).2 (n:Int)=_;by_cases c:x.1=p.1
  .have:=afb hd hx hp c;subst this;simp only[F,if_true];rw[atL h0]
  .simp only[F,if_neg c]
 have m1:=uZ ((ps.map F).map λp=>(p.1,p.2.length));have k1:=JG (ps.map F) ((ps.map F).map λp=>(p.1,p.2.length)) λx hx=>iJ (f:=λp:Int×List Int=>(p.1,p.2.length)) hx;have kf:Kp 0 (RP ((ps.map F).map λp=>(p.1,p.2.length)) [1]) f:=λn=>by
  have:=k1 n;rw[show bJ (ps.map F)=λn=>bot*f n from funext λn=>by rw[eS,h]]at this;have e:∀q,ks q (λn=>bot*f n) n=bot*ks q f n:=λq=>by
   unfold ks;rw[<-dD];exact aR λk _=>fj ..
  rw[e]at this;rw[aY];rcases kZ.mp this with z|z
  .exact absurd z hb
  .exact z
 have lt:=hmin _ m1.1 kf;rw[m1.2]at lt;unfold aQ at lt;rw[cR,cR]at lt;have s:=afZ (λx=>(F x).2.length) (λx=>x.2.length) (l:=ps) (λx _=>by
  show(F x).2.length<=_;by_cases c:x.1=p.1
  .simp only[F,if_pos c,vX];omega
  .simp only[F,if_neg c];exact aN _) ⟨p,hp,by
  show(F p).2.length<_;simp only[F,if_true,vX];have:=Aa.mpr hne;omega⟩
 rw[hN]at s;have:(((λx:Int×Nat=>x.2)∘λp:Int×List Int=>(p.1,p.2.length))∘F)=λx=>(F x).2.length:=rfl;rw[this]at lt;omega
def val(ps:List (Int×List Int))(r:Int)(n:Nat):Int:=(ps.map λp=>if p.1=r then p.1^n*pv p.2 (n:Int)else 0).sum
def Hv(p:Int×List Int)(ps:List (Int×List Int))(r:Int)(n:Nat):val (p::ps) r n=(if p.1=r then p.1^n*pv p.2 (n:Int)else 0)+val ps r n:=by simp[val]
theorem R8{M:Nat}(r:Int):∀{ps:List (Int×List Int)},(∀p∈ps,p.2.length<=M)->W r M (val ps r)
 |[],_=>W.zero λ_=>rfl
 |p::ps,h=>by
  rw[show val (p::ps) r=λn:Nat=>(if p.1=r then p.1^n*pv p.2 (n:Int)else 0)+val ps r n from funext λn=>Hv ..];refine W.add ?_ (R8 r λq hq=>h q (cZ _ hq));by_cases c:p.1=r
  .rw[show(λn:Nat=>if p.1=r then p.1^n*pv p.2 (n:Int)else 0)=λn:Nat=>p.1^n*pv p.2 (n:Int)from funext λn=>if_pos c,c];exact(W.of_pf r (G6 p.2)).le (h p (cV ..))
  .exact W.zero λn=>if_neg c
theorem Vn{r:Int}{n:Nat}:∀{ps:List (Int×List Int)},(∀p∈ps,p.1≠r)->val ps r n=0
 |[],_=>rfl
 |p::ps,h=>by rw[Hv,if_neg (h p (cV ..)),Vn λq hq=>h q (cZ _ hq)];rfl
theorem Eo{n:Nat}:∀{ps:List (Int×List Int)} {p:Int×List Int},(ps.map (·.1)).Nodup->p∈ps->val ps p.1 n=p.1^n*pv p.2 (n:Int)
 |q::ps,p,hd,hp=>by
  rw[bG,mL]at hd;rw[Hv];rcases bN.mp hp with rfl|hp
  .rw[if_pos rfl,Vn λx hx z=>hd.1 (by rw[<-z];exact iJ hx),dj]
  .rw[if_neg λz=>hd.1 (by rw[z];exact iJ hp),Eo hd.2 hp,ig]
theorem Yt{x:Int}{a:Int}:∀{R:List Int},R.Nodup->a∈R->(R.map λr=>if a=r then x else 0).sum=x
 |r::R,hd,h=>by
  rw[mL]at hd;rw[bG,gF];by_cases c:a=r
  .rw[if_pos c];have z:∀{T:List Int},a∉T->(T.map λr=>if a=r then x else 0).sum=0:=λ{T} hT=>by
    induction T with
    |nil=>rfl
    |cons b T ih=>rw[bG,gF,if_neg λe=>hT (by rw[e];exact cV ..),ih λe=>hT (cZ _ e)];rfl
   rw[z (c▸hd.1)];omega
  .rw[if_neg c,Yt hd.2 ((bN.mp h).resolve_left c)];omega
theorem Rr{R:List Int}(hR:R.Nodup)(n:Nat):∀{ps:List (Int×List Int)},(∀p∈ps,p.1∈R)->(R.map λr=>val ps r n).sum=bJ ps n
 |[],_=>by
  have z:∀T:List Int,(T.map λr=>val [] r n).sum=0:=λT=>by
   induction T with
   |nil=>rfl
   |cons b T ih=>rw[bG,gF,ih];rfl
  rw[z];rfl
 |p::ps,h=>by
  have e:∀T:List Int,(T.map λr=>val (p::ps) r n).sum=(T.map λr=>if p.1=r then p.1^n*pv p.2 (n:Int)else 0).sum+(T.map λr=>val ps r n).sum:=λT=>by
   induction T with
   |nil=>rfl
   |cons b T ih=>rw[bG,gF,ih,Hv,bG,gF,bG,gF];omega
  rw[e,Yt hR (h p (cV ..)),Rr hR n λq hq=>h q (cZ _ hq)];simp[bJ]
def as3{a b:List Int}(ha:co a (a.length-1)≠0)(hb:co b (b.length-1)≠0)(h:∀n:Nat,pv a (n:Int)=pv b (n:Int)):a=b:=by
 have key:∀k,co a k=co b k:=λk=>by
  have z:=EW (aM (max a.length b.length) λk=>co a k-co b k) 0 λn _=>by
   have e1:=lH (p:=a) (n:=max a.length b.length) ⋯ (n:Int);have e2:=lH (p:=b) (n:=max a.length b.length) ⋯ (n:Int);have e3:=lH (p:=aM (max a.length b.length) λk=>co a k-co b k) (n:=max a.length b.length) (by rw[cj];omega) (n:Int);rw[uO,<-e3,aR (g:=λk=>co a k*(n:Int)^k+(-1)*(co b k*(n:Int)^k)) λk hk=>by rw[cY,if_pos hk,wC];omega,iM,dD,e1,e2,<-uO,<-uO,h n];omega
  by_cases c:k<max a.length b.length
  .have:=z (co a k-co b k) (by
    have:co (aM (max a.length b.length) λk=>co a k-co b k) k=co a k-co b k:=by rw[cY,if_pos c]
    rw[<-this];exact ux (by rw[cj];exact c))
   omega
  .rw[aX ⋯,aX ⋯]
 have ta:=vR (p:=a) (λz=>ha (by rw[z];rfl)) ha;have tb:=vR (p:=b) (λz=>hb (by rw[z];rfl)) hb;rw[<-ta,<-tb];exact xV key
def ai6{α:Type}{ps qs:List (Int×α)}(sp:(ps.map (·.1)).Pairwise (· < ·))(sq:(qs.map (·.1)).Pairwise (· < ·))(h1:∀p∈ps,p∈qs)(h2:∀q∈qs,q∈ps):ps=qs:=by
 induction ps generalizing qs with
 |nil=>
  cases qs with
  |nil=>rfl
  |cons q qs=>exact absurd (h2 q (cV ..)) gR
 |cons p ps ih=>
  cases qs with
  |nil=>exact absurd (h1 p (cV ..)) gR
  |cons q qs=>
   rw[bG,List.pairwise_cons]at sp sq;have lp:∀x∈ps,p.1<x.1:=λx hx=>sp.1 _ (iJ hx);have lq:∀x∈qs,q.1<x.1:=λx hx=>sq.1 _ (iJ hx);have e:p=q:=by
    rcases bN.mp (h1 p (cV ..))with e|e
    .exact e
    .rcases bN.mp (h2 q (cV ..))with e'|e'
     .exact e'.symm
     .have:=lq p e;have:=lp q e';omega
   subst e;rw[ih sp.2 sq.2 (λx hx=>(bN.mp (h1 x (cZ _ hx))).resolve_left λz=>by
     have:=lp x hx;rw[z]at this;omega) (λx hx=>(bN.mp (h2 x (cZ _ hx))).resolve_left λz=>by
     have:=lq x hx;rw[z]at this;omega)]
def qW{l:List Int}(h:l.Pairwise (· < ·)):l.Nodup:=h.imp λh=>⋯
def Xx{R:List Int}(hR:R.Nodup)(h0:∀r∈R,r≠0){ps qs:List (Int×List Int)}(hp:∀p∈ps,p.1∈R)(hq:∀q∈qs,q.1∈R)(dp:(ps.map (·.1)).Nodup)(dq:(qs.map (·.1)).Nodup)(lp:∀p∈ps,co p.2 (p.2.length-1)≠0)(lq:∀p∈qs,co p.2 (p.2.length-1)≠0)(h:∀n,bJ ps n=bJ qs n):∀p∈ps,p∈qs:=λp hpm=>by
 obtain⟨M,KZ,hM2⟩:∃M,(∀p∈ps,p.2.length<=M)/\∀p∈qs,p.2.length<=M:=by
  have k:∀(l:List (Int×List Int)),∃M,∀p∈l,p.2.length<=M:=λl=>by
   induction l with
   |nil=>exact⟨0,λp hp=>by cases hp⟩
   |cons a l ih=>
    obtain⟨M,hM⟩:=ih;refine⟨max a.2.length M,λp hp=>?_⟩;rcases bN.mp hp with rfl|hp
    .omega
    .have:=hM p hp;omega
  obtain⟨A,hA⟩:=k ps;obtain⟨B,hB⟩:=k qs;exact⟨max A B,λp hp=>by have:=hA p hp;omega,λp hp=>by have:=hB p hp;omega⟩
 have key:=indep _ (R.map λr=>((r,M,λn=>val ps r n+(-1)*val qs r n):Tm)) (aN _) (by rw[cR];exact(by rw[show((λt:Tm=>t.1)∘λr:Int=>((r,M,λn=>val ps r n+(-1)*val qs r n):Tm))=id from rfl,List.map_id];exact hR)) (λt ht=>by
  obtain⟨r,_,rfl⟩:=bZ.mp ht;exact W.add (R8 r KZ) (W.mul (-1) (R8 r hM2))) (λn=>by
  have e:∀T:List Int,jX (T.map λr=>((r,M,λn=>val ps r n+(-1)*val qs r n):Tm)) n=(T.map λr=>val ps r n).sum+(-1)*(T.map λr=>val qs r n).sum:=λT=>by
   induction T with
   |nil=>rfl
   |cons b T ih=>rw[bG,um,ih,bG,gF,bG,gF,f9];simp only;omega
  rw[e,Rr hR n hp,Rr hR n hq,h n];omega) (p.1,M,λn=>val ps p.1 n+(-1)*val qs p.1 n) (iJ (f:=λr=>((r,M,λn=>val ps r n+(-1)*val qs r n):Tm)) (hp p hpm))
 have key:∀n,val ps p.1 n+(-1)*val qs p.1 n=0:=key;have r0:=h0 _ (hp p hpm);by_cases c:∃q∈qs,q.1=p.1
 .obtain⟨q,CB,eq⟩:=c;have e2:p.2=q.2:=as3 (lp p hpm) (lq q CB) λn=>by
   have:=key n;rw[Eo dp hpm,<-eq,Eo dq CB,eq]at this;have:p.1^n*pv p.2 (n:Int)=p.1^n*pv q.2 (n:Int):=⋯;exact Gw (Jl r0 n) this
  have:p=q:=Kq eq.symm e2;rw[this];exact CB
 .exfalso
  have hz:=EW p.2 0 λn _=>by
   have:=key n;rw[Eo dp hpm,Vn λq CB z=>c ⟨q,CB,z⟩,aP,dj]at this;rcases kZ.mp this with z|z
   .exact absurd z (Jl r0 n)
   .exact z
  by_cases l:0<p.2.length
  .exact lp p hpm (hz _ (ux ⋯))
  .exact lp p hpm (aX ⋯)
def aoT{R:List Int}(hR:R.Nodup)(h0:∀r∈R,r≠0){ps qs:List (Int×List Int)}(hp:∀p∈ps,p.1∈R)(hq:∀q∈qs,q.1∈R)(sp:(ps.map (·.1)).Pairwise (· < ·))(sq:(qs.map (·.1)).Pairwise (· < ·))(lp:∀p∈ps,co p.2 (p.2.length-1)≠0)(lq:∀p∈qs,co p.2 (p.2.length-1)≠0)(h:∀n,bJ ps n=bJ qs n):ps=qs:=
 ai6 sp sq (Xx hR h0 hp hq (qW sp) (qW sq) lp lq h) (Xx hR h0 hq hp (qW sq) (qW sp) lq lp λn=>(h n).symm)
end Cf
namespace Cf
open Pm Rm Dm
theorem aa5:∀{xs cs:List Int},xs.length=cs.length->dot xs cs=sm cs.length λk=>co xs k*co cs k
 |[],[],_=>rfl
 |x::xs,c::cs,h=>by
  show x*c+dot xs cs=_;rw[aa5 (by simpa using h),iK,oU];rfl
def qJ(l:List (Int×Nat)):List (List Int):=(eX (aQ l)).map (gQ l)
def GQ(l:List (Int×Nat)):(qJ l).length=aQ l:=by rw[qJ,aB,mK]
def Kr{l:List (Int×Nat)}{i:Nat}(hi:i<aQ l):ln (qJ l) i=gQ l i:=by
 unfold ln qJ;rw[List.getD_eq_getElem?_getD,List.getElem?_map,List.getElem?_range hi];rfl
section
variable {l:List (Int×Nat)} {ws:List Int}
def aeB{x:Nat->Int}{n:Nat}(hn:n<aQ l):sm (aQ l) (λk=>aug 0 (qJ l) ws n k*x k)=dot (gQ l n) (aM (aQ l) x):=by
 rw[aa5 (by rw[Aq,cj]),cj];refine aR λk hk=>?_;rw[aiz (by rw[GQ];exact hn) (by rw[Kr hn];exact Aq l n) hk,Kr hn,aY,cY,if_pos hk]
def aoH(hd:(l.map (·.1)).Nodup)(h0:∀x∈l,x.1≠0):tW 0 (aQ l) (aQ l) (aug 0 (qJ l) ws):=λx hx k hk=>by
 have z:=axi hd h0 (uZ l).1 (uZ l).2 (cs:=aM (aQ l) x) (cj ..) λn hn=>by
  have:=hx n hn
  rwa [aY,aeB hn]at this
 rw[aY];have e:co (aM (aQ l) x) k=x k:=by rw[cY,if_pos hk]
 rw[<-e];exact z _ (ux (by rw[cj];exact hk))
def anx{N:Nat}{A:Nat->Nat->Int}(hI:tW 0 N N A):∃x bt,tk 0 bt≠0/\gW 0 N N A x bt:=by
 refine uW λhn=>aoo Dom.zero ∅ (DC N) A λx hx k hk=>?_;by_cases c:x N=0
 .have r:Rel 0 N N A x:=λi hi=>by
   have:=hx i hi;rw[sm,c,aP,dj]at this;exact this
  by_cases e:k=N
  .rw[e,c,aY]
  .exact hI x r k ⋯
 .refine absurd ⟨x,-(x N),by rw[aY];omega,gW.rel.mpr ?_⟩ hn;refineλi hi=>?_;refine(congrArg (tk 0) (aR λj _=>?_)).trans (hx i hi);show A i j*(if j=N then - -x N else x j)=A i j*x j;by_cases e:j=N
  .rw[if_pos e,e,wZ]
  .rw[if_neg e]
def apy{us:List Int}{bot:Int}{f:Nat->Int}(hl:us.length=aQ l)(hw:∀n,n<aQ l->co ws n=f n)(hS:gW 0 (aQ l) (aQ l) (aug 0 (qJ l) ws) (co us) bot)(n:Nat)(hn:n<aQ l):dot (gQ l n) us=bot*f n:=by
 have:=hS n hn;rw[aY,aY,aeB hn,alF (by rw[GQ];exact hn) (by rw[Kr hn];exact Aq l n),aY,hw n hn]at this;rw[<-this];congr 1;rw[<-hl,U8]
end
theorem zQ{x:Int}{n:Nat}(h:Bd n x):∀k:Nat,Bd (n*k+1) (x^k)
 |0=>by rw[tK];exact(Bd.of (n:=1) ∅ ∅).mono ⋯
 |k+1=>by
  rw[jj];exact((zQ h k).mul h).mono (by rw[Nat.mul_succ];omega)
end Cf
namespace Cf
open Pm Rm
def arh(a b:Int)(t:List Int):bI (a::b::t)=bI (b::a::t):=by
 show mul 0 (mul 0 (bI t) (Pm.lin b)) (Pm.lin a)=mul 0 (mul 0 (bI t) (Pm.lin a)) (Pm.lin b);rw[vo,vo,Pm.mul_comm 0 (Pm.lin b)]
def Jg{rs ts:List Int}(h:rs.Perm ts):bI rs=bI ts:=by
 induction h with
 |nil=>rfl
 |cons x _ ih=>show mul 0 (bI _) _=mul 0 (bI _) _;rw[ih]
 |swap a b t=>exact arh b a t
 |trans _ _ h1 h2=>exact h1.trans h2
theorem W9:∀{rs ts:List Int},bI rs=bI ts->rs.Perm ts
 |[],ts,h=>by
  have l:=congrArg sZ h;rw[(nR []).2,(nR ts).2]at l;cases ts with
  |nil=>exact .nil
  |cons a t=>simp at l
 |r::rs,ts,h=>by
  have hm:r∈ts:=by rw[<-xU,<-h];exact xU.mpr (cV ..)
  have p:=agM hm;have e:mul 0 (bI rs) (Pm.lin r)=mul 0 (bI (ts.erase r)) (Pm.lin r):=h.trans (Jg p);have:=W9 (KQ (Mon.pW (nR rs).1) (Mon.pW (nR (ts.erase r)).1) e);exact(this.cons r).trans p.symm
def NT(x r:Int)(m:Nat):(cN m r).count x=if r=x then m else 0:=by
 rw[aeX];simp[beq_iff_eq]
theorem agQ{x:Int}{m:Nat}:∀{l:List (Int×Nat)},(x,m)∈l->m<=(iD l).count x
 |(r,k)::t,h=>by
  rw[iD,Jp,NT];rcases bN.mp h with e|h
  .cases e;rw[if_pos rfl];omega
  .have:=agQ h;omega
theorem adW{x:Int}:∀{l:List (Int×Nat)},x∉l.map (·.1)->(iD l).count x=0
 |[],_=>rfl
 |(r,k)::t,h=>by
  have h':x≠r/\x∉t.map (·.1):=by simpa[not_or]using h
  rw[iD,Jp,NT,if_neg (λe=>h'.1 e.symm),adW h'.2]
theorem count_le{x:Int}{m:Nat}:∀{l:List (Int×Nat)},(l.map (·.1)).Nodup->(x,m)∈l->(iD l).count x<=m
 |(r,k)::t,hd,h=>by
  have hd':r∉t.map (·.1)/\(t.map (·.1)).Nodup:=mL.mp hd;rw[iD,Jp,NT];rcases bN.mp h with e|h
  .cases e;rw[if_pos rfl,adW hd'.1];omega
  .have hne:r≠x:=λe=>hd'.1 (by rw[e];exact iJ (f:=(·.1)) h);rw[if_neg hne];have:=count_le hd'.2 h;omega
def asd{l M:List (Int×Nat)}{rs:List Int}(hd:(M.map (·.1)).Nodup)(e:RP l [1]=bI rs)(hs:rs.Sublist (iD M)){x:Int×Nat}(hx:x∈l)(h0:0<x.2):∃m,(x.1,m)∈M/\x.2<=m:=by
 rw[yG]at e;have p:=W9 e;have h1:=agQ (x:=x.1) (m:=x.2) hx;rw[p.count_eq]at h1;have h2:=hs.count_le x.1;have hm:x.1∈iD M:=adS.mp ⋯;obtain⟨m,hm,_⟩:=DW.mp hm;exact⟨m,hm,by have:=count_le hd hm;omega⟩
def pb:List Int->Nat
 |[]=>1
 |r::t=>(r.natAbs+1)*pb t
theorem adu:∀(rs:List Int) (k:Nat),(co (bI rs) k).natAbs<=pb rs
 |[],k=>by
  cases k with
  |zero=>exact aN 1
  |succ k=>show(co [] k).natAbs<=_;rw[fR];exact cB _
 |r::t,k=>by
  have ih:=adu t;show(co (mul 0 (bI t) (Pm.lin r)) k).natAbs<=(r.natAbs+1)*pb t;rw[BD,yI,m6];have a:(if k=0 then(0:Int)else co (bI t) (k-1)).natAbs<=pb t:=by
   split
   .exact cB _
   .exact ih _
  have b:(r*co (bI t) k).natAbs<=r.natAbs*pb t:=by rw[jT];exact gU (aN _) (ih k)
  omega
theorem adb{c:Nat}:∀{rs:List Int},(∀r∈rs,r.natAbs<=c)->pb rs<=(c+1)^rs.length
 |[],_=>aN 1
 |r::t,h=>by
  have:=adb (rs:=t) λx hx=>h x (cZ _ hx);rw[iK,wH,pU];exact gU (by have:=h r (cV ..);omega) this
end Cf
namespace Cf
open Pm Rm
theorem adw:∀{rs ts:List Int},(∀x,rs.count x<=ts.count x)->∃us,ts.Perm (rs++us)
 |[],ts,_=>⟨ts,.refl _⟩
 |r::rs,ts,h=>by
  have hm:r∈ts:=adS.mp (by have:=h r;rw[List.count_cons_self]at this;omega);have p:=agM hm;obtain⟨us,hu⟩:=adw (rs:=rs) (ts:=ts.erase r) λx=>by
   have:=h x;rw[p.count_eq,abf,abf]at this;omega
  exact⟨us,p.trans (hu.cons r)⟩
theorem WH:∀(rs ts:List Int),bI (rs++ts)=mul 0 (bI ts) (bI rs)
 |[],ts=>by show bI ts=mul 0 (bI ts) [1];rw[mul_one (Mon.pW (nR ts).1)]
 |r::rs,ts=>by
  show mul 0 (bI (rs++ts)) (Pm.lin r)=mul 0 (bI ts) (mul 0 (bI rs) (Pm.lin r));rw[WH rs ts,vo]
def kp_more{rs ts:List Int}{f:Nat->Int}(h:∀x,rs.count x<=ts.count x)(hk:Kp 0 (bI rs) f):Kp 0 (bI ts) f:=by
 obtain⟨us,p⟩:=adw h;rw[Jg p,WH];exact hk.Jq (bI us)
def Wq{P:List Int}{B:Nat}(h:∀k,(co P k).natAbs<=B)(r:Int)(k:Nat):(co (mul 0 P (Pm.lin r)) k).natAbs<=(r.natAbs+1)*B:=by
 rw[BD,yI,m6];have a:(if k=0 then(0:Int)else co P (k-1)).natAbs<=B:=by
  split
  .exact cB _
  .exact h _
 have b:(r*co P k).natAbs<=r.natAbs*B:=by rw[jT];exact gU (aN _) (h k)
 omega
def aiU{P:List Int}{B:Nat}(h:∀k,(co P k).natAbs<=B)(r:Int)(k:Nat):(co (mul 0 (mul 0 P (Pm.lin (-r))) (Pm.lin r)) k).natAbs<=(r.natAbs*r.natAbs+1)*B:=by
 have e:co (mul 0 (mul 0 P (Pm.lin (-r))) (Pm.lin r)) k=(if k<2 then 0 else co P (k-2))-r*r*co P k:=by
  rw[BD,BD,BD]
  match k with
  |0=>rw[if_pos rfl,if_pos rfl,if_pos ∅,mR,mR,gM,wZ,bU,mR]
  |1=>rw[if_neg ∅,if_pos rfl,if_neg ∅,if_pos ∅,mR,gM,wZ,gM,iH,qp,<-bU];show r*co P 0-(r*co P 0 - -(r*r*co P 1))=_;omega
  |k+2=>rw[if_neg ⋯,if_neg ⋯,if_neg ⋯,if_neg ⋯,iH,gM,gM,qp,<-bU];show co P k - -(r*co P (k+1))-(r*co P (k+1) - -(r*r*co P (k+2)))=co P k-_;omega
 rw[e,yI,m6];have a:(if k<2 then(0:Int)else co P (k-2)).natAbs<=B:=by
  split
  .exact cB _
  .exact h _
 have b:(r*r*co P k).natAbs<=r.natAbs*r.natAbs*B:=by rw[jT,jT];exact gU (aN _) (h k)
 omega
def wp(a:Nat):Nat->Nat->Nat
 |0,q=>(a+1)^q
 |p+1,0=>(a+1)*wp a p 0
 |p+1,q+1=>(a*a+1)*wp a p q
theorem yj{s:List Int}{B:Nat}(a:Nat)(h:∀k,(co (bI s) k).natAbs<=B):∀(p q k:Nat),(co (bI (cN p (a:Int)++(cN q (-(a:Int))++s))) k).natAbs<=wp a p q*B
 |0,0,k=>by rw[wp,Fj,m6];exact h k
 |p+1,0,k=>by
  rw[wp,Il];exact Wq (yj a h p 0) (a:Int) k
 |0,q+1,k=>by
  rw[wp,wH,pU _ (a+1),Il];have:=Wq (yj a h 0 q) (-(a:Int)) k;rw[za]at this;exact this
 |p+1,q+1,k=>by
  rw[wp,Il];have e:bI (cN (p+1) (a:Int)++(cN (q+1) (-(a:Int))++s))=bI ((a:Int) :: -(a:Int)::(cN p (a:Int)++(cN q (-(a:Int))++s))):=Jg (.cons _ List.perm_middle);rw[e];exact aiU (yj a h p q) (a:Int) k
def BJ(a:Nat):List (Nat×Nat):=(eX 16).map λi=>(i/4+i%4,wp a (i/4) (i%4))
def aoR:((BJ 4).all λx=>(BJ 3).all λy=>decide (10<x.1+y.1)||(BJ 2).all λz=>decide (10<x.1+y.1+z.1)||(BJ 1).all λu=>decide (10<x.1+y.1+z.1+u.1)||decide (x.2*(y.2*(z.2*(u.2*1)))<1000000))=true:=by decide +kernel
def Ep(a:Nat){p q:Nat}(hp:p<=3)(hq:q<=3):(p+q,wp a p q)∈BJ a:=bZ.mpr ⟨p*4+q,iV.mpr ⋯,by rw[show(p*4+q)/4=p by omega,show(p*4+q)%4=q by omega]⟩
def allR:List Int:=[4,-4,3,-3,2,-2,1,-1]
def rD:List Int:=allR.flatMap (cN 3)
def LY(x:Int):rD.count x=if x∈allR then 3 else 0:=by
 by_cases h:x∈allR
 .rw[if_pos h];have:∀x∈allR,rD.count x=3:=∅;exact this x h
 .rw[if_neg h];refine Yq.mpr λz=>h ?_;obtain⟨y,hy,hz⟩:=Qw.mp z;rw[(Wx.mp hz).2];exact hy
def alG{rs:List Int}(hs:∀x,rs.count x<=rD.count x)(hl:rs.length<=10)(k:Nat):(co (bI rs) k).natAbs<1000000:=by
 have c3:∀x,rs.count x<=3:=λx=>by have:=hs x;rw[LY]at this;split at this<;>omega
 obtain⟨ts,et⟩:∃ts,ts=cN (rs.count 4) ((4:Nat):Int)++(cN (rs.count (-4)) (-((4:Nat):Int))++(cN (rs.count 3) ((3:Nat):Int)++(cN (rs.count (-3)) (-((3:Nat):Int))++(cN (rs.count 2) ((2:Nat):Int)++(cN (rs.count (-2)) (-((2:Nat):Int))++(cN (rs.count 1) ((1:Nat):Int)++(cN (rs.count (-1)) (-((1:Nat):Int))++[]))))))):=⟨_,rfl⟩;have p:rs.Perm ts:=List.perm_iff_count.mpr λx=>by
  rw[et];simp only[Jp,aeX,List.count_nil];by_cases h:x∈allR
  .simp only[allR,bN,gR,or_false]at h;rcases h with rfl|rfl|rfl|rfl|rfl|rfl|rfl|rfl<;>simp
  .have h0:rs.count x=0:=by have:=hs x;rw[LY,if_neg h]at this;omega
   simp only[allR,bN,gR,or_false,not_or]at h;obtain⟨h1,h2,h3,h4,h5,h6,h7,h8⟩:=h;rw[h0];simp[beq_iff_eq,dF h1,dF h2,dF h3,dF h4,dF h5,dF h6,dF h7,dF h8]
 have len:=p.length_eq;have b0:∀k,(co (bI []) k).natAbs<=1:=λk=>by
  cases k with
  |zero=>exact aN 1
  |succ k=>show(co [] k).natAbs<=_;rw[fR];exact cB _
 have b:=yj 4 (yj 3 (yj 2 (yj 1 b0 (rs.count 1) (rs.count (-1))) (rs.count 2) (rs.count (-2))) (rs.count 3) (rs.count (-3))) (rs.count 4) (rs.count (-4)) k;rw[<-et,<-Jg p]at b;rw[et]at len;simp only[dW,rP,K8]at len;have a4:=lZ.mp aoR _ (Ep 4 (c3 4) (c3 (-4)));have a3:=lZ.mp a4 _ (Ep 3 (c3 3) (c3 (-3)));simp only[vU,decide_eq_true_eq]at a3;have a2:=lZ.mp (a3.resolve_left ⋯) _ (Ep 2 (c3 2) (c3 (-2)));simp only[vU,decide_eq_true_eq]at a2;have a1:=lZ.mp (a2.resolve_left ⋯) _ (Ep 1 (c3 1) (c3 (-1)));simp only[vU,decide_eq_true_eq]at a1;have:=a1.resolve_left ⋯;omega
end Cf
namespace Cf
open Pm Rm
def eO(ps:List (Int×List Int)):List Int:=ps.flatMap (·.2)
def qj(c:Int)(ps:List (Int×List Int)):List (Int×List Int):=ps.map λp=>(p.1,p.2.map λt=>c*t)
theorem Tp(c x:Int):∀q:List Int,pv (q.map λt=>c*t) x=c*pv q x
 |[]=>(aP c).symm
 |a::q=>by
  show c*a+x*pv (q.map λt=>c*t) x=c*(a+x*pv q x);rw[Tp c x q,f9,fj]
def vL(p:Int×List Int)(ps:List (Int×List Int))(n:Nat):bJ (p::ps) n=p.1^n*pv p.2 (n:Int)+bJ ps n:=by unfold bJ;rw[bG,gF]
theorem G8(c:Int)(n:Nat):∀ps:List (Int×List Int),bJ (qj c ps) n=c*bJ ps n
 |[]=>(aP c).symm
 |p::ps=>by
  show bJ ((p.1,p.2.map λt=>c*t)::qj c ps) n=_;rw[vL,vL,G8 c n ps,Tp,f9,fj]
def aad(c:Int)(ps:List (Int×List Int)):eO (qj c ps)=(eO ps).map λt=>c*t:=by
 unfold eO qj;rw[List.flatMap_map,List.map_flatMap]
structure Fm(f:Nat->Int)(bot:Int)(ps:List (Int×List Int)):Prop where
 pos:1<=bot
 up:(ps.map (·.1)).Pairwise (· < ·)
 ne:∀p∈ps,p.1≠0
 last:∀p∈ps,co p.2 (p.2.length-1)≠0
 gcd:Lm.dg bot.natAbs (eO ps)=1
 sum:∀n,bJ ps n=bot*f n
theorem map_inj{α β:Type}{f:α->β}(hf:∀x y,f x=f y->x=y):∀{a b:List α},a.map f=b.map f->a=b
 |[],[],_=>rfl
 |[],_::_,h=>by cases h
 |_::_,[],h=>by cases h
 |x::a,y::b,h=>by
  rw[bG,bG]at h;injection h with h1 h2;rw[hf x y h1,map_inj hf h2]
def Fm.uniq{f:Nat->Int}{b b':Int}{ps ps':List (Int×List Int)}(F:Fm f b ps)(F':Fm f b' ps'):b=b'/\ps=ps':=by
 have hb:=F.pos;have hb':=F'.pos;have fs:∀(c:Int) (ps:List (Int×List Int)),(qj c ps).map (·.1)=ps.map (·.1):=λc ps=>by unfold qj;rw[cR];rfl
 have hl:∀{c:Int} {ps:List (Int×List Int)},c≠0->(∀p∈ps,co p.2 (p.2.length-1)≠0)->∀q∈qj c ps,co q.2 (q.2.length-1)≠0:=λ{c ps} hc h q hq=>by
  obtain⟨p,hp,rfl⟩:=bZ.mp hq;show co (p.2.map λt=>c*t) ((p.2.map λt=>c*t).length-1)≠0;rw[aB,lN (f:=λt=>c*t) (aP c)];intro z;exact(kZ.mp z).elim hc (h p hp)
 have e:qj b' ps=qj b ps':=by
  refine aoT (R:=ps.map (·.1)++(ps'.map (·.1)).filter λx=>decide (x∉ps.map (·.1))) ?_ ?_ ?_ ?_ (by rw[fs];exact F.up) (by rw[fs];exact F'.up) (hl ⋯ F.last) (hl ⋯ F'.last) λn=>by
   rw[G8,G8,F.sum,F'.sum,fj]
  .refine TQ.mpr ⟨qW F.up,(qW F'.up).filter _,λx hx y hy z=>?_⟩;subst z;exact absurd hx (by simpa using(pA.mp hy).2)
  .intro r hr;rcases fM.mp hr with hr|hr
   .obtain⟨p,hp,rfl⟩:=bZ.mp hr;exact F.ne p hp
   .obtain⟨p,hp,rfl⟩:=bZ.mp (pA.mp hr).1;exact F'.ne p hp
  .intro p hp;exact Hw _ (by rw[<-fs b'];exact iJ (f:=(·.1)) hp)
  .intro p hp;have hm:p.1∈ps'.map (·.1):=by rw[<-fs b];exact iJ (f:=(·.1)) hp
   by_cases c:p.1∈ps.map (·.1)
   .exact Hw _ c
   .exact nJ _ (pA.mpr ⟨hm,decide_eq_true c⟩)
 have ef:=congrArg eO e;rw[aad,aad]at ef;have nb:((b.natAbs:Nat):Int)=b:=⋯;have nb':((b'.natAbs:Nat):Int)=b':=⋯;have g1:=Lm.HX b'.natAbs b.natAbs (eO ps);have g2:=Lm.HX b.natAbs b'.natAbs (eO ps');rw[nb',F.gcd,ef]at g1;rw[nb,F'.gcd,pU b.natAbs]at g2;have eb:b'=b:=by have:=g1.symm.trans g2;omega
 subst eb;refine⟨rfl,map_inj (λp q z=>?_) e⟩;injection z with z1 z2;exact Kq z1 (map_inj (λx y e=>Gw ⋯ e) z2)
def dB(r:Int):List (Int×List Int)->List Int
 |[]=>[]
 |p::T=>if p.1=r then p.2 else dB r T
def n8(r:Int)(c:List Int):List (Int×List Int)->List (Int×List Int)
 |[]=>[(r,c)]
 |p::T=>if p.1=r then(r,c)::T else p::n8 r c T
theorem agX(r:Int)(c:List Int)(n:Nat):∀T,bJ (n8 r c T) n+r^n*pv (dB r T) (n:Int)=bJ T n+r^n*pv c (n:Int)
 |[]=>by show bJ [(r,c)] n+r^n*0=0+_;rw[vL,aP];show r^n*pv c n+(0:Int)+0=_;omega
 |p::T=>by
  have ih:=agX r c n T;unfold n8 dB;by_cases h:p.1=r
  .rw[if_pos h,if_pos h,vL,vL,h];show r^n*pv c n+bJ T n+r^n*pv p.2 n=r^n*pv p.2 n+bJ T n+r^n*pv c n;omega
  .rw[if_neg h,if_neg h,vL,vL];omega
theorem aep(r:Int)(c:List Int):∀T,(n8 r c T).map (·.1)=if r∈T.map (·.1)then T.map (·.1)else T.map (·.1)++[r]
 |[]=>rfl
 |p::T=>by
  have ih:=aep r c T;unfold n8;by_cases h:p.1=r
  .rw[if_pos h,if_pos (by rw[bG,h];exact cV ..),bG,bG,h]
  .rw[if_neg h,bG,ih,bG];by_cases d:r∈T.map (·.1)
   .rw[if_pos d,if_pos (cZ _ d)]
   .rw[if_neg d,if_neg λz=>(bN.mp z).elim (λz=>h z.symm) d,List.cons_append]
theorem ZM{r:Int}{c:List Int}{q:Int×List Int}:∀{T},q∈n8 r c T->q=(r,c)∨q∈T
 |[],h=> .inl (eV.mp h)
 |p::T,h=>by
  unfold n8 at h;split at h
  .exact(bN.mp h).imp id (cZ _)
  .rcases bN.mp h with h|h
   .exact .inr (h▸cV ..)
   .exact(ZM h).imp id (cZ _)
theorem Rv:∀{T:List (Int×List Int)},(T.map (·.1)).Nodup->∀{p},p∈T->dB p.1 T=p.2
 |q::T,hd,p,hp=>by
  have hd':q.1∉T.map (·.1)/\(T.map (·.1)).Nodup:=mL.mp hd;unfold dB;rcases bN.mp hp with rfl|hp
  .rw[if_pos rfl]
  .rw[if_neg (λe=>hd'.1 (by rw[e];exact iJ (f:=(·.1)) hp))];exact Rv hd'.2 hp
theorem Fq{r:Int}:∀{T:List (Int×List Int)},dB r T≠[]->(r,dB r T)∈T
 |[],h=>absurd rfl h
 |p::T,h=>by
  unfold dB at h⊢;split
  .rename_i e;rw[<-e];exact cV ..
  .rename_i e;rw[if_neg e]at h;exact cZ _ (Fq h)
theorem QC(x:Int)(k:Nat):∀a:List Int,pv (a++cN k 0) x=pv a x
 |[]=>by
  induction k with
  |zero=>rfl
  |succ k ih=>show(0:Int)+x*pv (cN k 0) x=0;rw[show pv (cN k 0) x=0 from ih,aP];rfl
 |c::a=>by show c+x*pv (a++_) x=c+x*pv a x;rw[QC x k a]
theorem ae6(x:Int):∀{a b:List Int},a.length=b.length->pv (uH (· + ·) a b) x=pv a x+pv b x
 |[],[],_=>rfl
 |c::a,d::b,h=>by
  show c+d+x*pv (uH (· + ·) a b) x=c+x*pv a x+(d+x*pv b x);rw[ae6 x (by simpa using h),f9];omega
def yx(a b:List Int):List Int:=uH (· + ·) (a++cN (max a.length b.length-a.length) 0) (b++cN (max a.length b.length-b.length) 0)
def akx(x:Int)(a b:List Int):pv (yx a b) x=pv a x+pv b x:=by
 unfold yx;rw[ae6,QC,QC];rw[dW,dW,rP,rP];omega
def ap6(a b:List Int):(yx a b).length=max a.length b.length:=by
 unfold yx;rw[adV,dW,dW,rP,rP];omega
def jl(g:Int)(c:List Int):List Int:=trim (c.map λt=>t/g)
def lowP(T:List (Int×List Int))(g:Int)(ks:List Int):List (Int×List Int):=(ks.map λr=>(r,jl g (dB r T))).filter λp=>decide (p.2≠[])
def aq6(c:List Int)(x:Int):pv (trim c) x=pv c x:=by
 rw[uO,uO,<-lH (p:=trim c) (tO c) x,<-lH (p:=c) (aN _) x];exact aR λk _=>by rw[j6]
theorem afF{g x:Int}(hg:g≠0):∀{c:List Int},(∀t∈c,g∣t)->g*pv (c.map λt=>t/g) x=pv c x
 |[],_=>aP g
 |t::c,h=>by
  have e:g*(t/g)=t:=Ou (h t (cV ..));have ih:=afF (x:=x) hg (c:=c) λu hu=>h u (cZ _ hu);show g*(t/g+x*pv (c.map λt=>t/g) x)=t+x*pv c x;rw[f9,e,fj,ih]
theorem Yb{T:List (Int×List Int)}{g:Int}(hg:g≠0)(hd:∀r,∀t∈dB r T,g∣t)(n:Nat):∀ks:List Int,g*bJ (lowP T g ks) n=(ks.map λr=>r^n*pv (dB r T) (n:Int)).sum
 |[]=>aP g
 |r::ks=>by
  have ih:=Yb hg hd n ks;have e:g*(r^n*pv (jl g (dB r T)) (n:Int))=r^n*pv (dB r T) (n:Int):=by rw[fj];unfold jl;rw[aq6,afF hg (hd r)]
  unfold lowP at ih⊢;rw[bG,bG,gF,sO];split
  .rw[vL,f9,ih];show g*(r^n*pv (jl g (dB r T)) (n:Int))+_=_;rw[e]
  .rename_i z
   have z':jl g (dB r T)=[]:=by simpa using z
   rw[z']at e;rw[ih,<-e];show _=g*(r^n*0)+_;rw[aP,aP,ig]
def awR{d:Nat}:∀{g:Nat} {ts:List Int},d∣g->(∀t∈ts,(d:Int)∣t)->d∣Lm.dg g ts:=by
 intro g ts;induction ts generalizing g with
 |nil=>intro h _;exact h
 |cons t r ih=>
  intro h h2;refine ih (Nat.dvd_gcd h ?_) λx hx=>h2 x (cZ _ hx);exact Xa.mp (Int.dvd_natAbs.mpr (h2 t (cV ..)))
def Tq{T:List (Int×List Int)}{t:Int}:t∈eO T↔∃p∈T,t∈p.2:=Qw
def aov{f:Nat->Int}{bot:Int}{T:List (Int×List Int)}{ks:List Int}(hb:1<=bot)(hd:(T.map (·.1)).Nodup)(h0:∀p∈T,p.1≠0)(hs:∀n,bJ T n=bot*f n)(hp:ks.Perm (T.map (·.1)))(hk:ks.Pairwise (·<=·)):
  Fm f (bot/(Lm.dg bot.natAbs (eO T):Nat)) (lowP T (Lm.dg bot.natAbs (eO T):Nat) ks):=by
 have g1:(Lm.dg bot.natAbs (eO T):Int)∣bot:=by
  have:=Xa.mpr (Lm.AZ bot.natAbs (eO T))
  rwa [show((bot.natAbs:Nat):Int)=bot by omega]at this
 have g2:=Lm.Qx bot.natAbs (eO T);have gp:=Lm.Hh (g:=bot.natAbs) ⋯ (eO T);have gm:=Lm.HX (Lm.dg bot.natAbs (eO T)) (bot/(Lm.dg bot.natAbs (eO T):Nat)).natAbs ((eO T).map λt=>t/(Lm.dg bot.natAbs (eO T):Nat));obtain⟨g,eg⟩:∃g,g=Lm.dg bot.natAbs (eO T):=⟨_,rfl⟩;rw[<-eg]at g1 g2 gp gm⊢;obtain⟨q,eq⟩:=g1;have hg:(g:Int)≠0:=⋯;have eb:bot/(g:Int)=q:=by rw[eq];exact Int.mul_ediv_cancel_left _ hg
 have hq:1<=q:=by
  rcases Int.lt_or_le q 1 with c|c
  .have:(g:Int)*q<=(g:Int)*0:=G4 ⋯ ⋯;omega
  .exact c
 rw[eb]at gm⊢;have hv:∀r,∀t∈dB r T,(g:Int)∣t:=λr t ht=>g2 t (Tq.mpr ⟨_,Fq (λz=>by rw[z]at ht;cases ht),ht⟩);have up:ks.Pairwise (· < ·):=(List.pairwise_and_iff.mpr ⟨hk,(hp.nodup_iff.mpr hd)⟩).imp λh=>by have:=h.1;have:=h.2;omega
 have hm:∀p∈lowP T (g:Int) ks,p.1∈ks/\p.2=jl g (dB p.1 T)/\p.2≠[]:=λp h=>by
  obtain⟨h1,h2⟩:=pA.mp h;obtain⟨r,hr,rfl⟩:=bZ.mp h1;exact⟨hr,rfl,by simpa using h2⟩
 refine⟨hq,?_,λp h=>?_,λp h=>?_,?_,λn=>?_⟩
 .have:((ks.map λr=>(r,jl g (dB r T))).map (·.1))=ks:=by rw[cR];exact xK ks
  refine vd.mpr ((vd.mp ?_).filter _);rw[this];exact up
 .obtain⟨p',hp',e⟩:=bZ.mp (hp.mem_iff.mp (hm p h).1);rw[<-e];exact h0 p' hp'
 .obtain⟨_,e,hne⟩:=hm p h;exact rm hne (by rw[e];exact RT _)
 ·-- nothing more in common
  have e1:(eO T).map (λt=>(g:Int)*(t/g))=eO T:=(lG λt ht=>Ou (g2 t ht)).trans (xK _);rw[cR]at gm;have e2:(eO T).map ((λt=>(g:Int)*t)∘λt=>t/g)=eO T:=e1;rw[e2,show g*q.natAbs=bot.natAbs by rw[eq,jT,uU],<-eg]at gm;have e3:Lm.dg q.natAbs ((eO T).map λt=>t/g)=1:=by
   rcases SW (Lm.dg q.natAbs ((eO T).map λt=>t/g))with z|z
   .rw[z]at gm;omega
   .exact WT gp (by rw[<-gm,DB])
  refine Nat.dvd_one.mp ?_;rw[<-e3];refine awR (Lm.AZ _ _) λt ht=>?_;obtain⟨u,hu,rfl⟩:=bZ.mp ht;obtain⟨p,FP,hup⟩:=Tq.mp hu;by_cases z:u/(g:Int)=0
  .rw[z];exact ae1 _
  refine Lm.Qx _ _ _ (Tq.mpr ⟨(p.1,jl g (dB p.1 T)),?_,?_⟩);all_goals
   have hc:u/(g:Int)∈jl g (dB p.1 T):=by
    rw[Rv hd FP];obtain⟨i,hi,e⟩:=jA.mp (iJ (f:=λt=>t/(g:Int)) hup);have c1:co (jl (g:Int) p.2) i=u/(g:Int):=by unfold jl;rw[j6,jf hi,e]
    have hi2:i<(jl (g:Int) p.2).length:=by
     rcases vg i (jl (g:Int) p.2).length with c|c
     .exact c
     .rw[aX c]at c1;exact absurd c1.symm z
    rw[<-c1];exact ux hi2
   first|exact hc|exact pA.mpr ⟨bZ.mpr ⟨p.1,hp.mem_iff.mpr (iJ (f:=(·.1)) FP),rfl⟩,decide_eq_true λz'=>by rw[show jl (g:Int) (dB p.1 T)=[]from z']at hc;cases hc⟩
 .refine Gw hg ?_;rw[Yb hg hv,<-bU,<-eq,<-hs];have pm:=(hp.map λr=>r^n*pv (dB r T) (n:Int));have se:∀{a b:List Int},a.Perm b->a.sum=b.sum:=λh=>by
   induction h with
   |nil=>rfl
   |cons x _ ih=>rw[gF,gF,ih]
   |swap x y t=>rw[gF,gF,gF,gF];omega
   |trans _ _ h1 h2=>exact h1.trans h2
  rw[se pm,cR];unfold bJ;congr 1;exact lG λp FP=>by show p.1^n*pv (dB p.1 T) n=_;rw[Rv hd FP]
end Cf
namespace K48
open PySem L2
seal PA PE PS jK PT PW PI PG zG PO Ac
def top(i:Nat):Stmt:=PySem.Challenge.pw_nextbyrule_k48_whole_closed_forms_added.main.body.getD i (.Pass ⟨0,0,0,0⟩)
abbrev QD:Stmt:=top 7
abbrev Lr:Stmt:=top 8
abbrev Mh:Stmt:=top 9
abbrev Vx:Stmt:=top 10
abbrev M7:Stmt:=top 13
abbrev QZ:Stmt:=top 14
abbrev Tg:Stmt:=top 15
abbrev Qy:Stmt:=top 16
abbrev Tw:Stmt:=top 18
abbrev Ur:Stmt:=top 19
abbrev QM:Stmt:=top 20
abbrev Vg:Stmt:=top 21
abbrev OL:Stmt:=top 22
abbrev LC:Stmt:=top 23
abbrev Oa:Stmt:=top 24
abbrev Ni:Stmt:=top 27
abbrev Tv:Stmt:=top 28
abbrev Nk:Stmt:=top 29
abbrev Ss:Stmt:=top 30
abbrev Vs:Stmt:=top 31
abbrev MR:Stmt:=top 32
abbrev Td:Stmt:=top 33
abbrev Pa:Stmt:=top 35
abbrev Sd:Stmt:=top 36
abbrev Nv:Stmt:=top 37
abbrev NP:Stmt:=top 39
abbrev PL:Stmt:=top 40
abbrev Li:Stmt:=top 41
abbrev Va:Stmt:=top 42
abbrev R4:Stmt:=top 43
abbrev Ti:Stmt:=top 44
abbrev Nz:Stmt:=top 45
abbrev Vc:Stmt:=top 46
abbrev MJ:Stmt:=top 47
abbrev R5:Stmt:=top 48
abbrev MP:Stmt:=top 49
abbrev Ly:Stmt:=top 50
abbrev Uo:Stmt:=top 53
abbrev Ny:Stmt:=top 54
abbrev Ux:Stmt:=top 55
abbrev Lx:Stmt:=top 56
abbrev Mq:Stmt:=top 57
abbrev M9:Stmt:=top 58
abbrev PK:Stmt:=top 59
abbrev Oi:Stmt:=top 60
abbrev QV:Stmt:=top 61
abbrev Rj:Stmt:=top 63
abbrev Rk:Stmt:=top 64
abbrev SN:Stmt:=top 65
abbrev R9:Stmt:=top 66
abbrev Ot:Stmt:=top 67
abbrev LV:Stmt:=top 68
abbrev Vf:Stmt:=top 69
abbrev UG:Stmt:=top 71
abbrev Lb:Stmt:=top 72
abbrev MG:Stmt:=top 74
abbrev KW:Stmt:=top 75
abbrev Ue:Stmt:=top 76
abbrev NV:Stmt:=top 77
abbrev Vw:Stmt:=top 78
abbrev Qs:Stmt:=top 79
abbrev wk:Stmt:=top 80
def Mi:aZ ["number","divisor"] ["number"] (aU QD):=bH
def alb:aZ ["by","number"] ["by","number"] (aU Lr):=bH
def xr:aZ ["prime","number","power","square","left"] ["prime","number"] (aU Mh):=bH
def ahY:aZ ["by","one","other"] ["by","one","other"] (aU Vx):=bH
def aoI:aZ ["one","other"] ["one","other"] (aU M7):=bH
def asn:aZ ["row"] ["row"] (aU QZ):=bH
def IG:aZ ["by","rule","before","total","k"] ["by","rule","before"] (aU Tg):=bH
def DN:aZ ["row","count","by","rule","starts","found"] ["row","count"] (aU Qy):=bH
def Uc:aZ ["numbers","end"] ["numbers"] (aU Tw):=bH
def Hg:aZ ["by","one","other","total","i","k"] ["by","one","other"] (aU Ur):=bH
def xG:aZ ["by","one","other","top","often","left","shift","factor","k"] ["by","one","other"] (aU QM):=bH
def Wi:aZ ["prime","poly","last"] ["prime","poly"] (aU Vg):=bH
def yM:aZ ["by","one","other","great","small","left"] ["by","one","other"] (aU OL):=bH
def Rg:aZ ["by","rule","length","numbers"] ["by","rule"] (aU LC):=bH
def Wy:aZ ["by","poly","length"] ["by","poly"] (aU Oa):=bH
def UL:aZ ["number","found"] ["number"] (aU Ni):=bH
def ajU:aZ ["monic_one","poly"] ["monic_one","poly"] (aU Tv):=bH
def awC:aZ ["prime","poly"] ["prime","poly"] (aU Nk):=bH
def aee:aZ ["modulus","number","rest"] ["modulus","number"] (aU Ss):=bH
def af6:aZ ["modulus","number","prime","rest","more"] ["modulus","number","prime","rest"] (aU Vs):=bH
def mQ:aZ ["one","other","told","modulus","prime","ripe","seen","before"] ["one","other"] (aU MR):=bH
def awd:aZ ["by","one","other"] ["by","one","other"] (aU Td):=bH
def Ab:aZ ["row","poly","by","starts","top","k","parts"] ["row","poly"] (aU Pa):=bH
def Jc:aZ ["row","by","poly","top"] ["row"] (aU Sd):=bH
def Ub:aZ ["row","least","rule"] ["row"] (aU Nv):=bH
def ar6:aZ ["by","line"] ["by","line"] (aU NP):=bH
def abL:aZ ["lines","begin","column","i"] ["lines","begin","column"] (aU PL):=bH
def aer:aZ ["by","lines","at","top","down"] ["by","lines","at","top"] (aU Li):=bH
def Ck:aZ ["by","line","head","column","last","pivot","factor","mixed","share"] ["by","line","head","column","last"] (aU Va):=bH
def uX:aZ ["by","wide","lines","heads","last","column","top","at","i"] ["by","wide","lines"] (aU R4):=bH
def zp:aZ ["one","other","great","small","left"] ["one","other"] (aU Ti):=bH
def Bp:aZ ["by","bottom","tops","top","divisor"] ["by","bottom","tops"] (aU Nz):=bH
def atD:aZ ["by","wide","lines","heads","last","column","free","i"] ["by","wide","lines","heads","last"] (aU Vc):=bH
def vp:aZ ["by","wide","table","wished","lines","i","cleared","heads","last","tops","low"] ["by","wide","table","wished"] (aU MJ):=bH
def apP:aZ ["table","column"] ["table","column"] (aU R5):=bH
def ajw:aZ ["by","wide","table","wished","turned","goal"] ["by","wide","table","wished"] (aU MP):=bH
def abv:aZ ["by","wide","table","wished","found"] ["by","wide","table","wished"] (aU Ly):=bH
def ap0:aZ ["poly"] ["poly"] (aU Uo):=bH
def Cu:aZ ["number","small","great","tried"] ["number"] (aU Ny):=bH
def Gq:aZ ["poly","low","above","below"] ["poly"] (aU Ux):=bH
def xM:aZ ["poly","root","often","left","tried"] ["poly","root"] (aU Lx):=bH
def zY:aZ ["poly","roots","left","root","found"] ["poly"] (aU Mq):=bH
def JC:aZ ["number","exponent","product","turn"] ["number","exponent"] (aU M9):=bH
def Ma:aZ ["roots","n","line","pair"] ["roots","n"] (aU PK):=bH
def yW:aZ ["roots","tops","parts","begin","pair","end"] ["roots","tops"] (aU Oi):=bH
def zq:aZ ["row","found","roots","length","table","answer"] ["row"] (aU QV):=bH
def atU:aZ ["length"] ["length"] (aU Rj):=bH
def RN:aZ ["by","rule","starts","rule_taken","starts_taken"] ["by","rule","starts"] (aU Rk):=bH
def ail:aZ ["ours","theirs","n"] ["ours","theirs","n"] (aU SN):=bH
def G9:aZ ["one","other","rule","pair_place","length","ours","theirs"] ["one","other","rule","pair_place"] (aU R9):=bH
def Bf:aZ ["one","other","pair_place","by","ours","theirs","poly"] ["one","other","pair_place"] (aU Ot):=bH
def anC:aZ ["one","other"] ["one","other"] (aU LV):=bH
def ale:aZ ["row","number"] ["row","number"] (aU Vf):=bH
def Rz:aZ ["_law_script","_law_k","_law_mixed"] ["_law_script","_law_k"] (aU UG):=bH
def IZ:aZ ["_law_one","_law_other","_law_found","_law_k","_law_j"] ["_law_one","_law_other"] (aU Lb):=bH
def zc:aZ ["_law_script","_law_at_here","_law_most","_law_wide","_law_found","_law_k","_law_cell","_law_root","_law_many"] ["_law_script","_law_at_here","_law_most","_law_wide"] (aU MG):=bH
def yH:aZ ["_law_roots_here","_law_poly","_law_root","_law_many","_law_k"] ["_law_roots_here"] (aU KW):=bH
def wI:aZ ["_law_script","_law_at_here","_law_roots_here","_law_poly","_law_rule","_law_starts","_law_k","_law_cell"] ["_law_script","_law_at_here"] (aU Ue):=bH
def Kv:aZ ["_law_one","_law_other"] ["_law_one","_law_other"] (aU NV):=bH
def uz:aZ ["_law_tops","_law_bottom","_law_part","_law_root","_law_top","_law_parts","_law_some"] ["_law_tops","_law_bottom"] (aU Vw):=bH
def qM:aZ ["_law_one","_law_other","_law_tops","_law_form","_law_times_it","_law_root","_law_some","_law_there","_law_size","_law_more"] ["_law_one","_law_other"] (aU Qs):=bH
def tU:aZ ["_law_script","_law_one","_law_other","_law_number","_law_form","_law_tops","_law_root","_law_some"] ["_law_script"] (aU wk):=bH
abbrev ar8:=dX [(".0",.local),("number",.local),("over",.globalImplicit),("last",.cell),("prime",.cell)]
abbrev air:=dX [(".0",.local),("k",.local),("taken",.globalImplicit),("by",.cell),("length",.cell),("rule",.cell)]
abbrev at7:=dX [(".0",.local),("k",.local),("taken",.globalImplicit),("by",.cell),("length",.cell),("poly",.cell)]
abbrev aje:=dX [(".0",.local),("number",.local),("taken",.globalImplicit),("prime",.cell)]
abbrev amc:=dX [(".0",.local),("rest",.local),("nearest",.globalImplicit),("prime",.cell)]
abbrev aqE:=dX [(".0",.local),("k",.local),("joined",.globalImplicit),("before",.cell),("modulus",.cell),("prime",.cell),("seen",.cell)]
abbrev ahx:=dX [(".0",.local),("j",.local),("k",.cell),("poly",.cell),("starts",.cell)]
abbrev ahZ:=dX [(".0",.local),("number",.local),("taken",.globalImplicit),("by",.cell)]
abbrev alk:=dX [(".0",.local),("number",.local),("taken",.globalImplicit),("by",.cell)]
abbrev aiv:=dX [(".0",.local),("k",.local),("factor",.cell),("head",.cell),("line",.cell),("pivot",.cell)]
abbrev axp:=dX [(".0",.local),("number",.local),("last",.cell)]
abbrev ajt:=dX [(".0",.local),("number",.local),("taken",.globalImplicit),("by",.cell),("share",.cell)]
abbrev arY:=dX [(".0",.local),("top",.local),("over",.globalImplicit),("bottom",.cell),("by",.cell)]
abbrev ayu:=dX [(".0",.local),("top",.local),("divisor",.cell)]
abbrev ax0:=dX [(".0",.local),("i",.local),("line_taken",.globalImplicit),("by",.cell),("table",.cell),("wished",.cell)]
abbrev auU:=dX [(".0",.local),("line",.local),("wide",.cell)]
abbrev apw:=dX [(".0",.local),("number",.local),("abs",.globalImplicit),("ABOVE_ALL_NUMBERS",.globalImplicit)]
abbrev anc:=dX [(".0",.local),("number",.local)]
abbrev akj:=dX [(".0",.local),("divisor",.local)]
abbrev aub:=dX [(".0",.local),("j",.local),("power",.globalImplicit),("n",.cell),("pair",.cell)]
abbrev avv:=dX [(".0",.local),("pair",.local)]
abbrev aqw:=dX [(".0",.local),("pair",.local)]
abbrev auy:=dX [(".0",.local),("n",.local),("form_line",.globalImplicit),("roots",.cell)]
abbrev alz:=dX [(".0",.local),("number",.local),("taken",.globalImplicit),("by",.cell)]
abbrev apq:=dX [(".0",.local),("number",.local),("taken",.globalImplicit),("by",.cell)]
abbrev am7:=dX [(".0",.local),("n",.local),("ours",.cell),("pair_place",.cell),("theirs",.cell)]
abbrev ajl:=dX [(".0",.local),("start",.local),("number",.cell)]
abbrev aqi:=dX [(".0",.local),("_law_one",.local),("_law_found",.cell)]
abbrev aos:=dX [(".0",.local),("_law_root",.local),("_law_found",.cell)]
abbrev axI:=dX [(".0",.local),("_law_one",.local)]
abbrev atE:=dX [(".0",.local),("_law_number",.local)]
abbrev axh:=dX [(".0",.local),("_law_top",.local),("_law_part",.cell)]
abbrev alU:=dX [(".0",.local),("_law_top",.local),("_law_times_it",.cell)]
abbrev aoL:=dX [(".0",.local),("_law_a",.local),("_law_b",.local)]
abbrev as8:=dX [(".0",.local),("_law_k",.local),("_law_at",.globalImplicit),("_law_script",.cell)]
abbrev ayQ:=dX [(".0",.local),("_law_top",.local),("_law_number",.cell)]
structure Bt(mg:Str->Option Value):Prop where
 xP:mg "abs" = none
 Mj:mg "any" = none
 cH:mg "len" = none
 Jx:mg "list" = none
 afw:mg "max" = none
 gC:mg "range" = none
 Mr:mg "reversed" = none
 adD:mg "sorted" = none
 LZ:mg "sum" = none
 oN:mg "tuple" = none
 ajo:mg "zip" = none
 Lh:∃t,mg "ABOVE_ALL_NUMBERS" = some (.int 1000000 t)
 Ut:∃t,mg "BELOW_THE_PRIMES" = some (.int 1000000 t)
 Pb:∃t,mg "LONGEST" = some (.int 12 t)
structure Ms(K:aG)(mg:Str->Option Value)(base:Heap)(fu dM:Addr):Prop where
 azr:mg "NoBy" = some (.ref fu)
 azh:mg "TooBig" = some (.ref dM)
 aoe:Ku mg base "NoBy" fu
 azi:WD K fu
 abt:oJ K (.ref fu) (.ref fu)=some true
 ab2:oJ K (.ref fu) (.ref dM)=some false
 acE:oJ K (.ref fu) (.type "ValueError")=some true
 ajy:Ku mg base "TooBig" dM
 azw:WD K dM
 afI:oJ K (.ref dM) (.ref fu)=some false
 abu:oJ K (.ref dM) (.ref dM)=some true
 V5:oJ K (.ref dM) (.type "ValueError")=some true
abbrev Oc:Nat:=15
def aF{X:Cx}(i:Nat){x:Str}{e:Expr}{te:TE}{pos pos':Pos}(hN:X.N.Nodup)(he:PE X e te)(hi:X.N[i]?=some x:=by rfl)(hx:Loc X.env.scope x:=by exact oX rfl)(hs:swapsWith e (some (.Name x pos')) pos.line X.env=pure false:=by rfl)
  (hf:X.fn x=true∨X.env.scope.names.lookup x=some .local:=by first|exact .inl rfl|exact .inr rfl|assumption):PS X (.Assign [.Name x pos'] e pos) (Fd te (iB i)):=gP hN hi hx he hs hf
def bD{X:Cx}(i:Nat){x:Str}{pos:Pos}(hN:X.N.Nodup)(hi:X.N[i]?=some x:=by rfl)(hx:Loc X.env.scope x:=by exact oX rfl)(hf:X.fn x=true∨X.env.scope.names.lookup x=some .local:=by first|exact .inl rfl|exact .inr rfl|assumption):PG X (.Name x pos) (iB i):=HY hN hi hx hf
def aO{X:Cx}(K:aG){a b:Expr}{ta tb:TE}{pos:Pos}(ha:PE X a ta)(hb:PE X b tb)(hK:X.K=K:=by rfl)(hs:abl b:=by exactλ_ _=>rfl):PE X (.Subscript a b pos) (wF (Gi K) ta tb):=am2 (xix K hK) ha hb hs
def pad{X:Cx}(K:aG){a b:Expr}{ta tb:TE}{pos:Pos}(ha:PE X a ta)(hb:PE X b tb)(hK:X.K=K:=by rfl):PE X (.BinOp a .Add b pos) (wF (Ks K) ta tb):=aK (aiC K hK) ha hb
def cG{X:Cx}(K:aG)(hm:X.mg "len" = none){e:Expr}{es:List Expr}{t:TA}{p pos:Pos}(ha:PA X (e::es) t)(hg:Gl X "len" := by rfl)(hK:X.K=K:=by rfl)
  (he:starEach (e::es) X.env=(false,eval e X.env)::starEach es X.env:=by rfl) (hpl:(backTo pos (starEach es X.env)).any (·.1)=false:=by rfl):PE X (.Call (.Name "len" p) (e::es) [] pos) (Qh (λxs H Q=>∃x n,xs=[x]/\Q9 K x H n/\Q (.int n) H) t):=
 jF (aj1 K hK) hg hm boot_len ha ∅ ∅ he hpl
def cU{X:Cx}{op:CmpOp}{r:R2}{a b:Expr}{ta tb:TE}{pos:Pos}(ho:cX X (compareOp op) r)(ha:PE X a ta)(hb:PE X b tb)(hm:behindInMarks op b=false:=by exact xO _):PT X (.Compare a [op] [b] pos) (abV (wF r ta tb)):=an8 ho ha hb hm
def nw{H:Hp}{D:Addr}(h:H D=none)(o:HO):∃H',upd H D o=H'/\Same H H'/\H' D=some o:=⟨_,rfl,Same.new h o,aC⟩
abbrev cO(x:Str)(k:Nat)(ps:List Str)(sp:Sp)(P w K mg base):=iQ P w K mg base x k ps sp
def aJ{X:Cx}{x:Str}{k k':Nat}{ps:List Str}{sp:Sp}{p pos:Pos}{e:Expr}{es:List Expr}{t:TA}(C:iQ X.prog X.w X.K X.mg X.base x k ps sp)(hr:dU k' X.A)(ha:PA X (e::es) t)(hg:Gl X x:=by rfl)
  (hk:k<=k':=by decide) (hd:(x==("__debug__" : Str))=false:=by decide)
  (he:starEach (e::es) X.env=(false,eval e X.env)::starEach es X.env:=by rfl) (hpl:(backTo pos (starEach es X.env)).any (·.1)=false:=by rfl):PE X (.Call (.Name x p) (e::es) [] pos) (J2 sp [] E0 t):=ard C hr hg ha hk hd he hpl
def qF(a:Int){b:Int}(h:0<b):0<=a%b:=rY _ ⋯
def qb(a:Int){b:Int}(h:0<b):a%b<b:=rK _ h
def eN{ns:List Int}{k:Int}(h0:0<=k)(h1:k<(ns.length:Int)):mq (ns.map V.int) k=some (.int (ns.getD k.toNat 0)):=by
 have e:k=((k.toNat:Nat):Int):=⋯;have hk:k.toNat<ns.length:=⋯
 conv=>lhs;rw[e]
 exact aao (by rw[List.getElem?_map,List.getElem?_eq_getElem hk,List.getD_eq_getElem?_getD,List.getElem?_eq_getElem hk]<;>rfl)
def vC{α:Type}{xs:List α}{k:Int}{v:α}(j:Nat)(e:k=(j:Int))(h:xs[j]?=some v):mq xs k=some v:=by rw[e];exact aao h
def dec_true{p:Prop}[Decidable p](c:decide p=true):p:=of_decide_eq_true c
def dec_false{p:Prop}[Decidable p](c:¬decide p=true):¬p:=of_decide_eq_false (Bool.eq_false_iff.mpr c)
def Xk(b x:Int):Prop:=b=0∨(0<=x/\x<b)
structure Rw where
 b:Int
 rule:List Int
 starts:List Int
structure jE(r:Rw):Prop where
 len:r.rule.length=r.starts.length
 short:r.rule.length<=24
 oH:0<=r.b
 Df:r.b<1000
 azs:∀x∈r.rule,Xk r.b x
 ay8:∀x∈r.starts,Xk r.b x
 AH:∀x∈r.rule,Rm.Bd 60000 x
 Gx:∀x∈r.starts,Rm.Bd 3000 x
def Rw.row(r:Rw)(n:Nat):List Int:=Rm.row r.b r.rule r.starts n
def Rw.at(r:Rw)(n:Nat):Int:=Rm.at_ r.b r.rule r.starts n
def jE.bd{r:Rw}(h:jE r)(n:Nat)(hn:n<=1000):Rm.Bd 61000000 (r.at n):=by
 have q:=Rm.afn (b:=r.b) (rule:=r.rule) (starts:=r.starts) (a:=60000) (c:=3000) h.len h.oH ((Rm.Bd.of (n:=10) (by have:=h.oH;omega) (by have:=h.Df;omega)).mono ∅) h.AH h.Gx n;refine q.mono ?_;have h1:=h.short;have h2:n*(60000+r.rule.length)<=1000*60024:=gU hn ⋯;omega
def jE.avE{r:Rw}(h:jE r)(n:Nat)(hn:n<=1000):∀x∈r.row n,Rm.Bd 61000000 x:=by
 intro x hx;have e:r.row n=(eX n).map r.at:=Rm.Ng ..;rw[e]at hx;obtain⟨i,hi,rfl⟩:=bZ.mp hx;exact h.bd i (by have:=iV.mp hi;omega)
theorem Rw.sX(r:Rw)(n:Nat):(r.row n).length=n:=Rm.sX ..
def m9{x y:Int}{m n:Nat}(h:Rm.Bd m x)(h':Rm.Bd n y)(hn:m+n<=134217728):IntMulOk x y:=
 IntMulOk.of_le (intBits_le_iff.mpr h) (intBits_le_iff.mpr h') hn
def gZ(H:Hp)(v:V)(r:Rw):Prop:=
 ∃a p q,v = .ref a/\H a=some (.tup [.int r.b,.ref p,.ref q])/\H p=some (.tup (r.rule.map V.int))/\H q=some (.tup (r.starts.map V.int))
def gZ.same{H H':Hp}{v:V}{r:Rw}(h:gZ H v r)(g:Same H H'):gZ H' v r:=by
 obtain⟨a,p,q,e,h1,h2,h3⟩:=h;exact⟨a,p,q,e,g _ _ h1,g _ _ h2,g _ _ h3⟩
def yV(xs:List Int)(x:Int):(xs++[x]).map V.int=xs.map V.int++[.int x]:=by rw[fW];rfl
def Told(H:Hp)(Q:VK)(xs:List V):Prop:=∀r H',Same H H'->H r=none->H' r=some (.lst xs)->Q (.ref r) H'
inductive aqX(K:aG)(vs:List V)(H:Hp)(Q:VK)(E:XK):Prop|mk (a:Addr) (ns:List Int) (bY:vs=[.ref a]) (bV:au K H a (ns.map V.int)) (cC:ns.length<=63) (cL:∀H',Q (.bl true) H')
def Px(K:aG):Sp:=aqX K
def Kd(xs:List V)(k:Nat):iT xs none (some (k:Int))=xs.take k:=by
 unfold iT;rw[HT.qI,HT.rA,Nj,vf,aau];omega
def anO(xs:List V){k:Nat}(h:k<=xs.length):iT xs (some (k:Int)) none=xs.drop k:=by
 unfold iT;rw[HT.qI,HT.rA,PB h,qY (by rw[pC];omega)]
def uQ(H:Hp)(Q:VK)(ns:List Int):Prop:=∀p H',Same H H'->H' p=some (.tup (ns.map V.int))->Q (.ref p) H'
def yJ{xs:List Int}{n:Nat}(h:0<n)(hn:n<=xs.length):xs.take n=xs.take (n-1)++[xs.getD (n-1) 0]:=by
 obtain⟨m,rfl⟩:∃m,n=m+1:=⟨n-1,⋯⟩;rw[fU,qd,List.getElem?_eq_getElem ⋯,List.getD_eq_getElem?_getD,List.getElem?_eq_getElem ⋯];rfl
def agP{xs:List Int}{n:Nat}(h:0<n)(hn:n<=xs.length)(ht:Pm.trim (xs.take n)=Pm.trim xs)(h0:xs.getD (n-1) 0=0):Pm.trim (xs.take (n-1))=Pm.trim xs:=by
 rw[yJ h hn,h0,Pm.acr]at ht;exact ht
def FN{xs:List Int}{n:Nat}(hn:n<=xs.length)(ht:Pm.trim (xs.take n)=Pm.trim xs)(h0:n=0∨xs.getD (n-1) 0≠0):xs.take n=Pm.trim xs:=by
 rcases h0 with h0|h0
 .subst h0;rw[<-ht];rfl
 .by_cases hz:n=0
  .subst hz;rw[<-ht];rfl
  .rw[<-ht,yJ ⋯ hn,Pm.Uy _ h0]
def vO{n j:Nat}{i:Int}(e:i=(j:Int))(h:j<n):pK n i=some j:=by
 subst e;unfold pK;rw[if_pos ⋯,if_pos ⋯,d9]
def Dq(L:List Int)(j:Nat)(x:Int):(L.map V.int).set j (.int x)=(L.set j x).map V.int:=by rw[List.map_set]
def Fp(n:Nat):(cN n [V.int 0]).flatten=(Pm.aM n λ_=>0).map V.int:=by
 induction n with
 |zero=>rfl
 |succ n ih=>
  rw[Pm.Pk,fW,<-ih,List.replicate_succ',List.flatten_append];rfl
def Dd{n:Nat}{ix:List (Option Nat)}{te:TE}{σ:St}{H1:Hp}{Q:VK}(hz:n<=1000){rest:St}(hst:cst ix σ=none::rest)(f:Nat->Int)
  (he:∀H' k,Same H1 H'->k<n->∀kk:VK,kk (.int (f k)) H'->te (some (.int (0+(k:Int)))::rest) H' kk)
  (hQ:∀D,H1 D=none->Q (.ref D) (upd H1 D (.lst ((Pm.aM n f).map V.int)))):jL ix (iB 0) kW te σ Q (nA 0 n) H1:=by
 refine qT yK (by rw[aB,mK];exact gG (dZ hz)) hst (λ_=>true) (λx=>match x with | .int k=> .int (f k.toNat)|_=> .non) ?_ ?_ ?_
 .intro H2 x g2 hx k hk;exact hk
 .intro H2 x g2 hx _ k hk;obtain⟨j,hj,rfl⟩:=bZ.mp hx;have e1:(0+(j:Int)).toNat=j:=⋯;refine he H2 j g2 (iV.mp hj) k ?_;have hk':k (V.int (f (0+(j:Int)).toNat)) H2:=hk
  rwa [e1]at hk'
 .intro D hD;have el:((((eX n).map λi=>V.int (0+(i:Nat))).filter λ_=>true).map λx=>match x with | .int k=>V.int (f k.toNat)|_=>V.non)=(Pm.aM n f).map V.int:=by
   rw[uw.mpr (by simp),cR,Pm.aM,cR];refine lG λk _=>?_;show V.int (f (0+(k:Int)).toNat)=V.int (f k);rw[show(0+(k:Int)).toNat=k by omega]
  rw[el];exact hQ D hD
def Bm{K:aG}{a:Addr}{xs:List Int}{ix:List (Option Nat)}{te:TE}{σ:St}{H1:Hp}{Q:VK}(hA:H1 a=some (.tup (xs.map V.int)))(hz:xs.length<=1000){rest:St}(hst:cst ix σ=none::rest)(f:Int->Int)
  (he:∀H' x,Same H1 H'->x∈xs->∀kk:VK,kk (.int (f x)) H'->te (some (.int x)::rest) H' kk)
  (hQ:∀D,H1 D=none->Q (.ref D) (upd H1 D (.lst ((xs.map f).map V.int)))):jL ix (iB 0) kW te σ Q (Er K a) H1:=by
 refine qT (Sy (aA.of hA)) (by rw[aB];exact gG (dZ hz)) hst (λ_=>true) (λx=>match x with | .int k=> .int (f k)|_=> .non) ?_ ?_ ?_
 .intro H2 x g2 hx k hk;exact hk
 .intro H2 x g2 hx _ k hk;obtain⟨y,hy,rfl⟩:=bZ.mp hx;exact he H2 y g2 hy k hk
 .intro D hD;have el:(((xs.map V.int).filter λ_=>true).map λx=>match x with | .int k=>V.int (f k)|_=>V.non)=(xs.map f).map V.int:=by
   rw[uw.mpr (by simp),cR,cR];rfl
  rw[el];exact hQ D hD
def uK{K:aG}{a:Addr}{xs:List Int}{ix:List (Option Nat)}{te:TE}{σ:St}{H1:Hp}{Q:VK}(hA:H1 a=some (.lst (xs.map V.int)))(hz:xs.length<=1000){rest:St}(hst:cst ix σ=none::rest)(f:Int->Int)
  (he:∀H' x,Same H1 H'->x∈xs->∀kk:VK,kk (.int (f x)) H'->te (some (.int x)::rest) H' kk)
  (hQ:∀D,H1 D=none->Q (.ref D) (upd H1 D (.lst ((xs.map f).map V.int)))):jL ix (iB 0) kW te σ Q (nj K a) H1:=by
 refine qT (xW (au.of hA)) (by rw[aB];exact gG (dZ hz)) hst (λ_=>true) (λx=>match x with | .int k=> .int (f k)|_=> .non) ?_ ?_ ?_
 .intro H2 x g2 hx k hk;exact hk
 .intro H2 x g2 hx _ k hk;obtain⟨y,hy,rfl⟩:=bZ.mp hx;exact he H2 y g2 hy k hk
 .intro D hD;have el:(((xs.map V.int).filter λ_=>true).map λx=>match x with | .int k=>V.int (f k)|_=>V.non)=(xs.map f).map V.int:=by
   rw[uw.mpr (by simp),cR,cR];rfl
  rw[el];exact hQ D hD
def Fe{p:List Int}{i:Nat}{x:V}(h:(p.map V.int)[i]?=some x):x = .int (Pm.co p i)/\i<p.length:=by
 by_cases hi:i<p.length
 .rw[List.getElem?_map,List.getElem?_eq_getElem hi]at h;cases h;refine⟨?_,hi⟩;show V.int _=V.int (p.getD i 0);rw[List.getD_eq_getElem?_getD,List.getElem?_eq_getElem hi];rfl
 .rw[List.getElem?_eq_none (by rw[aB];omega)]at h;cases h
def yS:∀P∈Om.nU,2<=P/\P<1000:=by decide +kernel
inductive cD(H:Hp)(ex:List Addr):List V->List (List Int)->Prop
 |nil:cD H ex [] []
 |cons {t:Addr} {p:List Int} {xs:List V} {ps:List (List Int)}:t∉ex->H t=some (.lst (p.map V.int))->cD H ex xs ps->cD H ex (.ref t::xs) (p::ps)
def Keep(ll:Addr)(H H':Hp):Prop:=∀a u,a≠ll->H a=some u->H' a=some u
def Keep.refl(ll:Addr)(H:Hp):Keep ll H H:=λ_ _ _ h=>h
def Keep.trans{ll:Addr}{H H' H2:Hp}(h:Keep ll H H')(h':Keep ll H' H2):Keep ll H H2:=λa u n e=>h' a u n (h a u n e)
def Keep.same{ll:Addr}{H H':Hp}(g:Same H H'):Keep ll H H':=λa u _ e=>g a u e
theorem Keep.upd(ll:Addr)(H:Hp)(o:HO):Keep ll H (L2.upd H ll o):=λa u n e=>by rw[bF n];exact e
theorem cD.keep{H H':Hp}{ll:Addr}{ex:List Addr}(hm:ll∈ex)(g:Keep ll H H'):∀{xs:List V} {ps:List (List Int)},cD H ex xs ps->cD H' ex xs ps
 |_,_,.nil=> .nil
 |_,_,.cons n h r=> .cons n (g _ _ (λz=>n (z▸hm)) h) (cD.keep hm g r)
theorem cD.same{H H':Hp}{ex:List Addr}(g:Same H H'):∀{xs:List V} {ps:List (List Int)},cD H ex xs ps->cD H' ex xs ps
 |_,_,.nil=> .nil
 |_,_,.cons n h r=> .cons n (g _ _ h) (cD.same g r)
theorem cD.more{H:Hp}{ex:List Addr}{a:Addr}(ha:H a=none):∀{xs:List V} {ps:List (List Int)},cD H ex xs ps->cD H (a::ex) xs ps
 |_,_,.nil=> .nil
 |_,_,.cons n h r=> .cons (λz=>by
   rcases bN.mp z with e|e
   .rw[e,ha]at h;cases h
   .exact n e) h (cD.more ha r)
theorem cD.less{H:Hp}{ex ex':List Addr}(hs:∀a∈ex',a∈ex):∀{xs:List V} {ps:List (List Int)},cD H ex xs ps->cD H ex' xs ps
 |_,_,.nil=> .nil
 |_,_,.cons n h r=> .cons (λz=>n (hs _ z)) h (cD.less hs r)
theorem cD.len{H:Hp}{ex:List Addr}:∀{xs:List V} {ps:List (List Int)},cD H ex xs ps->xs.length=ps.length
 |_,_,.nil=>rfl
 |_,_,.cons _ _ r=>by rw[iK,iK,cD.len r]
theorem cD.get{H:Hp}{ex:List Addr}:∀{xs:List V} {ps:List (List Int)} {i:Nat},cD H ex xs ps->i<ps.length->∃t,xs[i]?=some (.ref t)/\t∉ex/\H t=some (.lst ((Dm.ln ps i).map V.int))
 |_,_,_,.nil,h=>absurd h (mO _)
 |_,_,0,.cons n h _,_=>⟨_,rfl,n,h⟩
 |_,_,i+1,.cons _ _ r,h=>cD.get (i:=i) r (by simpa using h)
theorem cD.set{H:Hp}{ex:List Addr}{t:Addr}{q:List Int}(hn:t∉ex)(hT:H t=some (.lst (q.map V.int))):∀{xs:List V} {ps:List (List Int)} (i:Nat),cD H ex xs ps->cD H ex (xs.set i (.ref t)) (ps.set i q)
 |_,_,_,.nil=> .nil
 |_,_,0,.cons _ _ r=> .cons hn hT r
 |_,_,i+1,.cons n h r=> .cons n h (cD.set hn hT i r)
theorem cD.append{H:Hp}{ex:List Addr}{t:Addr}{q:List Int}(hn:t∉ex)(hT:H t=some (.lst (q.map V.int))):∀{xs:List V} {ps:List (List Int)},cD H ex xs ps->cD H ex (xs++[.ref t]) (ps++[q])
 |_,_,.nil=> .cons hn hT .nil
 |_,_,.cons n h r=> .cons n h (cD.append hn hT r)
def Stand(H:Hp)(ex:List Addr):Prop:=∀a∈ex,∃o,H a=some o
def Stand.fresh{H:Hp}{ex:List Addr}{t:Addr}(h:Stand H ex)(ht:H t=none):t∉ex:=λz=>by
 obtain⟨o,e⟩:=h t z;rw[ht]at e;cases e
def Stand.keep{H H':Hp}{ll:Addr}{ex:List Addr}(h:Stand H ex)(g:Keep ll H H')(hl:∃o,H' ll=some o):Stand H' ex:=λa ha=>by
 by_cases e:a=ll
 .rw[e];exact hl
 .obtain⟨o,q⟩:=h a ha;exact⟨o,g _ _ e q⟩
def wW{L:List (List Int)}{i:Nat}(q:List Int)(hi:i<L.length)(k:Nat):Dm.ln (L.set i q) k=if k=i then q else Dm.ln L k:=by
 unfold Dm.ln;rw[List.getD_eq_getElem?_getD,List.getElem?_set,List.getD_eq_getElem?_getD];by_cases e:i=k
 .subst e;simp[hi]
 .rw[if_neg e,if_neg (λz=>e z.symm)]
def oF(b:Int):Prop:=b=0∨∃P:Nat,P∈Om.nU/\b=(P:Int)
def oF.dom{b:Int}(h:oF b):Dm.Dom b:=by
 rcases h with rfl|⟨P,hP,rfl⟩
 .exact Dm.Dom.zero
 .exact Dm.Dom.prime hP (yS P hP).1
def oF.range{b:Int}(h:oF b):0<=b/\b<1000/\b≠1:=by
 rcases h with rfl|⟨P,hP,rfl⟩
 .decide
 .have:=yS P hP;omega
def oF.one{b:Int}(h:oF b):Rm.tk b 1=1:=by
 rcases h with rfl|⟨P,hP,rfl⟩
 .exact Rm.aY 1
 .have:=yS P hP;rw[Rm.jY ⋯];exact Cv ∅ ⋯
inductive ahr(vs:List V)(H:Hp)(Q:VK)(E:XK):Prop|mk (b n:Int) (bY:vs=[.int b,.int n]) (bV:0<=b) (cC:Q (.int (Rm.tk b n)) H)
def apY:Sp:=ahr
abbrev j9:=cO "taken" 1 ["by","number"] apY
inductive amY(K:aG)(vs:List V)(H:Hp)(Q:VK)(E:XK):Prop|mk (b:Int) (r s:Addr) (rule before:List Int) (bY:vs=[.int b,.ref r,.ref s]) (bV:0<=b) (cC:aA K H r (rule.map V.int)) (cL:au K H s (before.map V.int)) (cQ:rule.length<=before.length) (dO:rule.length<=24) (iR:before.length<=1000) (jG:(∀x∈rule,Rm.Bd 60000 x)) (kI:(∀x∈before,Rm.Bd 61000000 x)) (oO:Q (.int (Rm.tk b (Rm.S rule (λi=>before.getD i 0) before.length rule.length))) H)
def awx(K:aG):Sp:=amY K
abbrev X8(P w K mg base):=iQ P w K mg base "next_place" 2 ["by","rule","before"] (awx K)
inductive asB(K:aG)(vs:List V)(H:Hp)(Q:VK)(E:XK):Prop|mk (v:V) (r:Rw) (c:Int) (bY:vs=[v,.int c]) (bV:gZ H v r) (cC:jE r) (cL:0<=c) (cQ:c<=900) (dO:Told H Q ((r.row c.toNat).map V.int))
def awX(K:aG):Sp:=asB K
abbrev afi(P w K mg base):=iQ P w K mg base "first_places" 3 ["row","count"] (awX K)
inductive axg(vs:List V)(H:Hp)(Q:VK)(E:XK):Prop|mk (n:Nat) (bY:vs=[.int n]) (bV:n<2097152) (cC:∀b:Bool,(b=true↔Om.cF n)->Q (.bl b) H)
def ahB:Sp:=axg
abbrev ad3:=cO "is_prime" 1 ["number"] ahB
inductive atV(vs:List V)(H:Hp)(Q:VK)(E:XK):Prop|mk (n q:Nat) (bY:vs=[.int n]) (bV:Om.cF q) (cC:n<q) (cL:q<2097152) (cQ:∀p:Nat,Om.cF p->n<p->p<=q->Q (.int p) H)
def aj7:Sp:=atV
abbrev aa6:=cO "prime_above" 2 ["number"] aj7
inductive arf(vs:List V)(H:Hp)(Q:VK)(E:XK):Prop|mk (P:Nat) (a:Int) (bY:vs=[.int P,.int a]) (bV:Om.cF P) (cC:P<2097152) (cL:0<a) (cQ:a<(P:Int)) (dO:∀x:Int,0<=x->x<2097152->x%(P:Int)=a^(P-2)%(P:Int)->Q (.int x) H)
def aqg:Sp:=arf
abbrev VD:=cO "inverse" 2 ["prime","number"] aqg
inductive aor(vs:List V)(H:Hp)(Q:VK)(E:XK):Prop|mk (P:Nat) (one other:Int) (bY:vs=[.int P,.int one,.int other]) (bV:Om.cF P) (cC:P<2097152) (cL:0<other) (cQ:other<(P:Int)) (dO:Q (.int (one*other^(P-2)%(P:Int))) H)
def ayI:Sp:=aor
abbrev Cr:=cO "over" 3 ["by","one","other"] ayI
inductive avc(K:aG)(vs:List V)(H:Hp)(Q:VK)(E:XK):Prop|mk (l:Addr) (xs:List Int) (bY:vs=[.ref l]) (bV:au K H l (xs.map V.int)) (cC:uQ H Q (Pm.trim xs))
def ath(K:aG):Sp:=avc K
abbrev DP(P w K mg base):=iQ P w K mg base "trimmed" 1 ["numbers"] (ath K)
inductive ayj(vs:List V)(H:Hp)(Q:VK)(E:XK):Prop|mk (b:Int) (a c:Addr) (p r:List Int) (bY:vs=[.int b,.ref a,.ref c]) (bV:0<=b) (cC:H a=some (.tup (p.map V.int))) (cL:H c=some (.tup (r.map V.int))) (cQ:p.length<=400) (dO:r.length<=400) (iR:(∀x∈p,Rm.Bd 1000000 x)) (jG:(∀x∈r,Rm.Bd 1000000 x)) (kI:uQ H Q (Pm.mul b p r))
def am3:Sp:=ayj
abbrev Xr:=cO "times" 2 ["by","one","other"] am3
def amx(H:Hp)(Q:VK)(b:Int)(P M:List Int):Prop:=∀t x y q r H',Same H H'->H' t=some (.tup [.ref x,.ref y])->H' x=some (.tup (mX V.int q))->H' y=some (.tup (mX V.int r))->Pm.Div b P M q r->
 (∀z∈q,Rm.Bd 5300000 z)->(∀z∈r,Rm.Bd 5300000 z)->q.length<=P.length->Q (.ref t) H'
inductive ah0(vs:List V)(H:Hp)(Q:VK)(E:XK):Prop|mk (b:Int) (a c:Addr) (P M:List Int) (bY:vs=[.int b,.ref a,.ref c]) (bV:0<=b) (cC:b<2097152) (cL:H a=some (.tup (P.map V.int))) (cQ:H c=some (.tup (M.map V.int))) (dO:P.length<=40) (iR:M.length<=40) (jG:Pm.Mon M) (kI:(∀k,Rm.tk b (Pm.co P k)=Pm.co P k)) (oO:(∀x∈P,Rm.Bd 300000 x)) (zH:(∀x∈M,Rm.Bd 124000 x)) (Dw:amx H Q b P M)
def afB:Sp:=ah0
def ac6{L:List Int}{u:Nat}(h:∀k,Rm.Bd u (Pm.co L k)):∀x∈Pm.trim L,Rm.Bd u x:=λx hx=>by
 obtain⟨k,hk,e⟩:=jA.mp hx;rw[<-e,<-Pm.jf hk,Pm.j6];exact h k
def max_zero(m n:Nat):(if(m:Int)-((n:Int)-1)>0 then(m:Int)-((n:Int)-1)else 0).toNat=m-(n-1)∨n=0:=by
 by_cases h:n=0
 .exact .inr h
 .left;split<;>omega
abbrev Dh:=cO "divided" 2 ["by","one","other"] afB
def auE(H:Hp)(Q:VK)(b:Int)(p:List Int):Prop:=∀t m H',Same H H'->H' t=some (.tup (mX V.int m))->Pm.vQ b p m->Q (.ref t) H'
inductive aiO(vs:List V)(H:Hp)(Q:VK)(E:XK):Prop|mk (P:Nat) (a:Addr) (p:List Int) (bY:vs=[.int P,.ref a]) (bV:Om.cF P) (cC:P<2097152) (cL:H a=some (.tup (p.map V.int))) (cQ:p.length<=300) (dO:Pm.Py P p) (iR:auE H Q P p)
def alr:Sp:=aiO
abbrev afz:=cO "monic" 4 ["prime","poly"] alr
def Yn(H:Hp)(Q:VK)(b:Int)(p r:List Int):Prop:=∀t g H',Same H H'->H' t=some (.tup (mX V.int g))->Pm.Gcd b p r g->g.length<=max p.length r.length->Q (.ref t) H'
inductive am6(vs:List V)(H:Hp)(Q:VK)(E:XK):Prop|mk (P:Nat) (a c:Addr) (p r:List Int) (bY:vs=[.int P,.ref a,.ref c]) (bV:Om.cF P) (cC:P<2097152) (cL:H a=some (.tup (p.map V.int))) (cQ:H c=some (.tup (r.map V.int))) (dO:p.length<=40) (iR:r.length<=40) (jG:Pm.Py P p) (kI:Pm.Py P r) (oO:(r=[]->p≠[])) (zH:Yn H Q P p r)
def atQ:Sp:=am6
def QK{P:Nat}(h0:2<=P)(h:P<2097152){p:List Int}(hp:Pm.Py P p):∀x∈p,Rm.Bd 124000 x:=λx hx=>by
 have:=hp.nu x hx;rw[Rm.jY ⋯]at this;rw[<-this];exact Rm.Bd.emod ⋯ ((Rm.Bd.of (n:=21) ⋯ ⋯).mono ∅)
abbrev NW:=cO "greatest" 5 ["by","one","other"] atQ
inductive arX(vs:List V)(H:Hp)(Q:VK)(E:XK):Prop|mk (M x:Int) (bY:vs=[.int M,.int x]) (bV:0<M) (cC:Q (.int (Pm.nr M x)) H)
def ahk:Sp:=arX
abbrev MK:=cO "nearest" 1 ["modulus","number"] ahk
inductive avV(vs:List V)(H:Hp)(Q:VK)(E:XK):Prop|mk (M t:Int) (p:Nat) (s:Int) (bY:vs=[.int M,.int t,.int p,.int s]) (bV:Om.cF p) (cC:p<2097152) (cL:0<M) (cQ:¬(p:Int)∣M) (dO:Q (.int (Pm.jn M t p s)) H)
def akk:Sp:=avV
abbrev agv:=cO "joined" 4 ["modulus","number","prime","rest"] akk
inductive ah7(vs:List V)(H:Hp)(Q:VK)(E:XK):Prop|mk (p:Nat) (a:Addr) (P:List Int) (bY:vs=[.int p,.ref a]) (bV:0<p) (cC:H a=some (.tup (P.map V.int))) (cL:P.length<=100) (cQ:uQ H Q (Pm.trim (P.map (Rm.tk p))))
def aoh:Sp:=ah7
abbrev ab7:=cO "taken_poly" 2 ["prime","poly"] aoh
inductive aru(vs:List V)(H:Hp)(Q:VK)(E:XK):Prop|mk (m a:Addr) (M P:List Int) (bY:vs=[.ref m,.ref a]) (bV:H m=some (.tup (M.map V.int))) (cC:H a=some (.tup (P.map V.int))) (cL:M.length<=40) (cQ:P.length<=40) (dO:Pm.Mon M) (iR:(∀x∈M,Rm.Bd 124000 x)) (jG:(∀x∈P,Rm.Bd 300000 x)) (kI:∀b H',Same H H'->(b=true↔Pm.Dv 0 M (Pm.co P))->Q (.bl b) H')
def at3:Sp:=aru
abbrev aag:=cO "divides" 3 ["monic_one","poly"] at3
inductive aly(vs:List V)(H:Hp)(Q:VK)(E:XK):Prop|mk (a c:Addr) (P t g:List Int) (N:Int) (U V':Nat) (bY:vs=[.ref a,.ref c]) (bV:H a=some (.tup (P.map V.int))) (cC:H c=some (.tup (t.map V.int))) (cL:P.length<=40) (cQ:t.length<=40) (dO:Pm.Mon P) (iR:(∀x∈P,Rm.Bd 124000 x)) (jG:(∀x∈t,Rm.Bd 300000 x)) (kI:Pm.uE P (Pm.co t) g N) (oO:Rm.Bd V' N) (zH:(∀k,Rm.Bd U (Pm.co g k))) (Dw:V'+U+57<=9300) (Im:uQ H Q g)
def aoj:Sp:=aly
def Rf(p:Nat)(P:List Int)(k:Nat):Rm.tk (p:Int) (Pm.co (Pm.trim (P.map (Rm.tk p))) k)=Rm.tk p (Pm.co P k):=by
 rw[Pm.j6,Pm.lN (Pm.tk0 _),Rm.gJ]
def Xp(p:Nat)(P:List Int):Pm.Py p (Pm.trim (P.map (Rm.tk p))):=Pm.Py.of λx hx=>by
 obtain⟨y,_,rfl⟩:=bZ.mp hx;exact Rm.gJ ..
def afN(p:Nat)(P:List Int):(Pm.trim (P.map (Rm.tk p))).length<=P.length:=by
 have:=Pm.tO (P.map (Rm.tk p))
 rwa [aB]at this
def ark{p:Nat}(hp:Om.cF p){P:List Int}(hP:Pm.Mon P):Pm.trim (P.map (Rm.tk p))≠[]:=λz=>by
 have:=Rf p P (P.length-1);rw[z,Pm.fR,hP.one,Pm.QS hp,Pm.tk0]at this;exact absurd this ∅
def ap1{P g told:List Int}{N M:Int}{prime bad good:Nat}{ripe:Bool}(I:Pm.jW P g N told M prime ripe bad good)(bP:∀x∈P,Rm.Bd 124000 x)(h:bad+good<=490):∀x∈told,Rm.Bd 124000 x:=λx hx=>by
 by_cases c:M=1
 .rw[I.first c]at hx;exact bP x hx
 .obtain⟨k,hk,e⟩:=jA.mp hx;have n:=I.near c k;rw[Pm.jf hk,e]at n;unfold Pm.Nr at n;have h1:=I.hi;have h2:(2:Int)^(21*(bad+good))<=2^123900:=by exact_mod_cast wj (n:=2) ∅ (show 21*(bad+good)<=123900 by omega)
  have h3:M<=2^123900:=agb h1 h2;have hpos:=I.pos;refine(show Rm.Bd 123900 x from ?_).mono ∅;generalize hB:(2:Int)^123900=B at h3;have h4:-B<x/\x<B:=⋯;unfold Rm.Bd;have h5:(x.natAbs:Int)<((2^123900:Nat):Int):=by
   rw[aaX];show(x.natAbs:Int)<(2:Int)^123900;rw[hB];omega
  exact_mod_cast h5
def aaz(H:Hp)(a c:Addr)(P' g:List Int)(N:Int)(m:Nat)(σ':St)(H':Hp):Prop:=∃(o6 o7:Option V) (tt:Addr) (told:List Int) (M:Int) (prime:Nat) (ripe:Bool) (bad good:Nat),m=500-(bad+good)/\σ'=[some (.ref a),some (.ref c),some (.ref tt),some (.int M),some (.int (prime:Int)),some (.bl ripe),o6,o7]/\Same H H'/\H' tt=some (.tup (told.map V.int))/\Pm.jW P' g N told M prime ripe bad good/\Om.Many (500-(bad+good)) prime/\1000000<=prime/\bad+good<=490
abbrev agU:=cO "whole_greatest" 6 ["one","other"] aoj
inductive aku(vs:List V)(H:Hp)(Q:VK)(E:XK):Prop|mk (b:Int) (a:Addr) (c:List Int) (bY:vs=[.int b,.ref a]) (bV:0<=b) (cC:H a=some (.tup (c.map V.int))) (cL:c.length<=100) (cQ:uQ H Q (Pm.aV b c))
def asu:Sp:=aku
abbrev Ld:=cO "of_rule" 2 ["by","rule"] asu
inductive ax9(vs:List V)(H:Hp)(Q:VK)(E:XK):Prop|mk (b:Int) (a:Addr) (p:List Int) (bY:vs=[.int b,.ref a]) (bV:0<=b) (cC:H a=some (.tup (p.map V.int))) (cL:0<p.length) (cQ:p.length<=100) (dO:uQ H Q (Pm.fL b p))
def ayD:Sp:=ax9
abbrev Rp:=cO "rule_of" 2 ["by","poly"] ayD
def amD{lo:Int}{n:Nat}{ix:List (Option Nat)}{te:TE}{σ:St}{H1:Hp}{Q:VK}(hz:n<=1000){rest:St}(hst:cst ix σ=none::rest)(f:Nat->Int)
  (he:∀H' k,Same H1 H'->k<n->∀kk:VK,kk (.int (f k)) H'->te (some (.int (lo+(k:Int)))::rest) H' kk)
  (hQ:∀D,H1 D=none->Q (.ref D) (upd H1 D (.lst ((Pm.aM n f).map V.int)))):jL ix (iB 0) kW te σ Q (nA lo n) H1:=by
 refine qT yK (by rw[aB,mK];exact gG (dZ hz)) hst (λ_=>true) (λx=>match x with | .int k=> .int (f (k-lo).toNat)|_=> .non) ?_ ?_ ?_
 .intro H2 x g2 hx k hk;exact hk
 .intro H2 x g2 hx _ k hk;obtain⟨j,hj,rfl⟩:=bZ.mp hx;have e1:(lo+(j:Int)-lo).toNat=j:=⋯;refine he H2 j g2 (iV.mp hj) k ?_;have hk':k (V.int (f (lo+(j:Int)-lo).toNat)) H2:=hk
  rwa [e1]at hk'
 .intro D hD;have el:((((eX n).map λi=>V.int (lo+(i:Nat))).filter λ_=>true).map λx=>match x with | .int k=>V.int (f (k-lo).toNat)|_=>V.non)=(Pm.aM n f).map V.int:=by
   rw[uw.mpr (by simp),cR,Pm.aM,cR];refine lG λk _=>?_;show V.int (f (lo+(k:Int)-lo).toNat)=V.int (f k);rw[show(lo+(k:Int)-lo).toNat=k by omega]
  rw[el];exact hQ D hD
def ah2:(Om.nU.all λp=>(eX 32).all λd=>decide (d<2)||decide (p<d*d)||decide (p%d≠0))=true:=by decide +kernel
def au8{P:Nat}(h:P∈Om.nU):Om.cF P:=by
 have hr:=yS P h;refine Om.Ol hr.1 λd hd hdd hdv=>?_;have h32:d<32:=by
  by_cases c:d<32
  .exact c
  .have:32*32<=d*d:=gU ⋯ ⋯;omega
 have:=lZ.mp (lZ.mp ah2 P h) d (iV.mpr h32);simp only[vU,decide_eq_true_eq]at this;have:=aeW hdv;omega
def ql(r:Rw):List Int:=Pm.trim (Pm.aM r.rule.length λk=>Rm.tk r.b (Pm.tp (Pm.aV r.b r.rule) r.at k))
def Mp(r:Rw)(k:Nat):Pm.co (ql r) k=Rm.tk r.b (Pm.tp (Pm.aV r.b r.rule) r.at k):=by
 rw[ql,Pm.j6,Pm.cY];by_cases c:k<r.rule.length
 .rw[if_pos c]
 .rw[if_neg c,Pm.AW _ _ k (by rw[Pm.lE];omega),Pm.tk0]
def aiJ(r:Rw):(ql r).length<=r.rule.length:=by
 have:=Pm.tO (Pm.aM r.rule.length λk=>Rm.tk r.b (Pm.tp (Pm.aV r.b r.rule) r.at k))
 rwa [Pm.cj]at this
def jE.Bh{r:Rw}(ok:jE r):∀x∈Pm.aV r.b r.rule,Rm.Bd 60000 x:=Pm.aaj ok.oH ok.Df ∅ ok.AH
def aul{r:Rw}(ok:jE r):∀x∈ql r,Rm.Bd 300000 x:=λx hx=>by
 obtain⟨k,_,rfl⟩:=Pm.uD (Pm.Od hx);refine Rm.qg ok.oH ((Rm.Bd.of (n:=10) (by have:=ok.oH;omega) (by have:=ok.Df;omega)).mono ∅) ?_;have hs:=ok.short;have hl:=ok.len;unfold Pm.tp;rw[Pm.lE,fU];refine(Pm.yE (c:=63000) _ λi hi=>?_).mono ⋯;refine(Rm.Bd.mul (m:=60000) (n:=3000) (Pm.jC ok.Bh _) ?_).mono ⋯;have e:r.at i=r.starts.getD i 0:=Rm.tG ⋯;rw[e];exact Rm.Bd.getD ok.Gx _
inductive am8(vs:List V)(H:Hp)(Q:VK)(E:XK):Prop|mk (v:V) (r:Rw) (a:Addr) (bY:vs=[v,.ref a]) (bV:gZ H v r) (cC:jE r) (cL:H a=some (.tup ((Pm.aV r.b r.rule).map V.int))) (cQ:uQ H Q (ql r))
def al5:Sp:=am8
abbrev aeK:=cO "top_of" 2 ["row","poly"] al5
inductive avY(vs:List V)(H:Hp)(Q:VK)(E:XK):Prop|mk (b:Int) (a c:Addr) (P t:List Int) (bY:vs=[.int b,.ref a,.ref c]) (bV:H a=some (.tup (P.map V.int))) (cC:H c=some (.tup (t.map V.int))) (cL:P.length<=40) (cQ:t.length<=40) (dO:Pm.Mon P) (iR:(∀x∈P,Rm.Bd 124000 x)) (jG:(∀x∈t,Rm.Bd 300000 x)) (kI:((b=0/\∃(g:List Int) (N:Int) (U V':Nat),Pm.uE P (Pm.co t) g N/\Rm.Bd V' N/\(∀k,Rm.Bd U (Pm.co g k))/\V'+U+57<=9300/\uQ H Q g)∨
 (∃p:Nat,b=(p:Int)/\Om.cF p/\p<2097152/\Pm.Py p P/\Pm.Py p t/\Yn H Q p P t)))
def aya:Sp:=avY
abbrev Wt:=cO "shared_divisor" 7 ["by","one","other"] aya
structure jN(b:Int)(f:Nat->Int)(L:List Int):Prop where
 mon:Pm.Mon L
 nu:∀k,Rm.tk b (Pm.co L k)=Pm.co L k
 kp:Pm.Kp b L f
 all:∀q,Pm.Kp b q f->Pm.Dv b L (Pm.co q)
def Tame(r:Rw):Prop:=r.b=0->∃d ua u:Nat,10<=u/\(∀x∈r.rule,Rm.Bd u x)/\(∃Q0,Pm.Mon Q0/\Pm.Kp 0 Q0 r.at/\Q0.length<=d+1)/\(∀n,n<=2*d->Rm.Bd ua (r.at n))/\(∀L,jN 0 r.at L->∀k,Rm.Bd 20 (Pm.co L k))/\d<=10/\d*(ua+d)+1+(u+800)+57<=9300
def jE.kp{r:Rw}(ok:jE r):Pm.Kp r.b (Pm.aV r.b r.rule) r.at:=Pm.Kp.aV (Pm.UH ok.len)
def Xq{b:Int}{L:List Int}(h:Pm.Mon L)(hn:∀k,Rm.tk b (Pm.co L k)=Pm.co L k):Pm.Py b L:=⟨Pm.vR (λz=>by have:=h.pos;rw[z]at this;exact absurd this ∅) (by rw[h.one];decide),λx hx=>by
 obtain⟨k,hk,e⟩:=jA.mp hx;have:=hn k
 rwa [Pm.jf hk,e]at this⟩
def axD(b:Int)(c:List Int)(h1:Rm.tk b 1=1)(k:Nat):Rm.tk b (Pm.co (Pm.aV b c) k)=Pm.co (Pm.aV b c) k:=by
 have h:∀x∈Pm.aV b c,Rm.tk b x=x:=λx hx=>by
  rcases fM.mp hx with hx|hx
  .obtain⟨j,_,e⟩:=Pm.uD hx;rw[e,Rm.gJ]
  .rw[eV.mp hx,h1]
 by_cases hk:k<(Pm.aV b c).length
 .exact h _ (Pm.ux hk)
 .rw[Pm.aX ⋯,Pm.tk0]
def ao9{p:Nat}(hp:Om.cF p){r:Rw}(ok:jE r)(hb:r.b=(p:Int)){g L o:List Int}(hG:Pm.Gcd p (Pm.aV r.b r.rule) (ql r) g)(D:Pm.Div p (Pm.aV r.b r.rule) g o L):jN r.b r.at o/\o.length<=r.rule.length+1:=by
 have h1:=Pm.QS hp;have hm:=Pm.Bv r.b r.rule;have hd:Pm.Dv p g (Pm.co (Pm.aV r.b r.rule)):=hG.one.to λ_=>rfl;obtain⟨L',hL',hn',hl',e'⟩:=Pm.AK h1 hm hG.mon hd;have D':Pm.Div p (Pm.aV r.b r.rule) g L' []:=⟨Xq hL' hn',Pm.Py.nil _,hG.mon.pos,λk=>by rw[Pm.fR,dj];exact(e' k).symm⟩;obtain⟨eo,_⟩:=D.uniq hG.mon D';subst eo;have W:Pm.K9 p (Pm.aV p r.rule) (Pm.tp (Pm.aV p r.rule) r.at) g:=by
  rw[<-hb];refine⟨hG.mon,by rw[hb];rw[hb]at hd;exact hd,?_,?_⟩
  .rw[hb];refine(hG.two.to (q:=ql r) λ_=>rfl).congr λk=>?_;rw[Mp,hb,Rm.gJ]
  .obtain⟨u,v,e⟩:=hG.sum;refine⟨1,Pm.co u,Pm.co v,u.length+v.length,by rw[hb,h1];decide,(Pm.Fs.co u).mono ⋯,(Pm.Fs.co v).mono ⋯,λk=>?_⟩;rw[iG,hb];rw[hb]at e;rw[e k];refine Rm.jy rfl (Pm.iI (λ_ _=>rfl) λi _=>?_);rw[Mp,hb,Rm.gJ]
 have ha:∀n,r.rule.length<=n->Rm.tk (p:Int) (r.at n)=Rm.tk p (Rm.S r.rule r.at n r.rule.length):=by
  rw[<-hb];exact Pm.UH ok.len
 have K:=W.keeps (Dm.Dom.pr hp) ha hL' (by rw[<-hb];rw[<-hb]at e';exact e');refine⟨⟨hL',by rw[hb];exact hn',?_,λq hq=>?_⟩,?_⟩
 .rw[hb];refine(K o).mpr ⟨λk=>if k=0 then 1 else 0,1,λk hk=>if_neg ⋯,λk=>?_⟩;rw[Pm.D6,if_pos (cB _),iG,vf]
 .rw[hb]at hq ⊢;exact(K q).mp hq
 .have:=hG.mon.pos;rw[Pm.lE]at hl';omega
inductive arB(vs:List V)(H:Hp)(Q:VK)(E:XK):Prop|mk (v:V) (r:Rw) (bY:vs=[v]) (bV:gZ H v r) (cC:jE r) (cL:oF r.b) (cQ:Tame r) (dO:∀t L H',Same H H'->H' t=some (.tup (mX V.int L))->jN r.b r.at L->L.length<=r.rule.length+1->Q (.ref t) H')
def ah4:Sp:=arB
abbrev Q6:=cO "least_of" 8 ["row"] ah4
def iC(r:Rw)(L:List Int):Rw:=⟨r.b,Pm.fL r.b L,r.starts.take (L.length-1)⟩
inductive ajq(vs:List V)(H:Hp)(Q:VK)(E:XK):Prop|mk (v:V) (r:Rw) (bY:vs=[v]) (bV:gZ H v r) (cC:jE r) (cL:oF r.b) (cQ:Tame r) (dO:∀v' L H',Same H H'->gZ H' v' (iC r L)->jN r.b r.at L->L.length<=r.rule.length+1->Q v' H')
def asR:Sp:=ajq
abbrev K2:=cO "shortest" 9 ["row"] asR
inductive axa(K:aG)(vs:List V)(H:Hp)(Q:VK)(E:XK):Prop|mk (b:Int) (l:Addr) (p:List Int) (bY:vs=[.int b,.ref l]) (bV:0<=b) (cC:H l=some (.lst (p.map V.int))) (cL:p.length<=1000) (cQ:Told H Q ((p.map (Rm.tk b)).map V.int))
def avl(K:aG):Sp:=axa K
abbrev afc(P w K mg base):=iQ P w K mg base "line_taken" 2 ["by","line"] (avl K)
inductive awO(vs:List V)(H:Hp)(Q:VK)(E:XK):Prop|mk (ll:Addr) (xs:List V) (L:List (List Int)) (W r c:Nat) (cI:Int) (ex:List Addr) (bY:vs=[.ref ll,.int r,.int cI]) (bV:cI=(c:Int)) (cC:H ll=some (.lst xs)) (cL:cD H ex xs L) (cQ:(∀i,i<L.length->(Dm.ln L i).length=W)) (dO:c<W) (iR:L.length<=1000) (jG:r<=L.length) (kI:(∀a:Nat,r<=a->a<L.length->Pm.co (Dm.ln L a) c≠0->Q (.int a) H)) (oO:((∀i,r<=i->i<L.length->Pm.co (Dm.ln L i) c=0)->Q .non H))
def aot:Sp:=awO
abbrev aae:=cO "head_line" 1 ["lines","begin","column"] aot
def Brt(b:Int)(L L':List (List Int))(a r:Nat):Prop:=(a=r/\L'=L)∨(r<a/\L'.length=L.length/\Dm.ln L' r=Dm.ln L a/\Dm.ln L' a=(Dm.ln L r).map (λx=>Rm.tk b (0-x))/\∀i,i≠r->i≠a->Dm.ln L' i=Dm.ln L i)
inductive awo(vs:List V)(H:Hp)(Q:VK)(E:XK):Prop|mk (b:Int) (ll:Addr) (xs:List V) (L:List (List Int)) (a r:Nat) (ex:List Addr) (bY:vs=[.int b,.ref ll,.int a,.int r]) (bV:0<=b) (cC:H ll=some (.lst xs)) (cL:cD H ex xs L) (cQ:ll∈ex) (dO:Stand H ex) (iR:r<=a) (jG:a<L.length) (kI:(∀i,i<L.length->(Dm.ln L i).length<=1000)) (oO:∀xs' L' H',Keep ll H H'->H' ll=some (.lst xs')->cD H' ex xs' L'->Brt b L L' a r->Q .non H')
def ate:Sp:=awo
abbrev Ze:=cO "bring_up" 2 ["by","lines","at","top"] ate
def ToldF(H:Hp)(Q:VK)(b last pv fa:Int)(p r:List Int):Prop:=∀t m H',Same H H'->H t=none->H' t=some (.lst (mX V.int m))->m.length=p.length->(∀k,k<p.length->Pm.co m k=Rm.tk b (Pm.co m k)/\Rm.tk b (last*Pm.co m k)=Rm.tk b (pv*Pm.co p k-fa*Pm.co r k))->Q (.ref t) H'
inductive axZ(vs:List V)(H:Hp)(Q:VK)(E:XK):Prop|mk (b last:Int) (l1 l2:Addr) (p r:List Int) (c:Nat) (cI:Int) (bY:vs=[.int b,.ref l1,.ref l2,.int cI,.int last]) (bV:cI=(c:Int)) (cC:b=0) (cL:H l1=some (.lst (p.map V.int))) (cQ:H l2=some (.lst (r.map V.int))) (dO:p.length=r.length) (iR:c<p.length) (jG:p.length<=1000) (kI:last≠0) (oO:last=Rm.tk b last) (zH:Rm.Bd 8000 last) (Dw:(∀x∈p,Rm.Bd 1000000 x)) (Im:(∀x∈r,Rm.Bd 1000000 x)) (Yo:(b=0->∀k,k<p.length->∃e,Pm.co r c*Pm.co p k-Pm.co p c*Pm.co r k=last*e)) (ay5:ToldF H Q b last (Pm.co r c) (Pm.co p c) p r)
def ag8:Sp:=axZ
def atc{x:Int}{n:Nat}(h0:x≠0)(h:Rm.Bd n x):x.natAbs.log2<n:=(Ru ⋯).mpr h
abbrev Y9:=cO "freed" 4 ["by","line","head","column","last"] ag8
def Uk(b:Int)(n W u:Nat)(A0:Nat->Nat->Int):Prop:=∀c A hd r L last,c<=W->Dm.dG b n W u A0 c A hd r L last->Rm.Bd 8000 last/\∀i,i<n->∀x∈Dm.ln L i,Rm.Bd 8000 x
def avM{b:Int}(hB:oF b){n W u l:Nat}{A0:Nat->Nat->Int}(h:∀c A hd r L last,c<=W->Dm.dG b n W u A0 c A hd r L last->r<=l)(hu:(l+1)*(u+(l+1))+1<=8000):Uk b n W u A0:=λc A hd r L last hcw I=>by
 obtain⟨hb0,hb1,_⟩:=hB.range;have hr:=h c A hd r L last hcw I;have bb:Rm.Bd 8000 b:=(Rm.Bd.of (n:=10) ⋯ ⋯).mono ∅;have z1:r*(u+r)<=(l+1)*(u+(l+1)):=gU ⋯ ⋯;have z2:(r+1)*(u+(r+1))<=(l+1)*(u+(l+1)):=gU ⋯ ⋯;refine⟨?_,λi hi x hx=>?_⟩
 .rw[I.la];exact Rm.qg hb0 bb ((Dm.AX (u:=u) λi' k' _ _=>I.su _ _).mono ⋯)
 .obtain⟨k,hk,e⟩:=jA.mp hx;rw[<-e,<-Pm.jf hk,I.en i k hi (by rw[<-I.wd i hi];exact hk)];exact Rm.qg hb0 bb ((I.Wf i k).mono ⋯)
inductive atR(vs:List V)(H:Hp)(Q:VK)(E:XK):Prop|mk (b:Int) (wide:Nat) (ll:Addr) (xs:List V) (L:List (List Int)) (W u:Nat) (ex:List Addr) (bY:vs=[.int b,.int wide,.ref ll]) (bV:b=0) (cC:H ll=some (.lst xs)) (cL:cD H ex xs L) (cQ:ll∈ex) (dO:Stand H ex) (iR:wide<=W) (jG:W<=100) (kI:L.length<=30) (oO:Uk b L.length W u (λi k=>Pm.co (Dm.ln L i) k)) (zH:(∀i,i<L.length->(Dm.ln L i).length=W)) (Dw:(∀i k,Rm.tk b (Pm.co (Dm.ln L i) k)=Pm.co (Dm.ln L i) k)) (Im:(∀i k,Rm.Bd u (Pm.co (Dm.ln L i) k))) (Yo:∀t th A hd r L' last xs' H',Keep ll H H'->H' t=some (.tup [.ref th,.int last])->H' th=some (.lst ((Pm.aM r λh=>((hd h:Nat):Int)).map V.int))->H' ll=some (.lst xs')->cD H' ex xs' L'->Dm.dG b L.length W u (λi k=>Pm.co (Dm.ln L i) k) wide A hd r L' last->Q (.ref t) H')
def asH:Sp:=atR
abbrev aaU:=cO "clear" 5 ["by","wide","lines"] asH
def asv{J:It}{xs:List V}{ix:List (Option Nat)}{te:TE}{σ:St}{H1:Hp}{Q:VK}(I:pQ J xs H1)(hz:xs.length<=sizeLine){rest:St}(hst:cst ix σ=none::rest)(F:V->V)
  (he:∀(H':Hp) (x:V),Same H1 H'->x∈xs->∀k:VK,(∀H2,Same H' H2->k (F x) H2)->te (some x::rest) H' k)
  (hQ:∀D H',H1 D=none->Same H1 H'->H' D=some (.lst (xs.map F))->Q (.ref D) H'):
  jL ix (iB 0) kW te σ Q J H1:=by
 constructor;intro D hD;refine⟨λi m σ' H'=>m=xs.length-i/\i<=xs.length/\(∃o,σ'=o::rest)/\Same H1 H'/\H' D=some (.lst ((xs.take i).map F)),⟨xs.length,by simp,cB _,⟨none,hst⟩,Same.new hD _,by rw[aC];rfl⟩,?_⟩;rintro i m σ' H' ⟨rfl,hi,⟨o,rfl⟩,g,hl⟩;by_cases hlt:i<xs.length
 .refine .inr ⟨I.go i _ g hlt,λx H2 y=>?_⟩;obtain⟨rfl,hx⟩:=I.jO i _ x H2 g y;have hx:=hx hlt;have hm:x∈xs:=List.mem_of_getElem? hx;have et:xs.take (i+1)=xs.take i++[x]:=by rw[qd,hx];rfl
  change te (some x::rest) H2 _;refine he H2 x g hm _ λH3 g3=>⟨_,g3 _ _ hl,by rw[aB,jd];omega,xs.length-(i+1),⋯,rfl,hlt,⟨_,rfl⟩,Same.upd (g.trans g3) hD _,?_⟩;rw[aC,et,fW];rfl
 .have e:i=xs.length:=⋯;subst e;rw[lY]at hl;exact .inl ⟨I.stop _ _ g (aN _),hQ D H' hD g hl⟩
def XM{J:It}{xs:List V}{ix:List (Option Nat)}{te:TE}{σ:St}{H1:Hp}{Q:VK}(I:pQ J xs H1)(hz:xs.length<=1000){rest:St}(hst:cst ix σ=none::rest)(G:V->List Int)
  (he:∀(H':Hp) (x:V),Same H1 H'->x∈xs->∀k:VK,(∀t' H2,Same H' H2->H' t'=none->H2 t'=some (.lst ((G x).map V.int))->k (.ref t') H2)->te (some x::rest) H' k)
  (hQ:∀D ys H',H1 D=none->Same H1 H'->H' D=some (.lst ys)->cD H' [D] ys (xs.map G)->Q (.ref D) H'):
  jL ix (iB 0) kW te σ Q J H1:=by
 constructor;intro D hD;refine⟨λi m σ' H'=>m=xs.length-i/\i<=xs.length/\(∃o,σ'=o::rest)/\Same H1 H'/\∃ys,H' D=some (.lst ys)/\cD H' [D] ys ((xs.take i).map G),⟨xs.length,by simp,cB _,⟨none,hst⟩,Same.new hD _,[],aC,.nil⟩,?_⟩;rintro i m σ' H' ⟨rfl,hi,⟨o,rfl⟩,g,ys,hl,hy⟩;by_cases hlt:i<xs.length
 .refine .inr ⟨I.go i _ g hlt,λx H2 y=>?_⟩;obtain⟨rfl,hx⟩:=I.jO i _ x H2 g y;have hx:=hx hlt;have hm:x∈xs:=List.mem_of_getElem? hx;have et:xs.take (i+1)=xs.take i++[x]:=by rw[qd,hx];rfl
  change te (some x::rest) H2 _;refine he H2 x g hm _ λt' H3 g3 hn h3=>⟨ys,g3 _ _ hl,?_,xs.length-(i+1),⋯,rfl,hlt,⟨_,rfl⟩,Same.upd (g.trans g3) hD _,ys++[.ref t'],aC,?_⟩
  .have:=hy.len;rw[aB,jd]at this;have:=dZ hz;omega
  .have tD:t'∉[D]:=λz=>by
    rw[eV.mp z,hl]at hn;cases hn
   rw[et,fW];exact(cD.append tD h3 (hy.same g3)).keep (eV.mpr rfl) (Keep.upd D H3 _)
 .have e:i=xs.length:=⋯;subst e;rw[lY]at hy;exact .inl ⟨I.stop _ _ g (aN _),hQ D ys H' hD g hl hy⟩
def aj3{T:List (List Int)}{i:Nat}(h:i<T.length):Dm.ln T i∈T:=by
 unfold Dm.ln;rw[List.getD_eq_getElem?_getD,List.getElem?_eq_getElem h];exact wA h
def E8(f:Nat->List Int):V->List Int
 |.int k=>f k.toNat
 |_=>[]
def avX{K:aG}{a:Addr}{xs:List V}{ps:List (List Int)}{ex:List Addr}{ix:List (Option Nat)}{te:TE}{σ:St}{H1:Hp}{Q:VK}(hA:H1 a=some (.lst xs))(hp:cD H1 ex xs ps)(hz:xs.length<=1000){rest:St}(hst:cst ix σ=none::rest)(G:List Int->V)
  (he:∀(H':Hp) (t:Addr) (p:List Int),Same H1 H'->p∈ps->H' t=some (.lst (p.map V.int))->∀k:VK,(∀H2,Same H' H2->k (G p) H2)->te (some (.ref t)::rest) H' k)
  (hQ:∀D H',H1 D=none->Same H1 H'->H' D=some (.lst (ps.map G))->Q (.ref D) H'):
  jL ix (iB 0) kW te σ Q (nj K a) H1:=by
 have I:=xW (K:=K) (au.of hA);have lx:=hp.len;constructor;intro D hD;refine⟨λi m σ' H'=>m=xs.length-i/\i<=xs.length/\(∃o,σ'=o::rest)/\Same H1 H'/\H' D=some (.lst ((ps.take i).map G)),⟨xs.length,by simp,cB _,⟨none,hst⟩,Same.new hD _,aC⟩,?_⟩;rintro i m σ' H' ⟨rfl,hi,⟨o,rfl⟩,g,hl⟩;by_cases hlt:i<xs.length
 .refine .inr ⟨I.go i _ g hlt,λx H2 y=>?_⟩;obtain⟨rfl,hx⟩:=I.jO i _ x H2 g y;have hx:=hx hlt;obtain⟨t,e1,_,e2⟩:=hp.get (show i<ps.length by omega);rw[e1]at hx;cases hx;have hpi:ps[i]?=some (Dm.ln ps i):=by
   unfold Dm.ln;rw[List.getD_eq_getElem?_getD,List.getElem?_eq_getElem ⋯];rfl
  have et:ps.take (i+1)=ps.take i++[Dm.ln ps i]:=by rw[qd,hpi];rfl
  change te (some (.ref t)::rest) H2 _;refine he H2 t (Dm.ln ps i) g (List.mem_of_getElem? hpi) (g _ _ e2) _ λH3 g3=>⟨_,g3 _ _ hl,?_,xs.length-(i+1),⋯,rfl,hlt,⟨_,rfl⟩,Same.upd (g.trans g3) hD _,?_⟩
  .rw[aB,jd];have:=dZ hz;omega
  .rw[aC,et,fW];rfl
 .have e:i=xs.length:=⋯;subst e;rw[lx,lY]at hl;exact .inl ⟨I.stop _ _ g (aN _),hQ D H' hD g hl⟩
def BQ(x:Int):(if x<0 then -x else x)=(x.natAbs:Int):=by split<;>omega
inductive axy(vs:List V)(H:Hp)(Q:VK)(E:XK):Prop|mk (x y:Int) (bY:vs=[.int x,.int y]) (bV:Q (.int (j7 x.natAbs y.natAbs:Nat)) H)
def ao0:Sp:=axy
abbrev XG:=cO "common_divisor" 1 ["one","other"] ao0
def ayx{bt:Int}{ts:List Int}(h0:bt≠0)(h:Rm.Bd 8000 bt):(Lm.low bt ts).natAbs.log2<9000:=by
 have n0:=Lm.low_ne h0 ts;refine uG ((Ru (n:=(Lm.low bt ts).natAbs) (k:=8000) ⋯).mpr ?_) ∅;refine qw ?_ h;have d:(Lm.low bt ts).natAbs∣bt.natAbs:=U4.mpr (Lm.WZ bt ts);exact pI ⋯ d
inductive aki(vs:List V)(H:Hp)(Q:VK)(E:XK):Prop|mk (bt:Int) (l:Addr) (ts:List Int) (bY:vs=[.int 0,.int bt,.ref l]) (bV:bt≠0) (cC:H l=some (.lst (ts.map V.int))) (cL:ts.length<=100) (cQ:Rm.Bd 8000 bt) (dO:∀t lt bot us H',Same H H'->H' t=some (.tup [.int bot,.ref lt])->H' lt=some (.lst (mX V.int us))->H lt=none->Dm.Low 0 bt ts bot us->Q (.ref t) H')
def axk:Sp:=aki
abbrev Lq:=cO "lowest" 4 ["by","bottom","tops"] axk
theorem cD.drop{H:Hp}{ex:List Addr}:∀{xs:List V} {ps:List (List Int)} (r:Nat),cD H ex xs ps->cD H ex (xs.drop r) (ps.drop r)
 |_,_,0,h=>h
 |_,_,_+1,.nil=> .nil
 |_,_,r+1,.cons _ _ h=>cD.drop r h
def adi{L:List (List Int)}{r:Nat}{p:List Int}(h:p∈L.drop r):∃i,r<=i/\i<L.length/\p=Dm.ln L i:=by
 obtain⟨j,hj,e⟩:=jA.mp h;rw[pC]at hj;refine⟨r+j,⋯,⋯,?_⟩;unfold Dm.ln;rw[List.getD_eq_getElem?_getD,List.getElem?_eq_getElem ⋯,<-e,Zm];rfl
def asq{L:List (List Int)}{r i:Nat}(h1:r<=i)(h2:i<L.length):Dm.ln L i∈L.drop r:=by
 refine jA.mpr ⟨i-r,by rw[pC];omega,?_⟩;unfold Dm.ln;rw[Zm,List.getD_eq_getElem?_getD,List.getElem?_eq_getElem h2];simp only[Option.getD_some];congr 1;omega
def axt(b:Int)(L:List (List Int))(ws:List Int):(((eX L.length).map λi=>V.int (0+(i:Nat))).map (E8 λi=>(Dm.ln L i++[Pm.co ws i]).map (Rm.tk b)))=Dm.pL b L ws:=by
 rw[Dm.pL,cR];refine lG λi _=>?_;show(Dm.ln L (0+(i:Int)).toNat++_).map _=_;rw[show(0+(i:Int)).toNat=i by omega]
def Sg(b:Int)(n W u:Nat)(A:Nat->Nat->Int):Prop:=10<=u/\Uk b n W u A
def Rn:Sp:=λ_ _ _ _=>False
abbrev aal:=cO "free_numbers" 5 ["by","wide","lines","heads","last"] Rn
inductive aqV(vs:List V)(H:Hp)(Q:VK)(E:XK):Prop|mk (u wide:Nat) (ta tw:Addr) (xs:List V) (L:List (List Int)) (ws:List Int) (ex:List Addr) (bY:vs=[.int 0,.int wide,.ref ta,.ref tw]) (bV:H ta=some (.lst xs)) (cC:cD H ex xs L) (cL:H tw=some (.lst (ws.map V.int))) (cQ:ws.length=L.length) (dO:L.length<=30) (iR:wide<=60) (jG:Sg 0 L.length (wide+1) u (Dm.aug 0 L ws)) (kI:(∀i,i<L.length->(Dm.ln L i).length=wide)) (oO:(∀p∈L,∀x∈p,Rm.Bd u x)) (zH:(∀x∈ws,Rm.Bd u x)) (Dw:(∃x bt,Rm.tk 0 bt≠0/\Dm.gW 0 L.length wide (Dm.aug 0 L ws) x bt)) (Im:Dm.tW 0 L.length wide (Dm.aug 0 L ws)) (Yo:(∀bot us,Dm.wg u 0 L.length wide (Dm.aug 0 L ws) bot us->∀t lt H',Same H H'->H' t=some (.tup [.str ("one" : Str),.int bot,.ref lt])->H' lt=some (.lst (mX V.int us))->Q (.ref t) H'))
def alJ:Sp:=aqV
abbrev Nq:=cO "solution" 6 ["by","wide","table","wished"] alJ
inductive cP(H:Hp):List V->List (List Int)->Prop
 |nil:cP H [] []
 |cons {t:Addr} {p:List Int} {xs:List V} {ps:List (List Int)}:H t=some (.tup (p.map V.int))->cP H xs ps->cP H (.ref t::xs) (p::ps)
theorem cP.up{H H':Hp}(g:∀b ts,H b=some (.tup ts)->H' b=some (.tup ts)):∀{xs:List V} {ps:List (List Int)},cP H xs ps->cP H' xs ps
 |_,_,.nil=> .nil
 |_,_,.cons h r=> .cons (g _ _ h) (cP.up g r)
def cP.same{H H':Hp}(g:Same H H'){xs:List V}{ps:List (List Int)}(h:cP H xs ps):cP H' xs ps:=h.up λb ts e=>g b _ e
def cP.set{H:Hp}{D:Addr}{ys:List V}{o:HO}(hD:H D=some (.lst ys)){xs:List V}{ps:List (List Int)}(h:cP H xs ps):cP (upd H D o) xs ps:=h.up λb ts e=>by rw[bF λq=>by rw[q,hD]at e;cases e];exact e
theorem cP.len{H:Hp}:∀{xs:List V} {ps:List (List Int)},cP H xs ps->xs.length=ps.length
 |_,_,.nil=>rfl
 |_,_,.cons _ r=>by rw[iK,iK,cP.len r]
theorem cP.append{H:Hp}:∀{xs ys:List V} {ps qs:List (List Int)},cP H xs ps->cP H ys qs->cP H (xs++ys) (ps++qs)
 |_,_,_,_,.nil,h=>h
 |_,_,_,_,.cons h r,h'=> .cons h (cP.append r h')
theorem cP.get{H:Hp}:∀{xs:List V} {ps:List (List Int)} {i:Nat} {x:V},cP H xs ps->xs[i]?=some x->∃t p,x = .ref t/\ps[i]?=some p/\H t=some (.tup (p.map V.int))
 |_,_,_,_,.nil,h=>by cases h
 |_,_,0,_,.cons h _,e=>by cases e;exact⟨_,_,rfl,rfl,h⟩
 |_,_,i+1,_,.cons _ r,e=>cP.get (i:=i) r e
def an0{K:aG}{a:Addr}{xs:List V}{ps:List (List Int)}{ix:List (Option Nat)}{tc:TT}{te:TE}{σ:St}{H1:Hp}{Q:VK}(hA:H1 a=some (.lst xs))(hp:cP H1 xs ps)(hz:xs.length<=1000){rest:St}(hst:cst ix σ=none::rest)(pt:List Int->Bool)
  (ht:∀(H':Hp) (t:Addr) (c:List Int),Same H1 H'->c∈ps->H' t=some (.tup (c.map V.int))->∀kk:Bool->Hp->Prop,(∀H2,Same H' H2->kk (pt c) H2)->tc (some (.ref t)::rest) H' kk)
  (he:∀(H':Hp) (t:Addr) (k:VK),k (.ref t) H'->te (some (.ref t)::rest) H' k)
  (hQ:∀D H' ys,H1 D=none->Same H1 H'->H' D=some (.lst ys)->cP H' ys (ps.filter pt)->Q (.ref D) H'):
  jL ix (iB 0) tc te σ Q (nj K a) H1:=by
 have I:=xW (K:=K) (au.of hA);have lx:=hp.len;constructor;intro D hD;refine⟨λi m σ' H'=>m=xs.length-i/\i<=xs.length/\(∃o,σ'=o::rest)/\Same H1 H'/\∃ys,H' D=some (.lst ys)/\ys.length<=i/\cP H' ys ((ps.take i).filter pt),⟨xs.length,by simp,cB _,⟨none,hst⟩,Same.new hD _,[],aC,aN _,.nil⟩,?_⟩;rintro i m σ' H' ⟨rfl,hi,⟨o,rfl⟩,g,ys,hl,hyl,hy⟩;by_cases hlt:i<xs.length
 .refine .inr ⟨I.go i _ g hlt,λx H2 y=>?_⟩;obtain⟨rfl,hx⟩:=I.jO i _ x H2 g y;obtain⟨t,p,rfl,ep,ht'⟩:=hp.get (hx hlt);have et:ps.take (i+1)=ps.take i++[p]:=by rw[qd,ep];rfl
  show tc (some (.ref t)::rest) _ _;refine ht H2 t p g (List.mem_of_getElem? ep) (g _ _ ht') _ λH3 g3=>?_;cases hpt:pt p with
  |true=>
   rw[if_pos rfl];refine he H3 t _ ⟨ys,g3 _ _ hl,?_,xs.length-(i+1),⋯,rfl,hlt,⟨_,rfl⟩,Same.upd (g.trans g3) hD _,ys++[.ref t],aC,by rw[dW];show ys.length+1<=_;omega,?_⟩
   .have:=dZ hz;omega
   .have ef:([p]:List (List Int)).filter pt=[p]:=by simp[hpt]
    rw[et,CP,ef];exact((hy.same g3).append (.cons (g3 _ _ (g _ _ ht')) .nil)).set (g3 _ _ hl)
  |false=>
   rw[if_neg fX];refine⟨xs.length-(i+1),⋯,rfl,hlt,⟨_,rfl⟩,g.trans g3,ys,g3 _ _ hl,⋯,?_⟩;have ef:([p]:List (List Int)).filter pt=[]:=by simp[hpt]
   rw[et,CP,ef,xg];exact hy.same g3
 .have e:i=xs.length:=⋯;subst e;rw[lx,lY]at hy;exact .inl ⟨I.stop _ _ g (aN _),hQ D H' ys hD g hl hy⟩
inductive ak4(C:Addr)(vs:List V)(H:Hp)(Q:VK)(E:XK):Prop|mk (a:Addr) (P:List Int) (bY:vs=[.ref a]) (bV:H a=some (.tup (P.map V.int))) (cC:P.length<=40) (cL:((∀x∈P,x.natAbs<1000000)->∀H',Same H H'->Q .non H')) (cQ:((∃x∈P,1000000<=x.natAbs)->∀H',Same H H'->E (.ref C) none H'))
def ak5(C:Addr):Sp:=ak4 C
abbrev abE(P w K mg base dM):=iQ P w K mg base "refuse_big" 1 ["poly"] (ak5 dM)
inductive alA(vs:List V)(H:Hp)(Q:VK)(E:XK):Prop|mk (n:Nat) (bY:vs=[.int n]) (bV:n<=1000000) (cC:∀l H',Same H H'->H' l=some (.lst ((Pm.divs n).map V.int))->(Pm.divs n).length<=2002->Q (.ref l) H')
def akG:Sp:=alA
abbrev WW:=cO "whole_divisors" 1 ["number"] akG
inductive aiI(vs:List V)(H:Hp)(Q:VK)(E:XK):Prop|mk (a:Addr) (P:List Int) (bY:vs=[.ref a]) (bV:H a=some (.tup (P.map V.int))) (cC:P.length<=40) (cL:(∃x∈P,x≠0)) (cQ:(∀x∈P,x.natAbs<1000000)) (dO:∀l H',Same H H'->H' l=some (.lst ((Pm.cands P).map V.int))->(Pm.cands P).length<=5000->Q (.ref l) H')
def ajH:Sp:=aiI
abbrev agF:=cO "perhaps_roots" 2 ["poly"] ajH
inductive aus(vs:List V)(H:Hp)(Q:VK)(E:XK):Prop|mk (a:Addr) (r:Int) (P:List Int) (u:Nat) (bY:vs=[.ref a,.int r]) (bV:H a=some (.tup (P.map V.int))) (cC:P.length<=40) (cL:Pm.Mon P) (cQ:Rm.Bd 40 r) (dO:(∀x∈P,Rm.Bd u x)) (iR:u+P.length*1640<=200000) (jG:∀t tl H',Same H H'->H' t=some (.tup [.int ((Pm.outF P.length P r).1:Nat),.ref tl])->H' tl=some (.tup ((Pm.outF P.length P r).2.map V.int))->Q (.ref t) H')
def ait:Sp:=aus
abbrev acS:=cO "divided_out" 3 ["poly","root"] ait
def xY{K:aG}{a:Addr}{xs:List V}{g:TG}{tb:TS}{D:Ends}{σ:St}{H:Hp}(Pv:Nat->St->Hp->Prop)(h0:Pv 0 σ H)(WY:∀i σ' H',Pv i σ' H'->au K H' a xs)
  (hs:∀i x σ' H',xs[i]?=some x->Pv i σ' H'->g x σ' H' λσ2 H2=>tb { D with nx:=Pv (i+1),ct:=Pv (i+1),bk:=D.nx } σ2 H2) (hd:∀σ' H',Pv xs.length σ' H'->D.nx σ' H'):
  ∃W:Nat->Nat->St->Hp->Prop,(∃m,W 0 m σ H)/\∀i m σ H,W i m σ H->
   ((nj K a).stop i H/\D.nx σ H)∨((nj K a).go i H/\∃N:St->Hp->Prop,(∀σ' H',N σ' H'->∃m',m'<m/\W (i+1) m' σ' H')/\∀x H',(nj K a).jO i H x H'->g x σ H' λσ2 H2=>tb { D with nx:=N,ct:=N,bk:=D.nx } σ2 H2):=by
 refine⟨λi m σ' H'=>m=xs.length-i/\i<=xs.length/\Pv i σ' H',⟨xs.length,by simp,cB _,h0⟩,?_⟩;rintro i m σ' H' ⟨rfl,hi,p⟩;have hq:=WY i σ' H' p;by_cases hlt:i<xs.length
 .refine .inr ⟨⟨xs,xs[i],hq,List.getElem?_eq_getElem hlt⟩,Pv (i+1),λσ2 H2 p2=>⟨xs.length-(i+1),⋯,rfl,⋯,p2⟩,?_⟩;rintro x H2 ⟨rfl,hx⟩;exact hs i x σ' H2 (hx xs hq) p
 .have e:i=xs.length:=⋯;subst e;exact .inl ⟨⟨xs,hq,aN _⟩,hd σ' H' p⟩
def aqu{P:List Int}(hs:∀x∈P,x.natAbs<1000000):∀z∈Pm.cands P,Rm.Bd 40 z:=λz hz=>by
 have hlow:(Pm.iW P).natAbs<1000000:=by
  unfold Pm.iW;cases e:P.filter λx=>decide (x≠0)with
  |nil=>decide
  |cons y ys=>exact hs y (pA.mp (e▸cV ..:y∈P.filter λx=>decide (x≠0))).1
 have hm:∀x∈Pm.divs (Pm.iW P).natAbs,0<x/\x<=1000000:=Pm.Ay _ ⋯ _ _ _ _ ∅ (λx hx=>(gR hx).elim) (λx hx=>(gR hx).elim);unfold Pm.cands at hz;rcases fM.mp hz with hz|hz
 .rcases fM.mp hz with hz|hz
  .obtain⟨y,hy,rfl⟩:=bZ.mp hz;have:=hm y (pO.mp hy);exact Rm.Bd.of ⋯ ⋯
  .rw[eV.mp hz];exact Rm.Bd.zero _
 .have:=hm z hz;exact Rm.Bd.of ⋯ ⋯
inductive asZ(C:Addr)(vs:List V)(H:Hp)(Q:VK)(E:XK):Prop|mk (a:Addr) (P:List Int) (bY:vs=[.ref a]) (bV:H a=some (.tup (P.map V.int))) (cC:P.length<=13) (cL:Pm.Mon P) (cQ:((∀x∈P,x.natAbs<1000000)->∀t lr tl xs H',Same H H'->H' t=some (.tup [.ref lr,.ref tl])->H' lr=some (.lst xs)->H lr=none->cP H' xs (Pm.wr P).1->H' tl=some (.tup ((Pm.wr P).2.map V.int))->Q (.ref t) H')) (dO:((∃x∈P,1000000<=x.natAbs)->∀H',Same H H'->E (.ref C) none H'))
def aqJ(C:Addr):Sp:=asZ C
abbrev adF(P w K mg base dM):=iQ P w K mg base "whole_roots" 4 ["poly"] (aqJ dM)
inductive alx(C:Addr)(vs:List V)(H:Hp)(Q:VK)(E:XK):Prop|mk (v:V) (r:Rw) (bY:vs=[v]) (bV:gZ H v r) (cC:(r.b=0->Q .non H)) (cL:(r.b≠0->E (.ref C) none H))
def asy(C:Addr):Sp:=alx C
abbrev acI(P w K mg base fu):=iQ P w K mg base "refuse_prime" 1 ["row"] (asy fu)
inductive eG(H:Hp)(ex:List Addr):List V->List (Int×List Int)->Prop
 |nil:eG H ex [] []
 |cons {t a:Addr} {r:Int} {ts:List Int} {xs:List V} {ps:List (Int×List Int)}:H t=some (.tup [.int r,.ref a])->a∉ex->H a=some (.lst (ts.map V.int))->eG H ex xs ps->eG H ex (.ref t::xs) ((r,ts)::ps)
theorem eG.same{H H':Hp}{ex:List Addr}(g:Same H H'):∀{xs:List V} {ps:List (Int×List Int)},eG H ex xs ps->eG H' ex xs ps
 |_,_,.nil=> .nil
 |_,_,.cons h1 n h2 r=> .cons (g _ _ h1) n (g _ _ h2) (eG.same g r)
theorem eG.set{H:Hp}{D:Addr}{ys:List V}{o:HO}(hD:H D=some (.lst ys)){ex:List Addr}(hx:D∈ex):∀{xs:List V} {ps:List (Int×List Int)},eG H ex xs ps->eG (upd H D o) ex xs ps
 |_,_,.nil=> .nil
 |_,_,.cons h1 n h2 r=> .cons (by rw[bF λq=>by rw[q,hD]at h1;cases h1];exact h1) n (by rw[bF λq=>n (by rw[q];exact hx)];exact h2) (eG.set hD hx r)
theorem eG.len{H:Hp}{ex:List Addr}:∀{xs:List V} {ps:List (Int×List Int)},eG H ex xs ps->xs.length=ps.length
 |_,_,.nil=>rfl
 |_,_,.cons _ _ _ r=>by rw[iK,iK,eG.len r]
theorem eG.append{H:Hp}{ex:List Addr}:∀{xs ys:List V} {ps qs:List (Int×List Int)},eG H ex xs ps->eG H ex ys qs->eG H ex (xs++ys) (ps++qs)
 |_,_,_,_,.nil,h=>h
 |_,_,_,_,.cons h1 n h2 r,h'=> .cons h1 n h2 (eG.append r h')
theorem eG.get{H:Hp}{ex:List Addr}:∀{xs:List V} {ps:List (Int×List Int)} {i:Nat} {x:V},eG H ex xs ps->xs[i]?=some x->∃t a r ts,x = .ref t/\ps[i]?=some (r,ts)/\H t=some (.tup [.int r,.ref a])/\H a=some (.lst (ts.map V.int))
 |_,_,_,_,.nil,h=>by cases h
 |_,_,0,_,.cons h1 _ h2 _,e=>by cases e;exact⟨_,_,_,_,rfl,rfl,h1,h2⟩
 |_,_,i+1,_,.cons _ _ _ r,e=>eG.get (i:=i) r e
def take_one{α:Type}{l:List α}{i:Nat}{x:α}(h:l[i]?=some x):l.take (i+1)=l.take i++[x]:=by rw[qd,h];rfl
def IY{α β:Type}{f:α->β}{l:List α}{i:Nat}{p:β}(h:(l.map f)[i]?=some p):∃y,l[i]?=some y/\p=f y:=by
 rw[List.getElem?_map]at h;cases e:l[i]? with
 |none=>rw[e]at h;cases h
 |some y=>rw[e]at h;cases h;exact⟨y,rfl,rfl⟩
def vI(v:V):Int:=match v with | .int k=>k|_=>0
def X4(c:List Int):(c.map V.int).map vI=c:=by rw[cR];exact xK c
def aev{K:aG}{a:Addr}{xs:List V}{ps:List (List Int)}{ix:List (Option Nat)}{te:TE}{σ:St}{H1:Hp}{Q:VK}(hA:H1 a=some (.lst xs))(hp:cP H1 xs ps)(hz:xs.length<=sizeLine){rest:St}(hst:cst ix σ=none::rest)(f:List Int->V)
  (he:∀(H':Hp) (t:Addr) (c:List Int),Same H1 H'->c∈ps->H' t=some (.tup (c.map V.int))->∀k:VK,k (f c) H'->te (some (.ref t)::rest) H' k)
  (hQ:∀D,H1 D=none->Q (.ref D) (upd H1 D (.lst (ps.map f)))):jL ix (iB 0) kW te σ Q (nj K a) H1:=by
 have key:∀x∈xs,∃t p,x=V.ref t/\p∈ps/\H1 t=some (.tup (p.map V.int)):=λx hx=>by
  obtain⟨i,hi,e⟩:=jA.mp hx;obtain⟨t,p,e1,e2,e3⟩:=hp.get (i:=i) (x:=x) (by rw[List.getElem?_eq_getElem hi,e]);exact⟨t,p,e1,List.mem_of_getElem? e2,e3⟩
 have mp:∀{xs:List V} {ps:List (List Int)},cP H1 xs ps->(xs.map λx=>match x with | .ref t=>(match H1 t with|some (.tup vs)=>f (vs.map vI)|_=>V.non)|_=>V.non)=ps.map f:=λ{xs ps} h=>by
  induction h with
  |nil=>rfl
  |cons ht _ ih=>rw[bG,bG,ih];simp only[ht,X4]
 refine qT (xW (au.of hA)) hz hst (λ_=>true) (λx=>match x with | .ref t=>(match H1 t with|some (.tup vs)=>f (vs.map vI)|_=>V.non)|_=>V.non) ?_ ?_ ?_
 .intro H2 x g2 hx k hk;exact hk
 .intro H2 x g2 hx _ k hk;obtain⟨t,p,rfl,hp2,ht⟩:=key x hx;refine he H2 t p g2 hp2 (g2 _ _ ht) k ?_;simp only[ht,X4]at hk;exact hk
 .intro D hD;have e:=mp hp;rw[uw.mpr (by simp),e];exact hQ D hD
def ai7{K:aG}{a:Addr}{xs:List V}{ps:List (List Int)}{ix:List (Option Nat)}{te:TE}{σ:St}{H1:Hp}{Q:VK}(hA:H1 a=some (.lst xs))(hp:cP H1 xs ps)(hz:xs.length<=sizeLine){rest:St}(hst:cst ix σ=none::rest)(f:List Int->Bool)
  (he:∀(H':Hp) (t:Addr) (c:List Int),Same H1 H'->c∈ps->H' t=some (.tup (c.map V.int))->∀k:VK,k (.bl (f c)) H'->te (some (.ref t)::rest) H' k)
  (hQ:∀D,H1 D=none->Q (.ref D) (upd H1 D (.lst ((ps.map f).map V.bl)))):jL ix (iB 0) kW te σ Q (nj K a) H1:=
 aev hA hp hz hst (λc=> .bl (f c)) he λD hD=>by have:=hQ D hD;rwa [cR]at this
def amz{K:aG}{a:Addr}{xs:List V}{ps:List (List Int)}{ix:List (Option Nat)}{te:TE}{σ:St}{H1:Hp}{Q:VK}(hA:H1 a=some (.lst xs))(hp:cP H1 xs ps)(hz:xs.length<=sizeLine){rest:St}(hst:cst ix σ=none::rest)(f:List Int->Int)
  (he:∀(H':Hp) (t:Addr) (c:List Int),Same H1 H'->c∈ps->H' t=some (.tup (c.map V.int))->∀k:VK,k (.int (f c)) H'->te (some (.ref t)::rest) H' k)
  (hQ:∀D,H1 D=none->Q (.ref D) (upd H1 D (.lst ((ps.map f).map V.int)))):jL ix (iB 0) kW te σ Q (nj K a) H1:=
 aev hA hp hz hst (λc=> .int (f c)) he λD hD=>by have:=hQ D hD;rwa [cR]at this
def jV(L:List (Int×List Int)):List PyData:=L.map λp=>PyData.tuple [.int p.1,.list (p.2.map Ij)]
theorem VP:∀L:List (Int×List Int),DM (jV L)=true
 |[]=>rfl
 |p::r=>by
  have h1:=Ei p.2;have h2:=VP r;rw[jV,bG];rw[jV]at h2;simp[DM,CN,h1,h2]
theorem ZS:∀L:List (Int×List Int),wK (jV L)<=3
 |[]=>by simp[jV,wK]
 |p::r=>by
  have h1:=HW p.2;have h2:=ZS r;rw[jV,bG];rw[jV]at h2;simp only[wK,Dt];omega
theorem ae9:∀L:List (Int×List Int),BF (jV L) (jV L)=true
 |[]=>by simp[jV,BF]
 |p::r=>by
  have h:=ae9 r;have h2:=agT p.2 p.2;rw[jV,bG];rw[jV]at h;simp only[BF,h,Io];rw[oG];simp only[BF,h2,decide_true,Io];simp[oG]
theorem eG.rd{K:aG}{H:Hp}{ex:List Addr}:∀{xs:List V} {ps:List (Int×List Int)},eG H ex xs ps->lK K H xs (jV ps)
 |_,_,.nil=> .nil
 |_,_,.cons h1 _ h2 r=> .cons (.tup (aA.of h1) (.cons (.int _) (.cons (.lst (au.of h2) (lK.ints _)) .nil))) (eG.rd r)
def avB{K:aG}{g:Bool->Bool}{H:Hp}{a c x y:Addr}{n:Int}{ps:List (Int×List Int)}{xs ys:List V}{e1 e2:List Addr}{Q:VK}(ha:H a=some (.tup [.int n,.ref x]))(hx:H x=some (.lst xs))(px:eG H e1 xs ps)
  (hb:H c=some (.tup [.int n,.ref y])) (hy:H y=some (.lst ys)) (py:eG H e2 ys ps) (q:Q (.bl (g true)) H):rE K g (.ref a) (.ref c) H Q:=by
 have sh:SeqAt.shaped (.tuple [.int n,.list (jV ps)])=true:=by
  have h1:=VP ps;have h2:=ZS ps;simp only[SeqAt.shaped,CN,DM,Dt,wK,h1,SQ,Io];exact decide_eq_true ⋯
 have ev:oG (.tuple [.int n,.list (jV ps)]) (.tuple [.int n,.list (jV ps)])=true:=by
  have h:=ae9 ps;rw[oG];simp only[BF,oG,h,Io];simp
 exact .inl ⟨_,_,.tup (aA.of ha) (.cons (.int n) (.cons (.lst (au.of hx) px.rd) .nil)),.tup (aA.of hb) (.cons (.int n) (.cons (.lst (au.of hy) py.rd) .nil)),sh,sh,by rw[ev];exact q⟩
structure Form(f:Nat->Int)(L:List Int)(l:List (Int×Nat))(bot:Int)(us:List Int):Prop where
 least:jN 0 f L
 wr:Pm.wr L=(l.map Pm.gw,[1])
 rp:L=Pm.RP l [1]
 up:(l.map (·.1)).Pairwise (· < ·)
 pos:∀x∈l,0<x.2
 ne:∀x∈l,x.1≠0
 rb:∀x∈l,Rm.Bd 20 x.1
 few:Cf.aQ l<=10
 len:us.length=Cf.aQ l
 afY:1<=bot
 gcd:Lm.dg bot.natAbs us=1
 sum:∀n,Cf.bJ (Cf.fK l us) n=bot*f n
 bb:Rm.Bd 2400 bot
 bu:∀x∈us,Rm.Bd 2400 x
theorem ae2(n:Nat):∀(l m:List (Int×Nat)),Cf.gQ (l++m) n=Cf.gQ l n++Cf.gQ m n
 |[],_=>rfl
 |(r,k)::t,m=>by
  show _++Cf.gQ (t++m) n=(_++Cf.gQ t n)++_;rw[ae2 n t m,Oj]
theorem afR(r:Int)(m:Nat):∀(l:List (Int×Nat)) (cs:List Int),Cf.fK (l++[(r,m)]) cs=Cf.fK l cs++[(r,(cs.drop (Cf.aQ l)).take m)]
 |[],_=>rfl
 |(s,k)::t,cs=>by
  show(s,cs.take k)::Cf.fK (t++[(r,m)]) (cs.drop k)=(s,cs.take k)::(Cf.fK t (cs.drop k)++_);rw[afR r m t,List.drop_drop,Cf.qR]
def aa9:∀(l m:List (Int×Nat)),Cf.aQ (l++m)=Cf.aQ l+Cf.aQ m:=λl m=>by unfold Cf.aQ;rw[fW,C7]
def afd{l:List (Int×Nat)}{x:Int×Nat}(h:x∈l):x.2<=Cf.aQ l:=by
 induction l with
 |nil=>cases h
 |cons a t ih=>
  rw[show a=(a.1,a.2)from rfl,Cf.qR];rcases bN.mp h with rfl|h
  .omega
  .have:=ih h;omega
def acz{l:List (Int×Nat)}(h:∀x∈l,0<x.2):l.length<=Cf.aQ l:=by
 induction l with
 |nil=>exact cB _
 |cons a t ih=>
  rw[show a=(a.1,a.2)from rfl,Cf.qR,iK];have:=h a (cV ..);have:=ih λx hx=>h x (cZ _ hx);omega
def ar4(l:List (Int×Nat))(i:Nat):Cf.aQ (l.take i)<=Cf.aQ l:=by
 conv=>rhs;rw[<-JW i l,aa9]
 omega
def ajX(xs:List V){a b:Nat}(h:a<=xs.length):iT xs (some (a:Int)) (some (b:Int))=(xs.drop a).take (b-a):=by
 unfold iT;rw[HT.qI,HT.qI,PB h,aau,pC];omega
inductive apn(vs:List V)(H:Hp)(Q:VK)(E:XK):Prop|mk (a e:Int) (u:Nat) (bY:vs=[.int a,.int e]) (bV:0<=e) (cC:e<=100) (cL:Rm.Bd u a) (cQ:u<=1000) (dO:Q (.int (a^e.toNat)) H)
def awe:Sp:=apn
def atP{u i:Nat}{a:Int}(hb:Rm.Bd u a)(hu:u<=1000)(hi:i<=100):IntMulOk (a^i) a:=m9 (Cf.zQ hb i) hb (by
 have:u*i<=1000*100:=gU hu hi;omega)
abbrev Xz:=cO "power" 1 ["number","exponent"] awe
inductive amZ(vs:List V)(H:Hp)(Q:VK)(E:XK):Prop|mk (lr:Addr) (n:Int) (xs:List V) (l:List (Int×Nat)) (bY:vs=[.ref lr,.int n]) (bV:H lr=some (.lst xs)) (cC:cP H xs (l.map Pm.gw)) (cL:0<=n) (cQ:n<=10) (dO:l.length<=10) (iR:(∀x∈l,Rm.Bd 20 x.1/\x.2<=10)) (jG:∀D H',Same H H'->H D=none->H' D=some (.lst ((Cf.gQ l n.toNat).map V.int))->Q (.ref D) H')
def avb:Sp:=amZ
def ajF{l:List (Int×Nat)}(n:Nat)(hl:l.length<=10)(hb:∀x∈l,Rm.Bd 20 x.1/\x.2<=10):(Cf.gQ l n).length<=100:=by
 rw[Cf.Aq];have:∀t:List (Int×Nat),(∀x∈t,x.2<=10)->Cf.aQ t<=10*t.length:=λt=>by
  induction t with
  |nil=>intro _;exact aN _
  |cons a t ih=>
   intro h;rw[show a=(a.1,a.2)from rfl,Cf.qR,iK];have:=h a (cV ..);have:=ih λx hx=>h x (cZ _ hx);omega
 have:=this l λx hx=>(hb x hx).2;omega
abbrev acV:=cO "form_line" 2 ["roots","n"] avb
inductive ag9(vs:List V)(H:Hp)(Q:VK)(E:XK):Prop|mk (lr lt:Addr) (xs:List V) (l:List (Int×Nat)) (us:List Int) (bY:vs=[.ref lr,.ref lt]) (bV:H lr=some (.lst xs)) (cC:cP H xs (l.map Pm.gw)) (cL:H lt=some (.lst (us.map V.int))) (cQ:us.length=Cf.aQ l) (dO:l.length<=10) (iR:∀D ys H',Same H H'->H D=none->H' D=some (.lst ys)->eG H' [D] ys (Cf.fK l us)->Q (.ref D) H')
def ahi:Sp:=ag9
abbrev ZY:=cO "parts_of" 1 ["roots","tops"] ahi
abbrev YZ:=cO "column_of" 1 ["table","column"] Rn
abbrev abw:=cO "paper_against" 7 ["by","wide","table","wished"] Rn
inductive aj5(vs:List V)(H:Hp)(Q:VK)(E:XK):Prop|mk (u wide:Nat) (ta tw:Addr) (xs:List V) (L:List (List Int)) (ws:List Int) (ex:List Addr) (bY:vs=[.int 0,.int wide,.ref ta,.ref tw]) (bV:H ta=some (.lst xs)) (cC:cD H ex xs L) (cL:H tw=some (.lst (ws.map V.int))) (cQ:ws.length=wide) (dO:L.length=wide) (iR:wide<=30) (jG:Sg 0 wide (wide+1) u (Dm.aug 0 L ws)) (kI:(∀i,i<L.length->(Dm.ln L i).length=wide)) (oO:(∀p∈L,∀x∈p,Rm.Bd u x)) (zH:(∀x∈ws,Rm.Bd u x)) (Dw:Dm.tW 0 wide wide (Dm.aug 0 L ws)) (Im:(∀bot us,Dm.wg u 0 wide wide (Dm.aug 0 L ws) bot us->∀t lt H',Same H H'->H' t=some (.tup [.str ("one" : Str),.int bot,.ref lt])->H' lt=some (.lst (mX V.int us))->Q (.ref t) H'))
def agV:Sp:=aj5
abbrev YM:=cO "solved" 8 ["by","wide","table","wished"] agV
inductive akd(C1 C2:Addr)(vs:List V)(H:Hp)(Q:VK)(E:XK):Prop|mk (v:V) (r:Rw) (bY:vs=[v]) (bV:gZ H v r) (cC:r.b=0) (cL:jE r) (cQ:Tame r) (dO:(∀n,n<10->Rm.Bd 190 (r.at n))) (iR:(∀L,jN 0 r.at L->L.length<=11/\∀x∈L,x.natAbs<1000000)) (jG:(∀L l,jN 0 r.at L->L=Pm.RP l [1]->(∀x∈l,0<x.2)->∀x∈l,Rm.Bd 3 x.1/\x.2<=3)) (kI:(∀L,jN 0 r.at L->((Pm.wr L).2≠[1]∨∃x∈(Pm.wr L).1,x.headD 0=0)->∀H',Same H H'->Q .non H')) (oO:(∀L l bot us,Form r.at L l bot us->∀t lp ys ex H',Same H H'->H' t=some (.tup [.int bot,.ref lp])->H' lp=some (.lst ys)->eG H' ex ys (Cf.fK l us)->Q (.ref t) H'))
def adt(C1 C2:Addr):Sp:=akd C1 C2
def au3{P:List Int}{l:List (Int×Nat)}(hs:∀x∈P,x.natAbs<1000000)(h:∀x∈l,x.1∈Pm.cands P):∀x∈l,Rm.Bd 20 x.1:=λx hx=>by
 have hlow:(Pm.iW P).natAbs<1000000:=by
  unfold Pm.iW;cases e:P.filter λx=>decide (x≠0)with
  |nil=>decide
  |cons y ys=>exact hs y (pA.mp (e▸cV ..:y∈P.filter λx=>decide (x≠0))).1
 have hm:∀x∈Pm.divs (Pm.iW P).natAbs,0<x/\x<=1000000:=Pm.Ay _ ⋯ _ _ _ _ ∅ (λx hx=>(gR hx).elim) (λx hx=>(gR hx).elim);have hz:=h x hx;unfold Pm.cands at hz;rcases fM.mp hz with hz|hz
 .rcases fM.mp hz with hz|hz
  .obtain⟨y,hy,e⟩:=bZ.mp hz;have:=hm y (pO.mp hy);exact Rm.Bd.of ⋯ ⋯
  .rw[eV.mp hz];exact Rm.Bd.zero _
 .have:=hm x.1 hz;exact Rm.Bd.of ⋯ ⋯
def ayk{l:List (Int×Nat)}{n:Nat}(hn:n<=10)(hr:∀x∈l,Rm.Bd 3 x.1)(hm:∀x∈l,x.2<=3):∀x∈Cf.gQ l n,Rm.Bd 190 x:=by
 induction l with
 |nil=>intro x hx;cases hx
 |cons a t ih=>
  intro x hx;rcases fM.mp (show x∈((eX a.2).map λj=>a.1^n*(n:Int)^j)++Cf.gQ t n from hx)with hx|hx
  .obtain⟨j,hj,rfl⟩:=bZ.mp hx;have:=iV.mp hj;have:=hm a (cV ..);refine((Cf.zQ (hr a (cV ..)) n).mul (Cf.zQ (n:=10) (Rm.Bd.of (x:=(n:Int)) ⋯ ⋯) j)).mono ?_;omega
  .exact ih (λx hx=>hr x (cZ _ hx)) (λx hx=>hm x (cZ _ hx)) x hx
def aqW(l:List (Int×Nat)):((l.map Pm.gw).map λx=>x.getD 1 0).sum=((Cf.aQ l:Nat):Int):=by
 unfold Cf.aQ;induction l with
 |nil=>rfl
 |cons a t ih=>
  rw[bG,bG,gF,ih,bG,gF];show((a.2:Nat):Int)+_=_;omega
abbrev WV(P w K mg base fu dM):=iQ P w K mg base "closed" 9 ["row"] (adt fu dM)
def aiF{n:Nat}{ix:List (Option Nat)}{te:TE}{σ:St}{H1:Hp}{Q:VK}(hz:n<=1000){rest:St}(hst:cst ix σ=none::rest)(f:Nat->Int)
  (he:∀H' k,Same H1 H'->k<n->∀kk:VK,(∀H2,Same H' H2->kk (.int (f k)) H2)->te (some (.int (0+(k:Int)))::rest) H' kk)
  (hQ:∀D H',H1 D=none->Same H1 H'->H' D=some (.lst ((Pm.aM n f).map V.int))->Q (.ref D) H'):jL ix (iB 0) kW te σ Q (nA 0 n) H1:=by
 refine asv yK (by rw[aB,mK];exact gG (dZ hz)) hst (λx=>match x with | .int k=> .int (f k.toNat)|_=> .non) ?_ ?_
 .intro H2 x g2 hx k hk;obtain⟨j,hj,rfl⟩:=bZ.mp hx;have e1:(0+(j:Int)).toNat=j:=⋯;refine he H2 j g2 (iV.mp hj) k λH3 g3=>?_;have hk':k (V.int (f (0+(j:Int)).toNat)) H3:=hk H3 g3
  rwa [e1]at hk'
 .intro D H' hD g hl;refine hQ D H' hD g ?_;rw[hl,Pm.aM,cR,cR];refine congrArg (λz=>some (HO.lst z)) (lG λk _=>?_);show V.int (f (0+(k:Int)).toNat)=V.int (f k);rw[show(0+(k:Int)).toNat=k by omega]
structure d8(d c:Nat)(r:Rw):Prop where
 by_:r.b=0
 len:r.rule.length=r.starts.length
 short:r.rule.length<=d
 uI:d<=10
 AH:∀x∈r.rule,Rm.Bd 60 x
 yu:∀n,Rm.Bd (c+17*n) (r.at n)
 zW:c<=36
 kU:Pm.Kp 0 (Cf.bI Cf.rD) r.at
def d8.ok{d c:Nat}{r:Rw}(h:d8 d c r):jE r:=by
 have e:=h.by_;have:=h.short;have:=h.uI;have:=h.zW;have hl:=h.len;refine⟨h.len,⋯,⋯,⋯,λx _=> .inl e,λx _=> .inl e,λx hx=>(h.AH x hx).mono ∅,λx hx=>?_⟩;obtain⟨k,hk,ex⟩:=jA.mp hx;have e1:r.at k=r.starts.getD k 0:=Rm.tG hk;have:x=r.at k:=by rw[e1,List.getD_eq_getElem?_getD,List.getElem?_eq_getElem hk,<-ex];rfl
 rw[this];exact(h.yu k).mono ⋯
theorem d8.kp{d c:Nat}{r:Rw}(h:d8 d c r):Pm.Kp 0 (Pm.aV 0 r.rule) r.at:=by
 have:=h.ok.kp
 rwa [h.by_]at this
def aok{f:Nat->Int}{L P:List Int}(h:jN 0 f L)(hP:Pm.Mon P)(hk:Pm.Kp 0 P f):∃S,Pm.Mon S/\Pm.mul 0 L S=P:=by
 obtain⟨S,hS,_,_,e⟩:=Pm.AK (b:=0) rfl hP h.mon (h.all P hk);refine⟨S,hS,(Pm.qH ..).ext (Pm.Mon.pW hP) λk=>?_⟩;rw[Pm.jP,Rm.gJ,e k,Pm.ju]
def d8.split{d c:Nat}{r:Rw}(h:d8 d c r){L:List Int}(lst:jN 0 r.at L):∃rs,rs.Sublist Cf.rD/\L=Cf.bI rs/\rs.length<=d:=by
 obtain⟨S,hS,em⟩:=aok lst (Cf.nR Cf.rD).1 h.kU;obtain⟨rs,h1,h2⟩:=Cf.Gj Cf.rD lst.mon hS em;refine⟨rs,h1,h2,?_⟩;have:=(lst.all _ h.kp).len rfl lst.mon (Pm.Bv 0 r.rule);rw[Pm.lE,h2,(Cf.nR rs).2]at this;have:=h.short;omega
def d8.small{d c:Nat}{r:Rw}(h:d8 d c r){L:List Int}(lst:jN 0 r.at L):L.length<=d+1/\∀x∈L,x.natAbs<1000000:=by
 obtain⟨rs,hs,rfl,hl⟩:=h.split lst;have:=h.uI;refine⟨by rw[(Cf.nR rs).2];omega,λx hx=>?_⟩;obtain⟨k,hk,ex⟩:=jA.mp hx;have b:=Cf.alG (λx=>hs.count_le x) ⋯ k
 rwa [Pm.jf hk,ex]at b
def aoS:Cf.rD=Cf.iD (Cf.allR.map λr=>(r,3)):=∅
def d8.lows{d c:Nat}{r:Rw}(h:d8 d c r)(L:List Int)(l:List (Int×Nat))(lst:jN 0 r.at L)(e:L=Pm.RP l [1])(hp:∀x∈l,0<x.2):∀x∈l,Rm.Bd 3 x.1/\x.2<=3:=λx hx=>by
 obtain⟨rs,hs,e2,_⟩:=h.split lst;rw[aoS]at hs;obtain⟨m,h1,h2⟩:=Cf.asd ∅ (e▸e2) hs hx (hp x hx);have:∀y∈Cf.allR.map (λr=>(r,3)),-8<y.1/\y.1<8/\y.2=3:=∅;have:=this _ h1;exact⟨Rm.Bd.of (n:=3) (by show -(2^3)<x.1;omega) (by show x.1<2^3;omega),⋯⟩
def d8.some_{d c:Nat}{r:Rw}(h:d8 d c r){L:List Int}(lst:jN 0 r.at L)(hc:(Pm.wr L).2≠[1]∨∃x∈(Pm.wr L).1,x.headD 0=0):False:=by
 obtain⟨rs,hs,rfl,_⟩:=h.split lst;obtain⟨l,w1,w2,_,_,_,w6⟩:=Cf.arM (rs:=rs);rcases hc with hc|⟨x,hx,hz⟩
 .exact absurd w2 hc
 .rw[w1]at hx;obtain⟨y,hy,rfl⟩:=bZ.mp hx;have:∀z∈Cf.rD,z≠0:=∅;exact absurd hz (this _ (hs.subset (w6 y hy)))
def d8.tame{d c:Nat}{r:Rw}(h:d8 d c r):Tame r:=λ_=>by
 have:=h.short;have:=h.uI;have:=h.zW;have hm:d*(376+d)<=10*386:=gU ⋯ ⋯;exact⟨d,376,60,∅,h.AH,⟨Pm.aV 0 r.rule,Pm.Bv _ _,h.kp,by rw[Pm.lE];omega⟩,λn hn=>(h.yu n).mono ⋯,λL lst=>Pm.jC λx hx=>uG ((h.small lst).2 x hx) ∅,h.uI,⋯⟩
def apc{r:Rw}(h0:r.b=0){L:List Int}(h:jN 0 r.at L)(hl:L.length<=r.starts.length+1)(n:Nat):(iC r L).at n=r.at n:=by
 have hp:=h.mon.pos;show Rm.at_ r.b (Pm.fL r.b L) (r.starts.take (L.length-1)) n=_;rw[h0];refine Pm.abR (λk=>Rm.aY _) h.mon h.kp (λn=>Rm.aY _) (starts:=r.starts.take (L.length-1)) (by rw[jd];omega) (λi hi=>?_) n;rw[jd]at hi;have e:r.at i=r.starts.getD i 0:=Rm.tG ⋯;rw[e,List.getD_eq_getElem?_getD,List.getElem?_take,if_pos ⋯,<-List.getD_eq_getElem?_getD]
def XO{L:List Int}(h:∀k,Rm.Bd 60 (Pm.co L k)):∀x∈Pm.fL 0 L,Rm.Bd 60 x:=λx hx=>by
 obtain⟨k,_,rfl⟩:=Pm.uD (show x∈Pm.aM _ _ from hx);rw[Rm.aY,mR];exact Pm.abd (h _)
def d8.sh{d c:Nat}{r:Rw}(h:d8 d c r){L:List Int}(lst:jN 0 r.at L)(ll:L.length<=r.rule.length+1):d8 d c (iC r L)/\(iC r L).at=r.at:=by
 have hl:=h.len;have hs:=h.short;have e:(iC r L).at=r.at:=funext λn=>apc h.by_ lst ⋯ n;have lr:(iC r L).rule.length=L.length-1:=Pm.nG ..;refine⟨⟨h.by_,?_,⋯,h.uI,?_,by rw[e];exact h.yu,h.zW,by rw[e];exact h.kU⟩,e⟩
 .show(iC r L).rule.length=(r.starts.take (L.length-1)).length;rw[lr,jd];omega
 .show ∀x∈Pm.fL r.b L,_;rw[h.by_];exact XO (Pm.jC λx hx=>(show Rm.Bd 20 x from uG ((h.small lst).2 x hx) ∅).mono ∅)
structure JM(rule:List Int):Prop where
 short:rule.length<=5
 bd:∀x∈rule,Rm.Bd 12 x
 kp:∃rs,Pm.aV 0 rule=Cf.bI rs/\∀x,rs.count x<=Cf.rD.count x
theorem JM.c{rule ss:List Int}(h:JM rule){c:Nat}(zW:c<=36)(hl:rule.length=ss.length)(hs:∀x∈ss,Rm.Bd c x):d8 5 c ⟨0,rule,ss⟩:=by
 obtain⟨rs,e,hc⟩:=h.kp;have h5:=h.short;refine⟨rfl,hl,h5,∅,λx hx=>(h.bd x hx).mono ∅,λn=>?_,zW,?_⟩
 .have q:=Rm.afn (b:=0) (rule:=rule) (starts:=ss) (a:=12) (c:=c) hl ∅ (Rm.Bd.zero _) h.bd hs n;refine q.mono ?_;have:=v8 n (show 12+rule.length<=17 by omega);rw[pU 17];omega
 .have hk:Pm.Kp 0 (Pm.aV 0 rule) (⟨0,rule,ss⟩:Rw).at:=Pm.Kp.aV (Pm.UH hl);rw[e]at hk;exact Cf.kp_more hc hk
def av7{x:Int}{rule ss:List Int}(hl:rule.length=ss.length)(n:Nat):(⟨0,rule,ss.map λs=>x*s⟩:Rw).at n=x*(⟨0,rule,ss⟩:Rw).at n:=by
 refine Rm.ZF (by rw[aB];exact hl) (g:=λn=>x*(⟨0,rule,ss⟩:Rw).at n) (λi hi=>?_) (λi hi=>?_) n
 .rw[aB]at hi;have e1:(⟨0,rule,ss⟩:Rw).at i=ss.getD i 0:=Rm.tG hi;have e2:(ss.map λs=>x*s).getD i 0=x*ss.getD i 0:=Rm.getD_map (f:=λs=>x*s) (aP x) _ _;rw[e1,e2]
 .rw[aB]at hi;have e1:(⟨0,rule,ss⟩:Rw).at i=Rm.tk 0 (Rm.S rule (⟨0,rule,ss⟩:Rw).at i rule.length):=Rm.Je hl hi;have e2:∀m,Rm.S rule (λn=>x*(⟨0,rule,ss⟩:Rw).at n) i m=x*Rm.S rule (⟨0,rule,ss⟩:Rw).at i m:=λm=>by
   induction m with
   |zero=>exact(aP x).symm
   |succ m ih=>unfold Rm.S;rw[ih,f9,fj]
  rw[e2,Rm.aY];show x*(⟨0,rule,ss⟩:Rw).at i=_;rw[e1,Rm.aY]
inductive akc(vs:List V)(H:Hp)(Q:VK)(E:XK):Prop|mk (v1 v2:V) (r1 r2:Rw) (bY:vs=[v1,v2]) (bV:gZ H v1 r1) (cC:gZ H v2 r2) (cL:r1.b=r2.b) (cQ:Q (.int r1.b) H)
def apC:Sp:=akc
abbrev ado:=cO "shared_by" 1 ["one","other"] apC
inductive awf(vs:List V)(H:Hp)(Q:VK)(E:XK):Prop|mk (a e:Addr) (ns ms:List Int) (d c:Nat) (bY:vs=[.int 0,.ref a,.ref e]) (bV:H a=some (.tup (ns.map V.int))) (cC:H e=some (.lst (ms.map V.int))) (cL:d8 d c ⟨0,ns,ms⟩) (cQ:∀v' r' H',Same H H'->gZ H' v' r'->d8 d c r'->r'.at=(⟨0,ns,ms⟩:Rw).at->Q v' H')
def au4:Sp:=awf
abbrev Ri:=cO "told_row" 10 ["by","rule","starts"] au4
inductive arw(vs:List V)(H:Hp)(Q:VK)(E:XK):Prop|mk (n:Int) (bY:vs=[.int n]) (bV:n<=12) (cC:Q .non H)
def arv:Sp:=arw
abbrev YC:=cO "refuse_long" 1 ["length"] arv
def aef{m n:Nat}{a:Nat->Int}(h:n<m):mq ((Pm.aM m a).map V.int) (n:Int)=some (.int (a n)):=by
 rw[eN ⋯ (by rw[Pm.cj];omega),d9];show some (V.int (Pm.co (Pm.aM m a) n))=_;rw[Pm.cY,if_pos h]
inductive auj(vs:List V)(H:Hp)(Q:VK)(E:XK):Prop|mk (l1 l2:Addr) (m:Nat) (a c:Nat->Int) (n:Nat) (bY:vs=[.ref l1,.ref l2,.int (n:Int)]) (bV:H l1=some (.lst ((Pm.aM m a).map V.int))) (cC:H l2=some (.lst ((Pm.aM m c).map V.int))) (cL:n<m) (cQ:∀H',Same H H'->Q (.int (a n+c n)) H')
def aqA:Sp:=auj
abbrev M8:=cO "sum_place" 1 ["ours","theirs","n"] aqA
def af9(r:Rw)(n:Nat):r.row n=Pm.aM n r.at:=Rm.Ng ..
inductive ayN(mg:Str->Option Value)(vs:List V)(H:Hp)(Q:VK)(E:XK):Prop|mk (v1 v2:V) (t g:Addr) (r1 r2:Rw) (ns:List Int) (d c:Nat) (bY:vs=[v1,v2,.ref t,.ref g]) (bV:mg "sum_place" = some (.ref g)) (cC:gZ H v1 r1) (cL:gZ H v2 r2) (cQ:jE r1) (dO:jE r2) (iR:r1.b=0) (jG:H t=some (.tup (ns.map V.int))) (kI:d8 d c ⟨0,ns,Pm.aM ns.length λn=>r1.at n+r2.at n⟩) (oO:∀v' r' H',Same H H'->gZ H' v' r'->d8 d c r'->r'.at=(⟨0,ns,Pm.aM ns.length λn=>r1.at n+r2.at n⟩:Rw).at->Q v' H')
def ara(mg:Str->Option Value):Sp:=ayN mg
abbrev V6(P w K mg base):=iQ P w K mg base "pair_row" 11 ["one","other","rule","pair_place"] (ara mg)
def aa4(v1 v2:V)(H:Hp)(Q:VK):Prop:=∃(r1 r2:Rw) (c:Nat),gZ H v1 r1/\gZ H v2 r2/\d8 5 c r1/\d8 5 c r2/\c<=35/\∀v' r' H',Same H H'->gZ H' v' r'->d8 10 (c+1) r'->r'.at=(λn=>r1.at n+r2.at n)->Q v' H'
def aah{P:List Int}{a c:Nat->Int}(h1:Pm.Kp 0 P a)(h2:Pm.Kp 0 P c):Pm.Kp 0 P λn=>a n+c n:=λn=>by
 have e:Pm.ks P (λn=>a n+c n) n=Pm.ks P a n+Pm.ks P c n:=by
  unfold Pm.ks;rw[<-Pm.iM];exact Pm.aR λk _=>f9 ..
 rw[e,<-Rm.jD,<-Rm.wO,h1 n,h2 n];exact Pm.tk0 0
def d8.sum{c:Nat}{r1 r2:Rw}(h1:d8 5 c r1)(h2:d8 5 c r2)(hc:c<=35){L1 L2:List Int}(l1:jN 0 r1.at L1)(l2:jN 0 r2.at L2){m:Nat}(hm:m=(Pm.mul 0 L1 L2).length-1):
  d8 10 (c+1) ⟨0,Pm.fL 0 (Pm.mul 0 L1 L2),Pm.aM m λn=>r1.at n+r2.at n⟩/\(⟨0,Pm.fL 0 (Pm.mul 0 L1 L2),Pm.aM m λn=>r1.at n+r2.at n⟩:Rw).at=λn=>r1.at n+r2.at n:=by
 obtain⟨mm,ml⟩:=Pm.JB (b:=0) rfl l1.mon l2.mon;have hk:Pm.Kp 0 (Pm.mul 0 L1 L2) λn=>r1.at n+r2.at n:=aah (l1.kp.amE L2) (l2.kp.Jq L1);have e:(⟨0,Pm.fL 0 (Pm.mul 0 L1 L2),Pm.aM m λn=>r1.at n+r2.at n⟩:Rw).at=λn=>r1.at n+r2.at n:=funext λn=>
  Pm.abR (λk=>Rm.aY _) mm hk (λn=>Rm.aY _) (by rw[Pm.cj,hm]) (λi hi=>by rw[Pm.cj]at hi;exact(Pm.cY _ _ _).trans (if_pos hi)) n
 obtain⟨s1,b1⟩:=h1.small l1;obtain⟨s2,b2⟩:=h2.small l2;have B:∀{L:List Int},(∀x∈L,x.natAbs<1000000)->∀x∈L,Rm.Bd 20 x:=λh x hx=>uG (h x hx) ∅;refine⟨⟨rfl,?_,?_,∅,XO (Pm.jC λx hx=>(Pm.ax3 (b:=0) ∅ ∅ ∅ (B b1) (B b2) x hx).mono ⋯),λn=>?_,⋯,?_⟩,e⟩
 .show(Pm.fL 0 (Pm.mul 0 L1 L2)).length=(Pm.aM m _).length;rw[Pm.nG,Pm.cj,hm]
 .show(Pm.fL 0 (Pm.mul 0 L1 L2)).length<=10;rw[Pm.nG,ml];omega
 .rw[e];exact(Rm.Bd.add (h1.yu n) (h2.yu n)).mono ⋯
 .rw[e];exact aah h1.kU h2.kU
inductive ajk(mg:Str->Option Value)(vs:List V)(H:Hp)(Q:VK)(E:XK):Prop|mk (v1 v2:V) (g:Addr) (bY:vs=[v1,v2,.ref g]) (bV:mg "sum_place" = some (.ref g)) (cC:aa4 v1 v2 H Q)
def ahU(mg:Str->Option Value):Sp:=ajk mg
abbrev aeQ(P w K mg base):=iQ P w K mg base "joint_row" 12 ["one","other","pair_place"] (ahU mg)
inductive avC(vs:List V)(H:Hp)(Q:VK)(E:XK):Prop|mk (v1 v2:V) (bY:vs=[v1,v2]) (bV:aa4 v1 v2 H Q)
def ah5:Sp:=avC
abbrev agC:=cO "added" 13 ["one","other"] ah5
inductive asl(vs:List V)(H:Hp)(Q:VK)(E:XK):Prop|mk (v:V) (rule ss:List Int) (x:Int) (bY:vs=[v,.int x]) (bV:gZ H v ⟨0,rule,ss⟩) (cC:d8 5 30 ⟨0,rule,ss⟩) (cL:d8 5 33 ⟨0,rule,ss.map λs=>x*s⟩) (cQ:Rm.Bd 3 x) (dO:∀v' r' H',Same H H'->gZ H' v' r'->d8 5 33 r'->r'.at=(⟨0,rule,ss.map λs=>x*s⟩:Rw).at->Q v' H')
def akT:Sp:=asl
abbrev ae3:=cO "scaled" 11 ["row","number"] akT
inductive auw(vs:List V)(H:Hp)(Q:VK)(E:XK):Prop|mk (a c:Addr) (p r:List Int) (bY:vs=[.ref a,.ref c]) (bV:H a=some (.lst (p.map V.int))) (cC:H c=some (.lst (r.map V.int))) (cL:1<=p.length) (cQ:p.length<=10) (dO:1<=r.length) (iR:r.length<=10) (jG:(∀x∈p,Rm.Bd 20000 x)) (kI:(∀x∈r,Rm.Bd 20000 x)) (oO:∀l H',Same H H'->H' l=some (.lst ((Pm.ur p r).map V.int))->Q (.ref l) H')
def axU:Sp:=auw
abbrev YG:=cO "_law_times" 1 ["_law_one","_law_other"] axU
def cT(M:List (Int×Nat)):List (Key×V):=M.map λx=>(.inl x.1,.int (x.2:Int))
theorem uN:∀{M:List (Int×Nat)},(M.map (·.1)).Nodup->∀{x:Int×Nat},x∈M->d7 (cT M) (.inl x.1)=some (.int (x.2:Int))
 |y::M,hd,x,hx=>by
  have hd':y.1∉M.map (·.1)/\(M.map (·.1)).Nodup:=mL.mp hd;show d7 ((.inl y.1,.int (y.2:Int))::cT M) _=_;rcases bN.mp hx with e|hx
  .subst e;rw[Ag rfl]
  .have hne:y.1≠x.1:=λe=>hd'.1 (e▸iJ hx);rw[wu λe=>hne (vm e)];exact uN hd'.2 hx
theorem ZQ:∀{M:List (Int×Nat)} {r:Int},r∉M.map (·.1)->d7 (cT M) (.inl r)=none
 |[],_,_=>rfl
 |y::M,r,h=>by
  have h':r≠y.1/\r∉M.map (·.1):=by simpa[not_or]using h
  show d7 ((.inl y.1,.int (y.2:Int))::cT M) _=_;rw[wu λe=>h'.1 (vm e).symm];exact ZQ h'.2
def amd{M:List (Int×Nat)}{r:Int}(hd:(M.map (·.1)).Nodup)(h:r∈M.map (·.1)):(d7 (cT M) (.inl r)).isSome=true:=by
 obtain⟨x,hx,rfl⟩:=bZ.mp h;rw[uN hd hx];rfl
def avJ{M:List (Int×Nat)}{r:Int}{m:Nat}(h:r∉M.map (·.1)):putK (cT M) (.inl r) (.int (m:Int))=cT (M++[(r,m)]):=by
 unfold putK;have e:((cT M).any λkv=>decide (kv.1 = .inl r))=false:=by
  rw[List.any_eq_false];intro kv hkv;obtain⟨x,hx,rfl⟩:=bZ.mp hkv;have:x.1≠r:=λz=>h (z▸iJ hx);simp only[decide_eq_true_eq];exactλz=>this (vm z)
 rw[e,if_neg ∅];unfold cT;rw[fW];rfl
def Sx(M:List (Int×Nat)):(cT M).length=M.length:=aB _
def aoy(M:List (Int×Nat)):(M.map λx=>(x.2:Int)).sum=(Pm.many M:Int):=by
 unfold Pm.many;induction M with
 |nil=>rfl
 |cons y M ih=>rw[bG,gF,ih,bG,gF];omega
def Np(M:List (Int×Nat))(x:Int×Nat):Pm.many (M++[x])=Pm.many M+x.2:=by
 unfold Pm.many;rw[fW,C7];simp
def Same.QH{H1 H2:Hp}{d:Addr}{u f:HO}(h:H1 d=some u)(g:Same (upd H1 d f) H2):Same H1 (upd H2 d u):=λb o e=>by
 by_cases c:b=d
 .subst c;rw[h]at e;cases e;rw[aC]
 .rw[bF c];exact g b o (by rw[bF c];exact e)
def awu{J:It}{vs:List V}{ix:List (Option Nat)}{te:TE}{σ:St}{H1:Hp}{Q:VK}(I:pQ J vs H1)(hz:vs.length<=1000){rest:St}(hst:cst ix σ=none::rest)(G:V->List Int)
  (he:∀(H':Hp) (x:V),Same H1 H'->x∈vs->∀k:VK,(∀t' H2,Same H' H2->H2 t'=some (.tup ((G x).map V.int))->k (.ref t') H2)->te (some x::rest) H' k)
  (hQ:∀D H' ys,H1 D=none->Same H1 H'->H' D=some (.lst ys)->cP H' ys (vs.map G)->Q (.ref D) H'):
  jL ix (iB 0) kW te σ Q J H1:=by
 constructor;intro D hD;refine⟨λi m σ' H'=>m=vs.length-i/\i<=vs.length/\(∃o,σ'=o::rest)/\Same H1 H'/\∃ys,H' D=some (.lst ys)/\cP H' ys ((vs.take i).map G),⟨vs.length,by simp,cB _,⟨none,hst⟩,Same.new hD _,[],aC,.nil⟩,?_⟩;rintro i m σ' H' ⟨rfl,hi,⟨o,rfl⟩,g,ys,hl,hy⟩;by_cases hlt:i<vs.length
 .refine .inr ⟨I.go i _ g hlt,λx H2 y=>?_⟩;obtain⟨rfl,hx⟩:=I.jO i _ x H2 g y;have hx:=hx hlt;have et:vs.take (i+1)=vs.take i++[x]:=by rw[qd,hx];rfl
  change te (some x::rest) H2 _;refine he H2 x g (List.mem_of_getElem? hx) _ λt' H3 g3 h3=>⟨ys,g3 _ _ hl,?_,vs.length-(i+1),⋯,rfl,hlt,⟨_,rfl⟩,Same.upd (g.trans g3) hD _,ys++[.ref t'],aC,?_⟩
  .have:=hy.len;rw[aB,jd]at this;have:=dZ hz;omega
  .rw[et,fW];exact((hy.same g3).append (.cons h3 .nil)).set (g3 _ _ hl)
 .have e:i=vs.length:=⋯;subst e;rw[lY]at hy;exact .inl ⟨I.stop _ _ g (aN _),hQ D H' ys hD g hl hy⟩
def ar5{α β:Type}{f:α->β}{l:List α}{i:Nat}{d:α}{e:β}(h:i<l.length):(l.map f).getD i e=f (l.getD i d):=by
 rw[List.getD_eq_getElem?_getD,List.getElem?_map,List.getElem?_eq_getElem h,List.getD_eq_getElem?_getD,List.getElem?_eq_getElem h];rfl
def apW{α:Type}(l:List α)(d:α):((eX l.length).map λi=>l.getD i d)=l:=by
 refine List.ext_getElem? λj=>?_;rw[List.getElem?_map];by_cases c:j<l.length
 .rw[List.getElem?_range c,List.getElem?_eq_getElem c];show some (l.getD j d)=_;rw[List.getD_eq_getElem?_getD,List.getElem?_eq_getElem c];rfl
 .rw[List.getElem?_eq_none (by simpa using c),List.getElem?_eq_none ⋯];rfl
def asS{M N:List (Int×Nat)}(h:M.Perm N):Pm.many M=Pm.many N:=by
 unfold Pm.many;exact(h.map (·.2)).sum_nat
theorem cP.prs{H:Hp}:∀{xs:List V} {M:List (Int×Nat)},cP H xs (M.map Pm.gw)->vP H xs (M.map λx=>(x.1,(x.2:Int)))
 |_,[],.nil=> .nil
 |_,_::_,.cons h r=> .cons h r.prs
theorem cP.pick{H:Hp}{xs:List V}{ps:List (List Int)}(h:cP H xs ps):∀{π:List Nat},(∀i∈π,i<ps.length)->cP H (π.map λi=>xs.getD i V.non) (π.map λi=>ps.getD i [])
 |[],_=> .nil
 |i :: π,hi=>by
  have hl:=h.len;have h1:i<ps.length:=hi i (cV ..);have ex:xs[i]?=some (xs.getD i V.non):=by rw[List.getD_eq_getElem?_getD,List.getElem?_eq_getElem ⋯];rfl
  obtain⟨t,p,e,ep,ht⟩:=h.get ex;have e2:ps.getD i []=p:=by rw[List.getD_eq_getElem?_getD,ep];rfl
  show cP H (xs.getD i V.non::_) (ps.getD i []::_);rw[e,e2];exact .cons ht (h.pick λj hj=>hi j (cZ _ hj))
inductive aph(K:aG)(vs:List V)(H:Hp)(Q:VK)(E:XK):Prop|mk (a:Addr) (ns:List Int) (k:Int) (bY:vs=[.ref a,.int k]) (bV:au K H a (ns.map V.int)) (cC:ns.length<=63) (cL:0<=k) (cQ:k<=100) (dO:∀c:Int,Q (.int c) H)
def ahf(K:aG):Sp:=aph K
abbrev FZ(P w K mg base):=iQ P w K mg base "_law_at" 1 ["_law_script","_law_k"] (ahf K)
structure Jz(M:List (Int×Nat)):Prop where
 nd:(M.map (·.1)).Nodup
 lo:∀x∈M,1<=x.2/\x.2<=3/\-4<=x.1/\x.1<=4
 all:Pm.many M<=5
def YB(H:Hp)(a d:Addr)(hh:Int)(i:Nat)(σ':St)(H':Hp):Prop:=∃(o5 o6 o7 o8:Option V) (M':List (Int×Nat)),σ'=[some (.ref a),some (.int hh),some (.int 5),some (.int 4),some (.ref d),o5,o6,o7,o8]/\Same H H'/\H' d=some (.dK (cT M'))/\Jz M'/\M'.length<=i
inductive aiY(K:aG)(vs:List V)(H:Hp)(Q:VK)(E:XK):Prop|mk (a:Addr) (ns:List Int) (hh:Int) (bY:vs=[.ref a,.int hh,.int 5,.int 4]) (bV:au K H a (ns.map V.int)) (cC:ns.length<=63) (cL:0<=hh) (cQ:hh<=50) (dO:∀l xs M H',Same H H'->H' l=some (.lst xs)->cP H' xs (M.map Pm.gw)->Jz M->M.length<=4->Q (.ref l) H')
def apJ(K:aG):Sp:=aiY K
abbrev WC(P w K mg base):=iQ P w K mg base "_law_roots" 2 ["_law_script","_law_at_here","_law_most","_law_wide"] (apJ K)
theorem agI:∀(l:List (Int×Nat)) (x:Int×Nat) (a:List Int),Pm.jU (l++[x]) a=Pm.dh x.1 x.2 (Pm.jU l a)
 |[],_,_=>rfl
 |(r,m)::t,x,a=>agI t x (Pm.dh r m a)
def aoU{p:List Int}{r:Int}{b:Nat}(hp:∀z∈p,Rm.Bd b z)(hr:Rm.Bd 40 r):∀z∈Pm.mul 0 p (Pm.lin r),Rm.Bd (b+50) z:=λz hz=>by
 obtain⟨k,hk,e⟩:=jA.mp hz;rw[<-e,<-Pm.jf hk,Pm.jP,Rm.aY,Pm.KP,Nx];refine(Rm.Bd.add (n:=b+40) ?_ ?_).mono ⋯
 .split
  .exact Rm.Bd.zero _
  .exact(Pm.jC hp _).mono ⋯
 .have h:=hr.mul (Pm.jC hp k);have h2:Rm.Bd (b+40) (r*Pm.co p k):=h.mono ⋯;unfold Rm.Bd at h2⊢;rw[za];exact h2
inductive ars(vs:List V)(H:Hp)(Q:VK)(E:XK):Prop|mk (l:Addr) (xs:List V) (M:List (Int×Nat)) (bY:vs=[.ref l]) (bV:H l=some (.lst xs)) (cC:cP H xs (M.map Pm.gw)) (cL:M.length<=8) (cQ:Pm.many M<=9) (dO:(∀x∈M,Rm.Bd 40 x.1)) (iR:∀l' H',Same H H'->H' l'=some (.lst ((Pm.jU M [1]).map V.int))->(∀z∈Pm.jU M [1],Rm.Bd 900 z)->Q (.ref l') H')
def auJ:Sp:=ars
abbrev XS:=cO "_law_product" 2 ["_law_roots_here"] auJ
def uJ(P:List Int):List Int:=P.dropLast.reverse.map λx=>0-x
def GC(P:List Int):(uJ P).length=P.length-1:=by rw[uJ,aB,oR,vX]
def aeP(P:List Int):uJ P=Pm.fL 0 P:=by
 refine Pm.vq (by rw[GC,Pm.nG]) λk=>?_;by_cases h:k<P.length-1
 .rw[Pm.fL,Pm.cY,if_pos h,Rm.aY];unfold uJ;rw[Pm.lN (f:=λx=>0-x) ∅];congr 1;show(P.dropLast.reverse).getD k 0=P.getD (P.length-1-1-k) 0;rw[List.getD_eq_getElem?_getD,List.getElem?_reverse (by rw[vX];exact h),vX,List.getElem?_dropLast,if_pos ⋯,<-List.getD_eq_getElem?_getD]
 .rw[Pm.aX (by rw[GC];omega),Pm.aX (by rw[Pm.nG];omega)]
def anr(P:List Int):iT (P.map V.int) none (some (-1))=P.dropLast.map V.int:=by
 unfold iT;rw[HT.rA,Nj,vf,aB,List.dropLast_eq_take,wB];congr 1;show(if(-1:Int)<0 then(-1+(P.length:Int)).toNat else min (-1:Int).toNat P.length)=P.length-1;rw[if_pos ∅];omega
def Ws:V->V
 |.int k=> .int (0-k)
 |_=> .non
def aiS(P:List Int):((P.dropLast.map V.int).reverse.filter λ_=>true).map Ws=(uJ P).map V.int:=by
 rw[uw.mpr (by simp),<-Mg,cR,uJ,cR];rfl
def j4(M:List (Int×Nat)):List (Int×Nat):=M.filter λx=>!decide (x.1=0)
def ax1(M:List (Int×Nat)):(M.map Pm.gw).filter (λc=>!decide (c.headD 0=0))=(j4 M).map Pm.gw:=by
 rw[ZW];rfl
theorem Qg(p:Int×Nat->Bool):∀M:List (Int×Nat),Pm.many (M.filter p)<=Pm.many M
 |[]=>aN _
 |x::M=>by
  have ih:=Qg p M;have e:Pm.many (x::M)=x.2+Pm.many M:=rfl;rw[sO];split
  .show x.2+Pm.many (M.filter p)<=_;omega
  .omega
def am9(l:List (Int×Nat)):Pm.jU l [1]=Pm.RP l [1]:=by
 have e:=Pm.RH [1] l [1];rw[Pm.mul_one (Pm.Mon.pW (Pm.E4 l Pm.Dy).1),Pm.mul_one (Pm.Mon.pW Pm.Dy)]at e;exact e
def Jz.g48{M:List (Int×Nat)}(h:Jz M):JM (uJ (Pm.RP (j4 M) [1])):=by
 obtain⟨m1,m2⟩:=Cf.uZ (j4 M);have hm:Cf.aQ (j4 M)<=5:=fY (Qg _ M) h.all;have hlo:∀x∈j4 M,x.1≠0/\x.2<=3/\-4<=x.1/\x.1<=4:=λx hx=>by
  obtain⟨h1,h2⟩:=pA.mp hx;have:=h.lo x h1;exact⟨by simpa using h2,this.2⟩
 refine⟨by rw[GC,m2];exact hm,λx hx=>?_,Cf.iD (j4 M),by rw[aeP,Pm.CW (λk=>Rm.aY _) m1,Cf.yG],λx=>?_⟩
 .rw[aeP]at hx;obtain⟨k,_,rfl⟩:=Pm.uD hx;rw[Rm.aY,Cf.yG];have b:=Cf.adu (Cf.iD (j4 M)) ((Cf.bI (Cf.iD (j4 M))).length-1-1-k);have:=Cf.adb (c:=4) (rs:=Cf.iD (j4 M)) λr hr=>by
   obtain⟨m,hm,_⟩:=Cf.DW.mp hr;have h1:-4<=r:=(hlo _ hm).2.2.1;have h2:r<=4:=(hlo _ hm).2.2.2;omega
  rw[Cf.N6]at this;have:(4+1)^Cf.aQ (j4 M)<=5^5:=wj ∅ hm;exact Rm.Bd.of ⋯ ⋯
 .by_cases c:x∈Cf.iD (j4 M)
  .obtain⟨m,hx,_⟩:=Cf.DW.mp c;have h3:x≠0/\m<=3/\-4<=x/\x<=4:=hlo _ hx;have hn:((j4 M).map (·.1)).Nodup:=afA (aeZ _ List.filter_sublist) h.nd;have h4:=Cf.count_le hn hx;rw[Cf.LY,if_pos (by simp only[Cf.allR,bN,gR,or_false];omega)];omega
  .rw[Yq.mpr c];omega
inductive ap3(K:aG)(vs:List V)(H:Hp)(Q:VK)(E:XK):Prop|mk (a:Addr) (ns:List Int) (hh:Int) (bY:vs=[.ref a,.int hh]) (bV:au K H a (ns.map V.int)) (cC:ns.length<=63) (cL:0<=hh) (cQ:hh<=50) (dO:∀v rule ss H',Same H H'->gZ H' v ⟨0,rule,ss⟩->JM rule->rule.length=ss.length->(∀x∈ss,Rm.Bd 30 x)->Q v H')
def avH(K:aG):Sp:=ap3 K
abbrev agw(P w K mg base):=iQ P w K mg base "_law_closed_row" 3 ["_law_script","_law_at_here"] (avH K)
inductive alP(vs:List V)(H:Hp)(Q:VK)(E:XK):Prop|mk (x y:Int) (bY:vs=[.int x,.int y]) (bV:Q (.int (j7 x.natAbs y.natAbs:Nat)) H)
def ayM:Sp:=alP
abbrev agg:=cO "_law_shared" 1 ["_law_one","_law_other"] ayM
inductive Dk(H:Hp):List (Key×V)->List (Int×List Int)->Prop
 |nil:Dk H [] []
 |cons {a:Addr} {r:Int} {ts:List Int} {kvs:List (Key×V)} {T:List (Int×List Int)}:H a=some (.lst (ts.map V.int))->Dk H kvs T->Dk H ((.inl r,.ref a)::kvs) ((r,ts)::T)
theorem Dk.up{H H':Hp}(g:∀a xs,H a=some (.lst xs)->H' a=some (.lst xs)):∀{kvs:List (Key×V)} {T:List (Int×List Int)},Dk H kvs T->Dk H' kvs T
 |_,_,.nil=> .nil
 |_,_,.cons h r=> .cons (g _ _ h) (r.up g)
def Dk.same{H H':Hp}(g:Same H H'){kvs:List (Key×V)}{T:List (Int×List Int)}(h:Dk H kvs T):Dk H' kvs T:=h.up λa xs=>g a _
def Og{H:Hp}{d:Addr}{kvs:List (Key×V)}(hd:H d=some (.dK kvs))(o:HO)(a:Addr)(xs:List V)(h:H a=some (.lst xs)):upd H d o a=some (.lst xs):=by
 rw[bF λz=>by rw[z,hd]at h;cases h];exact h
theorem Dk.keys{H:Hp}:∀{kvs:List (Key×V)} {T:List (Int×List Int)},Dk H kvs T->kvs.map (·.1)=(T.map (·.1)).map nY
 |_,_,.nil=>rfl
 |_,_,.cons _ r=>by rw[bG,bG,bG,r.keys]
def Dk.len{H:Hp}{kvs:List (Key×V)}{T:List (Int×List Int)}(h:Dk H kvs T):kvs.length=T.length:=by have:=congrArg sZ h.keys;simpa using this
theorem Dk.get{H:Hp}:∀{kvs:List (Key×V)} {T:List (Int×List Int)} {i:Nat} {kv:Key×V},Dk H kvs T->kvs[i]?=some kv->∃a r ts,kv=(.inl r,.ref a)/\T[i]?=some (r,ts)/\H a=some (.lst (ts.map V.int))
 |_,_,_,_,.nil,h=>by cases h
 |_,_,0,_,.cons h1 _,e=>by cases e;exact⟨_,_,_,rfl,rfl,h1⟩
 |_,_,i+1,_,.cons _ r,e=>Dk.get (i:=i) r e
theorem Dk.val{H:Hp}(r:Int):∀{kvs:List (Key×V)} {T:List (Int×List Int)},Dk H kvs T->(∃a,d7 kvs (.inl r)=some (.ref a)/\H a=some (.lst ((Cf.dB r T).map V.int)))∨(d7 kvs (.inl r)=none/\Cf.dB r T=[]/\r∉T.map (·.1))
 |_,_,.nil=> .inr ⟨rfl,rfl,λh=>by cases h⟩
 |_,_,.cons (a:=a) (r:=s) (ts:=ts) (T:=T) h1 q=>by
  unfold Cf.dB;by_cases e:s=r
  .exact .inl ⟨a,by rw[Ag (congrArg nY e)],by rw[if_pos e];exact h1⟩
  .rw[if_neg e,wu λz=>e (vm z)];refine(q.val r).imp id λ⟨z1,z2,z3⟩=>⟨z1,z2,λz=>?_⟩;rcases bN.mp (show r∈s::T.map (·.1)from z)with z|z
   .exact e z.symm
   .exact z3 z
def aoM{kvs:List (Key×V)}{p:Key×V}{k:Key}{v:V}(h:p.1≠k):putK (p::kvs) k v=p::putK kvs k v:=by
 unfold putK;rw[DK,decide_eq_false h,KY];split
 .rw[bG,if_neg h]
 .rfl
def arO{kvs:List (Key×V)}{p:Key×V}{k:Key}{v:V}(h:p.1=k)(hn:k∉kvs.map (·.1)):putK (p::kvs) k v=(k,v)::kvs:=by
 unfold putK;rw[DK,decide_eq_true h,Wn,if_pos rfl,bG,if_pos h,h];congr 1;exact(lG λx hx=>if_neg λz=>hn (by rw[<-z];exact iJ (f:=(·.1)) hx)).trans (xK _)
theorem Dk.put{H:Hp}{a:Addr}{r:Int}{ts:List Int}(ha:H a=some (.lst (ts.map V.int))):∀{kvs:List (Key×V)} {T:List (Int×List Int)},Dk H kvs T->(T.map (·.1)).Nodup->Dk H (putK kvs (.inl r) (.ref a)) (Cf.n8 r ts T)
 |_,_,.nil,_=> .cons ha .nil
 |_,_,.cons (r:=s) (kvs:=kvs) (T:=T) h1 q,hd=>by
  have hd':s∉T.map (·.1)/\(T.map (·.1)).Nodup:=mL.mp hd;unfold Cf.n8;by_cases e:s=r
  .rw[if_pos e,arO (congrArg nY e)]
   .exact .cons ha q
   .rw[q.keys];intro z;obtain⟨y,hy,e2⟩:=bZ.mp z;exact hd'.1 (by rw[e,<-vm e2];exact hy)
  .rw[if_neg e,aoM λz=>e (vm z)];exact .cons h1 (q.put ha hd'.2)
def uh(H:Hp)(t:Addr)(b:Int)(ps:List (Int×List Int)):Prop:=∃lp ys ex,H t=some (.tup [.int b,.ref lp])/\H lp=some (.lst ys)/\eG H ex ys ps
theorem uh.same{H H':Hp}(g:Same H H'){t:Addr}{b:Int}{ps:List (Int×List Int)}:uh H t b ps->uh H' t b ps:=λ⟨lp,ys,ex,h1,h2,h3⟩=>⟨lp,ys,ex,g _ _ h1,g _ _ h2,h3.same g⟩
def Gets(f:Nat->Int)(H:Hp)(Q:VK):Prop:=∀t b ps H',Same H H'->uh H' t b ps->Cf.Fm f b ps->Q (.ref t) H'
def akQ(T:List (Int×List Int))(g:Int)(ks:List Int)(r:Int):Cf.lowP T g (ks++[r])=Cf.lowP T g ks++(if Cf.jl g (Cf.dB r T)≠[]then[(r,Cf.jl g (Cf.dB r T))]else[]):=by
 unfold Cf.lowP;rw[fW,CP];congr 1;show List.filter _ [(r,Cf.jl g (Cf.dB r T))]=_;rw[sO];by_cases h:Cf.jl g (Cf.dB r T)≠[]
 .rw[if_pos h,if_pos (decide_eq_true h)];rfl
 .rw[if_neg h,if_neg (by rw[decide_eq_false h];decide)];rfl
structure afp(T:List (Int×List Int)):Prop where
 nd:(T.map (·.1)).Nodup
 few:T.length<=40
 ne:∀p∈T,p.1≠0/\p.2.length<=40
inductive aj9(vs:List V)(H:Hp)(Q:VK)(E:XK):Prop|mk (d:Addr) (kvs:List (Key×V)) (T:List (Int×List Int)) (bot:Int) (f:Nat->Int) (bY:vs=[.ref d,.int bot]) (bV:H d=some (.dK kvs)) (cC:Dk H kvs T) (cL:afp T) (cQ:1<=bot) (dO:Rm.Bd 8000 bot) (iR:(∀n,Cf.bJ T n=bot*f n)) (jG:Gets f H Q)
def ayl:Sp:=aj9
def arS{bot:Int}{ts:List Int}(h1:1<=bot)(h:Rm.Bd 8000 bot):((Lm.dg bot.natAbs ts:Nat):Int)≠0/\((Lm.dg bot.natAbs ts:Nat):Int).natAbs.log2<9000:=by
 have gp:=Lm.Hh (g:=bot.natAbs) ⋯ ts;refine⟨⋯,?_⟩;rw[uU];refine uG ((Ru (k:=8000) ⋯).mpr ?_) ∅;exact qw (pI ⋯ (Lm.AZ bot.natAbs ts)) h
def auh{T:List (Int×List Int)}(h:afp T)(r:Int):(Cf.dB r T).length<=40:=by
 by_cases c:Cf.dB r T=[]
 .rw[c];exact cB _
 .exact(h.ne _ (Cf.Fq c)).2
abbrev QG:=cO "_law_lowest" 2 ["_law_tops","_law_bottom"] ayl
structure FO(f:Nat->Int)(b:Int)(ps:List (Int×List Int)):Prop where
 fm:Cf.Fm f b ps
 few:ps.length<=10
 ok:∀p∈ps,p.2.length<=10/\∀c∈p.2,Rm.Bd 2400 c
 bb:Rm.Bd 2400 b
structure Cd(T:List (Int×List Int))(m:Nat)(F:Nat->Int):Prop where
 nd:(T.map (·.1)).Nodup
 few:T.length<=m
 ne:∀p∈T,p.1≠0/\p.2.length<=40
 sum:∀n,Cf.bJ T n=F n
def Cd.put{T:List (Int×List Int)}{m:Nat}{F:Nat->Int}(h:Cd T m F){r:Int}{c:List Int}(hr:r≠0)(hc:c.length<=40)(G:Nat->Int)(hG:∀n,G n+r^n*Cf.pv (Cf.dB r T) (n:Int)=F n+r^n*Cf.pv c (n:Int)):Cd (Cf.n8 r c T) (m+1) G:=by
 have e:=Cf.aep r c T;have hf:=h.few;refine⟨?_,?_,λp hp=>?_,λn=>?_⟩
 .rw[e];split
  .exact h.nd
  .rename_i z
   exact TQ.mpr ⟨h.nd,BZ ..,λx hx y hy=>λw=>z (by rw[<-eV.mp hy,<-w];exact hx)⟩
 .have:=congrArg sZ e;rw[aB]at this;split at this
  .rw[aB]at this;omega
  .rw[dW,aB]at this;show _<=_;rw[this];show T.length+1<=_;omega
 .rcases Cf.ZM hp with rfl|hp
  .exact⟨hr,hc⟩
  .exact h.ne p hp
 .have:=Cf.agX r c n T;have:=hG n;have:=h.sum n;omega
def alM(c x:Int)(ts:List Int):Cf.pv (ts.map λt=>t*c) x=c*Cf.pv ts x:=by
 rw[<-Cf.Tp,show(λt=>t*c)=λt=>c*t from funext λt=>cA t c]
def aiZ(i j:Nat):(if(j:Int)>(i:Int)then(j:Int)else(i:Int))=((max i j:Nat):Int):=by split<;>omega
def afs(k:Nat):(cN k [V.int 0]).flatten=(cN k (0:Int)).map V.int:=by
 induction k with
 |zero=>rfl
 |succ k ih=>rw[xQ,D5,ih,xQ,bG];rfl
def YK:V->V->V
 |.int a,.int b=> .int (a+b)
 |_,_=> .non
theorem aby:∀xs ys:List Int,uH YK (xs.map V.int) (ys.map V.int)=(uH (· + ·) xs ys).map V.int
 |[],_=>rfl
 |_::_,[]=>rfl
 |x::xs,y::ys=>by rw[bG,bG,List.zipWith_cons_cons,aby xs ys];rfl
inductive aiH(vs:List V)(H:Hp)(Q:VK)(E:XK):Prop|mk (t1 t2:Addr) (b1 b2:Int) (ps1 ps2:List (Int×List Int)) (f1 f2:Nat->Int) (bY:vs=[.ref t1,.ref t2]) (bV:uh H t1 b1 ps1) (cC:uh H t2 b2 ps2) (cL:FO f1 b1 ps1) (cQ:FO f2 b2 ps2) (dO:Gets (λn=>f1 n+f2 n) H Q)
def as4:Sp:=aiH
abbrev agS:=cO "_law_added" 3 ["_law_one","_law_other"] as4
theorem Zf:∀(l:List (Int×Nat)) (us:List Int),∀p∈Cf.fK l us,∀c∈p.2,c∈us
 |[],_,p,hp=>by cases hp
 |(r,m)::t,us,p,hp=>by
  intro c hc;rcases bN.mp (show p∈(r,us.take m)::Cf.fK t (us.drop m)from hp)with rfl|hp
  .exact aaA hc
  .exact List.mem_of_mem_drop (Zf t (us.drop m) p hp c hc)
theorem aga:∀(l:List (Int×Nat)) (us:List Int),us.length=Cf.aQ l->Cf.eO (Cf.fK l us)=us
 |[],us,h=>by
  have:us=[]:=sE h;rw[this];rfl
 |(r,m)::t,us,h=>by
  rw[Cf.qR]at h;show us.take m++Cf.eO (Cf.fK t (us.drop m))=us;rw[aga t (us.drop m) (by rw[pC];omega),JW]
def Form.fo{f:Nat->Int}{L:List Int}{l:List (Int×Nat)}{bot:Int}{us:List Int}(F:Form f L l bot us):FO f bot (Cf.fK l us):=by
 have l6:=acz F.pos;have hN:=F.few;have lp:(Cf.fK l us).length=l.length:=by have:=congrArg sZ (Cf.Sh l us F.len);rwa [aB]at this
 have ml:=λp hp=>Cf.CQ l us F.len p hp;refine⟨⟨F.afY,by rw[Cf.EA];exact F.up,λp hp=>F.ne _ (ml p hp),λp hp=>?_,by rw[aga l us F.len];exact F.gcd,F.sum⟩,⋯,λp hp=>?_,F.bb⟩
 .have hm':0<p.2.length:=F.pos _ (ml p hp);refine Cf.akP (N:=Cf.aQ l) (f:=f) (bot:=bot) ?_ (λq hq hk=>?_) (by rw[Cf.EA];exact Cf.qW F.up) (by have:=F.afY;omega) F.sum p hp (Aa.mp hm')
  .have e:=congrArg (λt=>(t.map (·.2)).sum) (Cf.Sh l us F.len);simp only[cR]at e;exact e
  .have:=(F.least.all q hk).len rfl F.least.mon hq;rw[F.rp,(Cf.uZ l).2]at this;exact this
 .have:=afd (ml p hp);have:p.2.length<=Cf.aQ l:=this;exact⟨⋯,λc hc=>F.bu c (Zf l us p hp c hc)⟩
def d8.closed{C1 C2:Addr}{d c:Nat}{r:Rw}(h:d8 d c r){v:V}{H:Hp}(hR:gZ H v r){Q:VK}{E:XK}(q:∀t b ps H',Same H H'->uh H' t b ps->FO r.at b ps->Q (.ref t) H'):adt C1 C2 [v] H Q E:=by
 have:=h.uI;have:=h.zW;exact⟨v,r,rfl,hR,h.by_,h.ok,h.tame,λn hn=>(h.yu n).mono ⋯,λL lst=>⟨by have:=(h.small lst).1;omega,(h.small lst).2⟩,h.lows,λL lst hc H' _=>(h.some_ lst hc).elim,λL l bot us F t lp ys ex H' g ht hl hp=>q t bot _ H' g ⟨lp,ys,ex,ht,hl,hp⟩ F.fo⟩
def ab9{K:aG}{g:Bool->Bool}{H:Hp}{a c:Addr}{n:Int}{ps:List (Int×List Int)}{Q:VK}(h1:uh H a n ps)(h2:uh H c n ps)(q:Q (.bl (g true)) H):rE K g (.ref a) (.ref c) H Q:=by
 obtain⟨lp,ys,ex,a1,a2,a3⟩:=h1;obtain⟨lq,zs,ey,b1,b2,b3⟩:=h2;exact avB a1 a2 a3 b1 b2 b3 q
def ap4{n:Nat}{ix:List (Option Nat)}{te:TE}{σ:St}{H1:Hp}{Q:VK}(hz:n<=1000){rest:St}(hst:cst ix σ=none::rest)(Pr:Int->Prop)
  (he:∀(H':Hp) (k:Nat),Same H1 H'->k<n->∀kk:VK,(∀x,Pr x->kk (.int x) H')->te (some (.int (0+(k:Int)))::rest) H' kk)
  (hQ:∀D H' (xs:List Int),H1 D=none->Same H1 H'->H' D=some (.lst (xs.map V.int))->xs.length=n->(∀x∈xs,Pr x)->Q (.ref D) H'):jL ix (iB 0) kW te σ Q (nA 0 n) H1:=by
 have I:pQ (nA 0 n) ((eX n).map λi=>V.int (0+(i:Nat))) H1:=yK;have lv:((eX n).map λi=>V.int (0+((i:Nat):Int))).length=n:=by rw[aB,mK]
 constructor;intro D hD;refine⟨λi m σ' H'=>m=n-i/\i<=n/\(∃o,σ'=o::rest)/\Same H1 H'/\∃xs:List Int,H' D=some (.lst (xs.map V.int))/\xs.length=i/\∀x∈xs,Pr x,⟨n,by simp,cB _,⟨none,hst⟩,Same.new hD _,[],aC,rfl,λx hx=>absurd hx gR⟩,?_⟩;rintro i m σ' H' ⟨rfl,hi,⟨o,rfl⟩,g,xs,hl,lx,hx⟩;by_cases hlt:i<n
 .refine .inr ⟨I.go i _ g ⋯,λy H2 yy=>?_⟩;obtain⟨rfl,hy⟩:=I.jO i _ y H2 g yy;obtain⟨j,hj,rfl⟩:=IY (hy ⋯);rw[List.getElem?_range hlt]at hj;cases hj;change te (some (.int (0+(i:Int)))::rest) H2 _;refine he H2 i g hlt _ λx px=>⟨_,hl,by rw[aB,lx];exact dZ ⋯,n-(i+1),⋯,rfl,hlt,⟨_,rfl⟩,Same.upd g hD _,xs++[x],by rw[aC,fW];rfl,by rw[dW,lx];rfl,λz hz=>?_⟩;rcases fM.mp hz with hz|hz
  .exact hx z hz
  .rw[eV.mp hz];exact px
 .have e:i=n:=⋯;subst e;exact .inl ⟨I.stop _ _ g ⋯,hQ D H' xs hD g hl lx hx⟩
section
variable {P:Program} {w:World} {K:aG} {mg:Str->Option Value} {base:Heap}
variable {fu dM:Addr} (B:Bt mg) (M:Ms K mg base fu dM)
include B M
theorem aqj(F:Fn K mg "taken" Lr ["by","number"]):j9 P w K mg base:=by
 refine F.cal alb (λvs H Q E h=>?_) (λ_ _ _ _ _ H _ Q E hr h=>?_)
 .obtain⟨b,n,rfl,_⟩:=h;rfl
 .obtain⟨b,n,rfl,h0,q⟩:=h;refine⟨_,(ao (eZ (cU (jm K hr) (pv 0) aq) (aD (bh (pv 1))) fB) (aD (bh (aK je (pv 1) (pv 0))))),?_⟩;refine⟨_,rfl,_,rfl,?_⟩;refine dR (λc=>?_) (λc=>?_)
  .refine⟨_,rfl,?_⟩;have c':b=0:=dec_true c;have e:Rm.tk b n=n:=by rw[c',Rm.aY]
   rw[e]at q;exact q
  .have c':¬b=0:=dec_false c;refine⟨_,rfl,_,rfl,_,_,rfl,rfl,(⋯:(0:Int)<b),?_⟩;rw[Rm.jY c']at q;exact q
theorem anG(F:Fn K mg "next_place" Tg ["by","rule","before"])(cM:j9 P w K mg base):X8 P w K mg base:=by
 refine F.cal IG (λvs H Q E h=>?_) (λ_ _ _ _ _ H _ Q E hr h=>?_)
 .obtain⟨b,r,s,rule,before,rfl,_⟩:=h;rfl
 .obtain⟨b,r,s',rule,before,rfl,hb,hR,hS,hl,hl2,hl3,bR,bS,q⟩:=h;refine⟨_,(ao (aF 3 IG.nd aq) (ao (gb PassesOwn.never rfl (iz rfl B.gC (aL (cG K B.cH (ak (pv 1) aj)) aj)) (bD 4 IG.nd) (aD (aF 3 IG.nd (pad K (pv 3) (aK v_mul (aO K (pv 1) (pv 4)) (aO K (pv 2) (aK dH (aK dH (cG K B.cH (ak (pv 2) aj)) aq) (pv 4)))))))) (aD (bh (aJ cM hr (ak (pv 0) (ak (pv 3) aj))))))),?_⟩;have lR:(rule.map V.int).length=rule.length:=aB _;have lS:(before.map V.int).length=before.length:=aB _;refine⟨_,rfl,.ref r,rule.length,rfl,.inr ⟨_,hR,lR.symm⟩,?_⟩;refine⟨(rule.length:Int),rfl,(⋯:-(2^62)<=(rule.length:Int)),(⋯:(rule.length:Int)<2^62),?_⟩;refine kY (lo:=0) (n:=(rule.length:Int).toNat) (λi σ' H'=>∃o,σ'=[some (.int b),some (.ref r),some (.ref s'),some (.int (Rm.S rule (λi=>before.getD i 0) before.length i)),o]/\H'=H) ⟨none,rfl,rfl⟩ ?_ ?_
  .rintro i σ' H' hi ⟨o,rfl,rfl⟩;have hi':i<rule.length:=⋯;have e0:(0:Int)+(i:Int)=(i:Int):=⋯;have e1:(before.length:Int)-1-(0+(i:Int))=((before.length-1-i:Nat):Int):=⋯;refine⟨_,rfl,?_⟩;refine⟨_,rfl,_,rfl,_,_,.inr hR,eN (ns:=rule) (⋯:(0:Int)<=0+(i:Int)) ⋯,?_⟩;refine⟨_,rfl,_,rfl,.ref s',before.length,rfl,.inl ⟨_,hS,lS.symm⟩,_,_,rfl,rfl,_,rfl,_,_,rfl,rfl,?_⟩;refine⟨_,_,.inl hS,eN (ns:=before) (⋯:(0:Int)<=(before.length:Int)-1-(0+(i:Int))) ⋯,?_⟩;refine⟨m9 (Rm.Bd.getD bR _) (Rm.Bd.getD bS _) ∅,?_⟩;refine⟨some (.int (0+(i:Int))),?_,rfl⟩;rw[e1,e0,d9,d9];rfl
  .rintro σ' H' ⟨o,rfl,rfl⟩;refine⟨_,rfl,_,rfl,b,_,rfl,hb,?_⟩;rw[show(rule.length:Int).toNat=rule.length from d9 _];exact q
theorem aqz(F:Fn K mg "first_places" Qy ["row","count"])(OV:X8 P w K mg base):afi P w K mg base:=by
 refine F.cal DN (λvs H Q E h=>?_) (λ_ _ _ _ _ H _ Q E hr h=>?_)
 .obtain⟨v,r,c,rfl,_⟩:=h;rfl
 .obtain⟨v,r,c,rfl,⟨a,p,p2,rfl,hA,hR,hS⟩,ok,hc0,hc1,q⟩:=h;refine⟨_,(ao (aF 2 DN.nd (aO K (pv 0) aq)) (ao (aF 3 DN.nd (aO K (pv 0) aq)) (ao (aF 4 DN.nd (aO K (pv 0) aq)) (ao (aF 5 DN.nd (anf (kJ (xlist K) rfl B.Jx boot_list (aL (wG (wU K) (pv 4) Aj (vY (pv 1))) aj)))) (ao (ou PassesOwn.never (cU yN (cG K B.cH (ak (pv 5) aj)) (pv 1)) (aD (lB (ud K (pv 5) (aJ OV hr (ak (pv 2) (ak (pv 3) (ak (pv 5) aj)))))))) (aD (bh (pv 5)))))))),?_⟩;have hl:=ok.len;have hl2:=ok.short;have lS:(r.starts.map V.int).length=r.starts.length:=aB _;refine⟨_,rfl,_,_,.inr (aA.of hA),rfl,?_⟩;refine⟨_,rfl,_,_,.inr (aA.of hA),rfl,?_⟩;refine⟨_,rfl,_,_,.inr (aA.of hA),rfl,?_⟩;have ajO:iT (r.starts.map V.int) none (some c)=(r.row (min c.toNat r.starts.length)).map V.int:=by
   have e:r.row (min c.toNat r.starts.length)=r.starts.take (min c.toNat r.starts.length):=Rm.UW (afL _ _);rw[e];have e2:c=((c.toNat:Nat):Int):=⋯;unfold iT;rw[e2,HT.qI,HT.rA,Nj,vf,lS,wB,d9]
  refine Bar.by (λv H1=>∃l,v = .ref l/\Same H H1/\H l=none/\H1 l=some (.lst ((r.row (min c.toNat r.starts.length)).map V.int))) (λkk hkk=>?_) ?_
  .refine⟨_,rfl,_,rfl,_,rfl,?_⟩;by_cases hw:r.starts.length<=c.toNat
   ·-- the whole of it
    refine .inr (.inr ⟨_,aA.of hS,?_,?_⟩)
    .have e2:c=((c.toNat:Nat):Int):=⋯;rw[e2,HT.qI,HT.rA,lS];omega
    .refine⟨p2,_,rfl,.inr (aA.of hS),λl hl1=>hkk _ _ ⟨l,rfl,Same.new hl1 _,hl1,?_⟩⟩;rw[aC,Nat.min_eq_right hw];have e:r.row r.starts.length=r.starts:=(Rm.UW (aN _)).trans (lY ..);rw[e]
   .refine .inr (.inl ⟨_,aA.of hS,?_,λp3 hp3=>?_⟩)
    .have e2:c=((c.toNat:Nat):Int):=⋯;rw[e2,HT.qI,HT.rA,lS];omega
    .refine⟨p3,_,rfl,.inr (aA.of aC),λl hl1=>?_⟩;have g3:=Same.new hp3 (.tup (iT (r.starts.map V.int) none (some c)));refine hkk _ _ ⟨l,rfl,g3.trans (Same.new hl1 _),g3.free hl1,?_⟩;rw[aC,ajO]
  rintro v H1 ⟨l,rfl,g1,hl1,hr1⟩;refine⟨λm σ' H'=>∃n:Nat,m=c.toNat-n/\min c.toNat r.starts.length<=n/\n<=c.toNat/\σ'=[some (.ref a),some (.int c),some (.int r.b),some (.ref p),some (.ref p2),some (.ref l)]/\Same H H'/\H' l=some (.lst ((r.row n).map V.int)),
   ⟨_,min c.toNat r.starts.length,rfl,aN _,Nat.min_le_left _ _,rfl,g1,hr1⟩,?_⟩
  rintro m σ' H' ⟨n,rfl,h1,h2,rfl,g,hL⟩;have lL:((r.row n).map V.int).length=n:=by rw[aB,Rw.sX]
  refine⟨_,rfl,.ref l,n,rfl,.inl ⟨_,au.of hL,lL.symm⟩,_,rfl,_,_,rfl,rfl,_,rfl,?_⟩;refine dR (λcc=>?_) (λcc=>?_)
  .have hn:n<c.toNat:=by have:=dec_true cc;omega
   refine⟨_,λ_ _ z=>z,?_⟩;refine⟨_,rfl,.inl ⟨rfl,_,au.of hL⟩,_,rfl,_,rfl,_,rfl,r.b,p,l,r.rule,r.row n,rfl,ok.oH,aA.of (g _ _ hR),au.of hL,?_,hl2,?_,ok.AH,ok.avE n ⋯,?_⟩
   .rw[Rw.sX];omega
   .rw[Rw.sX];omega
   .refine⟨l,_,_,rfl,rfl,hL,?_,?_⟩
    .rw[lL];exact dZ ⋯
    .refine⟨c.toNat-(n+1),⋯,n+1,rfl,⋯,⋯,rfl,g.upd hl1 _,?_⟩;rw[aC,Rw.sX];have e:r.row (n+1)=r.row n++[Rm.tk r.b (Rm.S r.rule (λi=>(r.row n).getD i 0) n r.rule.length)]:=by
      show _++[if n<r.starts.length then r.starts.getD n 0 else _]=_;rw[if_neg ⋯];rfl
     rw[e,fW];rfl
  .have hn:n=c.toNat:=by have:=dec_false cc;omega
   subst hn;refine⟨_,rfl,?_⟩;exact q l H' g hl1 hL
theorem aoP(F:Fn K mg "is_prime" QD ["number"]):ad3 P w K mg base:=by
 refine F.cal Mi (λvs H Q E h=>?_) (λ_ _ _ _ _ H _ Q E hr h=>?_)
 .obtain⟨n,rfl,_⟩:=h;rfl
 .obtain⟨n,rfl,hn,q⟩:=h;refine⟨_,(ao (eZ (cU yN (pv 0) aq) (aD (bh Bb)) fB) (ao (aF 1 Mi.nd aq) (ao (ou PassesOwn.never (cU Nb (aK v_mul (pv 1) (pv 1)) (pv 0)) (ao (eZ (cU (jm K hr) (aK je (pv 0) (pv 1)) aq) (aD (bh Bb)) fB) (aD (aF 1 Mi.nd (pad K (pv 1) aq))))) (aD (bh Bb))))),?_⟩;refine⟨_,rfl,_,_,rfl,rfl,_,rfl,?_⟩;refine dR (λc=>?_) (λc=>?_)
  .have c':(n:Int)<2:=dec_true c;exact q false ⟨λz=>absurd z ∅,λz=>by have:=z.1;omega⟩
  .have c':¬(n:Int)<2:=dec_false c;refine⟨λm σ' H'=>∃d:Nat,σ'=[some (.int n),some (.int (d:Int))]/\H'=H/\2<=d/\d<=n+1/\m=n+2-d/\∀e:Nat,2<=e->e<d->¬e∣n,⟨_,2,rfl,rfl,⋯,⋯,rfl,λe h1 h2=>⋯⟩,?_⟩;rintro m σ' H' ⟨d,rfl,rfl,h2,hdn,rfl,hd⟩;refine⟨_,rfl,_,rfl,mulL ⋯ ⋯,_,rfl,_,_,rfl,rfl,_,rfl,?_⟩;refine dR (λc2=>?_) (λc2=>?_)
   .have c2':(d:Int)*d<=n:=dec_true c2;have c2n:d*d<=n:=by exact_mod_cast c2'
    have hdl:d*1<=d*d:=v8 d ⋯;refine⟨_,λ_ _ z=>z,?_⟩;refine⟨_,rfl,_,rfl,_,_,rfl,rfl,(⋯:(0:Int)<(d:Int)),?_⟩;refine⟨_,rfl,?_⟩;refine dR (λc3=>?_) (λc3=>?_)
    .have xT:(n:Int)%(d:Int)=0:=dec_true c3;have hdv:d∣n:=Cm.mp (DX xT);exact q false ⟨λz=>absurd z ∅,λz=>absurd z (Om.avG h2 c2n hdv)⟩
    .have xT:¬(n:Int)%(d:Int)=0:=dec_false c3;refine⟨_,rfl,?_⟩;exact⟨n+2-(d+1),⋯,d+1,by simp,rfl,⋯,⋯,rfl,λe h1 h3=>by
      rcases vg e d with z|z
      .exact hd e h1 z
      .have:e=d:=⋯;subst this;exactλz=>xT (Int.emod_eq_zero_of_dvd (Cm.mpr z))⟩
   .have c2':¬(d:Int)*d<=n:=dec_false c2;have c2n:¬d*d<=n:=λz=>c2' (by exact_mod_cast z);exact q true ⟨λ_=>Om.Ol ⋯ λe h1 h3 hdv=>by
     by_cases c4:e<d
     .exact hd e h1 c4 hdv
     .have:d*d<=e*e:=gU ⋯ ⋯;omega,λ_=>rfl⟩
theorem ahn(F:Fn K mg "prime_above" Ni ["number"])(Nh:ad3 P w K mg base):aa6 P w K mg base:=by
 refine F.cal UL (λvs H Q E h=>?_) (λ_ _ _ _ _ H _ Q E hr h=>?_)
 .obtain⟨n,q,rfl,_⟩:=h;rfl
 .obtain⟨n,q',rfl,hq,hnq,hqb,q⟩:=h;refine⟨_,(ao (aF 1 UL.nd (pad K (pv 0) aq)) (ao (ou PassesOwn.never (Kh (wY (aJ Nh hr (ak (pv 1) aj)))) (aD (aF 1 UL.nd (pad K (pv 1) aq)))) (aD (bh (pv 1))))),?_⟩;refine⟨_,rfl,?_⟩;refine⟨λm σ' H'=>∃f:Nat,σ'=[some (.int n),some (.int (f:Int))]/\H'=H/\n<f/\f<=q'/\m=q'-f,⟨_,n+1,rfl,rfl,⋯,⋯,rfl⟩,?_⟩;rintro m σ' H' ⟨f,rfl,rfl,h1,h2,rfl⟩;refine⟨_,rfl,f,rfl,⋯,λb hb=>?_⟩;refine⟨b,rfl,?_⟩;cases b with
  |false=>
   refine⟨_,λ_ _ z=>z,?_⟩;refine⟨_,rfl,?_⟩;have hne:f≠q':=λe=>absurd (hb.mpr (e▸hq)) ∅;exact⟨q'-(f+1),⋯,f+1,rfl,rfl,⋯,⋯,rfl⟩
  |true=>
   refine⟨_,rfl,?_⟩;exact q f (hb.mp rfl) h1 h2
theorem aqU(F:Fn K mg "inverse" Mh ["prime","number"])(cM:j9 P w K mg base):VD P w K mg base:=by
 refine F.cal xr (λvs H Q E h=>?_) (λ_ _ _ _ _ H _ Q E hr h=>?_)
 .obtain⟨P,a,rfl,_⟩:=h;rfl
 .obtain⟨P',a,rfl,hP,hPb,h0,h1,q⟩:=h;have hr2:2<=P'/\P'<2097152:=⟨hP.1,hPb⟩;refine⟨_,(ao (aF 2 xr.nd aq) (ao (aF 3 xr.nd (pv 1)) (ao (aF 4 xr.nd (aK dH (pv 0) aq)) (ao (ou PassesOwn.never (cU tu (pv 4) aq) (ao (sY (eZ (cU (jm K hr) (aK je (pv 4) aq) aq) (aD (aF 2 xr.nd (aJ cM hr (ak (pv 0) (fH (aK v_mul (pv 2) (pv 3)) aj))))) fB)) (ao (aF 3 xr.nd (aJ cM hr (ak (pv 0) (fH (aK v_mul (pv 3) (pv 3)) aj)))) (aD (aF 4 xr.nd (aK zX (pv 4) aq)))))) (aD (bh (pv 2))))))),?_⟩;refine⟨_,rfl,?_⟩;refine⟨_,rfl,_,_,rfl,rfl,?_⟩;have e0:((P':Int)-2).toNat=P'-2:=⋯;refine⟨λm σ' H'=>∃power square left:Int,σ'=[some (.int P'),some (.int a),some (.int power),some (.int square),some (.int left)]/\H'=H/\m=left.toNat/\0<=power/\power<2097152/\0<=square/\square<2097152/\0<=left/\Om.Keeps P' a (P'-2) power square left.toNat,
   ⟨_,1,a,(P':Int)-2,rfl,rfl,rfl,∅,∅,⋯,⋯,⋯,by rw[e0];exact Om.ahA _ _ _⟩,?_⟩
  rintro m σ' H' ⟨power,square,left,rfl,rfl,rfl,p0,p1,s0,s1,l0,hk⟩;refine⟨_,rfl,_,_,rfl,rfl,_,rfl,?_⟩;refine dR (λc=>?_) (λc=>?_)
  .have c':0<left:=dec_true c;refine⟨_,λ_ _ z=>z,?_⟩;have hpos:(0:Int)<(P':Int):=⋯;have ji:∀n,Rm.tk (P':Int) n=n%(P':Int):=λn=>Rm.jY ⋯ n;refine rF.by (λσ' H2=>∃power':Int,σ'=[some (.int P'),some (.int a),some (.int power'),some (.int square),some (.int left)]/\H2=H'/\((left%2=1/\power'=power*square%(P':Int))∨(¬left%2=1/\power'=power))) (λN hN=>?_) ?_
   .refine⟨_,rfl,_,_,rfl,rfl,(∅:(0:Int)<2),_,rfl,?_⟩;refine dR (λc2=>?_) (λc2=>?_)
    .refine⟨_,rfl,_,rfl,_,rfl,mulL ⋯ ⋯,P',_,rfl,⋯,?_⟩;exact hN _ _ ⟨_,rfl,rfl,.inl ⟨dec_true c2,ji _⟩⟩
    .exact hN _ _ ⟨_,rfl,rfl,.inr ⟨dec_false c2,rfl⟩⟩
   rintro σ' H2 ⟨power',rfl,rfl,hp⟩;refine⟨_,rfl,_,rfl,_,rfl,mulL ⋯ ⋯,P',_,rfl,⋯,?_⟩;refine⟨_,rfl,_,_,rfl,rfl,⟨∅,∅⟩,?_⟩;have b1:=qF (square*square) hpos;have b2:=qb (square*square) hpos;have b3:=qF (power*square) hpos;have b4:=qb (power*square) hpos;have el:(left/2).toNat=left.toNat/2:=⋯;refine⟨_,?_,power',square*square%(P':Int),left/2,by rw[ji];rfl,rfl,rfl,?_,?_,b1,⋯,⋯,?_⟩
   .omega
   .rcases hp with⟨_,rfl⟩|⟨_,rfl⟩
    .exact b3
    .exact p0
   .rcases hp with⟨_,rfl⟩|⟨_,rfl⟩
    .omega
    .exact p1
   .rw[el];rcases hp with⟨hodd,rfl⟩|⟨hodd,rfl⟩
    .exact Om.aoQ hk ⋯
    .exact Om.apZ hk ⋯
  .have c':left=0:=by have:=dec_false c;omega
   subst c';refine⟨_,rfl,?_⟩;exact q power p0 p1 (Om.ahX hk)
theorem aiQ(F:Fn K mg "over" Vx ["by","one","other"])(cM:j9 P w K mg base)(U6:VD P w K mg base):Cr P w K mg base:=by
 refine F.cal ahY (λvs H Q E h=>?_) (λ_ _ _ _ _ H _ Q E hr h=>?_)
 .obtain⟨P,one,other,rfl,_⟩:=h;rfl
 .obtain⟨P',one,other,rfl,hP,hPb,o0,o1,q⟩:=h;refine⟨_,(ao (eZ (cU (jm K hr) (pv 0) aq) (aD Gk) fB) (ao (eZ (cU (jm K hr) (aJ cM hr (ak (pv 0) (ak (pv 2) aj))) aq) (aD Gk) fB) (aD (bh (aJ cM hr (ak (pv 0) (fH (aK v_mul (pv 1) (aJ U6 hr (ak (pv 0) (ak (pv 2) aj)))) aj))))))),?_⟩;have hr2:2<=P'/\P'<2097152:=⟨hP.1,hPb⟩;refine⟨_,rfl,_,rfl,?_⟩;refine dR (λc=>absurd (dec_true c) ⋯) (λ_=>?_);have ji:∀n,Rm.tk (P':Int) n=n%(P':Int):=λn=>Rm.jY ⋯ n;refine⟨_,rfl,_,rfl,P',other,rfl,⋯,_,rfl,?_⟩;have et:Rm.tk (P':Int) other=other:=by rw[ji];exact Cv ⋯ o1
  rw[et];refine dR (λc2=>absurd (dec_true c2) ⋯) (λ_=>?_);refine⟨_,rfl,_,rfl,_,rfl,_,rfl,P',other,rfl,hP,hPb,o0,o1,λx x0 x1 hx=>?_⟩;refine⟨mulR ⋯ ⋯,P',_,rfl,⋯,?_⟩;rw[ji,Om.mod_mul (rfl:one%(P':Int)=one%(P':Int)) hx];exact q
theorem asM(F:Fn K mg "trimmed" Tw ["numbers"]):DP P w K mg base:=by
 refine F.cal Uc (λvs H Q E h=>?_) (λ_ _ _ _ _ H _ Q E hr h=>?_)
 .obtain⟨l,xs,rfl,_⟩:=h;rfl
 .obtain⟨l,xs,rfl,hL,q⟩:=h;refine⟨_,(ao (aF 1 Uc.nd (cG K B.cH (ak (pv 0) aj))) (ao (ou PassesOwn.never (PW.pt (UC (cU tu (pv 1) aq) (Uu (cU (jm K hr) (aO K (pv 0) (aK dH (pv 1) aq)) aq)))) (aD (aF 1 Uc.nd (aK dH (pv 1) aq)))) (aD (bh (kJ (pq K) rfl B.oN boot_tuple (aL (wG (wU K) (pv 0) Aj (vY (pv 1))) aj)))))),?_⟩;have lL:(xs.map V.int).length=xs.length:=aB _;refine⟨_,rfl,.ref l,xs.length,rfl,.inl ⟨_,hL,lL.symm⟩,?_⟩;refine⟨λm σ' H'=>∃n:Nat,m=n/\n<=xs.length/\σ'=[some (.ref l),some (.int (n:Int))]/\H'=H/\Pm.trim (xs.take n)=Pm.trim xs,⟨_,xs.length,rfl,aN _,rfl,rfl,by rw[lY]⟩,?_⟩;rintro m σ' H' ⟨n,e0,hn,rfl,rfl,ht⟩;refine⟨_,rfl,_,_,rfl,rfl,_,rfl,?_⟩;refine dR (λc=>?_) (λc=>lD ?_)
  .have h0:0<n:=by have:=dec_true c;omega
   have e1:((n:Int)-1).toNat=n-1:=⋯;refine⟨_,rfl,_,rfl,_,_,rfl,rfl,_,_,.inl hL,eN (ns:=xs) (⋯:(0:Int)<=(n:Int)-1) ⋯,_,rfl,?_⟩;refine dR (λc2=>?_) (λc2=>?_)
   .have hz:=dec_true c2;rw[e1]at hz;refine⟨_,λ_ _ z=>z,?_⟩;refine⟨_,rfl,_,_,rfl,rfl,?_⟩;refine⟨n-1,⋯,n-1,rfl,⋯,?_,rfl,agP h0 hn ht hz⟩;rw[show((n-1:Nat):Int)=(n:Int)-1 by omega];rfl
   .have hz:=dec_false c2;rw[e1]at hz;refine⟨_,rfl,_,rfl,_,rfl,.inl ⟨_,hL,λp hp=>?_⟩⟩;refine⟨p,_,rfl,.inl ⟨au.of aC,λp2 hp2=>?_⟩⟩;refine q p2 _ ((Same.new hp _).trans (Same.new hp2 _)) ?_;rw[aC,Kd,<-wB,FN hn ht (.inr hz)]
  .have h0:n=0:=by have:=dec_false c;omega
   refine⟨_,rfl,_,rfl,_,rfl,.inl ⟨_,hL,λp hp=>?_⟩⟩;refine⟨p,_,rfl,.inl ⟨au.of aC,λp2 hp2=>?_⟩⟩;refine q p2 _ ((Same.new hp _).trans (Same.new hp2 _)) ?_;rw[aC,Kd,<-wB,FN hn ht (.inl h0)]
theorem apF(F:Fn K mg "times" Ur ["by","one","other"])(cM:j9 P w K mg base)(ni:DP P w K mg base):Xr P w K mg base:=by
 refine F.cal Hg (λvs H Q E h=>?_) (λ_ _ _ _ _ H _ Q E hr h=>?_)
 .obtain⟨b,a,c,p,r,rfl,_⟩:=h;rfl
 .obtain⟨b,a,c,p,r,rfl,hb,hA,hC,zA,zC,bA,bC,q⟩:=h;refine⟨_,(ao (aF 3 Hg.nd (aK v_mul (gK (eY aq aj)) (pad K (cG K B.cH (ak (pv 1) aj)) (cG K B.cH (ak (pv 2) aj))))) (ao (gb PassesOwn.never rfl (iz rfl B.gC (aL (cG K B.cH (ak (pv 1) aj)) aj)) (bD 4 Hg.nd) (aD (gb PassesOwn.never rfl (iz rfl B.gC (aL (cG K B.cH (ak (pv 2) aj)) aj)) (bD 5 Hg.nd) (aD (u9 (aJ cM hr (ak (pv 0) (fH (pad K (aO K (pv 3) (pad K (pv 4) (pv 5))) (aK v_mul (aO K (pv 1) (pv 4)) (aO K (pv 2) (pv 5)))) aj))) (vG (pv 3) (pad K (pv 4) (pv 5)) set_list)))))) (aD (bh (aJ ni hr (ak (pv 3) aj)))))),?_⟩;have lP:(p.map V.int).length=p.length:=aB _;have lR:(r.map V.int).length=r.length:=aB _;refine⟨(by show 1<=sizeLine;decide),λl0 h0=>?_⟩;have g0:=Same.new h0 (.lst [.int 0]);refine⟨_,rfl,.ref a,p.length,rfl,.inr ⟨_,aA.of (g0 _ _ hA),lP.symm⟩,_,rfl,.ref c,r.length,rfl,.inr ⟨_,aA.of (g0 _ _ hC),lR.symm⟩,?_⟩;have en:((p.length:Int)+(r.length:Int)).toNat=p.length+r.length:=⋯;refine⟨_,aC,(⋯:-(2^63)<=(p.length:Int)+(r.length:Int)),(⋯:(p.length:Int)+(r.length:Int)<2^63),?_,λl hl=>?_⟩
  .rw[en];show 1*(p.length+r.length)<=sizeLine;rw[m6];exact gG (dZ ⋯)
  have g1:=g0.trans (Same.new hl (.lst (cN ((p.length:Int)+(r.length:Int)).toNat [V.int 0]).flatten));have hl0:H l=none:=g0.free hl;refine⟨_,rfl,.ref a,p.length,rfl,.inr ⟨_,aA.of (g1 _ _ hA),lP.symm⟩,?_⟩;refine⟨(p.length:Int),rfl,(⋯:-(2^62)<=(p.length:Int)),(⋯:(p.length:Int)<2^62),?_⟩;refine kY (lo:=0) (n:=(p.length:Int).toNat) (λi σ' H'=>∃o4 o5 L,σ'=[some (.int b),some (.ref a),some (.ref c),some (.ref l),o4,o5]/\Same H H'/\H' l=some (.lst (L.map V.int))/\L.length=p.length+r.length/\∀k,Pm.co L k=Rm.tk b (Pm.W (Pm.co p) (Pm.co r) i 0 k))
   ⟨_,_,Pm.aM (p.length+r.length) (λ_=>0),rfl,g1,(by rw[aC,en,Fp]),Pm.cj _ _,λk=>by rw[Pm.cY,Pm.aac,Pm.tk0];split<;>rfl⟩ ?_ ?_
  .rintro i σ' H' hi ⟨o4,o5,L,rfl,g,hL,zL,hW⟩;have hi':i<p.length:=⋯;refine⟨_,rfl,.ref c,r.length,rfl,.inr ⟨_,aA.of (g _ _ hC),lR.symm⟩,?_⟩;refine⟨(r.length:Int),rfl,(⋯:-(2^62)<=(r.length:Int)),(⋯:(r.length:Int)<2^62),?_⟩;refine kY (lo:=0) (n:=(r.length:Int).toNat) (λk σ' H'=>∃o5 L,σ'=[some (.int b),some (.ref a),some (.ref c),some (.ref l),some (.int (0+(i:Int))),o5]/\Same H H'/\H' l=some (.lst (L.map V.int))/\L.length=p.length+r.length/\∀j,Pm.co L j=Rm.tk b (Pm.W (Pm.co p) (Pm.co r) i k j))
    ⟨_,L,rfl,g,hL,zL,hW⟩ ?_ ?_
   .rintro k σ' H2 hk ⟨o5,L,rfl,g,hL,zL,hW⟩;have hk':k<r.length:=⋯;have lL:(L.map V.int).length=L.length:=aB _;have e1:(0+(i:Int)+(0+(k:Int))).toNat=i+k:=⋯;have e2:(0+(i:Int)).toNat=i:=⋯;have e3:(0+(k:Int)).toNat=k:=⋯;refine⟨_,rfl,_,rfl,_,rfl,_,rfl,_,_,.inl (au.of hL),eN (ns:=L) (⋯:(0:Int)<=0+(i:Int)+(0+(k:Int))) ⋯,?_⟩;refine⟨_,rfl,_,rfl,_,_,.inr (aA.of (g _ _ hA)),eN (ns:=p) (⋯:(0:Int)<=0+(i:Int)) ⋯,?_⟩;refine⟨_,rfl,_,rfl,_,_,.inr (aA.of (g _ _ hC)),eN (ns:=r) (⋯:(0:Int)<=0+(k:Int)) ⋯,?_⟩;refine⟨m9 (Rm.Bd.getD bA _) (Rm.Bd.getD bC _) ∅,?_⟩;refine⟨b,_,rfl,hb,?_⟩;refine⟨_,rfl,_,rfl,_,rfl,l,_,_,i+k,rfl,rfl,hL,vO ⋯ (by rw[lL];omega),?_⟩;refine⟨_,L.set (i+k) _,rfl,g.upd hl0 _,(by rw[aC,Dq]),(by rw[nF];exact zL),λj=>?_⟩;rw[Pm.xH _ _ _ _ ⋯,Pm.VL,e1,e2,e3];by_cases ej:j=i+k
    .have hw:=hW j;rw[if_pos ej,if_pos ej];rw[ej]at hw⊢;rw[<-Rm.jD b (Pm.W (Pm.co p) (Pm.co r) i k (i+k)),<-hw];rfl
    .rw[if_neg ej,if_neg ej,dj];exact hW j
   .rintro σ' H2 ⟨o5,L,rfl,g,hL,zL,hW⟩;refine⟨_,_,L,rfl,g,hL,zL,λk=>?_⟩;rw[hW k,d9,Pm.acw λk hk=>Pm.aX hk]
  .rintro σ' H' ⟨o4,o5,L,rfl,g,hL,zL,hW⟩;refine⟨_,rfl,l,L,rfl,au.of hL,λt H2 g2 ht=>q t H2 (g.trans g2) ?_⟩;have e:Pm.trim L=Pm.mul b p r:=by
    refine Pm.xV λk=>?_;rw[hW k,d9,Pm.Gh λk hk=>Pm.aX hk,Pm.cY];split
    .rfl
    .rw[<-Pm.jP,Pm.mul,Pm.j6,Pm.cY,if_neg (by assumption)]
   rw[<-e];exact ht
theorem aw1(F:Fn K mg "divided" QM ["by","one","other"])(cM:j9 P w K mg base)(ni:DP P w K mg base):Dh P w K mg base:=by
 refine F.cal xG (λvs H Q E h=>?_) (λ_ _ _ _ _ H _ Q E hr h=>?_)
 .obtain⟨b,a,c,P,M,rfl,_⟩:=h;rfl
 .obtain⟨b,a,c,P,M,rfl,hb,hb1,hA,hC,zA,zC,hM,nP,bA,bC,q⟩:=h;refine⟨_,(ao (aF 3 xG.nd (aK dH (cG K B.cH (ak (pv 2) aj)) aq)) (ao (aF 4 xG.nd (aK v_mul (gK (eY aq aj)) (jF (adE rfl) rfl B.afw boot_max (eY aq (fH (aK dH (cG K B.cH (ak (pv 1) aj)) (pv 3)) aj))))) (ao (aF 5 xG.nd (kJ (xlist K) rfl B.Jx boot_list (ak (pv 1) aj))) (ao (gb PassesOwn.never rfl (an2 rfl B.gC (fH (aK dH (cG K B.cH (ak (pv 4) aj)) aq) (ab5 (EY JN aq) (ab5 (EY JN aq) aj)))) (bD 6 xG.nd) (ao (aF 7 xG.nd (aO K (pv 5) (pad K (pv 6) (pv 3)))) (ao (u9 (pv 7) (vG (pv 4) (pv 6) set_list)) (aD (gb PassesOwn.never rfl (iz rfl B.gC (aL (cG K B.cH (ak (pv 2) aj)) aj)) (bD 8 xG.nd) (aD (u9 (aJ cM hr (ak (pv 0) (fH (aK dH (aO K (pv 5) (pad K (pv 6) (pv 8))) (aK v_mul (pv 7) (aO K (pv 2) (pv 8)))) aj))) (vG (pv 5) (pad K (pv 6) (pv 8)) set_list)))))))) (aD (bh (gq (aL (aJ ni hr (ak (pv 4) aj)) (aL (aJ ni hr (ak (pv 5) aj)) aj))))))))),?_⟩;have lP:(P.map V.int).length=P.length:=aB _;have lM:(M.map V.int).length=M.length:=aB _;have hMp:=hM.pos;refine⟨_,rfl,.ref c,M.length,rfl,.inr ⟨_,aA.of hC,lM.symm⟩,_,_,rfl,rfl,?_⟩;refine⟨(by show 1<=sizeLine;decide),λl0 h0=>?_⟩;have g0:=Same.new h0 (.lst [.int 0]);refine⟨_,rfl,.ref a,P.length,rfl,.inr ⟨_,aA.of (g0 _ _ hA),lP.symm⟩,_,rfl,_,_,rfl,rfl,_,_,rfl,?_⟩;have en:(if(P.length:Int)-((M.length:Int)-1)>0 then(P.length:Int)-((M.length:Int)-1)else 0).toNat=P.length-(M.length-1):=(max_zero P.length M.length).resolve_right ⋯;refine⟨_,aC,?_,?_,?_,λlo hlo=>?_⟩
  .split<;>omega
  .split<;>omega
  .rw[en];show 1*(P.length-(M.length-1))<=sizeLine;rw[m6];exact gG (dZ ⋯)
  rw[en,Fp];have ap7:H lo=none:=g0.free hlo;have g1:=g0.trans (Same.new hlo (.lst ((Pm.aM (P.length-(M.length-1)) λ_=>0).map V.int)));have Mt:(upd (upd H l0 (.lst [.int 0])) lo (.lst ((Pm.aM (P.length-(M.length-1)) λ_=>0).map V.int))) lo=some (.lst ((Pm.aM (P.length-(M.length-1)) λ_=>0).map V.int)):=aC;generalize upd (upd H l0 (.lst [.int 0])) lo (.lst ((Pm.aM (P.length-(M.length-1)) λ_=>0).map V.int))=H1 at g1 Mt;refine⟨_,rfl,a,_,rfl,.inr (aA.of (g1 _ _ hA)),λll hll=>?_⟩;have amA:H ll=none:=g1.free hll;have hne:lo≠ll:=jq Mt hll;have QL:=Same.new hll (.lst (P.map V.int));have g2:=g1.trans QL;have Fb:=QL _ _ Mt;have hL2:(upd H1 ll (.lst (P.map V.int))) ll=some (.lst (P.map V.int)):=aC;generalize upd H1 ll (.lst (P.map V.int))=H2 at QL g2 Fb hL2;generalize hn:P.length-(M.length-1)=n at Fb;refine⟨_,rfl,.ref lo,n,rfl,.inl ⟨_,au.of Fb,by rw[aB,Pm.cj]⟩,_,_,rfl,rfl,_,rfl,_,rfl,(n:Int)-1,-1,rfl,⟨⋯,⋯,⋯,⋯⟩,?_⟩;refine aro (lo:=(n:Int)-1) (n:=((n:Int)-1-(-1)).toNat) (λi σ' H'=>∃o6 o7 o8 O L,σ'=[some (.int b),some (.ref a),some (.ref c),some (.int ((M.length:Int)-1)),some (.ref lo),some (.ref ll),o6,o7,o8]/\Same H H'/\H' lo=some (.lst (mX V.int O))/\H' ll=some (.lst (mX V.int L))/\Pm.qu b P M (n-i) O L/\(∀k,Rm.Bd (300000+i*124001) (Pm.co O k))/\∀k,Rm.Bd (300000+i*124001) (Pm.co L k))
   ⟨_,_,_,_,P,rfl,g2,Fb,hL2,(by rw[vf,<-hn];exact Pm.qu.start nP),λk=>by rw[Pm.cY];split<;>exact Rm.Bd.zero _,λk=>(Pm.jC bA k).mono ⋯⟩ ?_ ?_
  .rintro i σ' H' hi ⟨o6,o7,o8,O,L,rfl,g,hO,hL,I,bO,bL⟩;have hi':i<n:=⋯;have hs:n-i=n-(i+1)+1:=⋯;rw[hs]at I;generalize es:n-(i+1)=s at I;have esI:(n:Int)-1-(i:Int)=(s:Int):=⋯;rw[esI];have hlL:=I.ll;have hlO:=I.ol;have lO:(O.map V.int).length=O.length:=aB _;have e1:((s:Int)+((M.length:Int)-1)).toNat=s+(M.length-1):=⋯;refine⟨_,rfl,_,rfl,_,rfl,_,_,.inl (au.of hL),eN (ns:=L) (⋯:(0:Int)<=(s:Int)+((M.length:Int)-1)) ⋯,?_⟩;rw[e1];have hF:Rm.Bd (300000+i*124001) (L.getD (s+(M.length-1)) 0):=bL _;have eF:L.getD (s+(M.length-1)) 0=Pm.co L (s+(M.length-1)):=rfl;rw[eF]at hF⊢;generalize hf:Pm.co L (s+(M.length-1))=f at hF;refine⟨_,rfl,_,rfl,_,rfl,lo,_,_,s,rfl,rfl,hO,vO rfl (by rw[lO];omega),?_⟩;have hO3:(upd H' lo (.lst ((O.map V.int).set s (.int f)))) lo=some (.lst ((O.set s f).map V.int)):=by rw[aC,Dq]
   have mz:(upd H' lo (.lst ((O.map V.int).set s (.int f)))) ll=some (.lst (L.map V.int)):=by rw[bF hne.symm];exact hL
   have g3:=g.upd ap7 (.lst ((O.map V.int).set s (.int f)));generalize upd H' lo (.lst ((O.map V.int).set s (.int f)))=H3 at hO3 mz g3;refine⟨_,rfl,.ref c,M.length,rfl,.inr ⟨_,aA.of (g3 _ _ hC),lM.symm⟩,?_⟩;refine⟨(M.length:Int),rfl,(⋯:-(2^62)<=(M.length:Int)),(⋯:(M.length:Int)<2^62),?_⟩;refine kY (lo:=0) (n:=(M.length:Int).toNat) (λt σ' H'=>∃o8 L',σ'=[some (.int b),some (.ref a),some (.ref c),some (.int ((M.length:Int)-1)),some (.ref lo),some (.ref ll),some (.int (s:Int)),some (.int f),o8]/\Same H H'/\H' lo=some (.lst ((O.set s f).map V.int))/\H' ll=some (.lst (mX V.int L'))/\L'.length=L.length/\∀k,Pm.co L' k=Pm.lf b f s t L M k)
    ⟨_,L,rfl,g3,hO3,mz,rfl,λk=>(Pm.anW ..).symm⟩ ?_ ?_
   .rintro t σ' H4 ht ⟨o8,L',rfl,g4,TV,uF,Te,yF⟩;have ht':t<M.length:=⋯;have lL':(L'.map V.int).length=L'.length:=aB _;have e2:((s:Int)+(0+(t:Int))).toNat=s+t:=⋯;have e3:(0+(t:Int)).toNat=t:=⋯;refine⟨_,rfl,_,rfl,_,rfl,_,rfl,_,_,.inl (au.of uF),eN (ns:=L') (⋯:(0:Int)<=(s:Int)+(0+(t:Int))) ⋯,?_⟩;refine⟨_,rfl,_,rfl,_,rfl,_,_,.inr (aA.of (g4 _ _ hC)),eN (ns:=M) (⋯:(0:Int)<=0+(t:Int)) ⋯,?_⟩;refine⟨m9 hF (Rm.Bd.getD bC _) (by have:i*124001<=40*124001:=qe _ ⋯;omega),_,_,rfl,rfl,?_⟩;refine⟨b,_,rfl,hb,?_⟩;refine⟨_,rfl,_,rfl,_,rfl,ll,_,_,s+t,rfl,rfl,uF,vO ⋯ (by rw[lL'];omega),?_⟩;refine⟨_,L'.set (s+t) _,rfl,g4.upd amA _,(by rw[bF hne];exact TV),(by rw[aC,Dq]),(by rw[nF];exact Te),λk=>?_⟩;rw[Pm.xH _ _ _ _ ⋯,Pm.awE,e2,e3,<-yF k];by_cases ek:k=s+t
    .rw[if_pos ek,if_pos ek,ek];rfl
    .rw[if_neg ek,if_neg ek]
   .rintro σ' H4 ⟨o8,L',rfl,g4,TV,uF,Te,yF⟩;rw[d9]at yF;refine⟨_,_,_,O.set s f,L',rfl,g4,TV,uF,?_,λk=>?_,λk=>?_⟩
    .rw[<-hf];rw[<-hf]at yF;exact I.step hM ⋯ Te yF
    .rw[Pm.xH _ _ _ _ ⋯];split
     .exact hF.mono ⋯
     .exact(bO k).mono ⋯
    .rw[yF k];exact(Pm.apE hb hb1 ⋯ hF bL bC k).mono ⋯
  .rintro σ' H' ⟨o6,o7,o8,O,L,rfl,g,hO,hL,I,bO,bL⟩;have e9:((n:Int)-1-(-1)).toNat=n:=⋯;rw[e9]at I bO bL;rw[rT]at I;refine⟨_,rfl,lo,O,rfl,au.of hO,λt1 H3 g3 h3=>?_⟩;refine⟨_,rfl,ll,L,rfl,au.of (g3 _ _ hL),λt2 H4 g4 h4=>?_⟩;refine⟨(by show 2<=sizeLine;decide),λt ht=>?_⟩;have gt:=Same.new ht (.tup [.ref t1,.ref t2]);have hz:300000+n*124001<=5300000:=by have:n*124001<=40*124001:=qe _ ⋯;omega
   refine q t t1 t2 (Pm.trim O) (Pm.trim L) _ (g.trans (g3.trans (g4.trans gt))) aC (gt _ _ (g4 _ _ h3)) (gt _ _ h4) (I.stop hM) (λz hz'=>(ac6 bO z hz').mono hz) (λz hz'=>(ac6 bL z hz').mono hz) ?_;have:=Pm.tO O;have:=I.ol;omega
theorem axn(F:Fn K mg "monic" Vg ["prime","poly"])(oE:Cr P w K mg base):afz P w K mg base:=by
 refine F.cal Wi (λvs H Q E h=>?_) (λ_ _ _ _ _ H _ Q E hr h=>?_)
 .obtain⟨P,a,p,rfl,_⟩:=h;rfl
 .obtain⟨P',a,p,rfl,hP,hPb,hA,zA,pP,q⟩:=h;refine⟨_,(ao (eZ (cU (jm K hr) (cG K B.cH (ak (pv 1) aj)) aq) (aD (bh (gq aj))) fB) (ao (gP (i:=2) Wi.nd rfl (fP rfl) (aO K (pv 1) (aK dH (cG K B.cH (ak (pv 1) aj)) aq))) (aD (bh (kJ (pq K) rfl B.oN boot_tuple (aL (fZ (sc:=ar8) (N:=["number","last","prime"]) (ix:=[none,some 2,some 0]) dY rfl (fD K (pv 1)) (λcl C s₀ H₀ ex=>⟨(bD 0 dN),eE,(aJ oE hr (ak (pv 2) (ak (pv 0) (ak (pv 1) aj))))⟩)) aj)))))),?_⟩;have hr2:2<=P'/\P'<2097152:=⟨hP.1,hPb⟩;have lP:(p.map V.int).length=p.length:=aB _;refine⟨_,rfl,.ref a,p.length,rfl,.inr ⟨_,aA.of hA,lP.symm⟩,_,rfl,?_⟩;refine dR (λc=>?_) (λc=>?_)
  .have c':(p.length:Int)=0:=dec_true c;have e:p=[]:=sE ⋯;subst e;exact⟨cB _,λt ht=>q t [] _ (Same.new ht _) aC (Pm.vQ.nil _)⟩
  .have c':¬(p.length:Int)=0:=dec_false c;have hn:p≠[]:=λe=>c' (by rw[e];rfl);have hpos:0<p.length:=⋯;have e1:((p.length:Int)-1).toNat=p.length-1:=⋯;refine⟨_,rfl,_,rfl,.ref a,p.length,rfl,.inr ⟨_,aA.of hA,lP.symm⟩,_,_,rfl,rfl,_,_,.inr (aA.of hA),eN (ns:=p) (⋯:(0:Int)<=(p.length:Int)-1) ⋯,?_⟩;rw[e1];have l0:=Pm.rm hn pP.tr;have l1:=pP.co (p.length-1);rw[Rm.jY ⋯]at l1;have r0:0<=Pm.co p (p.length-1):=by rw[<-l1];exact rY _ ⋯
   have r1:Pm.co p (p.length-1)<(P':Int):=by rw[<-l1];exact rK _ ⋯
   refine⟨_,rfl,a,rfl,.inr ⟨⟨_,aA.of hA⟩,Bm hA ⋯ rfl (λx=>x*(Pm.co p (p.length-1))^(P'-2)%(P':Int)) ?_ ?_⟩⟩
   .intro H2 x g2 hx k hk;exact⟨_,rfl,_,rfl,_,rfl,P',x,_,rfl,hP,hPb,by show 0<Pm.co p (p.length-1);omega,r1,hk⟩
   .intro D hD;refine⟨D,_,rfl,.inl ⟨au.of aC,λt ht=>?_⟩⟩;exact q t (Pm.uc P' p) _ ((Same.new hD _).trans (Same.new ht _)) aC (Pm.aum hP pP hn)
theorem atJ(F:Fn K mg "greatest" OL ["by","one","other"])(C0:afz P w K mg base)(nW:Dh P w K mg base):NW P w K mg base:=by
 refine F.cal yM (λvs H Q E h=>?_) (λ_ _ _ _ _ H _ Q E hr h=>?_)
 .obtain⟨P,a,c,p,r,rfl,_⟩:=h;rfl
 .obtain⟨P',a,c,p,r,rfl,hP,hPb,hA,hC,zA,zC,pP,pR,hne,q⟩:=h;refine⟨_,(ao (aF 3 yM.nd (aJ C0 hr (ak (pv 0) (ak (pv 1) aj)))) (ao (aF 4 yM.nd (aJ C0 hr (ak (pv 0) (ak (pv 2) aj)))) (ao (ou PassesOwn.never (cU tu (cG K B.cH (ak (pv 4) aj)) aq) (ao (aF 5 yM.nd (aO K (aJ nW hr (ak (pv 0) (ak (pv 3) (ak (pv 4) aj)))) aq)) (ao (aF 3 yM.nd (pv 4)) (aD (aF 4 yM.nd (aJ C0 hr (ak (pv 0) (ak (pv 5) aj)))))))) (aD (bh (pv 3)))))),?_⟩;have hr2:2<=P'/\P'<2097152:=⟨hP.1,hPb⟩;refine⟨_,rfl,_,rfl,P',a,p,rfl,hP,hPb,hA,⋯,pP,λtg g0 H1 g1 hG mG=>?_⟩;refine⟨_,rfl,_,rfl,P',c,r,rfl,hP,hPb,g1 _ _ hC,⋯,pR,λts s0 H2 g2 hS' mS=>?_⟩;have lg0:=mG.len;have ls0:=mS.len;refine⟨λm σ' H'=>∃(o5:Option V) (tg ts:Addr) (g s:List Int),m=s.length/\σ'=[some (.int P'),some (.ref a),some (.ref c),some (.ref tg),some (.ref ts),o5]/\Same H H'/\H' tg=some (.tup (g.map V.int))/\H' ts=some (.tup (s.map V.int))/\Pm.sG P' p r g s/\g.length<=max p.length r.length/\s.length<=max p.length r.length,
   ⟨_,_,tg,ts,g0,s0,rfl,rfl,g1.trans g2,g2 _ _ hG,hS',Pm.sG.start mG mS hne,⋯,⋯⟩,?_⟩
  rintro m σ' H' ⟨o5,tg,ts,gg,ss,rfl,rfl,g,hG,hS',I,zg,zs⟩;have lS:(ss.map V.int).length=ss.length:=aB _;refine⟨_,rfl,.ref ts,ss.length,rfl,.inr ⟨_,aA.of hS',lS.symm⟩,_,_,rfl,rfl,_,rfl,?_⟩;refine dR (λcc=>?_) (λcc=>?_)
  .have hs:ss≠[]:=λe=>by have:=dec_true cc;rw[e]at this;simp at this
   have hMs:=I.sm_ hs;refine⟨_,λ_ _ z=>z,?_⟩;refine⟨_,rfl,_,rfl,_,rfl,P',tg,ts,gg,ss,rfl,⋯,⋯,hG,hS',⋯,⋯,hMs,I.gy.co,(λx hx=>(QK hr2.1 hr2.2 I.gy x hx).mono ∅),QK hr2.1 hr2.2 I.sy,λt x y o l H3 g3 hT hX hY D _ _ _=>?_⟩;refine⟨_,_,.inr (aA.of hT),rfl,?_⟩;refine⟨_,rfl,?_⟩;have hsh:=D.short;refine⟨_,rfl,_,rfl,P',y,l,rfl,hP,hPb,hY,⋯,D.ry,λtm m H4 g4 hM mM=>?_⟩;have lm:=mM.len;exact⟨m.length,⋯,_,ts,tm,ss,m,rfl,rfl,g.trans (g3.trans g4),(g3.trans g4) _ _ hS',hM,I.step hs D mM,zs,⋯⟩
  .have hs:ss=[]:=sE (by have:=dec_false cc;omega);refine⟨_,rfl,?_⟩;exact q tg gg H' g hG (I.stop hs) zg
theorem anE(F:Fn K mg "nearest" Ss ["modulus","number"]):MK P w K mg base:=by
 refine F.cal aee (λvs H Q E h=>?_) (λ_ _ _ _ _ H _ Q E hr h=>?_)
 .obtain⟨M,x,rfl,_⟩:=h;rfl
 .obtain⟨M,x,rfl,hM,q⟩:=h;refine⟨_,(ao (aF 2 aee.nd (aK je (pv 1) (pv 0))) (aD (bh (Wb (cU tu (aK v_mul aq (pv 2)) (pv 0)) (aK dH (pv 2) (pv 0)) (pv 2))))),?_⟩;refine⟨_,rfl,_,rfl,_,_,rfl,rfl,hM,?_⟩;refine⟨_,rfl,mulL ∅ ∅,_,rfl,_,_,rfl,rfl,_,rfl,?_⟩;refine dR (λc=>?_) (λc=>?_)
  .have c':2*(x%M)>M:=dec_true c;refine⟨_,rfl,_,rfl,_,_,rfl,rfl,?_⟩;have e:Pm.nr M x=x%M-M:=if_pos c';rw[e]at q;exact q
  .have c':¬2*(x%M)>M:=dec_false c;refine⟨_,rfl,?_⟩;have e:Pm.nr M x=x%M:=if_neg c';rw[e]at q;exact q
theorem aoD(F:Fn K mg "joined" Vs ["modulus","number","prime","rest"])(oE:Cr P w K mg base)(cM:j9 P w K mg base)(Ae:MK P w K mg base):agv P w K mg base:=by
 refine F.cal af6 (λvs H Q E h=>?_) (λ_ _ _ _ _ H _ Q E hr h=>?_)
 .obtain⟨M,t,p,s,rfl,_⟩:=h;rfl
 .obtain⟨M,t,p,s',rfl,hp,hpb,hM,yc,q⟩:=h;refine⟨_,(ao (aF 4 af6.nd (aJ oE hr (ak (pv 2) (aL (aJ cM hr (ak (pv 2) (fH (aK dH (pv 3) (pv 1)) aj))) (aL (aJ cM hr (ak (pv 2) (ak (pv 0) aj))) aj))))) (aD (bh (aJ Ae hr (fH (aK v_mul (pv 0) (pv 2)) (fH (pad K (pv 1) (aK v_mul (pv 0) (pv 4))) aj)))))),?_⟩;have h2:=hp.1;have hp0:(p:Int)≠0:=⋯;have r0:=rY M hp0;have r1:=rK M (show(0:Int)<p by omega);have rn:M%(p:Int)≠0:=λz=>yc (DX z);have et:Rm.tk (p:Int) M=M%(p:Int):=Rm.jY hp0 M;refine⟨_,rfl,_,rfl,_,rfl,_,rfl,_,_,rfl,rfl,p,_,rfl,⋯,?_⟩;refine⟨_,rfl,_,rfl,p,M,rfl,⋯,?_⟩;refine⟨p,_,_,rfl,hp,hpb,by rw[et];omega,by rw[et];exact r1,?_⟩;have hw:=Pm.ao3 (M:=M) (t:=t) (s:=s') hp;refine⟨_,rfl,_,rfl,mulR ⋯ ⋯,?_⟩;refine⟨_,rfl,_,rfl,_,rfl,mulR (by show -(2^64)<Pm.jw M t p s';omega) (by show Pm.jw M t p s'<2^64;omega),?_⟩;exact⟨_,_,rfl,Int.mul_pos hM ⋯,q⟩
theorem awj(F:Fn K mg "taken_poly" Nk ["prime","poly"])(ni:DP P w K mg base)(cM:j9 P w K mg base):ab7 P w K mg base:=by
 refine F.cal awC (λvs H Q E h=>?_) (λ_ _ _ _ _ H _ Q E hr h=>?_)
 .obtain⟨p,a,P,rfl,_⟩:=h;rfl
 .obtain⟨p,a,P',rfl,hp,hA,zA,q⟩:=h;refine⟨_,(aD (bh (aJ ni hr (aL (fZ (sc:=aje) (N:=["number","prime"]) (ix:=[none,some 0]) dY rfl (fD K (pv 1)) (λcl C s₀ H₀ ex=>⟨(bD 0 dN),eE,(aJ cM hr (ak (pv 1) (ak (pv 0) aj)))⟩)) aj)))),?_⟩;refine⟨_,rfl,a,rfl,.inr ⟨⟨_,aA.of hA⟩,Bm hA ⋯ rfl (λx=>Rm.tk p x) ?_ ?_⟩⟩
  .intro H2 x g2 hx k hk;exact⟨_,rfl,_,rfl,p,x,rfl,⋯,hk⟩
  .intro D hD;refine⟨D,_,rfl,au.of aC,λt1 H3 g3 h3=>?_⟩;exact q t1 H3 ((Same.new hD _).trans g3) h3
theorem aif(F:Fn K mg "divides" Tv ["monic_one","poly"])(nW:Dh P w K mg base):aag P w K mg base:=by
 refine F.cal ajU (λvs H Q E h=>?_) (λ_ _ _ _ _ H _ Q E hr h=>?_)
 .obtain⟨m,a,M,P,rfl,_⟩:=h;rfl
 .obtain⟨m,a,M,P',rfl,hMm,hA,zM,zP,hM,bM,bP,q⟩:=h;refine⟨_,(aD (bh (yZ (jm K hr) (aO K (aJ nW hr (eY aq (ak (pv 1) (ak (pv 0) aj)))) aq) (gq aj) (xO _)))),?_⟩;refine⟨_,rfl,_,rfl,0,a,m,P',M,rfl,∅,∅,hA,hMm,zP,zM,hM,λk=>Rm.aY _,bP,bM,λt x y o l H3 g3 hT hX hY D _ _ _=>?_⟩;refine⟨_,_,.inr (aA.of hT),rfl,?_⟩;refine⟨cB _,λt0 ht0=>?_⟩;have g4:=Same.new ht0 (.tup []);refine Hr (ns:=l) (ms:=[]) (aA.of (g4 _ _ hY)) (aA.of aC) ?_;exact q _ _ (g3.trans g4) (by show decide (l=[])=true↔_;rw[decide_eq_true_iff];exact D.dv hM)
theorem aks(F:Fn K mg "whole_greatest" MR ["one","other"])(Ip:aag P w K mg base)(Ls:aa6 P w K mg base)(Ai:NW P w K mg base)(Km:ab7 P w K mg base)(Ae:MK P w K mg base)(Ud:agv P w K mg base):agU P w K mg base:=by
 refine F.cal mQ (λvs H Q E h=>?_) (λ_ _ _ _ _ H _ Q E hr h=>?_)
 .obtain⟨a,c,P,t,g,N,U,V',rfl,_⟩:=h;rfl
 .obtain⟨a,c,P',t,g,N,U,V',rfl,hA,hC,zP,zt,hP,bP,bt,G,hV,hU,hUV,q⟩:=h;refine⟨_,(ao (aF 2 mQ.nd (pv 0)) (ao (gP (i:=3) mQ.nd rfl (fP rfl) aq) (ao (gP (i:=4) mQ.nd rfl (fP rfl) (Vm rfl B.Ut)) (ao (aF 5 mQ.nd Bb) (ao (ou PassesOwn.never (PW.pt (Vo (Kh (wY (pv 5))) (Vo (Kh (wY (aJ Ip hr (ak (pv 2) (ak (pv 0) aj))))) (V2 (Kh (wY (aJ Ip hr (ak (pv 2) (ak (pv 1) aj))))))))) (ao (gP (i:=4) mQ.nd rfl (fP rfl) (aJ Ls hr (ak (pv 4) aj))) (ao (gP (i:=6) mQ.nd rfl (fP rfl) (aJ Ai hr (ak (pv 4) (aL (aJ Km hr (ak (pv 4) (ak (pv 0) aj))) (aL (aJ Km hr (ak (pv 4) (ak (pv 1) aj))) aj))))) (aD (eZ (cU yN (cG K B.cH (ak (pv 6) aj)) (cG K B.cH (ak (pv 2) aj))) (ao (aF 2 mQ.nd (kJ (pq K) rfl B.oN boot_tuple (aL (fZ (sc:=amc) (N:=["rest","prime"]) (ix:=[none,some 4]) dY rfl (fD K (pv 6)) (λcl C s₀ H₀ ex=>⟨(bD 0 dN),eE,(aJ Ae hr (ak (pv 1) (ak (pv 0) aj)))⟩)) aj))) (ao (gP (i:=3) mQ.nd rfl (fP rfl) (pv 4)) (aD (aF 5 mQ.nd Bb)))) (aD (sY (eZ (cU (jm K hr) (cG K B.cH (ak (pv 6) aj)) (cG K B.cH (ak (pv 2) aj))) (ao (gP (i:=7) mQ.nd rfl (fP rfl) (pv 2)) (ao (aF 2 mQ.nd (kJ (pq K) rfl B.oN boot_tuple (aL (fZ (sc:=aqE) (N:=["k","before","modulus","prime","seen"]) (ix:=[none,some 7,some 3,some 4,some 6]) dY rfl (iz rfl B.gC (aL (cG K B.cH (ak (pv 6) aj)) aj)) (λcl C s₀ H₀ ex=>⟨(bD 0 dN),eE,(aJ Ud hr (ak (pv 2) (aL (aO K (pv 1) (pv 0)) (ak (pv 3) (aL (aO K (pv 4) (pv 0)) aj)))))⟩)) aj))) (ao (gP (i:=3) mQ.nd rfl (fP rfl) (aK v_mul (pv 3) (pv 4))) (aD (aF 5 mQ.nd (yZ (jm K hr) (pv 2) (pv 7) (xO _))))))) fB)))))))) (aD (bh (pv 2)))))))),?_⟩;have hgP:g.length<=P'.length:=G.one.len rfl G.mon hP;refine⟨_,rfl,?_⟩;refine⟨aaz H a c P' g N,⟨_,_,_,a,P',1,1000000,true,0,0,rfl,rfl,Same.refl _,hA,Pm.jW.start hP hgP _,Om.many,⋯,⋯⟩,?_⟩;rintro m σ' H' ⟨o6,o7,tt,told,M,prime,ripe,bad,good,rfl,rfl,gg,hT,I,afa,hbig,avx⟩;have bT:=ap1 I bP avx;have zT:=I.le;refine⟨_,rfl,ripe,rfl,?_⟩;refine dR (λcr=>?b1) (λcr=>?n1)
  case' b1=>
   have hne:¬(ripe=true/\told=g):=λz=>by rw[z.1]at cr;exact absurd cr ∅
   have gx:=gg;have Ba:=hT;generalize H'=Hx at gx Ba⊢
  case' n1=>
   refine⟨_,rfl,_,rfl,tt,a,told,P',rfl,hT,gg _ _ hA,⋯,zP,I.mon,bT,(λx hx=>(bP x hx).mono ∅),λb1 H1 g1 e1=>?_⟩;refine⟨b1,rfl,?_⟩;refine dR (λc1=>?b2) (λc1=>?n2)
  case' b2=>
   have hne:¬(ripe=true/\told=g):=λz=>by
    have:b1=true:=e1.mpr (by rw[z.2];exact G.one);rw[this]at c1;exact absurd c1 ∅
   have gx:=gg.trans g1;have Ba:=g1 _ _ hT;generalize H1=Hx at gx Ba⊢
  case' n2=>
   refine⟨_,rfl,_,rfl,tt,c,told,t,rfl,g1 _ _ hT,(gg.trans g1) _ _ hC,⋯,zt,I.mon,bT,bt,λb2 H2 g2 e2=>?_⟩;refine⟨b2,rfl,?_⟩;refine dR (λc2=>?b3) (λc2=>?n3)
  case n3=>
   have hb1:b1=true:=by cases b1<;>first|rfl|exact absurd rfl c1
   have hb2:b2=true:=by cases b2<;>first|rfl|exact absurd rfl c2
   have e:=G.told I.mon (e1.mp hb1) (e2.mp hb2) I.ge;subst e;refine⟨_,rfl,?_⟩;exact q tt H2 (gg.trans (g1.trans g2)) ((g1.trans g2) _ _ hT)
  case' b3=>
   have hne:¬(ripe=true/\told=g):=λz=>by
    have:b2=true:=e2.mpr (by rw[z.2];exact G.two);rw[this]at c2;exact absurd c2 ∅
   have gx:=gg.trans (g1.trans g2);have Ba:=(g1.trans g2) _ _ hT;generalize H2=Hx at gx Ba⊢
  all_goals
   have hfew:=I.few G.ne hV hU hne;obtain⟨k,hk'⟩:∃k,500-(bad+good)=k+1:=⟨500-(bad+good)-1,⋯⟩;rw[hk']at afa;obtain⟨q0,hq0,aql,ayX,hnext⟩:=afa.next;refine⟨_,λ_ _ z=>z,?_⟩;refine⟨_,rfl,prime,q0,rfl,hq0,aql,⋯,λp hp hlt hle=>?_⟩;have hN:=hnext p hle;refine⟨_,rfl,_,rfl,_,rfl,p,a,P',rfl,⋯,gx _ _ hA,⋯,λt1 H3 g3 h3=>?_⟩;refine⟨_,rfl,_,rfl,p,c,t,rfl,⋯,(gx.trans g3) _ _ hC,⋯,λt2 H4 g4 h4=>?_⟩;have l1:=afN p P';have l2:=afN p t;refine⟨p,t1,t2,_,_,rfl,hp,⋯,g4 _ _ h3,h4,⋯,⋯,Xp p P',Xp p t,λ_=>ark hp hP,λts s' H5 g5 hS hG hsl=>?_⟩;have sn:=G.seen hp (Rf p P') (Rf p t) hG;have lS:(s'.map V.int).length=s'.length:=aB _;have lT:(told.map V.int).length=told.length:=aB _;have gy:=gx.trans (g3.trans (g4.trans g5));have hTy:=(g3.trans (g4.trans g5)) _ _ Ba;refine⟨_,rfl,.ref ts,s'.length,rfl,.inr ⟨_,aA.of hS,lS.symm⟩,_,rfl,.ref tt,told.length,rfl,.inr ⟨_,aA.of hTy,lT.symm⟩,_,_,rfl,rfl,_,rfl,?_⟩;refine dR (λd1=>?_) (λd1=>?_)
   .have d1':(s'.length:Int)<told.length:=dec_true d1;refine⟨_,rfl,ts,rfl,.inr ⟨⟨_,aA.of hS⟩,Bm hS ⋯ rfl (λx=>Pm.nr p x) ?_ ?_⟩⟩
    .intro H6 x g6 hx kk hk;exact⟨_,rfl,_,rfl,p,x,rfl,⋯,hk⟩
    .intro D hD;refine⟨D,_,rfl,.inl ⟨au.of aC,λtn ht=>?_⟩⟩;obtain⟨qG,pY,Lp,I'⟩:=I.anew hp hlt ⋯ ⋯ sn ⋯;refine⟨_,rfl,?_⟩;exact⟨500-(qG+pY),⋯,_,_,tn,s'.map (Pm.nr p),p,p,true,qG,pY,rfl,rfl,gy.trans ((Same.new hD _).trans (Same.new ht _)),aC,I',(by rw[Lp,show 500-(bad+good+1)=k by omega];exact hN),⋯,⋯⟩
   .have d1':¬(s'.length:Int)<told.length:=dec_false d1;refine rF.by (λσ' H2=>∃m',m'<500-(bad+good)/\aaz H a c P' g N m' σ' H2) (λN0 hN0=>?_) (λσ' H2 z=>z);refine⟨_,rfl,.ref ts,s'.length,rfl,.inr ⟨_,aA.of hS,lS.symm⟩,_,rfl,.ref tt,told.length,rfl,.inr ⟨_,aA.of hTy,lT.symm⟩,_,rfl,?_⟩;refine dR (λd2=>?_) (λd2=>?_)
    .have d2':(s'.length:Int)=told.length:=dec_true d2;have hl:s'.length=told.length:=⋯;have yc:¬(p:Int)∣M:=λz=>by have:=I.div p hp z;omega
     refine⟨_,rfl,?_⟩;refine⟨_,rfl,.ref ts,s'.length,rfl,.inr ⟨_,aA.of hS,lS.symm⟩,?_⟩;refine⟨(s'.length:Int),rfl,(⋯:-(2^62)<=(s'.length:Int)),(⋯:(s'.length:Int)<2^62),?_⟩;rw[d9];refine Dd (n:=s'.length) ⋯ rfl (λk=>Pm.jn M (told.getD k 0) p (s'.getD k 0)) ?_ ?_
     .intro H6 k6 g6 HC kk hk;have e1:(0+(k6:Int)).toNat=k6:=⋯;refine⟨_,rfl,_,rfl,_,rfl,_,_,.inr (aA.of (g6 _ _ hTy)),eN (ns:=told) (⋯:(0:Int)<=0+(k6:Int)) ⋯,?_⟩;refine⟨_,rfl,_,rfl,_,rfl,_,_,.inr (aA.of (g6 _ _ hS)),eN (ns:=s') (⋯:(0:Int)<=0+(k6:Int)) ⋯,?_⟩;rw[e1];exact⟨M,_,p,_,rfl,hp,⋯,I.pos,yc,hk⟩
     .intro D hD;refine⟨D,_,rfl,.inl ⟨au.of aC,λtn ht=>?_⟩⟩;have gn:=(Same.new hD (.lst ((Pm.aM s'.length λk=>Pm.jn M (told.getD k 0) p (s'.getD k 0)).map V.int))).trans (Same.new ht (.tup ((Pm.aM s'.length λk=>Pm.jn M (told.getD k 0) p (s'.getD k 0)).map V.int)));refine⟨_,rfl,_,rfl,mulR ⋯ ⋯,?_⟩;refine⟨_,rfl,_,rfl,?_⟩;refine Hr (ns:=Pm.aM s'.length λk=>Pm.jn M (told.getD k 0) p (s'.getD k 0)) (ms:=told) (aA.of aC) (aA.of (gn _ _ hTy)) ?_;obtain⟨qG,pY,Lp,I'⟩:=I.join (jt:=Pm.aM s'.length λk=>Pm.jn M (told.getD k 0) p (s'.getD k 0)) (Vk:=decide ((Pm.aM s'.length λk=>Pm.jn M (told.getD k 0) p (s'.getD k 0))=told)) hp hlt ⋯ ⋯ sn hl (by rw[Pm.cj];exact hl) (λk6 HC=>⟨Pm.jw M (told.getD k6 0) p (s'.getD k6 0),Pm.asI hp yc,by rw[Pm.cY,if_pos ⋯];rfl⟩) (decide_eq_true_iff);exact hN0 _ _ ⟨500-(qG+pY),⋯,_,_,tn,_,M*p,p,_,qG,pY,rfl,rfl,gy.trans gn,aC,I',(by rw[Lp,show 500-(bad+good+1)=k by omega];exact hN),⋯,⋯⟩
    .have d2':¬(s'.length:Int)=told.length:=dec_false d2;have I':=I.stay hp hlt ⋯ sn ⋯;exact hN0 _ _ ⟨500-(bad+1+good),⋯,_,_,tt,told,M,p,ripe,bad+1,good,rfl,rfl,gy,hTy,I',(by rw[show 500-(bad+1+good)=k by omega];exact hN),⋯,⋯⟩
theorem aiy(F:Fn K mg "of_rule" LC ["by","rule"])(cM:j9 P w K mg base):Ld P w K mg base:=by
 refine F.cal Rg (λvs H Q E h=>?_) (λ_ _ _ _ _ H _ Q E hr h=>?_)
 .obtain⟨b,a,c,rfl,_⟩:=h;rfl
 .obtain⟨b,a,c,rfl,hb,hA,zA,q⟩:=h;refine⟨_,(ao (gP (i:=2) Rg.nd rfl (fP rfl) (cG K B.cH (ak (pv 1) aj))) (ao (vN (i:=3) (hN:=Rg.nd) (hi':=rfl) (hx:=(oX rfl)) (sc:=air) (N:=["k","by","length","rule"]) (ix:=[none,some 0,some 2,some 1]) dY rfl (iz rfl B.gC (ak (pv 2) aj)) (λcl C s₀ H₀ ex=>⟨(bD 0 dN),eE,(aJ cM hr (ak (pv 1) (fH (aK dH aq (aO K (pv 3) (aK dH (aK dH (pv 2) aq) (pv 0)))) aj)))⟩)) (aD (bh (kJ (pq K) rfl B.oN boot_tuple (fH (pad K (pv 3) (gK (eY aq aj))) aj)))))),?_⟩;have lC:(c.map V.int).length=c.length:=aB _;refine⟨_,rfl,.ref a,c.length,rfl,.inr ⟨_,aA.of hA,lC.symm⟩,?_⟩;refine⟨_,rfl,(c.length:Int),rfl,(⋯:-(2^62)<=(c.length:Int)),(⋯:(c.length:Int)<2^62),?_⟩;rw[d9];refine Dd (n:=c.length) ⋯ rfl (λk=>Rm.tk b (0-Pm.co c (c.length-1-k))) ?_ ?_
  .intro H2 k g2 hk kk hkk;have e1:((c.length:Int)-1-(0+(k:Int))).toNat=c.length-1-k:=⋯;refine⟨_,rfl,_,rfl,_,rfl,_,_,rfl,rfl,_,rfl,_,_,rfl,rfl,_,_,.inr (aA.of (g2 _ _ hA)),eN (ns:=c) (⋯:(0:Int)<=(c.length:Int)-1-(0+(k:Int))) ⋯,_,_,rfl,rfl,?_⟩;refine⟨b,_,rfl,hb,?_⟩;rw[e1];exact hkk
  .intro D hD;have g1:=Same.new hD (.lst ((Pm.aM c.length λk=>Rm.tk b (0-Pm.co c (c.length-1-k))).map V.int));refine⟨_,rfl,(by show 1<=sizeLine;decide),λl2 hl2=>?_⟩;have g2:=Same.new hl2 (.lst [.int 1]);refine .inl ⟨_,_,g2 _ _ aC,aC,?_,λl3 hl3=>?_⟩
   .rw[aB,Pm.cj];exact gG (dZ (by show _+1<=1000;omega))
   refine⟨l3,_,rfl,.inl ⟨au.of aC,λt ht=>?_⟩⟩;refine q t _ (g1.trans (g2.trans ((Same.new hl3 _).trans (Same.new ht _)))) ?_;rw[aC,Pm.aV,yV]
theorem at6(F:Fn K mg "rule_of" Oa ["by","poly"])(cM:j9 P w K mg base):Rp P w K mg base:=by
 refine F.cal Wy (λvs H Q E h=>?_) (λ_ _ _ _ _ H _ Q E hr h=>?_)
 .obtain⟨b,a,p,rfl,_⟩:=h;rfl
 .obtain⟨b,a,p,rfl,hb,hA,z0,zA,q⟩:=h;refine⟨_,(ao (gP (i:=2) Wy.nd rfl (fP rfl) (aK dH (cG K B.cH (ak (pv 1) aj)) aq)) (aD (bh (kJ (pq K) rfl B.oN boot_tuple (aL (fZ (sc:=at7) (N:=["k","by","length","poly"]) (ix:=[none,some 0,some 2,some 1]) dY rfl (iz rfl B.gC (ak (pv 2) aj)) (λcl C s₀ H₀ ex=>⟨(bD 0 dN),eE,(aJ cM hr (ak (pv 1) (fH (aK dH aq (aO K (pv 3) (aK dH (aK dH (pv 2) aq) (pv 0)))) aj)))⟩)) aj))))),?_⟩;have lC:(p.map V.int).length=p.length:=aB _;refine⟨_,rfl,.ref a,p.length,rfl,.inr ⟨_,aA.of hA,lC.symm⟩,_,_,rfl,rfl,?_⟩;refine⟨_,rfl,(p.length:Int)-1,rfl,(⋯:-(2^62)<=(p.length:Int)-1),(⋯:(p.length:Int)-1<2^62),?_⟩;rw[show((p.length:Int)-1).toNat=p.length-1 by omega];refine Dd (n:=p.length-1) ⋯ rfl (λk=>Rm.tk b (0-Pm.co p (p.length-1-1-k))) ?_ ?_
  .intro H2 k g2 hk kk hkk;have e1:((p.length:Int)-1-1-(0+(k:Int))).toNat=p.length-1-1-k:=⋯;refine⟨_,rfl,_,rfl,_,rfl,_,_,rfl,rfl,_,rfl,_,_,rfl,rfl,_,_,.inr (aA.of (g2 _ _ hA)),eN (ns:=p) (⋯:(0:Int)<=(p.length:Int)-1-1-(0+(k:Int))) ⋯,_,_,rfl,rfl,?_⟩;refine⟨b,_,rfl,hb,?_⟩;rw[e1];exact hkk
  .intro D hD;refine⟨D,_,rfl,.inl ⟨au.of aC,λt ht=>?_⟩⟩;exact q t _ ((Same.new hD _).trans (Same.new ht _)) aC
theorem axo(F:Fn K mg "top_of" Pa ["row","poly"])(cM:j9 P w K mg base)(ni:DP P w K mg base):aeK P w K mg base:=by
 refine F.cal Ab (λvs H Q E h=>?_) (λ_ _ _ _ _ H _ Q E hr h=>?_)
 .obtain⟨v,r,a,rfl,_⟩:=h;rfl
 .obtain⟨v,r,a,rfl,⟨a0,p,p2,rfl,hA,hR,hS⟩,ok,hP,q⟩:=h;refine⟨_,(ao (aF 2 Ab.nd (aO K (pv 0) aq)) (ao (gP (i:=3) Ab.nd rfl (fP rfl) (aO K (pv 0) aq)) (ao (aF 4 Ab.nd (gK aj)) (ao (gb PassesOwn.never rfl (iz rfl B.gC (aL (cG K B.cH (ak (pv 3) aj)) aj)) (HY (i:=5) Ab.nd rfl (fP rfl)) (ao (vN (i:=6) (hN:=Ab.nd) (hi':=rfl) (hx:=(oX rfl)) (sc:=ahx) (N:=["j","k","poly","starts"]) (ix:=[none,some 5,some 1,some 3]) dY rfl (WK rfl B.gC (fH (pad K (pv 5) aq) (aL (cG K B.cH (ak (pv 1) aj)) aj))) (λcl C s₀ H₀ ex=>⟨(bD 0 dN),eE,(aK v_mul (aO K (pv 2) (pv 0)) (aO K (pv 3) (aK dH (aK dH (pv 0) aq) (pv 1))))⟩)) (aD (lB (ud K (pv 4) (aJ cM hr (ak (pv 2) (aL (jF (Rq K rfl) rfl B.LZ boot_sum (ak (pv 6) aj)) aj)))))))) (aD (bh (aJ ni hr (ak (pv 4) aj)))))))),?_⟩;have hl:=ok.len;have hs:=ok.short;have lS:(r.starts.map V.int).length=r.starts.length:=aB _;have lP:((Pm.aV r.b r.rule).map V.int).length=r.rule.length+1:=by rw[aB,Pm.lE]
  refine⟨_,rfl,_,_,.inr (aA.of hA),rfl,?_⟩;refine⟨_,rfl,_,_,.inr (aA.of hA),rfl,?_⟩;refine⟨cB _,λl0 h0=>?_⟩;have g0:=Same.new h0 (.lst []);refine⟨_,rfl,.ref p2,r.starts.length,rfl,.inr ⟨_,aA.of (g0 _ _ hS),lS.symm⟩,?_⟩;refine⟨(r.starts.length:Int),rfl,(⋯:-(2^62)<=(r.starts.length:Int)),(⋯:(r.starts.length:Int)<2^62),?_⟩;refine kY (lo:=0) (n:=(r.starts.length:Int).toNat) (λi σ' H'=>∃o5 o6,σ'=[some (.ref a0),some (.ref a),some (.int r.b),some (.ref p2),some (.ref l0),o5,o6]/\Same H H'/\H' l0=some (.lst ((Pm.aM i λk=>Rm.tk r.b (Pm.tp (Pm.aV r.b r.rule) r.at k)).map V.int)))
   ⟨_,_,rfl,g0,aC⟩ ?_ ?_
  .rintro i σ' H' hi ⟨o5,o6,rfl,g,hL⟩;have hi':i<r.starts.length:=⋯;refine⟨_,rfl,_,rfl,.ref a,r.rule.length+1,rfl,.inr ⟨_,aA.of (g _ _ hP),lP.symm⟩,?_⟩;refine⟨_,_,rfl,⟨⋯,⋯,⋯,⋯⟩,?_⟩;rw[show(((r.rule.length+1:Nat):Int)-(0+(i:Int)+1)).toNat=r.rule.length-i by omega];refine amD (lo:=0+(i:Int)+1) (n:=r.rule.length-i) ⋯ rfl (λk=>Pm.co (Pm.aV r.b r.rule) (i+1+k)*r.at k) ?_ ?_
   .intro H2 k g2 hk kk hkk;have e1:(0+(i:Int)+1+(k:Int)).toNat=i+1+k:=⋯;have e2:(0+(i:Int)+1+(k:Int)-1-(0+(i:Int))).toNat=k:=⋯;have lq:(Pm.aV r.b r.rule).length=r.rule.length+1:=Pm.lE ..;refine⟨_,rfl,_,rfl,_,_,.inr (aA.of (g2 _ _ (g _ _ hP))),eN (ns:=Pm.aV r.b r.rule) (⋯:(0:Int)<=0+(i:Int)+1+(k:Int)) ⋯,?_⟩;refine⟨_,rfl,_,rfl,_,_,rfl,rfl,_,rfl,_,_,rfl,rfl,_,_,.inr (aA.of (g2 _ _ (g _ _ hS))),eN (ns:=r.starts) (⋯:(0:Int)<=0+(i:Int)+1+(k:Int)-1-(0+(i:Int))) ⋯,?_⟩;refine⟨m9 (Rm.Bd.getD ok.Bh _) (Rm.Bd.getD ok.Gx _) ∅,?_⟩;rw[e1,e2];have e3:r.at k=r.starts.getD k 0:=Rm.tG ⋯;rw[e3]at hkk;exact hkk
   .intro D hD;have g3:=Same.new hD (.lst ((Pm.aM (r.rule.length-i) λk=>Pm.co (Pm.aV r.b r.rule) (i+1+k)*r.at k).map V.int));have mz:=g3 _ _ hL;have lL:((Pm.aM i λk=>Rm.tk r.b (Pm.tp (Pm.aV r.b r.rule) r.at k)).map V.int).length=i:=by rw[aB,Pm.cj]
    refine⟨_,rfl,.inl ⟨rfl,_,au.of mz⟩,_,rfl,_,rfl,D,_,rfl,au.of aC,r.b,_,rfl,ok.oH,?_⟩;refine⟨l0,_,_,rfl,rfl,mz,?_,?_⟩
    .rw[lL];exact dZ ⋯
    .refine⟨_,_,rfl,(g.trans g3).upd h0 _,?_⟩;rw[aC,Pm.Pk,yV];have e4:Pm.tp (Pm.aV r.b r.rule) r.at i=(Pm.aM (r.rule.length-i) λk=>Pm.co (Pm.aV r.b r.rule) (i+1+k)*r.at k).sum:=by
      unfold Pm.tp;rw[Pm.aM,Pm.abM,Pm.lE,fU]
     rw[e4]
  .rintro σ' H' ⟨o5,o6,rfl,g,hL⟩;refine⟨_,rfl,l0,_,rfl,au.of hL,λt1 H3 g3 h3=>?_⟩;refine q t1 H3 (g.trans g3) ?_;rw[h3,ql,hl,d9]
theorem ani(F:Fn K mg "shared_divisor" Td ["by","one","other"])(UO:agU P w K mg base)(Ai:NW P w K mg base):Wt P w K mg base:=by
 refine F.cal awd (λvs H Q E h=>?_) (λ_ _ _ _ _ H _ Q E hr h=>?_)
 .obtain⟨b,a,c,P,t,rfl,_⟩:=h;rfl
 .obtain⟨b,a,c,P',t,rfl,hA,hC,zP,zt,hP,bP,bt,h⟩:=h;refine⟨_,(aD (bh (Wb (cU (jm K hr) (pv 0) aq) (aJ UO hr (ak (pv 1) (ak (pv 2) aj))) (aJ Ai hr (ak (pv 0) (ak (pv 1) (ak (pv 2) aj))))))),?_⟩;refine⟨_,rfl,_,rfl,?_⟩;refine dR (λc0=>?_) (λc0=>?_)
  .have c0':b=0:=dec_true c0;rcases h with⟨_,g,N,U,V',G,hV,hU,hUV,q⟩|⟨p,rfl,hp,_⟩
   .exact⟨_,rfl,_,rfl,a,c,P',t,g,N,U,V',rfl,hA,hC,zP,zt,hP,bP,bt,G,hV,hU,hUV,q⟩
   .have:=hp.1;omega
  .have c0':¬b=0:=dec_false c0;rcases h with⟨z,_⟩|⟨p,rfl,hp,hpb,yP,yt,q⟩
   .exact absurd z c0'
   .exact⟨_,rfl,_,rfl,_,rfl,p,a,c,P',t,rfl,hp,hpb,hA,hC,zP,zt,yP,yt,λ_ z=>by have:=hP.pos;rw[z]at this;exact absurd this ∅,q⟩
theorem atx(F:Fn K mg "least_of" Sd ["row"])(wJ:Ld P w K mg base)(U5:aeK P w K mg base)(nW:Dh P w K mg base)(Tc:Wt P w K mg base):Q6 P w K mg base:=by
 refine F.cal Jc (λvs H Q E h=>?_) (λ_ _ _ _ _ H _ Q E hr h=>?_)
 .obtain⟨v,r,rfl,_⟩:=h;rfl
 .obtain⟨v,r,rfl,⟨a0,p,p2,rfl,hA,hR,hS⟩,ok,hB,hT,q⟩:=h;refine⟨_,(ao (aF 1 Jc.nd (aO K (pv 0) aq)) (ao (aF 2 Jc.nd (aJ wJ hr (ak (pv 1) (aL (aO K (pv 0) aq) aj)))) (ao (aF 3 Jc.nd (aJ U5 hr (ak (pv 0) (ak (pv 2) aj)))) (aD (bh (aO K (aJ nW hr (ak (pv 1) (ak (pv 2) (aL (aJ Tc hr (ak (pv 1) (ak (pv 2) (ak (pv 3) aj)))) aj)))) aq)))))),?_⟩;have hs:=ok.short;have hb1:=ok.Df;have hm:=Pm.Bv r.b r.rule;have lq:(Pm.aV r.b r.rule).length=r.rule.length+1:=Pm.lE ..;refine⟨_,rfl,_,_,.inr (aA.of hA),rfl,?_⟩;refine⟨_,rfl,_,rfl,_,_,.inr (aA.of hA),rfl,r.b,p,r.rule,rfl,ok.oH,hR,⋯,λtP H1 g1 hP=>?_⟩;refine⟨_,rfl,_,rfl,.ref a0,r,tP,rfl,⟨a0,p,p2,rfl,g1 _ _ hA,g1 _ _ hR,g1 _ _ hS⟩,ok,hP,λtT H2 g2 Gr=>?_⟩;have hP2:=g2 _ _ hP;have lt:=aiJ r;refine⟨_,rfl,_,rfl,_,rfl,_,rfl,_,rfl,r.b,tP,tT,Pm.aV r.b r.rule,ql r,rfl,hP2,Gr,⋯,⋯,hm,(λx hx=>(ok.Bh x hx).mono ∅),aul ok,?_⟩;have nP:=axD r.b r.rule hB.one;by_cases h0:r.b=0
  .obtain⟨d,ua,u,au5,hur,hQ0,hua,hLb,hd6,hsz⟩:=hT h0;have hK:=ok.kp;rw[h0]at hK;rw[h0]at hm lq;obtain⟨g,L,N,hL,Dz,hKL,hall,hlen,hE,G,hV,hU⟩:=Pm.axR hm hK hQ0 hua (u:=u) (B:=20) (U:=u+800) (λk=>by have:=Pm.aaj ok.oH ok.Df au5 hur;rw[h0]at this;exact Pm.jC this k) (λL hL hKL hall=>hLb L ⟨hL,λk=>Rm.aY _,hKL,hall⟩) (by rw[lq];have:=gU (show r.rule.length+1<=25 by omega) (show 20+d+2<=32 by omega);omega);have eT:Pm.co (ql r)=Pm.tp (Pm.aV 0 r.rule) r.at:=funext λk=>by rw[Mp,h0,Rm.aY]
   refine .inl ⟨h0,g,N,_,_,by rw[h0,eT];exact G,hV,hU,⋯,λtg H3 g3 hg=>?_⟩;have hgl:g.length<=r.rule.length+1:=by have:=hL.pos;omega
   have bg:∀x∈g,Rm.Bd 124000 x:=λx hx=>by
    obtain⟨k,hk,e⟩:=jA.mp hx;have:=hU k;rw[Pm.jf hk,e]at this;exact this.mono ⋯
   refine⟨r.b,tP,tg,Pm.aV r.b r.rule,g,rfl,ok.oH,⋯,g3 _ _ hP2,hg,by rw[h0];omega,⋯,G.mon,nP,(λx hx=>(ok.Bh x hx).mono ∅),bg,λt x y o l H4 g4 ht hx hy D _ _ _=>?_⟩;refine⟨_,_,.inr (aA.of ht),rfl,?_⟩;have D':Pm.Div r.b (Pm.aV r.b r.rule) g L []:=⟨by rw[h0];exact Dz,Pm.Py.nil _,G.mon.pos,λk=>by rw[Pm.fR,dj,h0,hE k]⟩;obtain⟨eo,_⟩:=D.uniq G.mon D';subst eo;exact q x o H4 (g1.trans (g2.trans (g3.trans g4))) hx ⟨hL,λk=>by rw[h0];exact Rm.aY _,by rw[h0];exact hKL,by rw[h0];exact hall⟩ (by have:=G.mon.pos;omega)
  .obtain⟨P0,u5,hb⟩:=hB.resolve_left h0;have hp:=au8 u5;have hr:=yS P0 u5;have yP:Pm.Py (P0:Int) (Pm.aV r.b r.rule):=by rw[<-hb];exact Xq hm nP
   have yt:Pm.Py (P0:Int) (ql r):=by rw[<-hb];exact Pm.Py.aM ..
   refine .inr ⟨P0,hb,hp,⋯,yP,yt,λtg g H3 g3 hg hG hgl=>?_⟩;have bg:∀x∈g,Rm.Bd 124000 x:=QK hr.1 ⋯ hG.py;refine⟨r.b,tP,tg,Pm.aV r.b r.rule,g,rfl,ok.oH,⋯,g3 _ _ hP2,hg,⋯,⋯,hG.mon,nP,(λx hx=>(ok.Bh x hx).mono ∅),bg,λt x y o l H4 g4 ht hx hy D _ _ _=>?_⟩;refine⟨_,_,.inr (aA.of ht),rfl,?_⟩;rw[hb]at D;rw[<-hb]at D;obtain⟨hl1,hl2⟩:=ao9 hp ok hb hG (by rw[hb]at D ⊢;exact D);exact q x o H4 (g1.trans (g2.trans (g3.trans g4))) hx hl1 hl2
theorem aoC(F:Fn K mg "shortest" Nv ["row"])(zK:Q6 P w K mg base)(Am:Rp P w K mg base):K2 P w K mg base:=by
 refine F.cal Ub (λvs H Q E h=>?_) (λ_ _ _ _ _ H _ Q E hr h=>?_)
 .obtain⟨v,r,rfl,_⟩:=h;rfl
 .obtain⟨v,r,rfl,⟨a0,p,p2,rfl,hA,hR,hS⟩,ok,hB,hT,q⟩:=h;refine⟨_,(ao (aF 1 Ub.nd (aJ zK hr (ak (pv 0) aj))) (ao (aF 2 Ub.nd (aJ Am hr (aL (aO K (pv 0) aq) (ak (pv 1) aj)))) (aD (bh (gq (aL (aO K (pv 0) aq) (ak (pv 2) (aL (kJ (pq K) rfl B.oN boot_tuple (aL (wG (wU K) (aO K (pv 0) aq) Aj (vY (cG K B.cH (ak (pv 2) aj)))) aj)) aj)))))))),?_⟩;have hs:=ok.short;have hl:=ok.len;have lS:(r.starts.map V.int).length=r.starts.length:=aB _;refine⟨_,rfl,.ref a0,r,rfl,⟨a0,p,p2,rfl,hA,hR,hS⟩,ok,hB,hT,λtL L H1 g1 hL lst ll=>?_⟩;have U7:=lst.mon.pos;refine⟨_,rfl,_,_,.inr (aA.of (g1 _ _ hA)),rfl,_,rfl,r.b,tL,L,rfl,ok.oH,hL,U7,⋯,λtR H2 g2 mY=>?_⟩;have lR:((Pm.fL r.b L).map V.int).length=L.length-1:=by rw[aB,Pm.nG]
  have JV:=(g1.trans g2) _ _ hA;have hS2:=(g1.trans g2) _ _ hS;refine⟨_,rfl,_,_,.inr (aA.of JV),rfl,_,rfl,_,rfl,_,_,.inr (aA.of JV),rfl,?_⟩;refine⟨_,rfl,.ref tR,L.length-1,rfl,.inr ⟨_,aA.of mY,lR.symm⟩,?_⟩;refine⟨_,rfl,?_⟩;by_cases hw:r.starts.length<=L.length-1
  .refine .inr (.inr ⟨_,aA.of hS2,?_,?_⟩)
   .rw[HT.qI,HT.rA,lS];omega
   .refine⟨p2,_,rfl,.inr ⟨aA.of hS2,?_⟩⟩;refine⟨(by show 3<=sizeLine;decide),λt ht=>?_⟩;have g3:=Same.new ht (.tup [.int r.b,.ref tR,.ref p2]);refine q (.ref t) L _ (g1.trans (g2.trans g3)) ⟨t,tR,p2,rfl,aC,g3 _ _ mY,?_⟩ lst ll;show _=some (HO.tup ((r.starts.take (L.length-1)).map V.int));rw[qY hw];exact g3 _ _ hS2
  .refine .inr (.inl ⟨_,aA.of hS2,?_,λp3 hp3=>?_⟩)
   .rw[HT.qI,HT.rA,lS];omega
   .refine⟨p3,_,rfl,.inr ⟨aA.of aC,?_⟩⟩;have g3:=Same.new hp3 (.tup (iT (r.starts.map V.int) none (some ((L.length-1:Nat):Int))));refine⟨(by show 3<=sizeLine;decide),λt ht=>?_⟩;have g4:=Same.new ht (.tup [.int r.b,.ref tR,.ref p3]);refine q (.ref t) L _ (g1.trans (g2.trans (g3.trans g4))) ⟨t,tR,p3,rfl,aC,(g3.trans g4) _ _ mY,?_⟩ lst ll;show _=some (HO.tup ((r.starts.take (L.length-1)).map V.int));rw[wB,<-Kd];exact g4 _ _ aC
theorem arT(F:Fn K mg "line_taken" NP ["by","line"])(cM:j9 P w K mg base):afc P w K mg base:=by
 refine F.cal ar6 (λvs H Q E h=>?_) (λ_ _ _ _ _ H _ Q E hr h=>?_)
 .obtain⟨b,l,p,rfl,_⟩:=h;rfl
 .obtain⟨b,l,p,rfl,hb,hL,z,q⟩:=h;refine⟨_,(aD (bh (fZ (sc:=ahZ) (N:=["number","by"]) (ix:=[none,some 0]) dY rfl (fD K (pv 1)) (λcl C s₀ H₀ ex=>⟨(bD 0 dN),eE,(aJ cM hr (ak (pv 1) (ak (pv 0) aj)))⟩)))),?_⟩;refine⟨_,rfl,l,rfl,.inl ⟨⟨_,au.of hL⟩,uK hL z rfl (Rm.tk b) ?_ ?_⟩⟩
  .intro H2 x g2 hx k hk;exact⟨_,rfl,_,rfl,b,x,rfl,hb,hk⟩
  .intro D hD;exact q D _ (Same.new hD _) hD aC
theorem alN(F:Fn K mg "head_line" PL ["lines","begin","column"]):aae P w K mg base:=by
 refine F.cal abL (λvs H Q E h=>?_) (λ_ _ _ _ _ H _ Q E hr h=>?_)
 .obtain⟨ll,xs,L,W,r,c,cI,ex,rfl,_⟩:=h;rfl
 .obtain⟨ll,xs,L,W,r,c,cI,ex,rfl,rfl,hL,hx,hw,hc,z,hr',q1,q2⟩:=h;refine⟨_,(ao (gb PassesOwn.never rfl (WK rfl B.gC (ak (pv 1) (aL (cG K B.cH (ak (pv 0) aj)) aj))) (bD 3 abL.nd) (aD (eZ (cU (nT K hr) (aO K (aO K (pv 0) (pv 3)) (pv 2)) aq) (aD (bh (pv 3))) fB))) (aD (bh Vp))),?_⟩;have lx:=hx.len;refine⟨_,rfl,_,rfl,.ref ll,L.length,rfl,.inl ⟨_,au.of hL,lx.symm⟩,?_⟩;refine⟨(r:Int),(L.length:Int),rfl,⟨⋯,⋯,⋯,⋯⟩,?_⟩;refine kY (lo:=(r:Int)) (n:=((L.length:Int)-(r:Int)).toNat) (λi σ' H'=>∃o,σ'=[some (.ref ll),some (.int r),some (.int c),o]/\H'=H/\∀j,r<=j->j<r+i->Pm.co (Dm.ln L j) c=0) ⟨_,rfl,rfl,λj h1 h2=>absurd h2 ⋯⟩ ?_ ?_
  .rintro i σ' H' hi ⟨o,rfl,rfl,hz⟩;have hi':r+i<L.length:=⋯;obtain⟨t,e1,_,e2⟩:=hx.get hi';have ei:(r:Int)+(i:Int)=((r+i:Nat):Int):=⋯;have wl:=hw (r+i) hi';refine⟨_,rfl,_,rfl,_,.ref t,.inl (au.of hL),vC (r+i) ei e1,_,rfl,_,_,.inl (au.of e2),eN (ns:=Dm.ln L (r+i)) (⋯:(0:Int)<=(c:Int)) ⋯,_,rfl,?_⟩;rw[d9];by_cases hz':(Dm.ln L (r+i)).getD c 0=0
   .refine Tr hz' ⟨_,rfl,rfl,λj h1 h2=>?_⟩;by_cases e:j=r+i
    .rw[e];exact hz'
    .exact hz j h1 ⋯
   .rw[decide_eq_false hz'];refine qZ ⟨_,rfl,?_⟩;have:=q1 (r+i) ⋯ hi' hz';rw[<-ei]at this;exact this
  .rintro σ' H' ⟨o,rfl,rfl,hz⟩;exact q2 λi h1 h2=>hz i h1 ⋯
theorem akW(F:Fn K mg "bring_up" Li ["by","lines","at","top"])(cM:j9 P w K mg base):Ze P w K mg base:=by
 refine F.cal aer (λvs H Q E h=>?_) (λ_ _ _ _ _ H _ Q E hr h=>?_)
 .obtain⟨b,ll,xs,L,a,r,ex,rfl,_⟩:=h;rfl
 .obtain⟨b,ll,xs,L,a,r,ex,rfl,hb,hL,hx,hm,hst,hra,ha,hz,q⟩:=h;refine⟨_,(aD (sY (eZ (cU (nT K hr) (pv 2) (pv 3)) (ao (aF 4 aer.nd (aO K (pv 1) (pv 3))) (ao (u9 (aO K (pv 1) (pv 2)) (vG (pv 1) (pv 3) set_list)) (aD (u9 (fZ (sc:=alk) (N:=["number","by"]) (ix:=[none,some 0]) dY rfl (fD K (pv 4)) (λcl C s₀ H₀ ex=>⟨(bD 0 dN),eE,(aJ cM hr (ak (pv 1) (fH (aK dH aq (pv 0)) aj)))⟩)) (vG (pv 1) (pv 2) set_list))))) fB))),?_⟩;have lx:=hx.len;refine⟨_,rfl,_,rfl,_,rfl,?_⟩;by_cases e:a=r
  .exact Tr (by rw[e]) (q xs L H (Keep.refl _ _) hL hx (.inl ⟨e,rfl⟩))
  .have hne:¬(a:Int)=(r:Int):=⋯;rw[decide_eq_false hne];refine qZ ?_;obtain⟨tr,r1,r2,r3⟩:=hx.get (show r<L.length by omega);obtain⟨ta,a1,a2,a3⟩:=hx.get ha;refine⟨_,rfl,_,rfl,_,.ref tr,.inl (au.of hL),vC r rfl r1,?_⟩;refine⟨_,rfl,_,rfl,_,.ref ta,.inl (au.of hL),vC a rfl a1,?_⟩;refine⟨_,rfl,_,rfl,ll,xs,_,r,rfl,rfl,hL,vO rfl (by rw[lx];omega),?_⟩;have kA:=Keep.upd ll H (.lst (xs.set r (.ref ta)));have hL1:(upd H ll (.lst (xs.set r (.ref ta)))) ll=some (.lst (xs.set r (.ref ta))):=aC;have r3':=kA _ _ (λ(z:tr=ll)=>r2 (by rw[z];exact hm)) r3;have hx1:=(cD.set a2 a3 r hx).keep hm kA;have VJ:=hst.keep kA ⟨_,hL1⟩;generalize upd H ll (.lst (xs.set r (.ref ta)))=H1 at kA hL1 r3' hx1 VJ;refine⟨_,rfl,tr,rfl,.inl ⟨⟨_,au.of r3'⟩,uK r3' (hz r ⋯) rfl (λx=>Rm.tk b (0-x)) ?_ ?_⟩⟩
   .intro H2 x g2 hx k hk;exact⟨_,rfl,_,rfl,_,_,rfl,rfl,b,_,rfl,hb,hk⟩
   .intro D hD;have gD:=Same.new hD (.lst (((Dm.ln L r).map λx=>Rm.tk b (0-x)).map V.int));have hDl:D∉ex:=VJ.fresh hD;have Ec:(upd H1 D (.lst (((Dm.ln L r).map λx=>Rm.tk b (0-x)).map V.int))) D=some (.lst (((Dm.ln L r).map λx=>Rm.tk b (0-x)).map V.int)):=aC;have hL2:=gD _ _ hL1;have hx2:=hx1.same gD;have kB:=kA.trans (Keep.same gD);generalize upd H1 D (.lst (((Dm.ln L r).map λx=>Rm.tk b (0-x)).map V.int))=H2 at gD Ec hL2 hx2 kB;refine⟨_,rfl,_,rfl,ll,_,_,a,rfl,rfl,hL2,vO rfl (by rw[nF,lx];omega),?_⟩;have kC:=Keep.upd ll H2 (.lst ((xs.set r (.ref ta)).set a (.ref D)));refine q _ ((L.set r (Dm.ln L a)).set a ((Dm.ln L r).map λx=>Rm.tk b (0-x))) _ (kB.trans kC) aC ((cD.set hDl Ec a hx2).keep hm kC) (.inr ⟨⋯,by rw[nF,nF],?_,?_,?_⟩)
    .rw[wW _ (by rw[nF];omega),if_neg ⋯,wW _ ⋯,if_pos rfl]
    .rw[wW _ (by rw[nF];omega),if_pos rfl]
    .intro i h1 h2;rw[wW _ (by rw[nF];omega),if_neg h2,wW _ ⋯,if_neg h1]
theorem aqY(F:Fn K mg "freed" Va ["by","line","head","column","last"])(oE:Cr P w K mg base)(cM:j9 P w K mg base):Y9 P w K mg base:=by
 refine F.cal Ck (λvs H Q E h=>?_) (λ_ _ _ _ _ H _ Q E hr h=>?_)
 .obtain⟨b,last,l1,l2,p,r,c,cI,rfl,_⟩:=h;rfl
 .obtain⟨b,last,l1,l2,p,r,c,cI,rfl,rfl,hZ,h1,h2,hl,hc,hz,n0,nt,bl,b1,b2,hx,q⟩:=h;refine⟨_,(ao (gP (i:=5) Ck.nd rfl (fP rfl) (aO K (pv 2) (pv 3))) (ao (gP (i:=6) Ck.nd rfl (fP rfl) (aO K (pv 1) (pv 3))) (ao (vN (i:=7) (hN:=Ck.nd) (hi':=rfl) (hx:=(oX rfl)) (sc:=aiv) (N:=["k","factor","head","line","pivot"]) (ix:=[none,some 6,some 2,some 1,some 5]) dY rfl (iz rfl B.gC (aL (cG K B.cH (ak (pv 1) aj)) aj)) (λcl C s₀ H₀ ex=>⟨(bD 0 dN),eE,(aK dH (aK v_mul (pv 4) (aO K (pv 3) (pv 0))) (aK v_mul (pv 1) (aO K (pv 2) (pv 0))))⟩)) (ao (eZ (cU (jm K hr) (pv 0) aq) (aD (bh (fZ (sc:=axp) (N:=["number","last"]) (ix:=[none,some 4]) dY rfl (fD K (pv 7)) (λcl C s₀ H₀ ex=>⟨(bD 0 dN),eE,(aK Dn (pv 0) (pv 1))⟩)))) fB) (ao (gP (i:=8) Ck.nd rfl (fP rfl) (aJ oE hr (ak (pv 0) (eY aq (ak (pv 4) aj))))) (aD (bh (fZ (sc:=ajt) (N:=["number","by","share"]) (ix:=[none,some 0,some 8]) dY rfl (fD K (pv 7)) (λcl C s₀ H₀ ex=>⟨(bD 0 dN),eE,(aJ cM hr (ak (pv 1) (fH (aK v_mul (pv 0) (pv 2)) aj)))⟩))))))))),?_⟩;have lP:(p.map V.int).length=p.length:=aB _;refine⟨_,rfl,_,rfl,_,_,.inl (au.of h2),eN (ns:=r) (⋯:(0:Int)<=(c:Int)) ⋯,?_⟩;refine⟨_,rfl,_,rfl,_,_,.inl (au.of h1),eN (ns:=p) (⋯:(0:Int)<=(c:Int)) ⋯,?_⟩;rw[d9];have e1:r.getD c 0=Pm.co r c:=rfl;have e2:p.getD c 0=Pm.co p c:=rfl;rw[e1,e2];refine⟨_,rfl,.ref l1,p.length,rfl,.inl ⟨_,au.of h1,lP.symm⟩,(p.length:Int),rfl,(⋯:-(2^62)<=(p.length:Int)),(⋯:(p.length:Int)<2^62),?_⟩;rw[d9];refine Dd (n:=p.length) hz rfl (λk=>Pm.co r c*Pm.co p k-Pm.co p c*Pm.co r k) ?_ ?_
  .intro H2 k g2 hk kk hkk;have ek:(0+(k:Int)).toNat=k:=⋯;refine⟨_,rfl,_,rfl,_,rfl,_,_,.inl (au.of (g2 _ _ h1)),eN (ns:=p) (⋯:(0:Int)<=0+(k:Int)) ⋯,m9 (Pm.jC b2 c) (Rm.Bd.getD b1 _) ∅,?_⟩;refine⟨_,rfl,_,rfl,_,rfl,_,_,.inl (au.of (g2 _ _ h2)),eN (ns:=r) (⋯:(0:Int)<=0+(k:Int)) ⋯,m9 (Pm.jC b1 c) (Rm.Bd.getD b2 _) ∅,_,_,rfl,rfl,?_⟩;rw[ek];exact hkk
  .intro D hD;obtain⟨H1,uu,gD,Ec⟩:=nw hD (.lst ((Pm.aM p.length λk=>Pm.co r c*Pm.co p k-Pm.co p c*Pm.co r k).map V.int));rw[uu];have zO:(Pm.aM p.length λk=>Pm.co r c*Pm.co p k-Pm.co p c*Pm.co r k).length<=1000:=by rw[Pm.cj];exact hz
   refine⟨_,rfl,_,rfl,?_⟩;refine dR (λcc=>?_) (λcc=>?_)
   .have hb:b=0:=dec_true cc;refine⟨_,rfl,D,rfl,.inl ⟨⟨_,au.of Ec⟩,uK Ec zO rfl (λx=>x.fdiv last) ?_ ?_⟩⟩
    .intro H2 x g2 hx' k hk;exact⟨_,rfl,_,rfl,_,_,rfl,rfl,⟨n0,uG (atc n0 bl) ∅⟩,hk⟩
    .intro D2 hD2;refine q D2 _ _ (gD.trans (Same.new hD2 _)) (gD.free hD2) aC (by rw[aB,Pm.cj]) λk hk=>?_;rw[Pm.lN (by simp),Pm.cY,if_pos hk,hb,Rm.aY,Rm.aY,Rm.aY];obtain⟨e,he⟩:=hx hb k hk;rw[he,LK _ n0];exact⟨rfl,rfl⟩
   .exact absurd hZ (dec_false cc)
theorem aop(F:Fn K mg "clear" R4 ["by","wide","lines"])(K6:aae P w K mg base)(PZ:Ze P w K mg base)(Pu:Y9 P w K mg base):aaU P w K mg base:=by
 refine F.cal uX (λvs H Q E h=>?_) (λ_ _ _ _ _ H _ Q E hr h=>?_)
 .obtain⟨b,wide,ll,xs,L,W,u,ex,rfl,_⟩:=h;rfl
 .obtain⟨b,wide,ll,xs,L,W,u,ex,rfl,hZ,hL,hx,hmx,hst,hwW,hW,hn,hu,hw,hnu,hbd,q⟩:=h;refine⟨_,(ao (aF 3 uX.nd (gK aj)) (ao (aF 4 uX.nd aq) (ao (gb PassesOwn.never rfl (iz rfl B.gC (ak (pv 1) aj)) (bD 5 uX.nd) (ao (aF 6 uX.nd (cG K B.cH (ak (pv 3) aj))) (ao (aF 7 uX.nd (aJ K6 hr (ak (pv 2) (ak (pv 6) (ak (pv 5) aj))))) (aD (eZ (Qn (awB (pv 7))) (ao (lB (aJ PZ hr (ak (pv 0) (ak (pv 2) (ak (pv 7) (ak (pv 6) aj)))))) (ao (gb PassesOwn.never rfl (iz rfl B.gC (aL (cG K B.cH (ak (pv 2) aj)) aj)) (bD 8 uX.nd) (aD (sY (eZ (cU (nT K hr) (pv 8) (pv 6)) (aD (u9 (aJ Pu hr (ak (pv 0) (aL (aO K (pv 2) (pv 8)) (aL (aO K (pv 2) (pv 6)) (ak (pv 5) (ak (pv 4) aj)))))) (vG (pv 2) (pv 8) set_list))) fB)))) (ao (aF 4 uX.nd (aO K (aO K (pv 2) (pv 6)) (pv 5))) (aD (lB (ud K (pv 3) (pv 5))))))) fB))))) (aD (bh (gq (ak (pv 3) (ak (pv 4) aj)))))))),?_⟩;have hB:oF b:= .inl hZ;obtain⟨hb0,hb1,hb2⟩:=hB.range;have hD:=hB.dom;refine⟨cB _,λlh CG=>?_⟩;have kh:=Same.new CG (.lst []);have hm:ll∈lh::ex:=cZ _ hmx;have hml:lh∈lh::ex:=cV;have st:∀{H':Hp} {o o':HO},Keep ll H H'->H' ll=some o->H' lh=some o'->Stand H' (lh::ex):=λk e e' a ha=>by
   rcases bN.mp ha with z|z
   .rw[z];exact⟨_,e'⟩
   .exact(hst.keep k ⟨_,e⟩) a z
  have hne:lh≠ll:=λz=>by rw[z,hL]at CG;cases CG
  refine⟨_,rfl,(wide:Int),rfl,(⋯:-(2^62)<=(wide:Int)),(⋯:(wide:Int)<2^62),?_⟩;refine kY (lo:=0) (n:=(wide:Int).toNat) (λc σ' H'=>∃(o5 o6 o7 o8:Option V) (A:Nat->Nat->Int) (hd:Nat->Nat) (r:Nat) (L':List (List Int)) (last:Int) (xs':List V),σ'=[some (.int b),some (.int wide),some (.ref ll),some (.ref lh),some (.int last),o5,o6,o7,o8]/\Keep ll H H'/\H' lh=some (.lst ((Pm.aM r λh=>((hd h:Nat):Int)).map V.int))/\H' ll=some (.lst xs')/\cD H' (lh::ex) xs' L'/\Dm.dG b L.length W u (λi k=>Pm.co (Dm.ln L i) k) c A hd r L' last)
   ⟨_,_,_,_,_,_,0,L,1,xs,rfl,Keep.same kh,aC,kh _ _ hL,(hx.more CG).same kh,Dm.dG.start hB.one hw hnu hbd⟩ ?_ ?_
  .rintro c σ' H1 hc ⟨o5,o6,o7,o8,A,hd,r,L1,last,xs1,rfl,k1,hH1,hL1,hx1,I⟩;have lV:c<W:=⋯;have hrn:=I.rn;have len1:=I.len;have lh1:((Pm.aM r λh=>((hd h:Nat):Int)).map V.int).length=r:=by rw[aB,Pm.cj]
   refine⟨_,rfl,.ref lh,r,rfl,.inl ⟨_,au.of hH1,lh1.symm⟩,?_⟩;refine⟨_,rfl,_,rfl,_,rfl,ll,xs1,L1,W,r,c,0+(c:Int),_,rfl,⋯,hL1,hx1,λi hi=>I.wd i ⋯,lV,⋯,⋯,λa h1 h2 h3=>?_,λhz=>?_⟩
   ·-- a head
    refine⟨_,rfl,_,rfl,?_⟩;rw[decide_eq_false (show ¬V.int (a:Int)=V.non fromλz=>by cases z)];refine qZ ?_;refine⟨_,rfl,_,rfl,_,rfl,_,rfl,b,ll,xs1,L1,a,r,_,rfl,hb0,hL1,hx1,hm,st k1 hL1 hH1,h1,h2,λi hi=>by rw[I.wd i ⋯];omega,λxs2 L2 H2 k2 hL2 hx2 br=>?_⟩;obtain⟨A2,I2,hp⟩:∃A2,Dm.dG b L.length W u (λi k=>Pm.co (Dm.ln L i) k) c A2 hd r L2 last/\Pm.co (Dm.ln L2 r) c≠0:=by
     rcases br with⟨e1,e2⟩|⟨e0,e1,e2,e3,e4⟩
     .exact⟨A,by rw[e2];exact I,by rw[e2,<-e1];exact h3⟩
     .exact⟨_,I.bring e0 ⋯ ⋯ e2 e3 e4,by rw[e2];exact h3⟩
    have hrl:r<L.length:=⋯;have k12:=k1.trans k2;have hH2:=k2 _ _ hne hH1;have len2:=I2.len;have lx2:=hx2.len;obtain⟨bl,be⟩:=hu _ _ _ _ _ _ (gG lV) I2;have ajd:last≠0:=by rw[I2.la];exact I2.nz
    have aoG:last=Rm.tk b last:=by
     have:=I2.la;rw[this,Rm.gJ]
    refine⟨_,rfl,.ref ll,L.length,rfl,.inl ⟨_,au.of hL2,by rw[lx2,len2]⟩,(L.length:Int),rfl,(⋯:-(2^62)<=(L.length:Int)),(⋯:(L.length:Int)<2^62),?_⟩;refine kY (lo:=0) (n:=(L.length:Int).toNat) (λi σ' H'=>∃(o8:Option V) (L3:List (List Int)) (vJ:List V),σ'=[some (.int b),some (.int wide),some (.ref ll),some (.ref lh),some (.int last),some (.int (0+(c:Int))),some (.int r),some (.int a),o8]/\Keep ll H H'/\H' lh=some (.lst ((Pm.aM r λh=>((hd h:Nat):Int)).map V.int))/\H' ll=some (.lst vJ)/\cD H' (lh::ex) vJ L3/\L3.length=L.length/\
      (∀j,i<=j∨j=r->Dm.ln L3 j=Dm.ln L2 j)/\∀j,j<i->j≠r->(Dm.ln L3 j).length=W/\∀k,k<W->Pm.co (Dm.ln L3 j) k=Rm.tk b (Pm.co (Dm.ln L3 j) k)/\Rm.tk b (last*Pm.co (Dm.ln L3 j) k)=Rm.tk b (Pm.co (Dm.ln L2 r) c*Pm.co (Dm.ln L2 j) k-Pm.co (Dm.ln L2 j) c*Pm.co (Dm.ln L2 r) k))
     ⟨_,L2,xs2,rfl,k12,hH2,hL2,hx2,len2,λ_ _=>rfl,λj hj=>absurd hj (mO _)⟩ ?_ ?_
    .rintro i σ' H3 hi ⟨o8,L3,vJ,rfl,k3,yr,mz,qC,JZ,eq3,Bs⟩;have hi':i<L.length:=⋯;have Uw:=qC.len;refine⟨_,rfl,_,rfl,_,rfl,?_⟩;by_cases e:i=r
     .refine Tr ⋯ ⟨_,L3,vJ,rfl,k3,yr,mz,qC,JZ,λj hj=>eq3 j ⋯,λj hj hj'=>Bs j ⋯ hj'⟩
     .have hne':¬(0+(i:Int))=(r:Int):=⋯;rw[decide_eq_false hne'];refine qZ ?_;obtain⟨ti,i1,i2,i3⟩:=qC.get (show i<L3.length by omega);obtain⟨tr,r1,r2,r3⟩:=qC.get (show r<L3.length by omega);rw[eq3 i ⋯]at i3;rw[eq3 r ⋯]at r3;have wi:=I2.wd i hi';have wr:=I2.wd r hrl;refine⟨_,rfl,_,rfl,_,rfl,_,.ref ti,.inl (au.of mz),vC i ⋯ i1,?_⟩;refine⟨_,rfl,_,rfl,_,.ref tr,.inl (au.of mz),vC r rfl r1,_,rfl,_,rfl,?_⟩;refine⟨b,last,ti,tr,_,_,c,0+(c:Int),rfl,⋯,hZ,i3,r3,⋯,⋯,⋯,ajd,aoG,bl,λx hx=>(be i hi' x hx).mono ∅,λx hx=>(be r hrl x hx).mono ∅,λhb k hk=>?_,λt m H4 g4 ht4 h4 lm hmm=>?_⟩
      .have hen:=λj (hj:j<L.length) k (hk:k<W)=>I2.en j k hj hk;have s:=Dm.CZ (A:=A2) (hd:=hd) (r:=r) (c:=c) (λz=>hp (by rw[hen r hrl c lV,z];exact Pm.tk0 b)) (show i≠r by omega) k;refine⟨Dm.En A2 (Dm.more hd r c) (r+1) i k,?_⟩;rw[hen r hrl c lV,hen i hi' k ⋯,hen i hi' c lV,hen r hrl k ⋯,I2.la,hb];simp only[Rm.aY];exact s.symm
      .have tl:t∉lh::ex:=(st k3 mz yr).fresh ht4;have uF:=g4 _ _ mz;have Vb:=qC.same g4;refine⟨_,rfl,_,rfl,ll,_,_,i,rfl,rfl,uF,vO ⋯ (by rw[Uw];omega),?_⟩;have k5:=Keep.upd ll H4 (.lst (vJ.set i (.ref t)));refine⟨_,L3.set i m,vJ.set i (.ref t),rfl,(k3.trans (Keep.same g4)).trans k5,k5 _ _ hne (g4 _ _ yr),aC,(cD.set tl h4 i Vb).keep hm k5,by rw[nF];exact JZ,λj hj=>?_,λj hj hj'=>?_⟩
       .rw[wW _ ⋯,if_neg ⋯];exact eq3 j ⋯
       .rw[wW _ ⋯];by_cases ej:j=i
        .rw[if_pos ej,ej,lm,wi];exact⟨rfl,λk hk=>hmm k ⋯⟩
        .rw[if_neg ej];exact Bs j ⋯ hj'
    .rintro σ' H3 ⟨o8,L3,vJ,rfl,k3,yr,mz,qC,JZ,eq3,Bs⟩;rw[d9]at eq3 Bs;have azn:=qC;obtain⟨tr,r1,r2,r3⟩:=qC.get (show r<L3.length by omega);rw[eq3 r (.inr rfl)]at r3;have wr:=I2.wd r hrl;refine⟨_,rfl,_,rfl,_,.ref tr,.inl (au.of mz),vC r rfl r1,_,rfl,_,_,.inl (au.of r3),eN (ns:=Dm.ln L2 r) (⋯:(0:Int)<=0+(c:Int)) ⋯,?_⟩;refine⟨_,rfl,.inl ⟨rfl,_,au.of yr⟩,_,rfl,lh,_,_,rfl,rfl,yr,by rw[lh1];exact dZ ⋯,?_⟩;have I3:=I2.free hD lV hrl hp JZ (eq3 r (.inr rfl)) λj hj hj'=>Bs j hj hj';have ec:(0+(c:Int)).toNat=c:=⋯;refine⟨some (.int (0+(c:Int))),some (.int r),some (.int a),o8,A2,Dm.more hd r c,r+1,L3,Pm.co (Dm.ln L2 r) c,vJ,?_,λx v nx hv=>?_,?_,?_,?_,I3⟩
     .rw[ec];rfl
     .by_cases z:x=lh
      .rw[z,CG]at hv;cases hv
      .rw[bF z];exact k3 _ _ nx hv
     .rw[aC,Pm.Pk,yV];have e1:(Pm.aM r λh=>((Dm.more hd r c h:Nat):Int))=Pm.aM r λh=>((hd h:Nat):Int):=lG λh hh=>by
       have:=iV.mp hh;unfold Dm.more;rw[if_neg ⋯]
      have e2:((Dm.more hd r c r:Nat):Int)=0+(c:Int):=by unfold Dm.more;rw[if_pos rfl];omega
      rw[e1,e2]
     .rw[bF hne.symm];exact mz
     .exact qC.keep hml (Keep.upd lh H3 _)
   ·-- none
    refine⟨_,rfl,_,rfl,?_⟩;rw[decide_eq_true rfl];exact lD ⟨_,_,_,_,A,hd,r,L1,last,xs1,rfl,k1,hH1,hL1,hx1,I.skip hD lV λi h1 h2=>hz i h1 ⋯⟩
  .rintro σ' H1 ⟨o5,o6,o7,o8,A,hd,r,L1,last,xs1,rfl,k1,hH1,hL1,hx1,I⟩;rw[d9]at I;refine⟨_,rfl,_,rfl,(by show 2<=sizeLine;decide),λt ht=>?_⟩;have kt:=Same.new ht (.tup [.ref lh,.int last]);exact q t lh A hd r L1 last xs1 _ (k1.trans (Keep.same kt)) aC (kt _ _ hH1) (kt _ _ hL1) ((hx1.less λa ha=>cZ _ ha).same kt) I
theorem ao2(F:Fn K mg "common_divisor" Ti ["one","other"]):XG P w K mg base:=by
 refine F.cal zp (λvs H Q E h=>?_) (λ_ _ _ _ _ H _ Q E hr h=>?_)
 .obtain⟨x,y,rfl,_⟩:=h;rfl
 .obtain⟨x,y,rfl,q⟩:=h;refine⟨_,(ao (aF 2 zp.nd (jF wV rfl B.xP boot_abs (ak (pv 0) aj))) (ao (aF 3 zp.nd (jF wV rfl B.xP boot_abs (ak (pv 1) aj))) (ao (ou PassesOwn.never (cU tu (pv 3) aq) (ao (aF 4 zp.nd (aK je (pv 2) (pv 3))) (ao (aF 2 zp.nd (pv 3)) (aD (aF 3 zp.nd (pv 4)))))) (aD (bh (pv 2)))))),?_⟩;refine⟨_,rfl,x,rfl,?_⟩;refine⟨_,rfl,y,rfl,?_⟩;rw[BQ,BQ];refine⟨λt σ' H'=>∃(g w:Nat) (o4:Option V),w=t/\j7 g w=j7 x.natAbs y.natAbs/\σ'=[some (.int x),some (.int y),some (.int g),some (.int w),o4]/\H=H',⟨_,x.natAbs,y.natAbs,_,rfl,rfl,rfl,rfl⟩,?_⟩;rintro t σ' H' ⟨g,w,o4,rfl,hg,rfl,rfl⟩;refine⟨_,rfl,_,_,rfl,rfl,_,rfl,?_⟩;refine dR (λc=>?_) (λc=>?_)
  .have hw:0<w:=by have:=dec_true c;omega
   refine⟨_,λ_ _ z=>z,?_⟩;refine⟨_,rfl,_,rfl,_,_,rfl,rfl,(⋯:(0:Int)<(w:Int)),?_⟩;refine⟨_,rfl,?_⟩;refine⟨_,rfl,?_⟩;refine⟨g%w,Nat.mod_lt _ hw,w,g%w,some (.int ((g%w:Nat):Int)),rfl,?_,?_,rfl⟩
   .rw[<-hg,Ik w,<-Nat.gcd_rec,Ik]
   .rw[Cw];rfl
  .have hw:w=0:=by have:=dec_false c;omega
   subst hw;rw[aan]at hg;rw[<-hg]at q;exact⟨_,rfl,q⟩
theorem arC(F:Fn K mg "lowest" Nz ["by","bottom","tops"])(oE:Cr P w K mg base)(QX:XG P w K mg base):Lq P w K mg base:=by
 refine F.cal Bp (λvs H Q E h=>?_) (λ_ _ _ _ _ H _ Q E hr h=>?_)
 .obtain⟨bt,l,ts,rfl,_⟩:=h;rfl
 .obtain⟨bt,l,ts,rfl,n0,hL,hz,bb,q⟩:=h;refine⟨_,(ao (eZ (cU (nT K hr) (pv 0) aq) (aD (bh (gq (eY aq (aL (fZ (sc:=arY) (N:=["top","bottom","by"]) (ix:=[none,some 1,some 0]) dY rfl (fD K (pv 2)) (λcl C s₀ H₀ ex=>⟨(bD 0 dN),eE,(aJ oE hr (ak (pv 2) (ak (pv 0) (ak (pv 1) aj))))⟩)) aj))))) fB) (ao (gP (i:=4) Bp.nd rfl (fP rfl) (jF wV rfl B.xP boot_abs (ak (pv 1) aj))) (ao (gb PassesOwn.never rfl (fD K (pv 2)) (bD 3 Bp.nd) (aD (gP (i:=4) Bp.nd rfl (fP rfl) (aJ QX hr (ak (pv 4) (ak (pv 3) aj)))))) (ao (sY (eZ (cU yN (pv 1) aq) (aD (gP (i:=4) Bp.nd rfl (fP rfl) (aK dH aq (pv 4)))) fB)) (aD (bh (gq (fH (aK Dn (pv 1) (pv 4)) (aL (fZ (sc:=ayu) (N:=["top","divisor"]) (ix:=[none,some 4]) dY rfl (fD K (pv 2)) (λcl C s₀ H₀ ex=>⟨(bD 0 dN),eE,(aK Dn (pv 0) (pv 1))⟩)) aj))))))))),?_⟩;refine⟨_,rfl,_,rfl,?_⟩
  .refine lD ?_;refine⟨_,rfl,bt,rfl,?_⟩;rw[BQ];refine⟨_,rfl,l,rfl,.inl ⟨⟨_,au.of hL⟩,?_⟩⟩;refine Ht (xW (au.of hL)) (λi σ' H'=>∃o3,σ'=[some (.int 0),some (.int bt),some (.ref l),o3,some (.int (Lm.dg bt.natAbs (ts.take i):Nat))]/\H=H') ⟨_,rfl,rfl⟩ (λi σ' H' ⟨_,_,z⟩=>z▸Same.refl _) ?_ ?_
   .rintro i x σ' H' hx ⟨o3,rfl,rfl⟩;obtain⟨rfl,hi⟩:=Fe hx;refine⟨_,rfl,_,rfl,_,_,rfl,some (.int (Pm.co ts i)),?_,rfl⟩;rw[yJ (xs:=ts) (n:=i+1) ⋯ ⋯,fU,Lm.Wl,uU];rfl
   rintro σ' H' ⟨o3,rfl,rfl⟩;rw[aB,lY];refine rF.by (λσ' H'=>σ'=[some (.int 0),some (.int bt),some (.ref l),o3,some (.int (Lm.low bt ts))]/\H=H') (λNN kO=>?_) ?_
   .refine⟨_,rfl,_,_,rfl,rfl,_,rfl,?_⟩;refine dR (λc=>?_) (λc=>?_)
    .refine⟨_,rfl,_,_,rfl,rfl,kO _ _ ⟨?_,rfl⟩⟩;unfold Lm.low;rw[if_pos (dec_true c)];rfl
    .refine kO _ _ ⟨?_,rfl⟩;unfold Lm.low;rw[if_neg (dec_false c)]
   .rintro _ _ ⟨rfl,rfl⟩;have ael:=ayx (ts:=ts) n0 bb;have hne:=Lm.low_ne n0 ts;refine⟨_,rfl,_,rfl,_,_,rfl,rfl,⟨hne,ael⟩,?_⟩;refine⟨_,rfl,l,rfl,.inl ⟨⟨_,au.of hL⟩,?_⟩⟩;refine uK hL ⋯ rfl (λt=>t.fdiv (Lm.low bt ts)) ?_ ?_
    .intro H2 x g2 hx k hk;exact⟨_,rfl,_,rfl,_,_,rfl,rfl,⟨hne,ael⟩,hk⟩
    .intro D hD;have gD:=Same.new hD (.lst ((ts.map λt=>t.fdiv (Lm.low bt ts)).map V.int));refine⟨(by show 2<=sizeLine;decide),λt ht=>?_⟩;have gt:=Same.new ht (.tup [.int (bt.fdiv (Lm.low bt ts)),.ref D]);exact q t D _ _ _ (gD.trans gt) aC (gt _ _ aC) hD ⟨λP e h=>by have:=(yS P h).1;omega,λ_=>⟨rfl,rfl⟩,aB _⟩
theorem av1(F:Fn K mg "free_numbers" Vc ["by","wide","lines","heads","last"])(cM:j9 P w K mg base)(CT:Lq P w K mg base):aal P w K mg base:=by
 refine F.cal atD (λvs H Q E h=>?_) (λ_ _ _ _ _ H _ Q E hr h=>?_)
 .exact False.elim h
 .exact False.elim h
theorem au9(F:Fn K mg "solution" MJ ["by","wide","table","wished"])(O8:afc P w K mg base)(Ql:aaU P w K mg base)(CT:Lq P w K mg base)(QF:aal P w K mg base):Nq P w K mg base:=by
 refine F.cal vp (λvs H Q E h=>?_) (λ_ _ _ _ _ H _ Q E hr h=>?_)
 .obtain⟨u,wide,ta,tw,xs,L,ws,ex,rfl,_⟩:=h;rfl
 .obtain⟨u,wide,ta,tw,xs,L,ws,ex,rfl,hT,hx,hW,lw,hn,hw,hsz,BL,bL,bW,⟨sx,sb,hs0,hs⟩,hI,qo⟩:=h;refine⟨_,(ao (vN (i:=4) (hN:=vp.nd) (hi':=rfl) (hx:=(oX rfl)) (sc:=ax0) (N:=["i","by","table","wished"]) (ix:=[none,some 0,some 2,some 3]) dY rfl (iz rfl B.gC (aL (cG K B.cH (ak (pv 2) aj)) aj)) (λcl C s₀ H₀ ex=>⟨(bD 0 dN),eE,(aJ O8 hr (ak (pv 1) (fH (pad K (aO K (pv 2) (pv 0)) (gK (aL (aO K (pv 3) (pv 0)) aj))) aj)))⟩)) (ao (aF 6 vp.nd (aJ Ql hr (ak (pv 0) (ak (pv 1) (ak (pv 4) aj))))) (ao (aF 7 vp.nd (aO K (pv 6) aq)) (ao (aF 8 vp.nd (aO K (pv 6) aq)) (ao (eZ (wY (jF (R3 K rfl) rfl B.Mj boot_any (aL (fZ (sc:=auU) (N:=["line","wide"]) (ix:=[none,some 1]) dY rfl (fD K (wG (wU K) (pv 4) (vY (cG K B.cH (ak (pv 7) aj))) Aj)) (λcl C s₀ H₀ ex=>⟨(bD 0 dN),eE,(yZ (nT K hr) (aO K (pv 0) (pv 1)) aq (xO _))⟩)) aj))) (aD (bh Vp)) fB) (ao (aF 9 vp.nd (aK v_mul (gK (eY aq aj)) (pv 1))) (ao (gb PassesOwn.never rfl (iz rfl B.gC (aL (cG K B.cH (ak (pv 7) aj)) aj)) (bD 5 vp.nd) (aD (u9 (aO K (aO K (pv 4) (pv 5)) (pv 1)) (vG (pv 9) (aO K (pv 7) (pv 5)) set_list)))) (ao (aF 10 vp.nd (aJ CT hr (ak (pv 0) (ak (pv 8) (ak (pv 9) aj))))) (ao (eZ (cU (jm K hr) (cG K B.cH (ak (pv 7) aj)) (pv 1)) (aD (bh (gq (eY Ea (aL (aO K (pv 10) aq) (aL (aO K (pv 10) aq) aj)))))) fB) (aD (bh (gq (eY Ea (aL (aO K (pv 10) aq) (aL (aO K (pv 10) aq) (aL (aJ QF hr (ak (pv 0) (ak (pv 1) (ak (pv 4) (ak (pv 7) (ak (pv 8) aj)))))) aj)))))))))))))))),?_⟩;have hB:oF 0:= .inl rfl;have hDm:=hB.dom;have hb0:(0:Int)<=0:=Int.le_refl 0;have lx:=hx.len;have lWm:(ws.map V.int).length=ws.length:=aB _;refine⟨_,rfl,.ref ta,L.length,rfl,.inl ⟨_,au.of hT,⋯⟩,?_⟩;refine⟨(L.length:Int),rfl,(⋯:-(2^62)<=(L.length:Int)),(⋯:(L.length:Int)<2^62),?_⟩;rw[d9];refine XM yK (by rw[aB,mK];omega) rfl (E8 λi=>(Dm.ln L i++[Pm.co ws i]).map (Rm.tk 0)) ?_ ?_
  .intro H2 x g2 hx2 k hk;obtain⟨j,hj,rfl⟩:=bZ.mp hx2;have hj':=iV.mp hj;obtain⟨t,e1,_,e2⟩:=(hx.same g2).get (i:=j) hj';refine⟨_,rfl,_,rfl,_,rfl,_,.ref t,.inl (au.of (g2 _ _ hT)),vC j ⋯ e1,?_⟩;refine⟨_,rfl,_,rfl,_,_,.inl (au.of (g2 _ _ hW)),eN (ns:=ws) (⋯:(0:Int)<=0+(j:Int)) ⋯,(by show 1<=sizeLine;decide),λl1 hl1=>?_⟩;have ej:(0+(j:Int)).toNat=j:=⋯;rw[ej];obtain⟨H3,uu,g3,h1⟩:=nw hl1 (.lst [.int (ws.getD j 0)]);rw[uu];have e3:=g3 _ _ e2;refine .inl ⟨_,_,e3,h1,?_,λl2 hl2=>?_⟩
   .rw[aB,BL j hj'];exact gG (dZ (by show wide+1<=1000;omega))
   have g4:=Same.new hl2 (.lst ((Dm.ln L j).map V.int++[.int (ws.getD j 0)]));refine⟨0,l2,Dm.ln L j++[Pm.co ws j],rfl,hb0,by rw[aC,fW];rfl,by rw[dW,BL j hj'];show wide+1<=1000;omega,λt' H5 g5 hn5 h5=>?_⟩;refine hk t' H5 ((g3.trans g4).trans g5) ((g3.trans g4).free hn5) ?_;show H5 t'=some (.lst (((Dm.ln L (0+(j:Int)).toNat++[Pm.co ws (0+(j:Int)).toNat]).map (Rm.tk 0)).map V.int));rw[ej];exact h5
  intro D ys H1 hD g1 hD1 hy;rw[axt]at hy;have ly:=hy.len;rw[Dm.xR]at ly;have asa:∀i k,Rm.Bd u (Dm.aug 0 L ws i k):=λi k=>by
   by_cases hi:i<L.length
   .unfold Dm.aug;rw[Dm.Cj hi,Pm.lN (Pm.tk0 0)];refine Rm.qg hb0 (Rm.Bd.zero _) (Pm.jC (λx hx=>?_) k);rcases fM.mp hx with hx|hx
    .exact bL _ (aj3 hi) x hx
    .rw[eV.mp hx];exact Pm.jC bW i
   .have e:Dm.ln (Dm.pL 0 L ws) i=[]:=by
     unfold Dm.ln;rw[List.getD_eq_getElem?_getD,List.getElem?_eq_none (by rw[Dm.xR];omega)];rfl
    unfold Dm.aug;rw[e,Pm.fR];exact Rm.Bd.zero _
  refine⟨_,rfl,_,rfl,_,rfl,0,wide,D,ys,Dm.pL 0 L ws,wide+1,u,[D],rfl,rfl,hD1,hy,eV.mpr rfl,(λa' ha=>by rw[eV.mp ha];exact⟨_,hD1⟩),⋯,⋯,by rw[Dm.xR];omega,by rw[Dm.xR];exact hsz.2,λi hi=>?_,λi k=>Dm.ajT i k,λi k=>asa i k,λt th A hd r L' last xs' H2 k2 Zi hTh hL' hx' I=>?_⟩
  .rw[Dm.xR]at hi;rw[Dm.Cj hi,aB,dW,BL i hi];rfl
  rw[Dm.xR]at I;have gS:Same H H2:=λc u hu=>k2 _ _ (λz=>by rw[z,hD]at hu;cases hu) (g1 _ _ hu);have lh:((Pm.aM r λh=>((hd h:Nat):Int)).map V.int).length=r:=by rw[aB,Pm.cj]
  have lh0:(Pm.aM r λh=>((hd h:Nat):Int)).length=r:=Pm.cj ..;have lx':=hx'.len;have lL':=I.len;have hrn:=I.rn;refine⟨_,rfl,_,_,.inr (aA.of Zi),rfl,?_⟩;refine⟨_,rfl,_,_,.inr (aA.of Zi),rfl,?_⟩;refine⟨_,rfl,_,rfl,.ref th,r,rfl,.inl ⟨_,au.of hTh,lh.symm⟩,_,rfl,.inl ⟨_,au.of hL',λps hps=>?_⟩⟩;rw[anO xs' ⋯];obtain⟨H3,uu,gp,hp3⟩:=nw hps (.lst (xs'.drop r));rw[uu];have qC:=(cD.drop r hx').same gp;refine⟨ps,rfl,.inl ⟨⟨_,au.of hp3⟩,?_⟩⟩;refine avX hp3 qC (by rw[pC];omega) rfl (λp=> .bl (not (decide (p.getD wide 0=0)))) ?_ ?_
  .intro H4 t p g4 hp qP k hk;obtain⟨i,h1,h2,rfl⟩:=adi hp;have:=I.wd i ⋯;refine⟨_,rfl,_,rfl,_,_,.inl (au.of qP),eN (ns:=Dm.ln L' i) (⋯:(0:Int)<=(wide:Int)) ⋯,?_⟩;rw[d9];exact hk _ (Same.refl _)
  intro D2 H4 hD2 g4 hD4;have gg:=(gS.trans gp).trans g4;have hbs:((L'.drop r).map λp=>V.bl (not (decide (p.getD wide 0=0))))=((L'.drop r).map λp=>not (decide (p.getD wide 0=0))).map V.bl:=by rw[cR];rfl
  rw[hbs]at hD4;refine⟨D2,_,rfl,au.of hD4,_,rfl,?_⟩;refine dR (λc=>?_) (λc=>?_)
  .obtain⟨x,hx1,hx2⟩:=tX.mp c;obtain⟨p,hp,rfl⟩:=bZ.mp hx1;obtain⟨i,h1,h2,rfl⟩:=adi hp;have hne:Rm.tk 0 (Dm.En A hd r i wide)≠0:=by
    rw[<-I.en i wide ⋯ ⋯];intro z;have z':(Dm.ln L' i).getD wide 0=0:=z;rw[decide_eq_true z']at hx2;cases hx2
   exact absurd (I.asG hDm hs0 hs i h1 ⋯) hne
  have hz:∀i,r<=i->i<L.length->Rm.tk 0 (Dm.En A hd r i wide)=0:=λi h1 h2=>by
   rw[<-I.en i wide ⋯ ⋯];by_cases z:Pm.co (Dm.ln L' i) wide=0
   .exact z
   .refine absurd (tX.mpr ⟨true,bZ.mpr ⟨_,asq h1 ⋯,?_⟩,rfl⟩) c;have z':¬(Dm.ln L' i).getD wide 0=0:=z;rw[decide_eq_false z'];rfl
  have uF:=g4 _ _ (gp _ _ hL');have Vb:=(hx'.same gp).same g4;have N7:=g4 _ _ (gp _ _ hTh);refine⟨(by show 1<=sizeLine;decide),λl1 hl1=>?_⟩;obtain⟨H5,uu,g5,h1⟩:=nw hl1 (.lst [.int 0]);rw[uu];refine⟨_,rfl,_,h1,⋯,⋯,?_,λl2 hl2=>?_⟩
  .show 1*(wide:Int).toNat<=sizeLine;rw[m6];exact gG (dZ ⋯)
  rw[d9,Fp];have g6:=Same.new hl2 (.lst ((Pm.aM wide λ_=>0).map V.int));have h2:(upd H5 l2 (.lst ((Pm.aM wide λ_=>0).map V.int))) l2=some (.lst ((Dm.pF (λh=>Rm.tk 0 (Dm.En A hd r h wide)) hd wide 0).map V.int)):=by rw[aC,Dm.apf]
  have Qf:=g5.trans g6;have f2:H4 l2=none:=g5.free hl2;generalize upd H5 l2 (.lst ((Pm.aM wide λ_=>0).map V.int))=H6 at g6 h2 Qf;refine⟨_,rfl,.ref th,r,rfl,.inl ⟨_,au.of (Qf _ _ N7),lh.symm⟩,?_⟩;refine⟨(r:Int),rfl,(⋯:-(2^62)<=(r:Int)),(⋯:(r:Int)<2^62),?_⟩;refine kY (lo:=0) (n:=(r:Int).toNat) (λi σ' H'=>∃(o5:Option V),σ'=[some (.int 0),some (.int wide),some (.ref ta),some (.ref tw),some (.ref D),o5,some (.ref t),some (.ref th),some (.int last),some (.ref l2),none]/\Same H4 H'/\H' l2=some (.lst ((Dm.pF (λh=>Rm.tk 0 (Dm.En A hd r h wide)) hd wide i).map V.int))) ⟨_,rfl,Qf,h2⟩ ?_ ?_
  .rintro i σ' H' hi ⟨o5,rfl,g,hU⟩;have hi':i<r:=⋯;obtain⟨t4,e1,_,e2⟩:=(Vb.same g).get (i:=i) ⋯;have hwi:=I.wd i ⋯;refine⟨_,rfl,_,rfl,_,.ref t4,.inl (au.of (g _ _ uF)),vC i ⋯ e1,_,rfl,_,_,.inl (au.of e2),eN (ns:=Dm.ln L' i) (⋯:(0:Int)<=(wide:Int)) ⋯,?_⟩;refine⟨_,rfl,_,rfl,_,rfl,_,_,.inl (au.of (g _ _ N7)),eN (ns:=Pm.aM r λh=>((hd h:Nat):Int)) (⋯:(0:Int)<=0+(i:Int)) (by rw[lh0];omega),?_⟩;have eh:(Pm.aM r λh=>((hd h:Nat):Int)).getD (0+(i:Int)).toNat 0=((hd i:Nat):Int):=by
    rw[show(0+(i:Int)).toNat=i by omega];have:=Pm.cY r (λh=>((hd h:Nat):Int)) i;rw[if_pos hi']at this;exact this
   rw[eh,d9];have hc:=I.hc i hi';refine⟨l2,_,_,hd i,rfl,rfl,hU,vO rfl (by rw[aB,Dm.Ad];exact hc),?_⟩;rw[Dq];refine⟨_,rfl,g.upd f2 _,?_⟩;have en:(Dm.ln L' i).getD wide 0=Rm.tk 0 (Dm.En A hd r i wide):=I.en i wide ⋯ ⋯;rw[aC,en,Dm.ap9 hc (λh hh e=>by have:=I.up h i hh hi';omega)]
  rintro σ' H7 ⟨o5,rfl,g7,hU⟩;rw[d9]at hU;refine⟨_,rfl,_,rfl,_,rfl,last,l2,_,rfl,I.rm.1,hU,by rw[Dm.Ad];omega,(hsz.2 _ _ _ _ _ _ ⋯ I).1,λtl lt bot us H8 g8 htl hlt frl low=>?_⟩;have so:Dm.wg u 0 L.length wide (Dm.aug 0 L ws) bot us:=⟨A,hd,r,L',last,I,hz,low⟩;have anZ:=g8 _ _ (g7 _ _ N7);have gA:=(gg.trans g7).trans g8;refine⟨_,rfl,.ref th,r,rfl,.inl ⟨_,au.of anZ,lh.symm⟩,_,rfl,_,rfl,?_⟩;rw[(I.ajJ hI).1,decide_eq_true rfl];refine qZ ?_;refine⟨_,rfl,_,_,.inr (aA.of htl),rfl,_,rfl,_,_,.inr (aA.of htl),rfl,(by show 3<=sizeLine;decide),λt2 qm=>?_⟩;have g9:=Same.new qm (.tup [.str ("one" : Str),.int bot,.ref lt]);exact qo _ _ so t2 lt _ (gA.trans g9) aC (g9 _ _ hlt)
theorem auo(F:Fn K mg "refuse_big" Uo ["poly"]):abE P w K mg base dM:=by
 refine F.J4 ap0 (λvs H Q E h=>?_) (λ_ _ _ _ _ H _ Q E hr h=>?_)
 .obtain⟨a,P,rfl,_⟩:=h;rfl
 .obtain⟨a,P',rfl,hA,zP,q1,q2⟩:=h;refine⟨_,(aD (eZ (wY (jF (R3 K rfl) rfl B.Mj boot_any (aL (fZ (sc:=apw) (N:=["number"]) (ix:=[none]) dY rfl (fD K (pv 0)) (λcl C s₀ H₀ ex=>⟨(bD 0 dN),eE,(yZ aji (jF wV rfl B.xP boot_abs (ak (pv 0) aj)) (Vm rfl B.Lh) (xO _))⟩)) aj))) (aD (aaP M.ajy rfl (eY Ea aj))) fB)),?_⟩;refine⟨_,rfl,a,rfl,.inr ⟨⟨_,aA.of hA⟩,?_⟩⟩;refine qT (Sy (aA.of hA)) (by rw[aB];exact gG (dZ ⋯)) rfl (λ_=>true) (λx=>match x with | .int k=> .bl (decide ((1000000:Int)<=(if k<0 then -k else k)))|_=> .non) ?_ ?_ ?_
  .intro H2 x g2 hx k hk;exact hk
  .intro H2 x g2 hx _ k hk;obtain⟨y,hy,rfl⟩:=bZ.mp hx;exact⟨_,rfl,y,rfl,_,_,rfl,rfl,hk⟩
  intro D hD;have el:(((P'.map V.int).filter λ_=>true).map λx=>match x with | .int k=>V.bl (decide ((1000000:Int)<=(if k<0 then -k else k)))|_=>V.non)=(P'.map λk=>decide ((1000000:Int)<=(if k<0 then -k else k))).map V.bl:=by
   rw[uw.mpr (by simp),cR,cR];rfl
  rw[el];refine⟨D,_,rfl,au.of aC,_,rfl,?_⟩;refine dR (λc=>⟨(by show 1<=sizeLine;decide),q2 ?_ _ (Same.new hD _)⟩) (λc=>q1 (λx hx=>?_) _ (Same.new hD _))
  .obtain⟨b,hb,e⟩:=tX.mp c;obtain⟨x,hx,rfl⟩:=bZ.mp hb;refine⟨x,hx,?_⟩;have:(1000000:Int)<=(if x<0 then -x else x):=of_decide_eq_true e;split at this<;>omega
  .by_cases z:x.natAbs<1000000
   .exact z
   .refine absurd (tX.mpr ⟨true,bZ.mpr ⟨x,hx,decide_eq_true ?_⟩,rfl⟩) c;split<;>omega
theorem aju(F:Fn K mg "whole_divisors" Ny ["number"]):WW P w K mg base:=by
 refine F.cal Cu (λvs H Q E h=>?_) (λ_ _ _ _ _ H _ Q E hr h=>?_)
 .obtain⟨n,rfl,_⟩:=h;rfl
 .obtain⟨n,rfl,hn,q⟩:=h;refine⟨_,(ao (aF 1 Cu.nd (gK aj)) (ao (aF 2 Cu.nd (gK aj)) (ao (aF 3 Cu.nd aq) (ao (ou PassesOwn.never (cU Nb (aK v_mul (pv 3) (pv 3)) (pv 0)) (ao (eZ (cU (jm K hr) (aK je (pv 0) (pv 3)) aq) (ao (lB (ud K (pv 1) (pv 3))) (aD (eZ (cU yN (aK v_mul (pv 3) (pv 3)) (pv 0)) (aD (lB (ud K (pv 2) (aK zX (pv 0) (pv 3))))) fB))) fB) (aD (aF 3 Cu.nd (pad K (pv 3) aq))))) (aD (bh (pad K (pv 1) (ajC rfl rfl B.Jx rfl B.Mr (ak (pv 2) aj))))))))),?_⟩;refine⟨cB _,λls hls=>?_⟩;have g1:=Same.new hls (.lst []);refine⟨cB _,λlg Ka=>?_⟩;have hne:ls≠lg:=λz=>by rw[z,aC]at Ka;cases Ka
  have g2:=Same.new Ka (.lst []);have h1:(upd (upd H ls (.lst [])) lg (.lst [])) ls=some (.lst (([]:List Int).map V.int)):=g2 _ _ aC;have h2:(upd (upd H ls (.lst [])) lg (.lst [])) lg=some (.lst (([]:List Int).map V.int)):=aC;have ayH:H lg=none:=g1.free Ka;have gk:=g1.trans g2;generalize upd (upd H ls (.lst [])) lg (.lst [])=H2 at h1 h2 gk;refine⟨λm σ' H'=>∃(t:Nat) (s g:List Int),m=n+2-t/\1<=t/\t<=n+1/\σ'=[some (.int n),some (.ref ls),some (.ref lg),some (.int (t:Int))]/\Same H H'/\H' ls=some (.lst (s.map V.int))/\H' lg=some (.lst (g.map V.int))/\s.length+g.length<=2*t/\s.length<=t/\g.length<=t/\(t-1)*(t-1)<=n/\Pm.pH n (n+2-t) t s g=Pm.divs n,
   ⟨_,1,[],[],rfl,aN _,⋯,rfl,gk,h1,h2,∅,∅,∅,⋯,rfl⟩,?_⟩
  rintro m σ' H' ⟨t,s1,g,rfl,ht1,htn,rfl,gg,hs,hg,lsg,DV,lgg,WY,hw⟩;have WM:t<=1001:=by
   by_cases c:t<=1001
   .exact c
   .have:1001*1001<=(t-1)*(t-1):=gU ⋯ ⋯;omega
  refine⟨_,rfl,_,rfl,mulR ⋯ ⋯,_,rfl,_,_,rfl,rfl,_,rfl,?_⟩;obtain⟨f,hf⟩:∃f,n+2-t=f+1:=⟨n+1-t,⋯⟩;have hf2:n+2-(t+1)=f:=⋯;rw[hf]at hw;unfold Pm.pH at hw;have htt:((t:Int)*(t:Int))=((t*t:Nat):Int):=(afJ ..).symm;have hts:t<=t*t:=Qq t ht1;rw[htt];refine dR (λc=>?_) (λc=>?_)
  .have c':t*t<=n:=by have:=dec_true c;omega
   rw[if_pos c']at hw;have tn:t<=n:=⋯;refine⟨_,λ_ _ z=>z,?_⟩;refine⟨_,rfl,_,rfl,_,_,rfl,rfl,(⋯:(0:Int)<(t:Int)),_,rfl,?_⟩;have em:((n:Int)%(t:Int))=((n%t:Nat):Int):=(Cw ..).symm;rw[em];have Oz:(t+1-1)*(t+1-1)<=n:=by rw[fU];exact c'
   refine dR (λc2=>?_) (λc2=>?_)
   .have c2':n%t=0:=by have:=dec_true c2;omega
    rw[if_pos c2']at hw;refine⟨_,rfl,.inl ⟨rfl,_,au.of hs⟩,_,rfl,ls,_,_,rfl,rfl,hs,(by rw[aB];exact qw DV (qw WM ∅)),?_⟩;dsimp only;rw[<-yV];have ga:=gg.upd hls (.lst ((s1++[(t:Int)]).map V.int));have hs2:(upd H' ls (.lst ((s1++[(t:Int)]).map V.int))) ls=some (.lst ((s1++[(t:Int)]).map V.int)):=aC;have hg2:(upd H' ls (.lst ((s1++[(t:Int)]).map V.int))) lg=some (.lst (g.map V.int)):=by rw[bF hne.symm];exact hg
    generalize upd H' ls (.lst ((s1++[(t:Int)]).map V.int))=H3 at ga hs2 hg2;refine⟨_,rfl,_,rfl,mulR ⋯ ⋯,_,rfl,_,_,rfl,rfl,_,rfl,?_⟩;rw[htt];refine dR (λc3=>?_) (λc3=>?_)
    .have xT:t*t<n:=by have:=dec_true c3;omega
     rw[if_pos xT]at hw;refine⟨_,rfl,.inl ⟨rfl,_,au.of hg2⟩,_,rfl,_,rfl,_,_,rfl,rfl,⟨(⋯:(0:Int)<(t:Int)),(⋯:(t:Int)<1073741824)⟩,lg,_,_,rfl,rfl,hg2,(by rw[aB];exact qw lgg (qw WM ∅)),?_⟩;dsimp only;have ed:((n:Int)/(t:Int))=((n/t:Nat):Int):=(Int.natCast_ediv ..).symm;rw[ed,<-yV];refine⟨_,rfl,?_⟩;refine⟨f,⋯,t+1,s1++[(t:Int)],g++[((n/t:Nat):Int)],⋯,⋯,⋯,rfl,ga.upd ayH _,(by rw[bF hne];exact hs2),aC,?_,?_,?_,Oz,(by rw[hf2];exact hw)⟩
     .rw[dW,dW];show s1.length+1+(g.length+1)<=_;omega
     .rw[dW];show s1.length+1<=_;omega
     .rw[dW];show g.length+1<=_;omega
    .have xT:¬t*t<n:=by have:=dec_false c3;omega
     rw[if_neg xT]at hw;refine⟨_,rfl,?_⟩;refine⟨f,⋯,t+1,s1++[(t:Int)],g,⋯,⋯,⋯,rfl,ga,hs2,hg2,?_,?_,⋯,Oz,(by rw[hf2];exact hw)⟩
     .rw[dW];show s1.length+1+g.length<=_;omega
     .rw[dW];show s1.length+1<=_;omega
   .have c2':¬n%t=0:=by have:=dec_false c2;omega
    rw[if_neg c2']at hw;refine⟨_,rfl,?_⟩;exact⟨f,⋯,t+1,s1,g,⋯,⋯,⋯,rfl,gg,hs,hg,⋯,⋯,⋯,Oz,(by rw[hf2];exact hw)⟩
  .have c':¬t*t<=n:=by have:=dec_false c;omega
   rw[if_neg c']at hw;refine⟨_,rfl,_,rfl,lg,_,rfl,hg,λl1 hl1=>?_⟩;have g3:=Same.new hl1 (.lst (g.map V.int).reverse);have hs3:=g3 _ _ hs;have h3:(upd H' l1 (.lst (g.map V.int).reverse)) l1=some (.lst (g.reverse.map V.int)):=by rw[aC,Mg]
   generalize upd H' l1 (.lst (g.map V.int).reverse)=H3 at g3 hs3 h3;refine .inl ⟨_,_,hs3,h3,?_,λl2 hl2=>?_⟩
   .rw[aB,aB,oR];exact fY (show s1.length+g.length<=5000 by omega) ∅
   refine q l2 _ (gg.trans (g3.trans (Same.new hl2 _))) ?_ ?_
   .rw[aC,<-fW,hw]
   .rw[<-hw,dW,oR];omega
theorem aoJ(F:Fn K mg "perhaps_roots" Ux ["poly"])(MF:WW P w K mg base):agF P w K mg base:=by
 refine F.cal Gq (λvs H Q E h=>?_) (λ_ _ _ _ _ H _ Q E hr h=>?_)
 .obtain⟨a,P,rfl,_⟩:=h;rfl
 .obtain⟨a,P',rfl,hA,zP,hx,hs,q⟩:=h;refine⟨_,(ao (aF 1 Gq.nd (aO K (fZ (sc:=anc) (N:=["number"]) (ix:=[none]) dY rfl (fD K (pv 0)) (λcl C s₀ H₀ ex=>⟨(bD 0 dN),(afM (cU (nT K hr) (pv 0) aq)),(pv 0)⟩)) aq)) (ao (aF 2 Gq.nd (aJ MF hr (aL (jF wV rfl B.xP boot_abs (ak (pv 1) aj)) aj))) (ao (vN (i:=3) (hN:=Gq.nd) (hi':=rfl) (hx:=(oX rfl)) (sc:=akj) (N:=["divisor"]) (ix:=[none]) dY rfl (agq K rfl B.Mr (ak (pv 2) aj)) (λcl C s₀ H₀ ex=>⟨(bD 0 dN),eE,(aK dH aq (pv 0))⟩)) (aD (bh (pad K (pad K (pv 3) (gK (eY aq aj))) (pv 2))))))),?_⟩;refine⟨_,rfl,a,rfl,.inr ⟨⟨_,aA.of hA⟩,?_⟩⟩;refine qT (Sy (aA.of hA)) (by rw[aB];exact gG (dZ ⋯)) rfl (λx=>match x with | .int k=>decide (k≠0)|_=>false) (λx=>x) ?_ ?_ ?_
  .intro H2 x g2 hx k hk;obtain⟨y,hy,rfl⟩:=bZ.mp hx;refine⟨_,rfl,_,rfl,?_⟩;have e:(not (decide (y=0)))=decide (y≠0):=by by_cases z:y=0<;>simp[z]
   rw[e];exact hk
  .intro H2 x g2 hx _ k hk;exact⟨_,rfl,hk⟩
  intro D hD;have el:(((P'.map V.int).filter λx=>match x with | .int k=>decide (k≠0)|_=>false).map λx=>x)=(P'.filter λx=>decide (x≠0)).map V.int:=by
   rw[xK,ZW];rfl
  rw[el];have hlow:Pm.iW P'=(P'.filter λx=>decide (x≠0)).headD 0:=rfl;obtain⟨y0,ys,hf⟩:∃y0 ys,(P'.filter λx=>decide (x≠0))=y0::ys:=by
   cases e:P'.filter λx=>decide (x≠0)with
   |nil=>
    obtain⟨x,hx1,hx2⟩:=hx;exact absurd (decide_eq_true hx2) (List.filter_eq_nil_iff.mp e x hx1)
   |cons y ys=>exact⟨y,ys,rfl⟩
  have hy0:y0∈P':=(pA.mp (hf▸cV ..:y0∈P'.filter λx=>decide (x≠0))).1;rw[hf,List.headD_cons]at hlow;rw[hf];have g1:=Same.new hD (.lst ((y0::ys).map V.int));refine⟨_,.int y0,.inl (au.of aC),eN (ns:=y0::ys) ∅ (by show(0:Int)<((ys.length+1:Nat):Int);omega),?_⟩;generalize upd H D (.lst ((y0::ys).map V.int))=H1 at g1;have hsm:=hs y0 hy0;have ea:(if y0<0 then -y0 else y0)=((y0.natAbs:Nat):Int):=by split<;>omega
  refine⟨_,rfl,y0,rfl,?_⟩;refine⟨y0.natAbs,(by rw[ea];rfl),⋯,λla H2 g2 h2 ld=>?_⟩;have ln2:((Pm.divs y0.natAbs).map V.int).reverse.length=(Pm.divs y0.natAbs).length:=by rw[oR,aB]
  refine⟨_,rfl,la,(Pm.divs y0.natAbs).map V.int,rfl,au.of h2,?_⟩;refine qT (adB (au.of h2)) (by rw[ln2];exact fY ld ∅) rfl (λ_=>true) (λx=>match x with | .int k=> .int (0-k)|_=> .non) ?_ ?_ ?_
  .intro H3 x g3 hx k hk;exact hk
  .intro H3 x g3 hx _ k hk;obtain⟨y,hy,rfl⟩:=bZ.mp (pO.mp hx);exact⟨_,rfl,_,_,rfl,rfl,hk⟩
  intro D2 hD2;have el2:((((Pm.divs y0.natAbs).map V.int).reverse.filter λ_=>true).map λx=>match x with | .int k=>V.int (0-k)|_=>V.non)=((Pm.divs y0.natAbs).reverse.map λx=>0-x).map V.int:=by
   rw[uw.mpr (by simp),<-Mg,cR,cR];rfl
  rw[el2];obtain⟨H3,uu,g3,h3⟩:=nw hD2 (.lst (((Pm.divs y0.natAbs).reverse.map λx=>0-x).map V.int));rw[uu];have h23:=g3 _ _ h2;refine⟨_,rfl,(by show 1<=sizeLine;decide),λl0 hl0=>?_⟩;obtain⟨H4,uu,g4,h4⟩:=nw hl0 (.lst [.int 0]);rw[uu];have Kw:=g4 _ _ h3;have h24:=g4 _ _ h23;have lb:(((Pm.divs y0.natAbs).reverse.map λx=>0-x).map V.int).length=(Pm.divs y0.natAbs).length:=by rw[aB,aB,oR]
  refine .inl ⟨_,_,Kw,h4,?_,λl1 hl1=>?_⟩
  .rw[lb];exact fY (show _+1<=5000 by omega) ∅
  obtain⟨H5,uu,g5,h5⟩:=nw hl1 (.lst (((Pm.divs y0.natAbs).reverse.map λx=>0-x).map V.int++[.int 0]));rw[uu];have h25:=g5 _ _ h24;refine⟨_,rfl,.inl ⟨_,_,h5,h25,?_,λl2 hl2=>?_⟩⟩
  .rw[dW,lb,aB];exact fY (show(Pm.divs y0.natAbs).length+1+(Pm.divs y0.natAbs).length<=5000 by omega) ∅
  have ec:Pm.cands P'=((Pm.divs y0.natAbs).reverse.map λx=>0-x)++[0]++Pm.divs y0.natAbs:=by unfold Pm.cands;rw[hlow]
  refine q l2 _ (g1.trans (g2.trans (g3.trans (g4.trans (g5.trans (Same.new hl2 _)))))) ?_ ?_
  .rw[aC,ec,fW,fW];rfl
  .rw[ec,dW,dW,aB,oR];show _+1+_<=_;omega
theorem atB(F:Fn K mg "divided_out" Lx ["poly","root"])(nW:Dh P w K mg base):acS P w K mg base:=by
 refine F.cal xM (λvs H Q E h=>?_) (λ_ _ _ _ _ H _ Q E hr h=>?_)
 .obtain⟨a,r,P,u,rfl,_⟩:=h;rfl
 .obtain⟨a,r,P',u,rfl,hA,zP,hP,hrb,bP,hu,q⟩:=h;refine⟨_,(ao (aF 2 xM.nd aq) (ao (aF 3 xM.nd (pv 0)) (ao (aF 4 xM.nd (aJ nW hr (eY aq (ak (pv 3) (Dj (gq (fH (aK dH aq (pv 1)) (eY aq aj))) aj))))) (ao (ou PassesOwn.never (cU (jm K hr) (aO K (pv 4) aq) (gq aj)) (ao (aF 2 xM.nd (pad K (pv 2) aq)) (ao (aF 3 xM.nd (aO K (pv 4) aq)) (aD (aF 4 xM.nd (aJ nW hr (eY aq (ak (pv 3) (Dj (gq (fH (aK dH aq (pv 1)) (eY aq aj))) aj))))))))) (aD (bh (gq (ak (pv 2) (ak (pv 3) aj))))))))),?_⟩;have hM:Pm.Mon [0-r,1]:=⟨by show 0<2;decide,rfl⟩;have bM:∀x∈[0-r,1],Rm.Bd 124000 x:=λx hx=>by
   rcases bN.mp hx with rfl|hx
   .have:Rm.Bd 40 (0-r):=by unfold Rm.Bd at hrb ⊢;omega
    exact this.mono ∅
   .rw[eV.mp hx];exact(Rm.Bd.of (n:=10) ⋯ ⋯).mono ∅
  have one:∀{H1:Hp} {tl:Addr} {L:List Int} {Q1:VK} {E1:XK} {tm:Addr},H1 tl=some (.tup (L.map V.int))->H1 tm=some (.tup ([0-r,1].map V.int))->L.length<=40->(∀x∈L,Rm.Bd 200000 x)->(∀t x y H2,Same H1 H2->H2 t=some (.tup [.ref x,.ref y])->H2 x=some (.tup ((Pm.iy L r).map V.int))->H2 y=some (.tup ((Pm.trim [Pm.oB L r]).map V.int))->Q1 (.ref t) H2)->afB [.int 0,.ref tl,.ref tm] H1 Q1 E1:=λ{H1 tl L Q1 E1 tm} h1 h2 zL bL hq=>by
   refine⟨0,tl,tm,L,[0-r,1],rfl,∅,∅,h1,h2,zL,(by show 2<=40;decide),hM,λk=>Rm.aY _,(λx hx=>(bL x hx).mono ∅),bM,λt x y o l H2 g2 hT hX hY D _ _ _=>?_⟩;obtain⟨rfl,rfl⟩:=D.uniq hM (Pm.Qd L r);exact hq t x y H2 g2 hT hX hY
  refine⟨_,rfl,?_⟩;refine⟨_,rfl,_,rfl,_,_,rfl,rfl,(by show 2<=sizeLine;decide),λtm Uq=>?_⟩;have g0:=Same.new Uq (.tup ([0-r,1].map V.int));refine one (g0 _ _ hA) aC zP (λx hx=>(bP x hx).mono ⋯) λtt x y H1 g1 hT hX hY=>?_;refine⟨λm σ' H'=>∃(i:Nat) (L:List Int) (tl tt x y:Addr),m=L.length/\σ'=[some (.ref a),some (.int r),some (.int (i:Int)),some (.ref tl),some (.ref tt)]/\Same H H'/\H' tl=some (.tup (L.map V.int))/\H' tt=some (.tup [.ref x,.ref y])/\H' x=some (.tup ((Pm.iy L r).map V.int))/\H' y=some (.tup ((Pm.trim [Pm.oB L r]).map V.int))/\Pm.Mon L/\L.length+i=P'.length/\(Pm.outF P'.length P' r).1=(Pm.outF L.length L r).1+i/\(Pm.outF P'.length P' r).2=(Pm.outF L.length L r).2/\∀z∈L,Rm.Bd (u+i*1640) z,
   ⟨_,0,P',a,tt,x,y,rfl,rfl,g0.trans g1,g1 _ _ (g0 _ _ hA),hT,hX,hY,hP,rfl,rfl,rfl,λz hz=>(bP z hz).mono ⋯⟩,?_⟩
  rintro m σ' H' ⟨i,L,tl,tt,x,y,rfl,rfl,gg,hL,hT,hX,hY,hMo,hlen,o1,o2,bL⟩;have hi:u+i*1640<=200000:=by
   have:i*1640<=P'.length*1640:=qe _ ⋯;omega
  refine⟨_,rfl,_,_,.inr (aA.of hT),rfl,?_⟩;refine⟨cB _,λt0 ht0=>?_⟩;have g2:=Same.new ht0 (.tup []);refine Hr (ns:=Pm.trim [Pm.oB L r]) (ms:=[]) (aA.of (g2 _ _ hY)) (aA.of aC) ⟨_,rfl,?_⟩;have hX2:=g2 _ _ hX;have hT2:=g2 _ _ hT;have hL2:=g2 _ _ hL;have TY:=gg.trans g2;generalize upd H' t0 (.tup [])=H2 at hX2 hT2 hL2 TY;have et:Pm.trim [Pm.oB L r]=[]↔Pm.oB L r=0:=by
   rw[Pm.trim,Pm.trim];by_cases z:Pm.oB L r=0
   .rw[if_pos ⟨z,rfl⟩];exact⟨λ_=>z,λ_=>rfl⟩
   .rw[if_neg (λw=>z w.1)];exact⟨λw=>(by cases w),λw=>absurd w z⟩
  refine dR (λc=>?_) (λc=>?_)
  .have hz:=et.mp (dec_true c);have h2:2<=L.length:=by
    by_cases z:2<=L.length
    .exact z
    .exact absurd hz (Pm.Jw hMo ⋯ r)
   obtain⟨m1,l1⟩:=Pm.Jb (r:=r) hMo h2;have bQ:∀z∈Pm.iy L r,Rm.Bd (u+(i+1)*1640) z:=λz hz=>(Pm.Yl hrb bL z hz).mono (by
    have:L.length*(40+1)<=40*41:=qe _ ⋯;rw[tY];omega)
   have hi1:u+(i+1)*1640<=200000:=by
    have:(i+1)*1640<=P'.length*1640:=qe _ ⋯;omega
   have eo:Pm.outF L.length L r=((Pm.outF (Pm.iy L r).length (Pm.iy L r) r).1+1,(Pm.outF (Pm.iy L r).length (Pm.iy L r) r).2):=by
    obtain⟨k,hk⟩:∃k,L.length=k+1:=⟨L.length-1,⋯⟩;rw[l1,hk,fU,Pm.outF,if_pos hz]
   refine⟨_,λ_ _ z=>z,?_⟩;refine⟨_,rfl,?_⟩;refine⟨_,rfl,_,_,.inr (aA.of hT2),rfl,?_⟩;refine⟨_,rfl,_,rfl,_,_,rfl,rfl,(by show 2<=sizeLine;decide),λtm Uq=>?_⟩;have g3:=Same.new Uq (.tup ([0-r,1].map V.int));refine one (g3 _ _ hX2) aC ⋯ (λz hz=>(bQ z hz).mono hi1) λtt' x' y' H3 g4 hT' hX' hY'=>?_;refine⟨(Pm.iy L r).length,⋯,i+1,Pm.iy L r,x,tt',x',y',rfl,?_,TY.trans (g3.trans g4),g4 _ _ (g3 _ _ hX2),hT',hX',hY',m1,⋯,?_,?_,bQ⟩
   .rw[ac7];rfl
   .rw[o1,eo];show _+1+i=_+(i+1);omega
   .rw[o2,eo]
  .have hz:¬Pm.oB L r=0:=λw=>(dec_false c) (et.mpr w);have eo:Pm.outF L.length L r=(0,L):=by
    cases hl:L.length with
    |zero=>rfl
    |succ k=>rw[Pm.outF,if_neg hz]
   rw[eo]at o1 o2;refine⟨_,rfl,_,rfl,(by show 2<=sizeLine;decide),λtz tH=>?_⟩;have gz:=Same.new tH (.tup [.int (i:Int),.ref tl]);refine q tz tl _ (TY.trans gz) ?_ ?_
   .rw[aC,o1];show some (HO.tup [V.int (i:Int),V.ref tl])=some (HO.tup [V.int ((0+i:Nat):Int),V.ref tl]);rw[J6]
   .rw[o2];exact gz _ _ hL2
theorem anJ(F:Fn K mg "whole_roots" Mq ["poly"])(Mx:abE P w K mg base dM)(LN:agF P w K mg base)(TX:acS P w K mg base):adF P w K mg base dM:=by
 refine F.J4 zY (λvs H Q E h=>?_) (λ_ _ _ _ _ H _ Q E hr h=>?_)
 .obtain⟨a,P,rfl,_⟩:=h;rfl
 .obtain⟨a,P',rfl,hA,zP,hP,q1,q2⟩:=h;refine⟨_,(ao (lB (Sv Mx hr rfl (ak (pv 0) aj))) (ao (aF 1 zY.nd (gK aj)) (ao (aF 2 zY.nd (pv 0)) (ao (gb PassesOwn.leaving rfl (fD K (aJ LN hr (ak (pv 0) aj))) (bD 3 zY.nd) (ao (aF 4 zY.nd (aJ TX hr (ak (pv 2) (ak (pv 3) aj)))) (aD (eZ (cU tu (aO K (pv 4) aq) aq) (ao (lB (ud K (pv 1) (gq (ak (pv 3) (aL (aO K (pv 4) aq) aj))))) (aD (aF 2 zY.nd (aO K (pv 4) aq)))) fB)))) (aD (bh (gq (ak (pv 1) (ak (pv 2) aj))))))))),?_⟩;have hx1:∃x∈P',x≠0:=⟨Pm.co P' (P'.length-1),Pm.ux (by have:=hP.pos;omega),by rw[hP.one];decide⟩;refine⟨_,rfl,a,P',rfl,hA,⋯,λhs H1 g1=>?_,λhb H1 g1=>q2 hb H1 g1⟩;refine⟨cB _,λlr hlr=>?_⟩;obtain⟨H2,uu,g2,h2⟩:=nw hlr (.lst []);rw[uu];have gk:=g1.trans g2;have VN:H lr=none:=g1.free hlr;refine⟨_,rfl,?_⟩;refine⟨_,rfl,a,P',rfl,gk _ _ hA,⋯,hx1,hs,λlc H3 g3 h3 hcl=>?_⟩;refine⟨lc,rfl,.inl ⟨⟨_,au.of h3⟩,?_⟩⟩;have h23:=g3 _ _ h2;have oM:=gk.trans g3;have b0:∀z∈P',Rm.Bd 20 z:=λz hz=>by
   have:=hs z hz;exact Rm.Bd.of ⋯ ⋯
  have hcm:∀z∈Pm.cands P',Rm.Bd 40 z:=aqu hs;refine xY (xs:=(Pm.cands P').map V.int) (λi σ' H'=>∃(o3 o4:Option V) (tl:Addr) (L:List Int) (rs:List (List Int)) (xs:List V),σ'=[some (.ref a),some (.ref lr),some (.ref tl),o3,o4]/\Same H H'/\H' lc=some (.lst ((Pm.cands P').map V.int))/\H' lr=some (.lst xs)/\cP H' xs rs/\H' tl=some (.tup (L.map V.int))/\Pm.Mon L/\L.length<=P'.length/\(∀z∈L,Rm.Bd (20+(P'.length-L.length)*1640) z)/\xs.length<=i/\Pm.oV ((Pm.cands P').drop i) rs L=Pm.wr P')
   ⟨_,_,a,P',[],[],rfl,oM,h3,h23,.nil,oM _ _ hA,hP,aN _,λz hz=>(b0 z hz).mono ⋯,aN _,rfl⟩ (λi σ' H' ⟨_,_,_,_,_,_,_,_,z,_⟩=>au.of z) ?_ ?_
  .rintro i x σ' H4 hx ⟨o3,o4,tl,L,rs,xs,rfl,g4,hc4,OG,qP,D7,Ao,hle,ED,hxl,hw⟩;obtain⟨rfl,hi⟩:=Fe hx;obtain⟨c,hcd⟩:∃c,c=Pm.co (Pm.cands P') i:=⟨_,rfl⟩;rw[<-hcd];have hcB:Rm.Bd 40 c:=hcm c (hcd▸Pm.ux hi);have ed:(Pm.cands P').drop i=c::(Pm.cands P').drop (i+1):=by
    rw[hcd,List.drop_eq_getElem_cons hi,<-Pm.jf hi]
   rw[ed,Pm.oV]at hw;have hu:20+(P'.length-L.length)*1640+L.length*1640<=200000:=by
    have:(P'.length-L.length)*1640+L.length*1640<=13*1640:=by rw[<-yI];exact qe _ ⋯
    omega
   have hok:=Pm.agy hcB L.length (u:=20+(P'.length-L.length)*1640) Ao ⋯ ED;refine⟨_,rfl,_,rfl,tl,c,L,20+(P'.length-L.length)*1640,rfl,D7,⋯,Ao,hcB,ED,hu,λt tl' H5 g5 ht htl=>?_⟩;generalize ho:Pm.outF L.length L c=oo at hw hok ht htl;obtain⟨o1,o2⟩:=oo;obtain⟨ok1,ok2,ok3⟩:=hok;replace ok2:o2.length+o1=L.length:=ok2;have Ju:=g5 _ _ OG;refine⟨_,rfl,_,_,.inr (aA.of ht),rfl,_,_,rfl,rfl,_,rfl,?_⟩;have ay6:∀b ts,H5 b=some (HO.tup ts)->b≠lr:=λb ts e z=>by rw[z,Ju]at e;cases e
   refine dR (λcc=>?_) (λcc=>?_)
   .have c':0<o1:=by have:=dec_true cc;omega
    rw[if_pos c']at hw;refine⟨_,rfl,.inl ⟨rfl,_,au.of Ju⟩,_,rfl,_,rfl,_,_,.inr (aA.of ht),rfl,(by show 2<=sizeLine;decide),λtp htp=>?_⟩;obtain⟨H6,uu,g6,h6⟩:=nw htp (.tup [.int c,.int (o1:Int)]);rw[uu];have DL:=g6 _ _ Ju;have CF:=g6 _ _ ht;have U0:=g6 _ _ htl;have hc6:=g6 _ _ (g5 _ _ hc4);have KC:=(qP.same g5).same g6;have GN:=g4.trans (g5.trans g6);have hlc:lc≠lr:=λz=>by
     rw[z,h23]at h3;have e1:(Pm.cands P').map V.int=[]:=by injection h3 with h3;injection h3 with h3;exact h3.symm
     have e2:=congrArg sZ e1;rw[aB]at e2;simp at e2;rw[e2]at hi;exact absurd hi (by simp)
    refine⟨lr,_,_,rfl,rfl,DL,(qw hxl (jo hi (fY hcl ∅))),?_⟩;have hT7:cP (upd H6 lr (.lst (xs++[.ref tp]))) (xs++[.ref tp]) (rs++[[c,(o1:Int)]]):=cP.append (KC.set DL) (.cons (by rw[bF (λz=>by rw[z,DL]at h6;cases h6)];exact h6) .nil);refine⟨_,rfl,_,_,.inr (aA.of (by rw[bF (λz=>by rw[z,DL]at CF;cases CF)];exact CF)),rfl,?_⟩;refine⟨some (.int c),some (.ref t),tl',o2,rs++[[c,(o1:Int)]],xs++[.ref tp],rfl,GN.upd VN _,(by rw[bF hlc];exact hc6),aC,hT7,(by rw[bF (λz=>by rw[z,DL]at U0;cases U0)];exact U0),ok1,⋯,λz hz=>(ok3 z hz).mono ?_,by rw[dW];show xs.length+1<=_;omega,hw⟩;have:o1*1640+(P'.length-L.length)*1640=(P'.length-o2.length)*1640:=by rw[<-yI];congr 1;omega
    omega
   .have c':¬0<o1:=by have:=dec_false cc;omega
    rw[if_neg c']at hw;exact⟨some (.int c),some (.ref t),tl,L,rs,xs,rfl,g4.trans g5,g5 _ _ hc4,Ju,qP.same g5,g5 _ _ D7,Ao,hle,ED,⋯,hw⟩
  .rintro σ' H4 ⟨o3,o4,tl,L,rs,xs,rfl,g4,hc4,OG,qP,D7,Ao,hle,ED,hxl,hw⟩;rw[aB,List.drop_length,Pm.oV]at hw;refine⟨_,rfl,_,rfl,(by show 2<=sizeLine;decide),λtz tH=>?_⟩;have gz:=Same.new tH (.tup [.ref lr,.ref tl]);refine q1 hs tz lr tl xs _ (g4.trans gz) aC (gz _ _ OG) VN ?_ ?_
   .rw[<-hw];exact qP.same gz
   .rw[<-hw];exact gz _ _ D7
theorem aqZ(F:Fn K mg "refuse_prime" QZ ["row"]):acI P w K mg base fu:=by
 refine F.J4 asn (λvs H Q E h=>?_) (λ_ _ _ _ _ H _ Q E hr h=>?_)
 .obtain⟨v,r,rfl,_⟩:=h;rfl
 .obtain⟨v,r,rfl,⟨a,p,p2,rfl,hA,hR,hS⟩,q1,q2⟩:=h;refine⟨_,(aD (eZ (cU (nT K hr) (aO K (pv 0) aq) aq) (aD (aaP M.aoe rfl (eY Ea aj))) fB)),?_⟩;refine⟨_,rfl,_,_,.inr (aA.of hA),rfl,_,rfl,?_⟩;refine dR (λc=>⟨(by show 1<=sizeLine;decide),q2 λz=>?_⟩) (λc=>q1 ?_)
  .rw[z]at c;exact absurd c ∅
  .by_cases z:r.b=0
   .exact z
   .exact absurd (by rw[decide_eq_false z];rfl) c
theorem axe(F:Fn K mg "power" M9 ["number","exponent"]):Xz P w K mg base:=by
 refine F.cal JC (λvs H Q E h=>?_) (λ_ _ _ _ _ H _ Q E hr h=>?_)
 .obtain⟨a,e,u,rfl,_⟩:=h;rfl
 .obtain⟨a,e,u,rfl,e0,e1,hb,hu,q⟩:=h;refine⟨_,(ao (aF 2 JC.nd aq) (ao (gb PassesOwn.never rfl (iz rfl B.gC (ak (pv 1) aj)) (bD 3 JC.nd) (aD (aF 2 JC.nd (aK v_mul (pv 2) (pv 0))))) (aD (bh (pv 2))))),?_⟩;refine⟨_,rfl,e,rfl,(⋯:-(2^62)<=e),(⋯:e<2^62),?_⟩;refine kY (lo:=0) (n:=e.toNat) (λi σ' H'=>∃o,σ'=[some (.int a),some (.int e),some (.int (a^i)),o]/\H=H') ⟨_,by rw[tK];rfl,rfl⟩ ?_ ?_
  .rintro i σ' H' hi ⟨o,rfl,rfl⟩;exact⟨_,rfl,_,rfl,atP hb hu ⋯,some (.int (0+(i:Int))),by rw[jj];rfl,rfl⟩
  .rintro σ' H' ⟨o,rfl,rfl⟩;exact⟨_,rfl,q⟩
theorem ap5(F:Fn K mg "form_line" PK ["roots","n"])(EV:Xz P w K mg base):acV P w K mg base:=by
 refine F.cal Ma (λvs H Q E h=>?_) (λ_ _ _ _ _ H _ Q E hr h=>?_)
 .obtain⟨lr,n,xs,l,rfl,_⟩:=h;rfl
 .obtain⟨lr,n,xs,l,rfl,hR,hT,n0,n1,hl,hb,q⟩:=h;refine⟨_,(ao (aF 2 Ma.nd (gK aj)) (ao (gb PassesOwn.never rfl (fD K (pv 0)) (HY (i:=3) Ma.nd rfl (fP rfl)) (aD (lB (amJ K (pv 2) (fZ (sc:=aub) (N:=["j","n","pair"]) (ix:=[none,some 1,some 3]) dY rfl (iz rfl B.gC (aL (aO K (pv 3) aq) aj)) (λcl C s₀ H₀ ex=>⟨(bD 0 dN),eE,(aK v_mul (aJ EV hr (aL (aO K (pv 2) aq) (ak (pv 1) aj))) (aJ EV hr (ak (pv 1) (ak (pv 0) aj))))⟩)))))) (aD (bh (pv 2))))),?_⟩;have lx:=hT.len;rw[aB]at lx;refine⟨cB _,λD hD=>?_⟩;obtain⟨H0,uu,g0,h0⟩:=nw hD (.lst []);rw[uu];refine⟨_,rfl,lr,rfl,.inl ⟨⟨_,au.of (g0 _ _ hR)⟩,?_⟩⟩;refine xY (xs:=xs) (λi σ' H'=>∃o3,σ'=[some (.ref lr),some (.int n),some (.ref D),o3]/\Same H H'/\H' D=some (.lst ((Cf.gQ (l.take i) n.toNat).map V.int))) ⟨_,rfl,g0,h0⟩ (λi σ' H' ⟨_,_,g,_⟩=>au.of (g _ _ hR)) ?_ ?_
  .rintro i x σ' H1 hx ⟨o3,rfl,g1,h1⟩;obtain⟨t,p,rfl,ep,ht⟩:=hT.get hx;obtain⟨⟨r,m⟩,el,rfl⟩:=IY ep;have hm:=hb _ (List.mem_of_getElem? el);have hrb:Rm.Bd 20 r:=hm.1;have azI:m<=10:=hm.2;have ht1:H1 t=some (.tup [.int r,.int (m:Int)]):=g1 _ _ ht;refine⟨_,rfl,.inl ⟨rfl,_,au.of h1⟩,?_⟩;refine⟨_,rfl,_,_,.inr (aA.of ht1),rfl,(m:Int),rfl,(⋯:-(2^62)<=(m:Int)),(⋯:(m:Int)<2^62),?_⟩;rw[d9];refine Dd (n:=m) ⋯ rfl (λj=>r^n.toNat*n^j) ?_ ?_
   .intro H2 k g2 hk kk hkk;refine⟨_,rfl,_,_,.inr (aA.of (g2 _ _ ht1)),rfl,_,rfl,r,n,20,rfl,n0,⋯,hrb,∅,?_⟩;refine⟨_,rfl,_,rfl,n,0+(k:Int),10,rfl,⋯,⋯,Rm.Bd.of ⋯ ⋯,∅,?_⟩;rw[show(0+(k:Int)).toNat=k by omega];refine⟨m9 (Cf.zQ hrb _) (Cf.zQ (n:=10) (Rm.Bd.of ⋯ ⋯) k) ⋯,hkk⟩
   intro D2 hD2;obtain⟨H2,uu,g2,h2⟩:=nw hD2 (.lst ((Pm.aM m λj=>r^n.toNat*n^j).map V.int));rw[uu];have h12:=g2 _ _ h1;have gk:=g1.trans g2;refine⟨D,D2,_,_,rfl,rfl,h12,h2,?_,_,rfl,gk.upd hD _,?_⟩
   .rw[aB,aB,Pm.cj];have:=ajF n.toNat (l:=l.take i) (by rw[jd];omega) λx hx=>hb x (aaA hx);exact gG (dZ ⋯)
   .rw[aC,take_one el,ae2,fW];congr 3;refine congrArg (mX V.int) ?_;show _=((eX m).map λj=>r^n.toNat*((n.toNat:Nat):Int)^j)++[];rw[xg,Int.toNat_of_nonneg n0];rfl
  .rintro σ' H1 ⟨o3,rfl,g1,h1⟩;rw[qY ⋯]at h1;exact⟨_,rfl,q D H1 g1 hD h1⟩
theorem ahQ(F:Fn K mg "parts_of" Oi ["roots","tops"]):ZY P w K mg base:=by
 refine F.cal yW (λvs H Q E h=>?_) (λ_ _ _ _ _ H _ Q E hr h=>?_)
 .obtain⟨lr,lt,xs,l,us,rfl,_⟩:=h;rfl
 .obtain⟨lr,lt,xs,l,us,rfl,hR,hT,hU,lu,hl,q⟩:=h;refine⟨_,(ao (aF 2 yW.nd (gK aj)) (ao (aF 3 yW.nd aq) (ao (gb PassesOwn.never rfl (fD K (pv 0)) (bD 4 yW.nd) (ao (aF 5 yW.nd (pad K (pv 3) (aO K (pv 4) aq))) (ao (lB (ud K (pv 2) (gq (aL (aO K (pv 4) aq) (aL (wG (wU K) (pv 1) (vY (pv 3)) (vY (pv 5))) aj))))) (aD (aF 3 yW.nd (pv 5)))))) (aD (bh (pv 2)))))),?_⟩;have lx:=hT.len;rw[aB]at lx;have lU:(us.map V.int).length=us.length:=aB _;refine⟨cB _,λD hD=>?_⟩;obtain⟨H0,uu,g0,h0⟩:=nw hD (.lst []);rw[uu];refine⟨_,rfl,lr,rfl,.inl ⟨⟨_,au.of (g0 _ _ hR)⟩,?_⟩⟩;refine xY (xs:=xs) (λi σ' H'=>∃o4 o5 ys,σ'=[some (.ref lr),some (.ref lt),some (.ref D),some (.int (Cf.aQ (l.take i):Nat)),o4,o5]/\Same H H'/\H' D=some (.lst ys)/\eG H' [D] ys (Cf.fK (l.take i) us)/\ys.length=i) ⟨_,_,[],rfl,g0,h0,.nil,rfl⟩ (λi σ' H' ⟨_,_,_,_,g,_⟩=>au.of (g _ _ hR)) ?_ ?_
  .rintro i x σ' H1 hx ⟨o4,o5,ys,rfl,g1,h1,hy,ly⟩;obtain⟨t,p,rfl,ep,ht⟩:=hT.get hx;obtain⟨⟨r,m⟩,el,rfl⟩:=IY ep;have hi:i<l.length:=by
    have:=(List.getElem?_eq_some_iff.mp el).1;exact this
   have ht1:H1 t=some (.tup [.int r,.int (m:Int)]):=g1 _ _ ht;have e2:Cf.aQ (l.take (i+1))=Cf.aQ (l.take i)+m:=by rw[take_one el,aa9];rfl
   have e3:=ar4 l (i+1);refine⟨_,rfl,_,rfl,_,_,.inr (aA.of ht1),rfl,?_⟩;refine⟨_,rfl,.inl ⟨rfl,_,au.of h1⟩,?_⟩;refine⟨_,rfl,_,_,.inr (aA.of ht1),rfl,?_⟩;refine⟨_,rfl,_,rfl,_,rfl,_,rfl,_,rfl,.inl ⟨_,au.of (g1 _ _ hU),λa ha=>?_⟩⟩;have ec:iT (us.map V.int) (some ((Cf.aQ (l.take i):Nat):Int)) (some (((Cf.aQ (l.take i):Nat):Int)+(m:Int)))=((us.drop (Cf.aQ (l.take i))).take m).map V.int:=by
    rw[show((Cf.aQ (l.take i):Nat):Int)+(m:Int)=((Cf.aQ (l.take i)+m:Nat):Int)by omega,ajX _ ⋯,show Cf.aQ (l.take i)+m-Cf.aQ (l.take i)=m by omega,wB,List.map_drop]
   rw[ec];obtain⟨H2,uu,g2,h2⟩:=nw ha (.lst (((us.drop (Cf.aQ (l.take i))).take m).map V.int));rw[uu];have na:a≠D:=λz=>by rw[z,h1]at ha;cases ha
   have h12:=g2 _ _ h1;have gk:=g1.trans g2;have hy2:=hy.same g2;refine⟨(by show 2<=sizeLine;decide),λt2 qm=>?_⟩;obtain⟨H3,uu,g3,h3⟩:=nw qm (.tup [.int r,.ref a]);rw[uu];have h13:=g3 _ _ h12;have h23:=g3 _ _ h2;have oM:=gk.trans g3;have hy3:=hy2.same g3;refine⟨D,_,_,rfl,rfl,h13,dZ ⋯,?_⟩;refine⟨_,rfl,?_⟩;refine⟨some (.ref t),some (.int (((Cf.aQ (l.take i):Nat):Int)+(m:Int))),ys++[.ref t2],?_,oM.upd hD _,aC,?_,by rw[dW];show ys.length+1=i+1;omega⟩
   .rw[e2,ac7];rfl
   .rw[take_one el,afR];exact(hy3.append (.cons h3 (λz=>na (eV.mp z)) h23 .nil)).set h13 (eV.mpr rfl)
  .rintro σ' H1 ⟨o4,o5,ys,rfl,g1,h1,hy,ly⟩;rw[qY ⋯]at hy;exact⟨_,rfl,q D ys H1 g1 hD h1 hy⟩
theorem aoA(F:Fn K mg "column_of" R5 ["table","column"]):YZ P w K mg base:=by
 refine F.cal apP (λvs H Q E h=>?_) (λ_ _ _ _ _ H _ Q E hr h=>?_)
 .exact False.elim h
 .exact False.elim h
theorem ato(F:Fn K mg "paper_against" MP ["by","wide","table","wished"])(VX:YZ P w K mg base)(B5:Nq P w K mg base):abw P w K mg base:=by
 refine F.cal ajw (λvs H Q E h=>?_) (λ_ _ _ _ _ H _ Q E hr h=>?_)
 .exact False.elim h
 .exact False.elim h
theorem aye(F:Fn K mg "solved" Ly ["by","wide","table","wished"])(B5:Nq P w K mg base)(Ov:abw P w K mg base):YM P w K mg base:=by
 refine F.cal abv (λvs H Q E h=>?_) (λ_ _ _ _ _ H _ Q E hr h=>?_)
 .obtain⟨u,wide,ta,tw,xs,L,ws,ex,rfl,_⟩:=h;rfl
 .obtain⟨u,wide,ta,tw,xs,L,ws,ex,rfl,hA,hx,hW,lw,lL,hw,cap,BL,bL,bW,hI,q⟩:=h;refine⟨_,(ao (aF 4 abv.nd (aJ B5 hr (ak (pv 0) (ak (pv 1) (ak (pv 2) (ak (pv 3) aj)))))) (ao (eZ (Qn (avD (pv 4))) (aD (bh (gq (eY Ea (aL (aJ Ov hr (ak (pv 0) (ak (pv 1) (ak (pv 2) (ak (pv 3) aj))))) aj))))) fB) (aD (bh (pv 4))))),?_⟩;refine⟨_,rfl,_,rfl,_,rfl,_,rfl,u,wide,ta,tw,xs,L,ws,ex,rfl,hA,hx,hW,⋯,⋯,⋯,by rw[lL];exact cap,BL,bL,bW,by rw[lL];exact Cf.anx hI,by rw[lL];exact hI,λbot us so t lt H' g ht hlt=>?_⟩;rw[lL]at so;refine⟨_,rfl,_,rfl,lD ?_⟩;exact⟨_,rfl,q bot us so t lt H' g ht hlt⟩
theorem aip(F:Fn K mg "closed" QV ["row"])(MX:acI P w K mg base fu)(Qk:adF P w K mg base dM)(zK:Q6 P w K mg base)(U3:acV P w K mg base)(QJ:YM P w K mg base)(Ph:ZY P w K mg base):WV P w K mg base fu dM:=by
 refine F.J4 zq (λvs H Q E h=>?_) (λ_ _ _ _ _ H _ Q E hr h=>?_)
 .obtain⟨v,r,rfl,_⟩:=h;rfl
 .obtain⟨v,r,rfl,hR,h0,ok,tm,hat,hsm,Kw,qn,qf⟩:=h;refine⟨_,(ao (lB (Sv MX hr rfl (ak (pv 0) aj))) (ao (aF 1 zq.nd (Sv Qk hr rfl (aL (aJ zK hr (ak (pv 0) aj)) aj))) (ao (gP (i:=2) zq.nd rfl (fP rfl) (aO K (pv 1) aq)) (ao (eZ (PW.pt (Vo (cU (nT K hr) (aO K (pv 1) aq) (gq (eY aq aj))) (V2 (wY (jF (R3 K rfl) rfl B.Mj boot_any (aL (fZ (sc:=avv) (N:=["pair"]) (ix:=[none]) dY rfl (fD K (pv 2)) (λcl C s₀ H₀ ex=>⟨(bD 0 dN),eE,(yZ (jm K hr) (aO K (pv 0) aq) aq (xO _))⟩)) aj)))))) (aD (bh Vp)) fB) (ao (aF 3 zq.nd (jF (Rq K rfl) rfl B.LZ boot_sum (aL (fZ (sc:=aqw) (N:=["pair"]) (ix:=[none]) dY rfl (fD K (pv 2)) (λcl C s₀ H₀ ex=>⟨(bD 0 dN),eE,(aO K (pv 0) aq)⟩)) aj))) (ao (vN (i:=4) (hN:=zq.nd) (hi':=rfl) (hx:=(oX rfl)) (sc:=auy) (N:=["n","roots"]) (ix:=[none,some 2]) dY rfl (iz rfl B.gC (ak (pv 3) aj)) (λcl C s₀ H₀ ex=>⟨(bD 0 dN),eE,(aJ U3 hr (ak (pv 1) (ak (pv 0) aj)))⟩)) (ao (aF 5 zq.nd (aJ QJ hr (eY aq (ak (pv 3) (ak (pv 4) (aL (kJ (xlist K) rfl B.Jx boot_list (aL (wG (wU K) (aO K (pv 0) aq) Aj (vY (pv 3))) aj)) aj)))))) (aD (bh (gq (aL (aO K (pv 5) aq) (aL (aJ Ph hr (ak (pv 2) (aL (aO K (pv 5) aq) aj))) aj)))))))))))),?_⟩;have hB:oF r.b:=by rw[h0];exact .inl rfl
  refine⟨_,rfl,v,r,rfl,hR,λ_=>?_,λhne=>absurd h0 hne⟩;refine⟨_,rfl,v,r,rfl,hR,ok,hB,tm,λtL L H1 g1 hL lst ll=>?_⟩;rw[h0]at lst;obtain⟨l7,s7⟩:=hsm L lst;refine⟨tL,L,rfl,hL,⋯,lst.mon,λ_ t lr tl xs H2 g2 ht hlr _ hT htl=>?_,λ⟨x,hx,hx2⟩ H2 g2=>absurd (s7 x hx) ⋯⟩;obtain⟨l,w1,w2,w3,w4,w5,w6,w7⟩:=Pm.agu lst.mon;have gk:=g1.trans g2;refine⟨_,rfl,_,_,.inr (aA.of ht),rfl,?_⟩;refine⟨_,rfl,_,_,.inr (aA.of ht),rfl,(by show 1<=sizeLine;decide),λt1 ht1=>?_⟩;have g3:=Same.new ht1 (.tup [.int 1]);refine Hr (ns:=(Pm.wr L).2) (ms:=[1]) (aA.of (g3 _ _ htl)) (aA.of aC) ⟨_,rfl,?_⟩;by_cases c:(Pm.wr L).2=[1];case neg=>
   rw[decide_eq_false c];refine qZ ?_;exact qn L lst (.inl c) _ (gk.trans g3)
  rw[decide_eq_true c];refine lD ?_;have Iw:=g3 _ _ hlr;have Cg:=hT.same g3;have oM:=gk.trans g3;generalize upd H2 t1 (.tup [.int 1])=H3 at g3 Iw Cg oM;rw[c]at w2;rw[w1]at Cg;have hlen:(Pm.RP l [1]).length=Cf.aQ l+1:=(Cf.uZ l).2;have hN:Cf.aQ l<=10:=by rw[<-w2]at hlen;omega
  have Bo:=acz w5;have Uw:=Cg.len;rw[aB]at Uw;have two:∀{c:List Int},c∈l.map Pm.gw->∃x∈l,c=[x.1,(x.2:Int)]:=λ{c} hc=>by
   obtain⟨x,hx,rfl⟩:=bZ.mp hc;exact⟨x,hx,rfl⟩
  refine⟨_,rfl,lr,rfl,.inl ⟨⟨_,au.of Iw⟩,?_⟩⟩;refine ai7 Iw Cg (gG (dZ ⋯)) rfl (λx=>decide (x.headD 0=0)) ?_ ?_
  .intro H4 tt cc g4 hcc htt k hk;obtain⟨x,_,rfl⟩:=two hcc;exact⟨_,rfl,_,_,.inr (aA.of htt),rfl,hk⟩
  intro D hD;have g4:=Same.new hD (.lst (((l.map Pm.gw).map λx=>decide (x.headD 0=0)).map V.bl));refine⟨D,_,rfl,au.of aC,_,rfl,?_⟩;by_cases c2:((l.map Pm.gw).map λx=>decide (x.headD 0=0)).any id=true
  .rw[c2];refine qZ ?_;refine qn L lst (.inr ?_) _ (oM.trans g4);obtain⟨b,hb,e⟩:=tX.mp c2;obtain⟨x,hx,rfl⟩:=bZ.mp hb;exact⟨x,by rw[w1];exact hx,of_decide_eq_true e⟩
  have c2':((l.map Pm.gw).map λx=>decide (x.headD 0=0)).any id=false:=by
   cases e:((l.map Pm.gw).map λx=>decide (x.headD 0=0)).any id with
   |false=>rfl
   |true=>exact absurd e c2
  rw[c2'];refine lD ?_;have hne:∀x∈l,x.1≠0:=λx hx z=>c2 (tX.mpr ⟨true,bZ.mpr ⟨Pm.gw x,iJ hx,decide_eq_true z⟩,rfl⟩);have hrb:=au3 s7 w7;have Gy:=g4 _ _ Iw;have qP:=Cg.same g4;have yR:=oM.trans g4;generalize upd H3 D (.lst (((l.map Pm.gw).map λx=>decide (x.headD 0=0)).map V.bl))=H4 at g4 Gy qP yR;refine⟨_,rfl,lr,rfl,.inl ⟨⟨_,au.of Gy⟩,?_⟩⟩;refine amz Gy qP (gG (dZ ⋯)) rfl (λx=>x.getD 1 0) ?_ ?_
  .intro H5 tt cc g5 hcc htt k hk;obtain⟨x,_,rfl⟩:=two hcc;exact⟨_,rfl,_,_,.inr (aA.of htt),rfl,hk⟩
  intro D2 hD2;obtain⟨H5,uu,g5,h5⟩:=nw hD2 (.lst (((l.map Pm.gw).map λx=>x.getD 1 0).map V.int));rw[uu];have aeu:=g5 _ _ Gy;have hT5:=qP.same g5;have PN:=yR.trans g5;have es:=aqW l;refine⟨D2,_,rfl,au.of h5,?_⟩;rw[es];refine⟨_,rfl,(Cf.aQ l:Int),rfl,(⋯:-(2^62)<=((Cf.aQ l:Nat):Int)),(⋯:((Cf.aQ l:Nat):Int)<2^62),?_⟩;rw[d9];refine XM yK (by rw[aB,mK];omega) rfl (E8 λi=>Cf.gQ l i) ?_ ?_
  .intro H6 x g6 hx k hk;obtain⟨j,hj,rfl⟩:=bZ.mp hx;have hj':=iV.mp hj;refine⟨_,rfl,_,rfl,lr,0+(j:Int),xs,l,rfl,g6 _ _ aeu,hT5.same g6,⋯,⋯,⋯,λx hx=>⟨hrb x hx,?_⟩,λD3 H7 g7 hn7 h7=>hk D3 H7 g7 hn7 h7⟩;have:=afd hx;omega
  intro D3 ys H6 hD3 g6 h6 hy;have et:((eX (Cf.aQ l)).map λi=>V.int (0+(i:Nat))).map (E8 λi=>Cf.gQ l i)=Cf.qJ l:=by
   rw[cR];refine lG λi _=>?_;show Cf.gQ l (0+(i:Int)).toNat=_;rw[show(0+(i:Int)).toNat=i by omega]
  rw[et]at hy;have GN:=PN.trans g6;obtain⟨xa,xp,xq,rfl,hxA,hxR,K3⟩:=hR.same GN;have lS:(r.starts.map V.int).length=r.rule.length:=by rw[aB];exact ok.len.symm
  have hLr:Cf.aQ l<=r.starts.length:=by
   rw[<-w2]at hlen;have:=ok.len;omega
  have Ra:(r.starts.take (Cf.aQ l)).length=Cf.aQ l:=by rw[jd];omega
  have hco:∀n,n<Cf.aQ l->Pm.co (r.starts.take (Cf.aQ l)) n=r.at n:=λn hn=>by
   have e:r.at n=r.starts.getD n 0:=Rm.tG ⋯;rw[e];unfold Pm.co;rw[List.getD_eq_getElem?_getD,List.getElem?_take,if_pos hn,<-List.getD_eq_getElem?_getD]
  have hd:=Cf.qW w4;have hI:=Cf.aoH (ws:=r.starts.take (Cf.aQ l)) hd hne;have hSz:Dm.zf (Cf.aQ l) 190:=⟨∅,by
   have:(Cf.aQ l+1)*(190+(Cf.aQ l+1))<=11*201:=gU ⋯ ⋯;omega⟩
  have hcap:Sg 0 (Cf.aQ l) (Cf.aQ l+1) 190 (Dm.aug 0 (Cf.qJ l) (r.starts.take (Cf.aQ l))):=⟨∅,avM (.inl rfl) (l:=10) (λc A hd r L last hc I=>by have:=I.rn;omega) ∅⟩;have bL:∀p∈Cf.qJ l,∀x∈p,Rm.Bd 190 x:=λp hp=>by
   obtain⟨n,hn,rfl⟩:=bZ.mp hp;have:=iV.mp hn;exactλx hx=>(ayk ⋯ (λx hx=>(Kw L l lst w2 w5 x hx).1) (λx hx=>(Kw L l lst w2 w5 x hx).2) x hx).mono ∅
  have bW:∀x∈r.starts.take (Cf.aQ l),Rm.Bd 190 x:=λx hx=>by
   obtain⟨n,hn,e⟩:=jA.mp hx;rw[Ra]at hn;have:=hco n hn;rw[Pm.jf (by rw[Ra];exact hn),e]at this;rw[this];exact(hat n ⋯).mono ∅
  have fin:∀(H7:Hp) (lw:Addr) (Q7:VK) (E7:XK),Same H6 H7->H7 lw=some (.lst ((r.starts.take (Cf.aQ l)).map V.int))->(∀bot us,Form r.at L l bot us->∀t lt H8,Same H7 H8->H8 t=some (.tup [.str ("one" : Str),.int bot,.ref lt])->H8 lt=some (.lst (us.map V.int))->Q7 (.ref t) H8)->agV [.int 0,.int ((Cf.aQ l:Nat):Int),.ref D3,.ref lw] H7 Q7 E7:=λH7 lw Q7 E7 g7 hlw hq=>by
   refine⟨190,Cf.aQ l,D3,lw,ys,Cf.qJ l,r.starts.take (Cf.aQ l),[D3],rfl,g7 _ _ h6,hy.same g7,hlw,Ra,Cf.GQ l,⋯,hcap,λi hi=>?_,bL,bW,hI,λbot us so t lt H8 g8 ht hlt=>hq bot us ?_ t lt H8 g8 ht hlt⟩
   .rw[Cf.GQ]at hi;rw[Cf.Kr hi];exact Cf.Aq l i
   .have k:=so.ok (.inl rfl);obtain⟨b1,b2⟩:=so.bd (.inl rfl) hSz;refine⟨lst,Kq w1 c,w2,w4,w5,hne,hrb,hN,k.len,k.pos,k.ze rfl,λn=>?_,b1,b2⟩;exact Cf.alY (Cf.uZ l).1 (Cf.uZ l).2 k.len (λn=>by have:=lst.kp n;rwa [w2,Rm.aY]at this) (Cf.apy k.len hco k.sums) n
  have fin2:∀(H8:Hp) (t lt:Addr) (bot:Int) (us:List Int),Form r.at L l bot us->Same H6 H8->H8 t=some (.tup [.str ("one" : Str),.int bot,.ref lt])->H8 lt=some (.lst (us.map V.int))->∀lp yp H9,Same H8 H9->H9 lp=some (.lst yp)->eG H9 [lp] yp (Cf.fK l us)->∀tz,H9 tz=none->Q (.ref tz) (upd H9 tz (.tup [.int bot,.ref lp])):=λH8 t lt bot us F g8 ht hlt lp yp H9 g9 hlp hp tz tH=>by
   have gz:=Same.new tH (.tup [.int bot,.ref lp]);exact qf L l bot us F tz lp yp [lp] _ (GN.trans (g8.trans (g9.trans gz))) aC (gz _ _ hlp) (hp.same gz)
  have ab3:=g6 _ _ aeu;have KC:=hT5.same g6;refine⟨_,rfl,_,rfl,_,rfl,_,_,.inr (aA.of hxA),rfl,_,rfl,_,rfl,?_⟩;by_cases hw:r.starts.length<=Cf.aQ l
  .refine .inr (.inr ⟨_,aA.of K3,?_,?_⟩)
   .rw[HT.qI,HT.rA,aB];omega
   refine⟨xq,_,rfl,.inr (aA.of K3),λl8 CV=>?_⟩;have g8:=Same.new CV (.lst (r.starts.map V.int));refine fin _ l8 _ _ g8 (by rw[aC,qY hw]) λbot us F ta lt H9 g9 wX hlt=>?_;refine⟨_,rfl,_,_,.inr (aA.of wX),rfl,_,rfl,_,rfl,_,_,.inr (aA.of wX),rfl,lr,lt,xs,l,us,rfl,g9 _ _ (g8 _ _ ab3),(KC.same g8).same g9,hlt,F.len,⋯,λlp yp wD rH _ hlp hp=>?_⟩;exact⟨(by show 2<=sizeLine;decide),λtz tH=>fin2 H9 ta lt bot us F (g8.trans g9) wX hlt lp yp wD rH hlp hp tz tH⟩
  .refine .inr (.inl ⟨_,aA.of K3,?_,λp3 hp3=>?_⟩)
   .rw[HT.qI,HT.rA,aB];omega
   rw[Kd,<-wB];have g7:=Same.new hp3 (.tup ((r.starts.take (Cf.aQ l)).map V.int));refine⟨p3,_,rfl,.inr (aA.of aC),λl8 CV=>?_⟩;have g8:=Same.new CV (.lst ((r.starts.take (Cf.aQ l)).map V.int));have Gp:=g7.trans g8;refine fin _ l8 _ _ Gp aC λbot us F ta lt H9 g9 wX hlt=>?_;refine⟨_,rfl,_,_,.inr (aA.of wX),rfl,_,rfl,_,rfl,_,_,.inr (aA.of wX),rfl,lr,lt,xs,l,us,rfl,g9 _ _ (Gp _ _ ab3),(KC.same Gp).same g9,hlt,F.len,⋯,λlp yp wD rH _ hlp hp=>?_⟩;exact⟨(by show 2<=sizeLine;decide),λtz tH=>fin2 H9 ta lt bot us F (Gp.trans g9) wX hlt lp yp wD rH hlp hp tz tH⟩
theorem axA(F:Fn K mg "shared_by" M7 ["one","other"]):ado P w K mg base:=by
 refine F.cal aoI (λvs H Q E h=>?_) (λ_ _ _ _ _ H _ Q E hr h=>?_)
 .obtain⟨v1,v2,r1,r2,rfl,_⟩:=h;rfl
 .obtain⟨v1,v2,r1,r2,rfl,⟨a1,p1,q1,rfl,Bu,_,_⟩,⟨a2,p2,q2,rfl,JV,_,_⟩,e,q⟩:=h;refine⟨_,(ao (eZ (cU (nT K hr) (aO K (pv 0) aq) (aO K (pv 1) aq)) (aD Gk) fB) (aD (bh (aO K (pv 0) aq)))),?_⟩;refine⟨_,rfl,_,_,.inr (aA.of Bu),rfl,_,rfl,_,_,.inr (aA.of JV),rfl,_,rfl,?_⟩;rw[decide_eq_true e];refine lD ?_;exact⟨_,rfl,_,_,.inr (aA.of Bu),rfl,q⟩
theorem atm(F:Fn K mg "told_row" Rk ["by","rule","starts"])(cM:j9 P w K mg base)(xX:K2 P w K mg base):Ri P w K mg base:=by
 refine F.cal RN (λvs H Q E h=>?_) (λ_ _ _ _ _ H _ Q E hr h=>?_)
 .obtain⟨a,e,ns,ms,d,c,rfl,_⟩:=h;rfl
 .obtain⟨a,e,ns,ms,d,c,rfl,hA,hC,qK,q⟩:=h;have zn:ns.length<=1000:=by have:=qK.short;have:=qK.uI;show ns.length<=1000;exact fY qK.short ⋯
  have zm:ms.length<=1000:=by have:ns.length=ms.length:=qK.len;omega
  refine⟨_,(ao (aF 3 RN.nd (kJ (pq K) rfl B.oN boot_tuple (aL (fZ (sc:=alz) (N:=["number","by"]) (ix:=[none,some 0]) dY rfl (fD K (pv 1)) (λcl C s₀ H₀ ex=>⟨(bD 0 dN),eE,(aJ cM hr (ak (pv 1) (ak (pv 0) aj)))⟩)) aj))) (ao (aF 4 RN.nd (kJ (pq K) rfl B.oN boot_tuple (aL (fZ (sc:=apq) (N:=["number","by"]) (ix:=[none,some 0]) dY rfl (fD K (pv 2)) (λcl C s₀ H₀ ex=>⟨(bD 0 dN),eE,(aJ cM hr (ak (pv 1) (ak (pv 0) aj)))⟩)) aj))) (aD (bh (aJ xX hr (Dj (gq (ak (pv 0) (ak (pv 3) (ak (pv 4) aj)))) aj)))))),?_⟩;refine⟨_,rfl,a,rfl,.inr ⟨⟨_,aA.of hA⟩,Bm hA zn rfl (λx=>x) ?_ ?_⟩⟩
  .intro H2 x g2 hx kk hkk;exact⟨_,rfl,_,rfl,0,x,rfl,∅,by rw[Rm.aY];exact hkk⟩
  intro D hD;rw[xK];have gD:=Same.new hD (.lst (ns.map V.int));refine⟨D,_,rfl,.inl ⟨au.of aC,λt1 ht1=>?_⟩⟩;have g1:=Same.new ht1 (.tup (ns.map V.int));have h1:(upd (upd H D (.lst (ns.map V.int))) t1 (.tup (ns.map V.int))) t1=some (.tup (ns.map V.int)):=aC;have MZ:=gD.trans g1;generalize upd (upd H D (.lst (ns.map V.int))) t1 (.tup (ns.map V.int))=H1 at MZ h1;have Cy:=MZ _ _ hC;refine⟨_,rfl,e,rfl,.inl ⟨⟨_,au.of Cy⟩,uK Cy zm rfl (λx=>x) ?_ ?_⟩⟩
  .intro H2 x g2 hx kk hkk;exact⟨_,rfl,_,rfl,0,x,rfl,∅,by rw[Rm.aY];exact hkk⟩
  intro D2 hD2;rw[xK];have gD2:=Same.new hD2 (.lst (ms.map V.int));refine⟨D2,_,rfl,.inl ⟨au.of aC,λt2 qm=>?_⟩⟩;have g2:=Same.new qm (.tup (ms.map V.int));have h2:(upd (upd H1 D2 (.lst (ms.map V.int))) t2 (.tup (ms.map V.int))) t2=some (.tup (ms.map V.int)):=aC;have Oo:=gD2.trans g2;have h12:=Oo _ _ h1;generalize upd (upd H1 D2 (.lst (ms.map V.int))) t2 (.tup (ms.map V.int))=H2 at Oo h2 h12;refine⟨_,rfl,_,rfl,_,rfl,(by show 3<=sizeLine;decide),λt3 ht3=>?_⟩;have g3:=Same.new ht3 (.tup [.int 0,.ref t1,.ref t2]);refine⟨.ref t3,⟨0,ns,ms⟩,rfl,⟨t3,t1,t2,rfl,aC,g3 _ _ h12,g3 _ _ h2⟩,qK.ok,.inl rfl,qK.tame,λv' L H4 g4 hR lst ll=>?_⟩;obtain⟨k1,k2⟩:=qK.sh lst ll;exact q v' _ H4 (MZ.trans (Oo.trans (g3.trans g4))) hR k1 k2
theorem an5(F:Fn K mg "refuse_long" Rj ["length"]):YC P w K mg base:=by
 refine F.cal atU (λvs H Q E h=>?_) (λ_ _ _ _ _ H _ Q E hr h=>?_)
 .obtain⟨n,rfl,_⟩:=h;rfl
 .obtain⟨n,rfl,hn,q⟩:=h;refine⟨_,(aD (eZ (cU tu (pv 0) (Vm rfl B.Pb)) (aD Gk) fB)),?_⟩;refine⟨_,rfl,_,_,rfl,rfl,_,rfl,?_⟩;rw[decide_eq_false (⋯:¬(12:Int)<n)];exact lD q
theorem ah8(F:Fn K mg "sum_place" SN ["ours","theirs","n"]):M8 P w K mg base:=by
 refine F.cal ail (λvs H Q E h=>?_) (λ_ _ _ _ _ H _ Q E hr h=>?_)
 .obtain⟨l1,l2,m,a,c,n,rfl,_⟩:=h;rfl
 .obtain⟨l1,l2,m,a,c,n,rfl,h1,h2,hn,q⟩:=h;refine⟨_,(aD (bh (pad K (aO K (pv 0) (pv 2)) (aO K (pv 1) (pv 2))))),?_⟩;exact⟨_,rfl,_,rfl,_,_,.inl (au.of h1),aef hn,_,rfl,_,rfl,_,_,.inl (au.of h2),aef hn,q _ (Same.refl _)⟩
theorem amX(F:Fn K mg "pair_row" R9 ["one","other","rule","pair_place"])(Fz:afi P w K mg base)(Aw:Ri P w K mg base)(Ak:M8 P w K mg base):V6 P w K mg base:=by
 refine F.cal G9 (λvs H Q E h=>?_) (λ_ _ _ _ _ H _ Q E hr h=>?_)
 .obtain⟨v1,v2,t,g,r1,r2,ns,d,c,rfl,_⟩:=h;rfl
 .obtain⟨v1,v2,t,g,r1,r2,ns,d,c,rfl,hg,pG,mY,ok1,ok2,eb,hT,qK,q⟩:=h;refine⟨_,(ao (aF 4 G9.nd (cG K B.cH (ak (pv 2) aj))) (ao (gP (i:=5) G9.nd rfl (fP rfl) (aJ Fz hr (ak (pv 0) (ak (pv 4) aj)))) (ao (gP (i:=6) G9.nd rfl (fP rfl) (aJ Fz hr (ak (pv 1) (ak (pv 4) aj)))) (aD (bh (aJ Aw hr (aL (aO K (pv 0) aq) (ak (pv 2) (aL (fZ (sc:=am7) (N:=["n","ours","pair_place","theirs"]) (ix:=[none,some 5,some 3,some 6]) dY rfl (iz rfl B.gC (ak (pv 4) aj)) (λcl C s₀ H₀ ex=>⟨(bD 0 dN),eE,(auQ Ak hr (pv 2) (ak (pv 1) (ak (pv 3) (ak (pv 0) aj))))⟩)) aj))))))))),?_⟩;have n12:ns.length<=10:=fY qK.short qK.uI;have lT:(ns.map V.int).length=ns.length:=aB _;refine⟨_,rfl,.ref t,ns.length,rfl,.inr ⟨_,aA.of hT,lT.symm⟩,?_⟩;refine⟨_,rfl,_,rfl,v1,r1,(ns.length:Int),rfl,pG,ok1,⋯,⋯,λl1 H1 g1 f1 h1=>?_⟩;rw[d9,af9]at h1;refine⟨_,rfl,_,rfl,v2,r2,(ns.length:Int),rfl,mY.same g1,ok2,⋯,⋯,λl2 H2 g2 f2 h2=>?_⟩;rw[d9,af9]at h2;have gk:=g1.trans g2;obtain⟨a1,p1,q1,rfl,Bu,Ui,hS1⟩:=id (pG.same gk);have h12:=g2 _ _ h1;rw[eb]at Bu;refine⟨_,rfl,_,_,.inr (aA.of Bu),rfl,_,rfl,_,rfl,(ns.length:Int),rfl,(⋯:-(2^62)<=(ns.length:Int)),(⋯:(ns.length:Int)<2^62),?_⟩;rw[d9];refine aiF (n:=ns.length) ⋯ rfl (λn=>r1.at n+r2.at n) ?_ ?_
  .intro H8 k g8 hk kk hkk;exact⟨_,rfl,⟨g,hg,rfl⟩,_,rfl,_,rfl,_,rfl,l1,l2,ns.length,r1.at,r2.at,k,by rw[ig],g8 _ _ h12,g8 _ _ h2,hk,hkk⟩
  .intro D H8 hD g8 h8;exact⟨t,D,ns,_,d,c,rfl,(gk.trans g8) _ _ hT,h8,qK,λv' r' H' g' hR' hT' e'=>q v' r' H' (gk.trans (g8.trans g')) hR' hT' e'⟩
theorem aml(F:Fn K mg "joint_row" Ot ["one","other","pair_place"])(Ow:ado P w K mg base)(xX:K2 P w K mg base)(Tt:YC P w K mg base)(Tj:Xr P w K mg base)(wJ:Ld P w K mg base)(SV:V6 P w K mg base)(Am:Rp P w K mg base):aeQ P w K mg base:=by
 refine F.cal Bf (λvs H Q E h=>?_) (λ_ _ _ _ _ H _ Q E hr h=>?_)
 .obtain⟨v1,v2,g,rfl,_⟩:=h;rfl
 .obtain⟨v1,v2,g,rfl,hg,r1,r2,c,pG,mY,M1,M2,hc,q⟩:=h;refine⟨_,(ao (aF 3 Bf.nd (aJ Ow hr (ak (pv 0) (ak (pv 1) aj)))) (ao (aF 4 Bf.nd (aJ xX hr (ak (pv 0) aj))) (ao (aF 5 Bf.nd (aJ xX hr (ak (pv 1) aj))) (ao (lB (aJ Tt hr (fH (pad K (cG K B.cH (aL (aO K (pv 4) aq) aj)) (cG K B.cH (aL (aO K (pv 5) aq) aj))) aj))) (ao (aF 6 Bf.nd (aJ Tj hr (ak (pv 3) (aL (aJ wJ hr (ak (pv 3) (aL (aO K (pv 4) aq) aj))) (aL (aJ wJ hr (ak (pv 3) (aL (aO K (pv 5) aq) aj))) aj))))) (aD (bh (aJ SV hr (ak (pv 4) (ak (pv 5) (aL (aJ Am hr (ak (pv 3) (ak (pv 6) aj))) (ak (pv 2) aj)))))))))))),?_⟩;have e1:=M1.by_;have e2:=M2.by_;refine⟨_,rfl,_,rfl,v1,v2,r1,r2,rfl,pG,mY,by rw[e1,e2],?_⟩;rw[e1];refine⟨_,rfl,v1,r1,rfl,pG,M1.ok,by rw[e1];exact .inl rfl,M1.tame,λx1 L1 H1 g1 hS1 uY ll1=>?_⟩;refine⟨_,rfl,v2,r2,rfl,mY.same g1,M2.ok,by rw[e2];exact .inl rfl,M2.tame,λx2 L2 H2 g2 hS2 v9 ll2=>?_⟩;rw[e1]at uY;rw[e2]at v9;obtain⟨N1,ea1⟩:=M1.sh uY ll1;obtain⟨N2,ea2⟩:=M2.sh v9 ll2;have eP1:Pm.aV 0 (iC r1 L1).rule=L1:=by
   show Pm.aV 0 (Pm.fL r1.b L1)=L1;rw[e1];exact Pm.CW uY.nu uY.mon
  have eP2:Pm.aV 0 (iC r2 L2).rule=L2:=by
   show Pm.aV 0 (Pm.fL r2.b L2)=L2;rw[e2];exact Pm.CW v9.nu v9.mon
  have acF:=hS1.same g2;obtain⟨a1,p1,t1,rfl,Cy,Ui,hT1⟩:=id acF;obtain⟨a2,p2,t2,rfl,hC2,hP2,hT2⟩:=id hS2;have s1:(iC r1 L1).rule.length<=5:=N1.short;have s2:(iC r2 L2).rule.length<=5:=N2.short;have lS1:((iC r1 L1).rule.map V.int).length=(iC r1 L1).rule.length:=aB _;have lS2:((iC r2 L2).rule.map V.int).length=(iC r2 L2).rule.length:=aB _;refine⟨_,rfl,_,_,.inr (aA.of Cy),rfl,.ref p1,(iC r1 L1).rule.length,rfl,.inr ⟨_,aA.of Ui,lS1.symm⟩,_,rfl,_,_,.inr (aA.of hC2),rfl,.ref p2,(iC r2 L2).rule.length,rfl,.inr ⟨_,aA.of hP2,lS2.symm⟩,?_⟩;refine⟨((iC r1 L1).rule.length:Int)+((iC r2 L2).rule.length:Int),rfl,⋯,?_⟩;refine⟨_,rfl,_,rfl,_,rfl,_,_,.inr (aA.of Cy),rfl,0,p1,(iC r1 L1).rule,rfl,∅,Ui,⋯,λt3 H3 g3 h3=>?_⟩;refine⟨_,rfl,_,rfl,_,_,.inr (aA.of (g3 _ _ hC2)),rfl,0,p2,(iC r2 L2).rule,rfl,∅,g3 _ _ hP2,⋯,λt4 H4 g4 h4=>?_⟩;rw[eP1]at h3;rw[eP2]at h4;obtain⟨q1,b1⟩:=M1.small uY;obtain⟨q2,b2⟩:=M2.small v9;have B:∀{L:List Int},(∀x∈L,x.natAbs<1000000)->∀x∈L,Rm.Bd 1000000 x:=λh x hx=>(show Rm.Bd 20 x from uG (h x hx) ∅).mono ∅;refine⟨0,t3,t4,L1,L2,rfl,∅,g4 _ _ h3,h4,⋯,⋯,B b1,B b2,λt5 H5 g5 h5=>?_⟩;have GJ:=g3.trans (g4.trans g5);obtain⟨hm,hl2⟩:=Pm.JB (b:=0) rfl uY.mon v9.mon;have k1:=uY.mon.pos;have k2:=v9.mon.pos;refine⟨_,rfl,_,rfl,_,rfl,_,rfl,0,t5,Pm.mul 0 L1 L2,rfl,∅,h5,⋯,⋯,λt6 H6 g6 h6=>?_⟩;have Al:=GJ.trans g6;obtain⟨S1,S2⟩:=M1.sum M2 hc uY v9 (m:=(Pm.fL 0 (Pm.mul 0 L1 L2)).length) (Pm.nG ..);refine⟨_,rfl,.ref a1,.ref a2,t6,g,iC r1 L1,iC r2 L2,Pm.fL 0 (Pm.mul 0 L1 L2),10,c+1,rfl,hg,acF.same Al,hS2.same Al,N1.ok,N2.ok,e1,h6,by rw[ea1,ea2];exact S1,λv' r' H' g' hR' hT' e'=>?_⟩;rw[ea1,ea2,S2]at e';exact q v' r' H' (g1.trans (g2.trans (Al.trans g'))) hR' hT' e'
theorem atz(F:Fn K mg "added" LV ["one","other"])(Qo:aeQ P w K mg base)(Ak:M8 P w K mg base):agC P w K mg base:=by
 refine F.cal anC (λvs H Q E h=>?_) (λ_ _ _ _ _ H _ Q E hr h=>?_)
 .obtain⟨v1,v2,rfl,_⟩:=h;rfl
 .obtain⟨v1,v2,rfl,q⟩:=h;refine⟨_,(aD (bh (aJ Qo hr (ak (pv 0) (ak (pv 1) (ak (arW Ak rfl) aj)))))),?_⟩;exact⟨_,rfl,_,rfl,λg hg=>⟨v1,v2,g,rfl,hg,q⟩⟩
theorem asW(F:Fn K mg "scaled" Vf ["row","number"])(Aw:Ri P w K mg base):ae3 P w K mg base:=by
 refine F.cal ale (λvs H Q E h=>?_) (λ_ _ _ _ _ H _ Q E hr h=>?_)
 .obtain⟨v,rule,ss,x,rfl,_⟩:=h;rfl
 .obtain⟨v,rule,ss,x,rfl,hR,hC,hM,hx,q⟩:=h;refine⟨_,(aD (bh (aJ Aw hr (aL (aO K (pv 0) aq) (aL (aO K (pv 0) aq) (aL (fZ (sc:=ajl) (N:=["start","number"]) (ix:=[none,some 1]) dY rfl (fD K (aO K (pv 0) aq)) (λcl C s₀ H₀ ex=>⟨(bD 0 dN),eE,(aK v_mul (pv 1) (pv 0))⟩)) aj)))))),?_⟩;obtain⟨a,p,p2,rfl,hA,hP,hS⟩:=id hR;have hl:rule.length=ss.length:=hC.len;have h5:rule.length<=5:=hC.short;refine⟨_,rfl,_,_,.inr (aA.of hA),rfl,_,rfl,_,_,.inr (aA.of hA),rfl,_,rfl,_,_,.inr (aA.of hA),rfl,p2,rfl,.inr ⟨⟨_,aA.of hS⟩,Bm hS (by show ss.length<=1000;omega) rfl (λs=>x*s) ?_ ?_⟩⟩
  .intro H2 y g2 hy kk hkk;exact⟨_,rfl,_,rfl,m9 hx (hC.ok.Gx y hy) ∅,hkk⟩
  intro D hD;have gD:=Same.new hD (.lst ((ss.map λs=>x*s).map V.int));exact⟨p,D,rule,ss.map λs=>x*s,5,33,rfl,gD _ _ hP,aC,hM,λv' r' H' g' hR' hT e=>q v' r' H' (gD.trans g') hR' hT e⟩
theorem atw(F:Fn K mg "_law_times" Lb ["_law_one","_law_other"]):YG P w K mg base:=by
 refine F.cal IZ (λvs H Q E h=>?_) (λ_ _ _ _ _ H _ Q E hr h=>?_)
 .obtain⟨a,c,p,r,rfl,_⟩:=h;rfl
 .obtain⟨a,c,p,r,rfl,hA,hC,p1,p10,r1,r10,bA,bC,q⟩:=h;refine⟨_,(ao (aF 2 IZ.nd (aK v_mul (gK (eY aq aj)) (aK dH (pad K (cG K B.cH (ak (pv 0) aj)) (cG K B.cH (ak (pv 1) aj))) aq))) (ao (gb PassesOwn.never rfl (iz rfl B.gC (aL (cG K B.cH (ak (pv 0) aj)) aj)) (bD 3 IZ.nd) (aD (gb PassesOwn.never rfl (iz rfl B.gC (aL (cG K B.cH (ak (pv 1) aj)) aj)) (bD 4 IZ.nd) (aD (u9 (pad K (aO K (pv 2) (pad K (pv 3) (pv 4))) (aK v_mul (aO K (pv 0) (pv 3)) (aO K (pv 1) (pv 4)))) (vG (pv 2) (pad K (pv 3) (pv 4)) set_list)))))) (aD (bh (pv 2))))),?_⟩;have lP:(p.map V.int).length=p.length:=aB _;have lR:(r.map V.int).length=r.length:=aB _;refine⟨(by show 1<=sizeLine;decide),λl0 h0=>?_⟩;have g0:=Same.new h0 (.lst [.int 0]);refine⟨_,rfl,.ref a,p.length,rfl,.inl ⟨_,au.of (g0 _ _ hA),lP.symm⟩,_,rfl,.ref c,r.length,rfl,.inl ⟨_,au.of (g0 _ _ hC),lR.symm⟩,_,_,rfl,rfl,?_⟩;have en:((p.length:Int)+(r.length:Int)-1).toNat=p.length+r.length-1:=⋯;refine⟨_,aC,(⋯:-(2^63)<=(p.length:Int)+(r.length:Int)-1),(⋯:(p.length:Int)+(r.length:Int)-1<2^63),?_,λl hl=>?_⟩
  .rw[en];show 1*(p.length+r.length-1)<=sizeLine;rw[m6];exact gG (dZ ⋯)
  have g1:=g0.trans (Same.new hl (.lst (cN ((p.length:Int)+(r.length:Int)-1).toNat [V.int 0]).flatten));have hl0:H l=none:=g0.free hl;refine⟨_,rfl,.ref a,p.length,rfl,.inl ⟨_,au.of (g1 _ _ hA),lP.symm⟩,?_⟩;refine⟨(p.length:Int),rfl,(⋯:-(2^62)<=(p.length:Int)),(⋯:(p.length:Int)<2^62),?_⟩;refine kY (lo:=0) (n:=(p.length:Int).toNat) (λi σ' H'=>∃o4 o5 L,σ'=[some (.ref a),some (.ref c),some (.ref l),o4,o5]/\Same H H'/\H' l=some (.lst (L.map V.int))/\L.length=p.length+r.length-1/\∀k,Pm.co L k=Pm.W (Pm.co p) (Pm.co r) i 0 k)
   ⟨_,_,Pm.aM (p.length+r.length-1) (λ_=>0),rfl,g1,(by rw[aC,en,Fp]),Pm.cj _ _,λk=>by rw[Pm.cY,Pm.aac];split<;>rfl⟩ ?_ ?_
  .rintro i σ' H' hi ⟨o4,o5,L,rfl,g,hL,zL,hW⟩;have hi':i<p.length:=⋯;refine⟨_,rfl,.ref c,r.length,rfl,.inl ⟨_,au.of (g _ _ hC),lR.symm⟩,?_⟩;refine⟨(r.length:Int),rfl,(⋯:-(2^62)<=(r.length:Int)),(⋯:(r.length:Int)<2^62),?_⟩;refine kY (lo:=0) (n:=(r.length:Int).toNat) (λk σ' H'=>∃o5 L,σ'=[some (.ref a),some (.ref c),some (.ref l),some (.int (0+(i:Int))),o5]/\Same H H'/\H' l=some (.lst (L.map V.int))/\L.length=p.length+r.length-1/\∀j,Pm.co L j=Pm.W (Pm.co p) (Pm.co r) i k j)
    ⟨_,L,rfl,g,hL,zL,hW⟩ ?_ ?_
   .rintro k σ' H2 hk ⟨o5,L,rfl,g,hL,zL,hW⟩;have hk':k<r.length:=⋯;have lL:(L.map V.int).length=L.length:=aB _;have e1:(0+(i:Int)+(0+(k:Int))).toNat=i+k:=⋯;have e2:(0+(i:Int)).toNat=i:=⋯;have e3:(0+(k:Int)).toNat=k:=⋯;refine⟨_,rfl,_,rfl,_,rfl,_,_,.inl (au.of hL),eN (ns:=L) (⋯:(0:Int)<=0+(i:Int)+(0+(k:Int))) ⋯,?_⟩;refine⟨_,rfl,_,rfl,_,_,.inl (au.of (g _ _ hA)),eN (ns:=p) (⋯:(0:Int)<=0+(i:Int)) ⋯,?_⟩;refine⟨_,rfl,_,rfl,_,_,.inl (au.of (g _ _ hC)),eN (ns:=r) (⋯:(0:Int)<=0+(k:Int)) ⋯,?_⟩;refine⟨m9 (Rm.Bd.getD bA _) (Rm.Bd.getD bC _) ∅,?_⟩;refine⟨_,rfl,_,rfl,_,rfl,l,_,_,i+k,rfl,rfl,hL,vO ⋯ (by rw[lL];omega),?_⟩;refine⟨_,L.set (i+k) _,rfl,g.upd hl0 _,(by rw[aC,Dq]),(by rw[nF];exact zL),λj=>?_⟩;rw[Pm.xH _ _ _ _ ⋯,Pm.VL,e1,e2,e3];by_cases ej:j=i+k
    .have hw:=hW j;rw[if_pos ej,if_pos ej];rw[ej]at hw⊢;rw[<-hw];rfl
    .rw[if_neg ej,if_neg ej,dj];exact hW j
   .rintro σ' H2 ⟨o5,L,rfl,g,hL,zL,hW⟩;refine⟨_,_,L,rfl,g,hL,zL,λk=>?_⟩;rw[hW k,d9,Pm.acw λk hk=>Pm.aX hk]
  .rintro σ' H' ⟨o4,o5,L,rfl,g,hL,zL,hW⟩;have e:L=Pm.ur p r:=by
    refine Pm.vq (by rw[zL,Pm.ur,Pm.cj]) λk=>?_;rw[Pm.ur,Pm.cY];split
    .rw[hW k,d9,Pm.Gh λk hk=>Pm.aX hk]
    .exact Pm.aX ⋯
   exact⟨_,rfl,q l H' g (e▸hL)⟩
theorem an6(F:Fn K mg "_law_at" UG ["_law_script","_law_k"]):FZ P w K mg base:=by
 refine F.cal Rz (λvs H Q E h=>?_) (λ_ _ _ _ _ H _ Q E hr h=>?_)
 .obtain⟨a,ns,k,rfl,_⟩:=h;rfl
 .obtain⟨a,ns,k,rfl,hS,hl,k0,k1,q⟩:=h;refine⟨_,(ao (eZ (cU yN (pv 1) (cG K B.cH (ak (pv 0) aj))) (aD (bh (aO K (pv 0) (pv 1)))) fB) (ao (aF 2 Rz.nd (pad K aq (aK v_mul (aK v_mul aq (pv 1)) (pv 1)))) (ao (sY (eZ (cU tu (cG K B.cH (ak (pv 0) aj)) aq) (aD (aF 2 Rz.nd (pad K (pv 2) (aK v_mul (aK je (aO K (pv 0) (aK je (pv 1) (cG K B.cH (ak (pv 0) aj)))) aq) (pad K (aK zX (pv 1) (cG K B.cH (ak (pv 0) aj))) aq))))) fB)) (aD (bh (aK je (aK v_mul (pv 2) aq) aq)))))),?_⟩;have lL:(ns.map V.int).length=ns.length:=aB _;refine⟨_,rfl,_,rfl,.ref a,ns.length,rfl,.inl ⟨_,hS,lL.symm⟩,_,_,rfl,rfl,_,rfl,?_⟩;refine dR (λc=>⟨_,rfl,_,rfl,_,_,.inl hS,eN (ns:=ns) k0 (dec_true c),q _⟩) (λc=>?_);refine⟨_,rfl,mulR ⋯ ⋯,_,rfl,mulR ⋯ ⋯,?_⟩;refine rF.by (λσ' H'=>∃x:Int,σ'=[some (.ref a),some (.int k),some (.int x)]/\H'=H) (λNN kO=>?_) ?_
  .refine⟨_,rfl,.ref a,ns.length,rfl,.inl ⟨_,hS,lL.symm⟩,_,_,rfl,rfl,_,rfl,?_⟩;refine dR (λc2=>?_) (λc2=>kO _ _ ⟨_,rfl,rfl⟩);have c2':(0:Int)<(ns.length:Int):=by have:=dec_true c2;omega
   have e0:=qF k c2';have e1:=qb k c2';have d0:0<=k/(ns.length:Int):=Int.ediv_nonneg k0 ⋯;have d1:k/(ns.length:Int)<=k:=Int.ediv_le_self _ k0;refine⟨_,rfl,_,rfl,_,rfl,_,rfl,.ref a,ns.length,rfl,.inl ⟨_,hS,lL.symm⟩,_,_,rfl,rfl,c2',_,_,.inl hS,eN (ns:=ns) e0 e1,_,_,rfl,rfl,(∅:(0:Int)<1000133),?_⟩;refine⟨_,rfl,_,rfl,.ref a,ns.length,rfl,.inl ⟨_,hS,lL.symm⟩,_,_,rfl,rfl,⟨c2',(⋯:(ns.length:Int)<1073741824)⟩,mulR ⋯ ⋯,?_⟩;exact kO _ _ ⟨_,rfl,rfl⟩
  rintro _ _ ⟨x,rfl,rfl⟩;exact⟨_,rfl,mulR ∅ ∅,_,_,rfl,rfl,(∅:(0:Int)<2147483647),q _⟩
theorem ayC(F:Fn K mg "_law_roots" MG ["_law_script","_law_at_here","_law_most","_law_wide"])(oZ:FZ P w K mg base):WC P w K mg base:=by
 refine F.cal zc (λvs H Q E h=>?_) (λ_ _ _ _ _ H _ Q E hr h=>?_)
 .obtain⟨a,ns,hh,rfl,_⟩:=h;rfl
 .obtain⟨a,ns,hh,rfl,hS,hl,RG,hh1,q⟩:=h;refine⟨_,(ao (gP (i:=4) zc.nd rfl (fP rfl) RW) (ao (gb PassesOwn.never rfl (iz rfl B.gC (fH (aK je (aJ oZ hr (ak (pv 0) (ak (pv 1) aj))) aq) aj)) (bD 5 zc.nd) (ao (aF 6 zc.nd (aJ oZ hr (ak (pv 0) (fH (pad K (pad K (pv 1) aq) (pv 5)) aj)))) (ao (aF 7 zc.nd (aK dH (aK je (pv 6) (pad K (aK v_mul aq (pv 3)) aq)) (pv 3))) (ao (aF 8 zc.nd (pad K aq (aK je (aK zX (pv 6) (pad K (aK v_mul aq (pv 3)) aq)) aq))) (aD (sY (eZ (PW.pt (UC (Qn (atn hr.hu (pv 7) (pv 4))) (Uu (cU Nb (pad K (jF (Rq K rfl) rfl B.LZ boot_sum (aL (VQ (fZ (sc:=aqi) (N:=["_law_one","_law_found"]) (ix:=[none,some 4]) dY rfl (KL (pv 4)) (λcl C s₀ H₀ ex=>⟨(bD 0 dN),eE,(Jk hr.hu (pv 1) (pv 0) (λ_ _=>rfl))⟩))) aj)) (pv 8)) (pv 2))))) (aD (Lj hr.hu (pv 4) (pv 7) (pv 8) rfl)) fB))))))) (aD (bh (jF ang rfl B.adD agf (aL (VQ (fZ (sc:=aos) (N:=["_law_root","_law_found"]) (ix:=[none,some 4]) dY rfl (KL (pv 4)) (λcl C s₀ H₀ ex=>⟨(bD 0 dN),eE,(gq (ak (pv 0) (aL (Jk hr.hu (pv 1) (pv 0) (λ_ _=>rfl)) aj)))⟩))) aj)))))),?_⟩;refineλd hd=>?_;have gd:=Same.new hd (.dK []);refine⟨_,rfl,_,rfl,a,ns,hh,rfl,gd.seq hS,hl,RG,⋯,λc0=>?_⟩;have m0:=qF c0 (show(0:Int)<5 by decide);have m1:=qb c0 (show(0:Int)<5 by decide);refine⟨_,_,rfl,rfl,(∅:(0:Int)<5),?_⟩;obtain⟨n,en5⟩:∃n,n=c0%5:=⟨_,rfl⟩;rw[<-en5]at m0 m1⊢;refine⟨n,rfl,⋯,⋯,?_⟩;refine kY (lo:=0) (n:=n.toNat) (YB H a d hh) ⟨_,_,_,_,[],rfl,gd,aC,⟨.nil,λx hx=>absurd hx gR,∅⟩,aN _⟩ ?_ ?_
  .rintro i σ' H1 hi ⟨o5,o6,o7,o8,M',rfl,g1,hD,hM,hz⟩;refine⟨_,rfl,_,rfl,_,rfl,a,ns,hh+1+(0+(i:Int)),rfl,g1.seq hS,hl,⋯,⋯,λc=>?_⟩;refine⟨_,rfl,_,rfl,mulL ∅ ∅,_,_,rfl,rfl,(∅:(0:Int)<9),_,rfl,_,_,rfl,rfl,?_⟩;refine⟨_,rfl,_,rfl,mulL ∅ ∅,_,_,rfl,rfl,⟨(∅:(0:Int)<9),(∅:(9:Int)<1073741824)⟩,_,_,rfl,rfl,(∅:(0:Int)<3),?_⟩;have r0:=qF c (show(0:Int)<9 by decide);have r1:=qb c (show(0:Int)<9 by decide);have s0:=qF (c/9) (show(0:Int)<3 by decide);have s1:=qb (c/9) (show(0:Int)<3 by decide);obtain⟨r,er⟩:∃r:Int,r=c%9-4:=⟨_,rfl⟩;obtain⟨m,em⟩:∃m:Nat,(m:Int)=1+c/9%3:=⟨(1+c/9%3).toNat,⋯⟩;have e7:c%(2*4+1)-4=r:=er.symm;have e8:1+c/(2*4+1)%3=(m:Int):=em.symm;rw[e7];change iB 8 (V.int (1+c/(2*4+1)%3)) _ _ _;rw[e8];refine rF.by (YB H a d hh (i+1)) (λNN kO=>?_) λ_ _ z=>z;refine⟨_,rfl,_,rfl,d,_,rfl,oY.k (k:= .inl r) hD,_,rfl,?_⟩;by_cases cr:r∈M'.map (·.1)
   .rw[show(!(d7 (cT M') (.inl r)).isSome)=false by rw[amd hM.nd cr];rfl];exact lD (lD (kO _ _ ⟨_,_,_,_,M',rfl,g1,hD,hM,⋯⟩))
   .rw[show(!(d7 (cT M') (.inl r)).isSome)=true by rw[ZQ cr];rfl];refine qZ ?_;refine⟨d,cT M',hD,λo=>?_⟩;have hf:(upd H1 d (.dw o (.dK (cT M')))) d=some (.dw o (.dK (cT M'))):=aC;refine⟨_,rfl,d,o,cT M',rfl,hf,?_⟩;refine qT (UN hf) (by rw[aB,Sx];exact gG (dZ ⋯)) rfl (λ_=>true) (λx=>match x with | .int k=>(d7 (cT M') (.inl k)).getD .non|_=> .non) ?_ ?_ ?_
    .intro H2 x g2 hx k hk;exact hk
    .intro H2 x g2 hx _ k hk;obtain⟨kv,hkv,rfl⟩:=bZ.mp hx;obtain⟨y,hy,rfl⟩:=bZ.mp hkv;refine⟨_,rfl,_,rfl,d,.int (y.2:Int),rfl,.inl ⟨cT M',.inl y.1,.inr ⟨o,g2 _ _ hf⟩,rfl,(uN hM.nd hy).symm⟩,?_⟩;have e:(match(kV (.inl y.1:Key))with | .int k=>(d7 (cT M') (.inl k)).getD .non|_=>V.non) = .int (y.2:Int):=by
      show(d7 (cT M') (.inl y.1)).getD .non=_;rw[uN hM.nd hy];rfl
     rw[<-e];exact hk
    intro D hD';have NQ:D≠d:=λz=>by rw[z,aC]at hD';cases hD'
    have el:((((cT M').map λkv=>kV kv.1).filter λ_=>true).map λx=>match x with | .int k=>(d7 (cT M') (.inl k)).getD .non|_=>V.non)=(M'.map λx=>(x.2:Int)).map V.int:=by
     rw[uw.mpr (by simp)];unfold cT;rw[cR,cR,cR];refine lG λy hy=>?_;show(d7 (cT M') (.inl y.1)).getD .non = .int (y.2:Int);rw[uN hM.nd hy];rfl
    rw[el];have gf:Same (upd H1 d (.dw o (.dK (cT M')))) (upd (upd H1 d (.dw o (.dK (cT M')))) D (.lst ((M'.map λx=>(x.2:Int)).map V.int))):=Same.new hD' _;refine⟨gf _ _ hf,?_⟩;have g2:=Same.QH hD gf;have hS2:(upd (upd (upd H1 d (.dw o (.dK (cT M')))) D (.lst ((M'.map λx=>(x.2:Int)).map V.int))) d (.dK (cT M'))) D=some (.lst ((M'.map λx=>(x.2:Int)).map V.int)):=by rw[bF NQ,aC]
    generalize upd (upd (upd H1 d (.dw o (.dK (cT M')))) D (.lst ((M'.map λx=>(x.2:Int)).map V.int))) d (.dK (cT M'))=H2 at g2 hS2;refine⟨D,_,rfl,au.of hS2,?_⟩;rw[aoy];refine⟨_,rfl,_,rfl,_,_,rfl,rfl,_,rfl,?_⟩;have hD2:=g2 _ _ hD;refine dR (λcc=>?_) (λcc=>kO _ _ ⟨_,_,_,_,M',rfl,g1.trans g2,hD2,hM,⋯⟩);have cc':(Pm.many M':Int)+(m:Int)<=5:=dec_true cc;refine⟨_,rfl,_,rfl,_,rfl,d,_,rfl,xZ.k (k:= .inl r) hD2 (by rw[Sx];exact dZ ⋯),kO _ _ ?_⟩;refine⟨_,_,_,_,M'++[(r,m)],rfl,(g1.trans g2).upd hd _,?_,⟨?_,λx hx=>?_,by rw[Np];show Pm.many M'+m<=5;omega⟩,by rw[dW];show M'.length+1<=_;omega⟩
    .rw[aC,avJ cr]
    .rw[fW];exact TQ.mpr ⟨hM.nd,BZ ..,λx hx y hy=>λz=>cr (by have hy':y=r:=eV.mp hy;rw[<-hy',<-z];exact hx)⟩
    .rcases fM.mp hx with hx|hx
     .exact hM.lo x hx
     .rw[eV.mp hx];exact⟨by show 1<=m;omega,by show m<=3;omega,by show -4<=r;omega,by show r<=4;omega⟩
  .rintro σ' H1 ⟨o5,o6,o7,o8,M',rfl,g1,hD,hM,hz⟩;refine⟨d,cT M',hD,λo=>?_⟩;have hf:(upd H1 d (.dw o (.dK (cT M')))) d=some (.dw o (.dK (cT M'))):=aC;refine⟨_,rfl,d,o,cT M',rfl,hf,?_⟩;refine awu (UN hf) (by rw[aB,Sx];omega) rfl (λx=>match x with | .int k=>[k,match d7 (cT M') (.inl k)with|some (.int m)=>m|_=>0]|_=>[]) ?_ ?_
   .intro H2 x g2 hx k hk;obtain⟨kv,hkv,rfl⟩:=bZ.mp hx;obtain⟨y,hy,rfl⟩:=bZ.mp hkv;refine⟨_,rfl,_,rfl,_,rfl,d,.int (y.2:Int),rfl,.inl ⟨cT M',.inl y.1,.inr ⟨o,g2 _ _ hf⟩,rfl,(uN hM.nd hy).symm⟩,(by show 2<=sizeLine;decide),λt ht=>?_⟩;refine hk t _ (Same.new ht _) ?_;rw[aC];show _=some (HO.tup ([y.1,match d7 (cT M') (.inl y.1)with|some (.int m)=>m|_=>0].map V.int))
    rw[uN hM.nd hy];rfl
   intro D H2 ys hD' g2 hl' hT;have eM:(((cT M').map λkv=>kV kv.1).map λx=>match x with | .int k=>[k,match d7 (cT M') (.inl k)with|some (.int m)=>m|_=>0]|_=>([]:List Int))=M'.map Pm.gw:=by
    unfold cT;rw[cR,cR];refine lG λy hy=>?_;show[y.1,match d7 (cT M') (.inl y.1)with|some (.int m)=>m|_=>0]=Pm.gw y
    rw[uN hM.nd hy];rfl
   rw[eM]at hT;have NQ:D≠d:=λz=>by rw[z,aC]at hD';cases hD'
   refine⟨g2 _ _ hf,?_⟩;have g3:=Same.QH hD g2;have hl2:(upd H2 d (.dK (cT M'))) D=some (.lst ys):=by rw[bF NQ];exact hl'
   have hT2:cP (upd H2 d (.dK (cT M'))) ys (M'.map Pm.gw):=hT.up λb ts e=>by rw[bF λz=>by rw[z,g2 _ _ hf]at e;cases e];exact e
   generalize upd H2 d (.dK (cT M'))=H3 at g3 hl2 hT2;have en:((M'.map λx=>(x.1,(x.2:Int))).map (·.1))=M'.map (·.1):=by rw[cR];rfl
   refine⟨D,ys,M'.map (λx=>(x.1,(x.2:Int))),rfl,hl2,hT2.prs,by rw[en];exact hM.nd,by rw[aB];omega,λl' π hp hw hn=>?_⟩;rw[aB]at hp;have hin:∀i∈π,i<M'.length:=λi hi=>iV.mp (hp.mem_iff.mp hi);have e1:(π.map λi=>(M'.map Pm.gw).getD i [])=(π.map λi=>M'.getD i (0,0)).map Pm.gw:=by
    rw[cR];exact lG λi hi=>ar5 (hin i hi)
   have e3:(π.map λi=>M'.getD i (0,0)).Perm M':=by
    have h2:=hp.map λi=>M'.getD i (0,0)
    rwa [apW]at h2
   have Gr:=hT2.pick (π:=π) (λi hi=>by rw[aB];exact hin i hi);rw[e1]at Gr;have g4:=Same.new hn (.lst (π.map λi=>ys.getD i V.non));refine q l' _ _ _ ((g1.trans g3).trans g4) aC (Gr.same g4) ⟨?_,λx hx=>hM.lo x (e3.mem_iff.mp hx),?_⟩ (by rw[e3.length_eq];omega)
   .exact(e3.map _).nodup_iff.mpr hM.nd
   .rw[asS e3];exact hM.all
theorem aw4(F:Fn K mg "_law_product" KW ["_law_roots_here"])(MD:YG P w K mg base):XS P w K mg base:=by
 refine F.cal yH (λvs H Q E h=>?_) (λ_ _ _ _ _ H _ Q E hr h=>?_)
 .obtain⟨l,xs,M',rfl,_⟩:=h;rfl
 .obtain⟨l,xs,M',rfl,hL,hT,zM,zA,bM,q⟩:=h;refine⟨_,(ao (aF 1 yH.nd (gK (eY aq aj))) (ao (gb PassesOwn.never rfl (fD K (pv 0)) (CK K (n:=2) rfl (rM (bD 2 yH.nd) (rM (bD 3 yH.nd) B7))) (aD (gb PassesOwn.never rfl (iz rfl B.gC (ak (pv 3) aj)) (bD 4 yH.nd) (aD (aF 1 yH.nd (aJ MD hr (ak (pv 1) (ayS (gK (fH (aK dH aq (pv 2)) (eY aq aj))) aj)))))))) (aD (bh (pv 1))))),?_⟩;refine⟨(by show 1<=sizeLine;decide),λl0 h0=>?_⟩;have g0:=Same.new h0 (.lst [.int 1]);have hL0:=g0 _ _ hL;refine⟨_,rfl,l,rfl,.inl ⟨⟨_,au.of hL0⟩,?_⟩⟩;refine Ht (xW (au.of hL0)) (λi σ' H'=>∃(lp:Addr) (o2 o3 o4:Option V),σ'=[some (.ref l),some (.ref lp),o2,o3,o4]/\Same (upd H l0 (.lst [.int 1])) H'/\H' lp=some (.lst ((Pm.jU (M'.take i) [1]).map V.int))/\∀z∈Pm.jU (M'.take i) [1],Rm.Bd (1+50*Pm.many (M'.take i)) z)
   ⟨l0,_,_,_,rfl,Same.refl _,aC,λz hz=>by rw[eV.mp hz];exact(Rm.Bd.of (n:=1) ∅ ∅).mono ⋯⟩ (λi σ' H' ⟨_,_,_,_,_,g,_⟩=>g) ?_ ?_
  .rintro i x σ' H1 hx ⟨lp,o2,o3,o4,rfl,g1,hp,bz⟩;obtain⟨t,p,rfl,ep,ht⟩:=hT.get hx;have ht1:=g1 _ _ (g0 _ _ ht);rw[List.getElem?_map]at ep;obtain⟨y,ey,rfl⟩:=abg.mp ep;have Zj:y∈M':=List.mem_of_getElem? ey;have et:M'.take (i+1)=M'.take i++[y]:=by rw[qd,ey];rfl
   have em:Pm.many (M'.take (i+1))=Pm.many (M'.take i)+y.2:=by rw[et,Np]
   have el:Pm.many (M'.take (i+1))<=Pm.many M':=by
    have:Pm.many M'=Pm.many (M'.take (i+1))+Pm.many (M'.drop (i+1)):=by
     unfold Pm.many;rw[<-C7,<-fW,JW]
    omega
   obtain⟨mA,Qa⟩:=Pm.E4 (M'.take i) Pm.Dy;replace Qa:(Pm.jU (M'.take i) [1]).length=1+Pm.many (M'.take i):=Qa;refine⟨t,_,rfl,aA.of ht1,rfl,_,_,rfl,_,_,rfl,rfl,?_⟩;refine⟨_,rfl,(y.2:Int),rfl,⋯,⋯,?_⟩;rw[et,agI,Np];generalize Pm.jU (M'.take i) [1]=AA at hp bz mA Qa;refine kY (lo:=0) (n:=(y.2:Int).toNat) (λj σ' H'=>∃(lp:Addr) (o4:Option V),σ'=[some (.ref l),some (.ref lp),some (.int y.1),some (.int (y.2:Int)),o4]/\Same (upd H l0 (.lst [.int 1])) H'/\H' lp=some (.lst ((Pm.dh y.1 j AA).map V.int))/\∀z∈Pm.dh y.1 j AA,Rm.Bd (1+50*(Pm.many (M'.take i)+j)) z)
    ⟨lp,_,rfl,g1,hp,bz⟩ ?_ ?_
   .rintro j σ' H2 hj ⟨lp,o4,rfl,g2,hp,bz⟩;have hj':j<y.2:=⋯;obtain⟨mJ,zJ⟩:=Pm.Hl (r:=y.1) mA j;refine⟨_,rfl,_,rfl,_,_,rfl,rfl,(by show 2<=sizeLine;decide),λl1 h1=>?_⟩;have g3:=Same.new h1 (.lst [.int (0-y.1),.int 1]);refine⟨lp,l1,Pm.dh y.1 j AA,Pm.lin y.1,rfl,g3 _ _ hp,aC,mJ.pos,⋯,(by show 1<=2;decide),(by show 2<=10;decide),λz hz=>(bz z hz).mono ⋯,λz hz=>?_,λl2 H3 g4 h2=>?_⟩
    .have hb:=bM y Zj;rcases bN.mp hz with e|hz
     .have hb2:Rm.Bd 40 (0-y.1):=by unfold Rm.Bd at hb ⊢;rw[show(0-y.1).natAbs=y.1.natAbs by omega];exact hb
      rw[e];exact hb2.mono ∅
     .rw[eV.mp hz];exact(Rm.Bd.of (n:=1) ∅ ∅).mono ⋯
    .have ee:=(Pm.aed mJ (Pm.Mv y.1)).1;rw[ee]at h2;exact⟨l2,_,rfl,(g2.trans g3).trans g4,h2,λz hz=>(aoU bz (bM y Zj) z hz).mono ⋯⟩
   .rintro σ' H2 ⟨lp,o4,rfl,g2,hp,bz⟩;rw[d9]at hp bz;exact⟨lp,_,_,_,rfl,g2,hp,bz⟩
  .rintro σ' H1 ⟨lp,o2,o3,o4,rfl,g1,hp,bz⟩;have e:=hT.len;rw[aB]at e;rw[e,lY]at hp bz;refine⟨_,rfl,q lp H1 (g0.trans g1) hp λz hz=>(bz z hz).mono ⋯⟩
theorem apl(F:Fn K mg "_law_closed_row" Ue ["_law_script","_law_at_here"])(MQ:WC P w K mg base)(SJ:XS P w K mg base)(oZ:FZ P w K mg base):agw P w K mg base:=by
 refine F.cal wI (λvs H Q E h=>?_) (λ_ _ _ _ _ H _ Q E hr h=>?_)
 .obtain⟨a,ns,hh,rfl,_⟩:=h;rfl
 .obtain⟨a,ns,hh,rfl,hS,hl,RG,hh1,q⟩:=h;refine⟨_,(ao (vN (i:=2) (hN:=wI.nd) (hi':=rfl) (hx:=(oX rfl)) (sc:=axI) (N:=["_law_one"]) (ix:=[none]) dY rfl (fD K (aJ MQ hr (ak (pv 0) (ak (pv 1) (eY aq (eY aq aj)))))) (λcl C s₀ H₀ ex=>⟨(bD 0 dN),(afM (cU (nT K hr) (aO K (pv 0) aq) aq)),(pv 0)⟩)) (ao (aF 3 wI.nd (aJ SJ hr (ak (pv 2) aj))) (ao (aF 4 wI.nd (kJ (pq K) rfl B.oN boot_tuple (aL (fZ (sc:=atE) (N:=["_law_number"]) (ix:=[none]) dY rfl (agq K rfl B.Mr (aL (wG (wU K) (pv 3) Aj (vY (EY JN aq))) aj)) (λcl C s₀ H₀ ex=>⟨(bD 0 dN),eE,(aK dH aq (pv 0))⟩)) aj))) (ao (aF 5 wI.nd (gK aj)) (ao (gb PassesOwn.never rfl (iz rfl B.gC (aL (cG K B.cH (ak (pv 4) aj)) aj)) (bD 6 wI.nd) (ao (aF 7 wI.nd (aJ oZ hr (ak (pv 0) (fH (pad K (pad K (pv 1) aq) (pv 6)) aj)))) (aD (lB (ud K (pv 5) (aO K (gK (fH (aK dH (aK je (pv 7) aq) aq) (fH (aK dH (aK je (pv 7) (aK v_mul aq (aK ZK aq aq))) (aK ZK aq aq)) aj))) (aK zX (aK je (aK zX (pv 7) aq) aq) aq))))))) (aD (bh (gq (eY aq (ak (pv 4) (aL (kJ (pq K) rfl B.oN boot_tuple (ak (pv 5) aj)) aj))))))))))),?_⟩;refine⟨_,rfl,_,rfl,a,ns,hh,rfl,hS,hl,RG,hh1,λl xs M1 H1 g1 h1 hT hM Ao=>?_⟩;have lxs:=hT.len;rw[aB]at lxs;refine⟨l,rfl,.inl ⟨⟨_,au.of h1⟩,?_⟩⟩;refine an0 h1 hT ⋯ rfl (λc=>!decide (c.headD 0=0)) ?_ ?_ ?_
  .intro H2 t c g2 hc ht kk hkk;obtain⟨x,_,rfl⟩:=bZ.mp hc;exact⟨_,rfl,_,_,.inr (aA.of ht),rfl,_,rfl,hkk _ (Same.refl _)⟩
  .intro H2 t k hk;exact⟨_,rfl,hk⟩
  intro D H2 ys hD g2 h2 hT2;rw[ax1]at hT2;have hm5:Pm.many (j4 M1)<=5:=fY (Qg _ M1) hM.all;have D7:(j4 M1).length<=4:=fY (OB _ _) Ao;have G:=hM.g48;refine⟨_,rfl,D,ys,j4 M1,rfl,h2,hT2,⋯,⋯,λx hx=>?_,λlp H3 g3 h3 _=>?_⟩
  .have:=hM.lo x (pA.mp hx).1;exact(Rm.Bd.of (n:=3) ⋯ ⋯).mono ∅
  rw[am9]at h3;generalize Pm.RP (j4 M1) [1]=P8 at h3 G;have hN:=G.short;have lP:P8.length<=6:=by have:=GC P8;omega
  refine⟨_,rfl,1,rfl,_,rfl,.inl ⟨_,au.of h3,λl1 hl1=>?_⟩⟩;rw[anr];obtain⟨H4,uu,g4,h4⟩:=nw hl1 (.lst (P8.dropLast.map V.int));rw[uu];refine⟨l1,_,rfl,au.of h4,?_⟩;refine qT (adB (au.of h4)) (by rw[oR,aB,vX];exact fY (show P8.length-1<=1000 by omega) ∅) rfl (λ_=>true) Ws (λ_ _ _ _ _ hk=>hk) (λ_ x _ hx _ k hk=>by
   obtain⟨y,hy,rfl⟩:=bZ.mp (pO.mp hx);exact⟨_,rfl,_,_,rfl,rfl,hk⟩) λD2 hD2=>?_
  rw[aiS];generalize uJ P8=rl at G hN⊢;have g5:=Same.new hD2 (.lst (rl.map V.int));refine⟨D2,_,rfl,.inl ⟨au.of aC,λt ht=>?_⟩⟩;have g6:=Same.new ht (.tup (rl.map V.int));have h6:(upd (upd H4 D2 (.lst (rl.map V.int))) t (.tup (rl.map V.int))) t=some (.tup (rl.map V.int)):=aC;have SX:=g1.trans (g2.trans (g3.trans (g4.trans (g5.trans g6))));generalize upd (upd H4 D2 (.lst (rl.map V.int))) t (.tup (rl.map V.int))=H6 at h6 SX;have lR:(rl.map V.int).length=rl.length:=aB _;refine⟨cB _,λls hls=>?_⟩;have g7:=Same.new hls (.lst []);have axl:=SX.free hls;refine⟨_,rfl,.ref t,rl.length,rfl,.inr ⟨_,aA.of (g7 _ _ h6),lR.symm⟩,?_⟩;refine⟨(rl.length:Int),rfl,(⋯:-(2^62)<=(rl.length:Int)),(⋯:(rl.length:Int)<2^62),?_⟩;rw[d9];refine kY (lo:=0) (n:=rl.length) (λi σ' H'=>∃(o6 o7:Option V) (ss:List Int),σ'=[some (.ref a),some (.int hh),some (.ref D),some (.ref lp),some (.ref t),some (.ref ls),o6,o7]/\Same H H'/\H' t=some (.tup (rl.map V.int))/\H' ls=some (.lst (ss.map V.int))/\ss.length=i/\∀x∈ss,Rm.Bd 30 x)
   ⟨_,_,[],rfl,SX.trans g7,g7 _ _ h6,aC,rfl,λx hx=>absurd hx gR⟩ ?_ ?_
  .rintro i σ' H8 hi ⟨o6,o7,ss,rfl,g8,DY,hL8,DV,SR⟩;refine⟨_,rfl,_,rfl,_,rfl,a,ns,hh+6+(0+(i:Int)),rfl,g8.seq hS,hl,⋯,⋯,λc=>?_⟩;refine⟨_,rfl,.inl ⟨rfl,_,au.of hL8⟩,?_⟩;refine⟨_,rfl,_,_,rfl,rfl,(∅:(0:Int)<19),_,_,rfl,rfl,?_⟩;refine⟨_,rfl,_,_,rfl,rfl,⟨∅,∅,∅⟩,mulR ∅ ∅,_,_,rfl,rfl,(∅:(0:Int)<2*10^(9:Int).toNat),?_⟩;refine⟨_,_,rfl,rfl,⟨∅,∅,∅⟩,_,_,rfl,rfl,(by show 2<=sizeLine;decide),λlz hlz=>?_⟩;have g9:=Same.new hlz (.lst [.int (c%19-9),.int (c%(2*10^(9:Int).toNat)-10^(9:Int).toNat)]);refine⟨_,rfl,_,_,rfl,rfl,⟨∅,∅⟩,_,_,rfl,rfl,(∅:(0:Int)<5),_,_,rfl,rfl,⟨∅,∅⟩,?_⟩;have d0:=qF (c/19) (show(0:Int)<5 by decide);have d1:=qb (c/19) (show(0:Int)<5 by decide);have e0:=qF c (show(0:Int)<19 by decide);have e1:=qb c (show(0:Int)<19 by decide);have f0:=qF c (show(0:Int)<2000000000 by decide);have f1:=qb c (show(0:Int)<2000000000 by decide);refine⟨_,_,.inl (au.of (xs:=[c%19-9,c%2000000000-1000000000].map V.int) aC),eN (ns:=[c%19-9,c%2000000000-1000000000]) (⋯:(0:Int)<=c/19%5/4) (by show c/19%5/4<2;omega),?_⟩;have bx:Rm.Bd 30 (([c%19-9,c%2000000000-1000000000]:List Int).getD (c/19%5/4).toNat 0):=Rm.Bd.getD (λx hx=>by
    rcases bN.mp hx with e|hx
    .exact(Rm.Bd.of (n:=5) ⋯ ⋯).mono ∅
    .rw[eV.mp hx];exact Rm.Bd.of (n:=30) ⋯ ⋯) _
   generalize ([c%19-9,c%2000000000-1000000000]:List Int).getD (c/19%5/4).toNat 0=x at bx;refine⟨ls,_,_,rfl,rfl,g9 _ _ hL8,by rw[aB];exact dZ ⋯,?_⟩;have nt:t≠ls:=λz=>by rw[z,hL8]at DY;cases DY
   refine⟨_,_,ss++[x],rfl,(g8.trans g9).upd axl _,by rw[bF nt];exact g9 _ _ DY,by rw[aC,fW];rfl,by rw[dW,DV];rfl,λy hy=>?_⟩;rcases fM.mp hy with hy|hy
   .exact SR y hy
   .rw[eV.mp hy];exact bx
  .rintro σ' H8 ⟨o6,o7,ss,rfl,g8,DY,hL8,DV,SR⟩;refine⟨_,rfl,_,rfl,ls,_,rfl,.inl ⟨au.of hL8,λt5 ht5=>?_⟩⟩;have k5:=Same.new ht5 (.tup (ss.map V.int));refine⟨(by show 3<=sizeLine;decide),λt6 CF=>?_⟩;have k6:=Same.new CF (.tup [.int 0,.ref t,.ref t5]);exact q (.ref t6) rl ss _ (g8.trans (k5.trans k6)) ⟨t6,t,t5,rfl,aC,(k5.trans k6) _ _ DY,k6 _ _ aC⟩ G DV.symm SR
theorem axm(F:Fn K mg "_law_shared" NV ["_law_one","_law_other"]):agg P w K mg base:=by
 refine F.cal Kv (λvs H Q E h=>?_) (λ_ _ _ _ _ H _ Q E hr h=>?_)
 .obtain⟨x,y,rfl,_⟩:=h;rfl
 .obtain⟨x,y,rfl,q⟩:=h;refine⟨_,(ao (aF 0 Kv.nd (jF wV rfl B.xP boot_abs (ak (pv 0) aj))) (ao (aF 1 Kv.nd (jF wV rfl B.xP boot_abs (ak (pv 1) aj))) (ao (ou PassesOwn.never (cU tu (pv 1) aq) (aD (ajs (i:=0) (j:=1) rfl Kv.nd rfl rfl ∅ rfl rfl (ak (pv 1) (fH (aK je (pv 0) (pv 1)) aj)) (by rfl)))) (aD (bh (pv 0)))))),?_⟩;refine⟨_,rfl,x,rfl,?_⟩;refine⟨_,rfl,y,rfl,?_⟩;rw[BQ,BQ];refine⟨λt σ' H'=>∃(g w:Nat),w=t/\j7 g w=j7 x.natAbs y.natAbs/\σ'=[some (.int g),some (.int w)]/\H=H',⟨_,x.natAbs,y.natAbs,rfl,rfl,rfl,rfl⟩,?_⟩;rintro t σ' H' ⟨g,w,rfl,hg,rfl,rfl⟩;refine⟨_,rfl,_,_,rfl,rfl,_,rfl,?_⟩;refine dR (λc=>?_) (λc=>?_)
  .have hw:0<w:=by have:=dec_true c;omega
   refine⟨_,λ_ _ z=>z,?_⟩;refine⟨_,rfl,_,rfl,_,rfl,_,_,rfl,rfl,(⋯:(0:Int)<(w:Int)),?_⟩;refine⟨_,_,rfl,?_⟩;refine⟨g%w,Nat.mod_lt _ hw,w,g%w,rfl,?_,?_,rfl⟩
   .rw[<-hg,Ik w,<-Nat.gcd_rec,Ik]
   .rw[Cw];rfl
  .have hw:w=0:=by have:=dec_false c;omega
   subst hw;rw[aan]at hg;rw[<-hg]at q;exact⟨_,rfl,q⟩
theorem avd(F:Fn K mg "_law_lowest" Vw ["_law_tops","_law_bottom"])(UJ:agg P w K mg base):QG P w K mg base:=by
 refine F.cal uz (λvs H Q E h=>?_) (λ_ _ _ _ _ H _ Q E hr h=>?_)
 .obtain⟨d,kvs,T,bot,f,rfl,_⟩:=h;rfl
 .obtain⟨d,kvs,T,bot,f',rfl,hd,hK,hT,b1,bb,hs,q⟩:=h;refine⟨_,(ao (gP (i:=2) uz.nd rfl (fP rfl) (pv 1)) (ao (amK (gb PassesOwn.never rfl (KL (pv 0)) (bD 3 uz.nd) (aD (gb PassesOwn.never rfl (fD K (Jk hr.hu (pv 0) (pv 3) (λ_ _=>rfl))) (bD 4 uz.nd) (aD (gP (i:=2) uz.nd rfl (fP rfl) (aJ UJ hr (ak (pv 2) (ak (pv 4) aj))))))))) (ao (aF 5 uz.nd (gK aj)) (ao (gb PassesOwn.never rfl (fD K (jF (am1 rfl) rfl B.adD agf (ak (pv 0) aj))) (bD 3 uz.nd) (ao (vN (i:=6) (hN:=uz.nd) (hi':=rfl) (hx:=(oX rfl)) (sc:=axh) (N:=["_law_top","_law_part"]) (ix:=[none,some 2]) dY rfl (fD K (Jk hr.hu (pv 0) (pv 3) (λ_ _=>rfl))) (λcl C s₀ H₀ ex=>⟨(bD 0 dN),eE,(aK Dn (pv 0) (pv 1))⟩)) (ao (sY (ou PassesOwn.never (PW.pt (UC (cU (nT K hr) (pv 6) (gK aj)) (Uu (cU (jm K hr) (aO K (pv 6) (EY JN aq)) aq)))) (aD (lB (aj0 K (pv 6)))))) (aD (eZ (cU (nT K hr) (pv 6) (gK aj)) (aD (lB (ud K (pv 5) (gq (ak (pv 3) (ak (pv 6) aj)))))) fB))))) (aD (bh (gq (fH (aK Dn (pv 1) (pv 2)) (ak (pv 5) aj))))))))),?_⟩;have lk:=hK.len;have few:=hT.few;have nb:((bot.natAbs:Nat):Int)=bot:=⋯;refine⟨_,rfl,?_⟩;refine⟨d,kvs,hd,λo=>?_⟩;obtain⟨H1,e1⟩:∃H1,H1=upd H d (.dw o (.dK kvs)):=⟨_,rfl⟩;have hf:H1 d=some (.dw o (.dK kvs)):=by rw[e1];exact aC
  have Zo:Dk H1 kvs T:=by rw[e1];exact hK.up (Og hd _)
  have PV:Same H (upd H1 d (.dK kvs)):=Same.QH hd (by rw[<-e1];exact Same.refl _);rw[<-e1];refine⟨_,rfl,d,o,kvs,rfl,hf,?_⟩;refine Ht (UN hf) (λi σ' H'=>∃(o3 o4:Option V),σ'=[some (.ref d),some (.int bot),some (.int (Lm.dg bot.natAbs (Cf.eO (T.take i)):Nat)),o3,o4,none,none]/\H1=H') ⟨_,_,by show _=[some (V.ref d),some (V.int bot),some (V.int ((bot.natAbs:Nat):Int)),_,_,none,none];rw[nb];rfl,rfl⟩ (λi σ' H' ⟨_,_,_,z⟩=>z▸Same.refl _) ?_ ?_
  .rintro i x σ' _ hx ⟨o3,o4,rfl,rfl⟩;obtain⟨kv,Yh,rfl⟩:=IY hx;obtain⟨a,r,ts,rfl,eT,ha⟩:=Zo.get Yh;have hv:d7 kvs (.inl r)=some (.ref a):=by
    have:∀{kvs:List (Key×V)},(kvs.map (·.1)).Nodup->∀{p:Key×V},p∈kvs->d7 kvs p.1=some p.2:=λ{kvs}=>by
     induction kvs with
     |nil=>intro _ p h;cases h
     |cons x kvs ih=>
      intro hn p h;have hn':x.1∉kvs.map (·.1)/\(kvs.map (·.1)).Nodup:=mL.mp hn;rcases bN.mp h with rfl|h
      .exact Ag rfl
      .rw[wu λz=>hn'.1 (by rw[z];exact iJ (f:=(·.1)) h)];exact ih hn'.2 h
    exact this (by rw[Zo.keys];exact vd.mpr (hT.nd.imp λh z=>h (vm z))) (List.mem_of_getElem? Yh)
   refine⟨_,rfl,_,rfl,d,.ref a,rfl,.inl ⟨kvs,.inl r,.inr ⟨o,hf⟩,rfl,hv.symm⟩,a,rfl,.inl ⟨⟨_,au.of ha⟩,?_⟩⟩;refine Ht (xW (au.of ha)) (λj σ' H'=>∃(o4:Option V),σ'=[some (.ref d),some (.int bot),some (.int (Lm.dg bot.natAbs (Cf.eO (T.take i)++ts.take j):Nat)),some (.int r),o4,none,none]/\H1=H') ⟨_,by rw[show ts.take 0=[]from rfl,xg];rfl,rfl⟩ (λj σ' H' ⟨_,_,z⟩=>z▸Same.refl _) ?_ ?_
   .rintro j y σ' _ hy ⟨o4,rfl,rfl⟩;obtain⟨rfl,hj⟩:=Fe hy;refine⟨_,rfl,_,rfl,_,_,rfl,some (.int (Pm.co ts j)),?_,rfl⟩;rw[yJ (xs:=ts) (n:=j+1) ⋯ ⋯,fU,<-Oj,Lm.Wl,uU];rfl
   .rintro σ' _ ⟨o4,rfl,rfl⟩;rw[aB,lY];refine⟨some (.int r),o4,?_,rfl⟩;rw[take_one eT];have e2:Cf.eO (T.take i++[(r,ts)])=Cf.eO (T.take i)++ts:=by unfold Cf.eO;rw[List.flatMap_append];show _++(ts++[])=_;rw[xg]
    rw[e2]
  rintro σ' _ ⟨o3,o4,rfl,rfl⟩;rw[aB,qY ⋯];refine⟨hf,?_⟩;have gl:=arS (ts:=Cf.eO T) b1 bb;have F:=@Cf.aov f' bot T;generalize Lm.dg bot.natAbs (Cf.eO T)=g at gl F;have hg0:(0:Int)<=(g:Int):=⋯;generalize upd H1 d (.dK kvs)=H3 at PV;refine⟨cB _,λlp hlp=>?_⟩;obtain⟨H4,uu,g4,h4⟩:=nw hlp (.lst []);rw[uu];have Yc:=PV.trans g4;have arH:=PV.free hlp;refine⟨_,rfl,d,kvs,T.map (·.1),rfl,Yc _ _ hd,hK.keys,by rw[aB];omega,λlk ks hp hw hn=>?_⟩;have Fk:=F b1 hT.nd (λp hp=>(hT.ne p hp).1) hs hp hw;have lks:ks.length<=40:=by rw[hp.length_eq,aB];exact few
  obtain⟨H5,uu,g5,h5⟩:=nw hn (.lst (ks.map V.int));rw[uu];have nlk:lk≠lp:=λz=>by rw[z,h4]at hn;cases hn
  refine⟨lk,rfl,.inl ⟨⟨_,au.of h5⟩,?_⟩⟩;refine xY (xs:=ks.map V.int) (λi σ' H'=>∃(o3 o4 o6:Option V) (ys:List V),σ'=[some (.ref d),some (.int bot),some (.int (g:Int)),o3,o4,some (.ref lp),o6]/\Same H H'/\H' lk=some (.lst (ks.map V.int))/\H' lp=some (.lst ys)/\eG H' [lp] ys (Cf.lowP T g (ks.take i))/\ys.length<=i) ⟨_,_,_,[],rfl,Yc.trans g5,h5,g5 _ _ h4,.nil,aN _⟩ (λi σ' H' ⟨_,_,_,_,_,_,z,_⟩=>au.of z) ?_ ?_
  .rintro i x σ' H6 hx ⟨o3,o4,o6,ys,rfl,g6,HC,Bo,Ge,ly⟩;obtain⟨rfl,hi⟩:=Fe hx;have et:ks.take (i+1)=ks.take i++[Pm.co ks i]:=by have:=yJ (xs:=ks) (n:=i+1) ⋯ ⋯;rwa [fU]at this
   have hrk:Pm.co ks i∈T.map (·.1):=hp.mem_iff.mp (Pm.ux hi);rw[et,akQ];generalize Pm.co ks i=r at hrk;have vl:=auh hT r;obtain⟨a,hv,ha⟩:=(hK.val r).resolve_right λz=>z.2.2 hrk;unfold Cf.jl;generalize Cf.dB r T=cs at ha vl;have Hu:=g6 _ _ ha;refine⟨_,rfl,_,rfl,d,.ref a,rfl,by have z:=oY.k (k:= .inl r) (g6 _ _ hd);rw[hv]at z;exact z,a,rfl,.inl ⟨⟨_,au.of Hu⟩,?_⟩⟩;refine uK Hu ⋯ rfl (λt=>t/(g:Int)) ?_ ?_
   .intro H2 x g2 hx k hk;refine⟨_,rfl,_,rfl,_,_,rfl,rfl,gl,?_⟩;rw[RV _ hg0];exact hk
   intro D hD;obtain⟨H7,uu,g7,h7⟩:=nw hD (.lst ((cs.map λt=>t/(g:Int)).map V.int));rw[uu];have lx:(cs.map λt=>t/(g:Int)).length<=40:=by rw[aB];exact vl
   generalize (cs.map λt=>t/(g:Int))=xs at h7 lx;refine rF.by (λσ' H'=>σ'=[some (.ref d),some (.int bot),some (.int (g:Int)),some (.int r),o4,some (.ref lp),some (.ref D)]/\Same H6 H'/\H' D=some (.lst ((Pm.trim xs).map V.int))) (λNN kO=>?_) ?_
   .refine⟨λm σ' H'=>∃n:Nat,m=n/\n<=xs.length/\σ'=[some (.ref d),some (.int bot),some (.int (g:Int)),some (.int r),o4,some (.ref lp),some (.ref D)]/\Same H6 H'/\H' D=some (.lst ((xs.take n).map V.int))/\Pm.trim (xs.take n)=Pm.trim xs,
     ⟨_,xs.length,rfl,aN _,rfl,g7,by rw[lY];exact h7,by rw[lY]⟩,?_⟩
    rintro m σ' H8 ⟨n,e0,hn,rfl,g8,hN,ht⟩;refine⟨_,rfl,cB _,λe he=>?_⟩;have ge:=Same.new he (.lst []);refine aea (ns:=xs.take n) (ms:=[]) (au.of (ge _ _ hN)) (au.of aC) ⟨_,rfl,?_⟩;have gH:=g8.trans ge;have zu:=ge _ _ hN;generalize upd H8 e (.lst [])=H9 at ge gH zu;by_cases h0:n=0
    .subst h0;rw[List.take_zero,decide_eq_true rfl];exact lD (lD (kO _ _ ⟨rfl,gH,by rw[<-FN hn ht (.inl rfl)];exact zu⟩))
    .have hne:¬xs.take n=[]:=by
      intro z;have:=congrArg sZ z;rw[jd,K8]at this;omega
     rw[decide_eq_false hne];refine qZ ?_;have es:=yJ (xs:=xs) (⋯:0<n) hn;have em:(xs.take n).map V.int=(xs.take (n-1)).map V.int++[.int (xs.getD (n-1) 0)]:=by rw[es,yV]
     refine⟨_,rfl,_,rfl,_,.int (xs.getD (n-1) 0),.inl (au.of zu),(by rw[em];exact apx _ _),_,rfl,?_⟩;refine dR (λc2=>?_) (λc2=>kO _ _ ⟨rfl,gH,by rw[<-FN hn ht (.inr (dec_false c2))];exact zu⟩);refine⟨_,λ_ _ z=>z,?_⟩;refine⟨_,rfl,.inl ⟨rfl,_,au.of zu⟩,D,_,.int (xs.getD (n-1) 0),rfl,rfl,zu,?_,?_⟩
     .rw[em];simp
     .refine⟨n-1,⋯,n-1,rfl,⋯,rfl,gH.upd hD _,?_,agP ⋯ hn ht (dec_true c2)⟩;rw[aC,em,List.dropLast_concat]
   rintro _ H8 ⟨rfl,g8,hN⟩;generalize Pm.trim xs=zs at hN;refine⟨_,rfl,cB _,λe he=>?_⟩;have ge:=Same.new he (.lst []);have yU:=g8.trans ge;have Tz:=ge _ _ hN;have hke:=yU _ _ HC;have hle:=yU _ _ Bo;have NZ:=Ge.same yU;have nD:D≠lp:=λz=>by rw[z,Bo]at hD;cases hD
   refine aea (ns:=zs) (ms:=[]) (au.of Tz) (au.of aC) ⟨_,rfl,?_⟩;generalize upd H8 e (.lst [])=H9 at ge yU Tz hke hle NZ;by_cases hne:zs=[]
   .rw[decide_eq_true hne];refine lD ⟨_,_,_,ys,rfl,g6.trans yU,hke,hle,?_,⋯⟩;rw[if_neg (λz=>z hne),xg];exact NZ
   .rw[decide_eq_false hne];refine qZ ?_;refine⟨_,rfl,.inl ⟨rfl,_,au.of hle⟩,_,rfl,_,rfl,(by show 2<=sizeLine;decide),λt2 qm=>?_⟩;have gt:=Same.new qm (.tup [.int r,.ref D]);refine⟨lp,_,_,rfl,rfl,gt _ _ hle,dZ ⋯,?_⟩;refine⟨_,_,_,ys++[.ref t2],rfl,((g6.trans yU).trans gt).upd arH _,by rw[bF nlk];exact gt _ _ hke,aC,?_,by rw[dW];show ys.length+1<=_;omega⟩;rw[if_pos hne];exact((NZ.same gt).append (.cons aC (λz=>nD (eV.mp z)) (gt _ _ Tz) .nil)).set (gt _ _ hle) (eV.mpr rfl)
  rintro σ' H6 ⟨o3,o4,o6,ys,rfl,g6,HC,Bo,Ge,ly⟩;rw[aB,lY]at Ge;refine⟨_,rfl,_,rfl,_,_,rfl,rfl,gl,_,rfl,(by show 2<=sizeLine;decide),λt ht=>?_⟩;have gt:=Same.new ht (.tup [.int (bot.fdiv (g:Int)),.ref lp]);rw[RV _ hg0]at gt⊢;exact q t _ _ _ (g6.trans gt) ⟨lp,ys,[lp],aC,gt _ _ Bo,Ge.same gt⟩ Fk
theorem aoN(F:Fn K mg "_law_added" Qs ["_law_one","_law_other"])(Ax:QG P w K mg base):agS P w K mg base:=by
 refine F.cal qM (λvs H Q E h=>?_) (λ_ _ _ _ _ H _ Q E hr h=>?_)
 .obtain⟨t1,t2,b1,b2,ps1,ps2,f1,f2,rfl,_⟩:=h;rfl
 .obtain⟨t1,t2,b1,b2,ps1,ps2,f1,f2,rfl,A1,A2,O1,O2,q⟩:=h;refine⟨_,(ao (aF 2 qM.nd RW) (ao (gb PassesOwn.never rfl (fD K (gK (Dj (gq (ak (pv 0) (aL (aO K (pv 1) aq) aj))) (Dj (gq (ak (pv 1) (aL (aO K (pv 0) aq) aj))) aj)))) (CK K (n:=2) rfl (rM (bD 3 qM.nd) (rM (HY (i:=4) qM.nd rfl (fP rfl)) B7))) (aD (gb PassesOwn.never rfl (fD K (aO K (pv 3) aq)) (CK K (n:=2) rfl (rM (bD 5 qM.nd) (rM (bD 6 qM.nd) B7))) (ao (aF 7 qM.nd (ao6 hr.hu (pv 2) (pv 5) (gK aj) ⟨rfl,rfl,rfl,rfl⟩)) (ao (aF 8 qM.nd (jF (adE rfl) rfl B.afw boot_max (aL (cG K B.cH (ak (pv 7) aj)) (aL (cG K B.cH (ak (pv 6) aj)) aj)))) (ao (aF 7 qM.nd (pad K (pv 7) (aK v_mul (gK (eY aq aj)) (aK dH (pv 8) (cG K B.cH (ak (pv 7) aj)))))) (ao (aF 9 qM.nd (pad K (fZ (sc:=alU) (N:=["_law_top","_law_times_it"]) (ix:=[none,some 4]) dY rfl (fD K (pv 6)) (λcl C s₀ H₀ ex=>⟨(bD 0 dN),eE,(aK v_mul (pv 0) (pv 1))⟩)) (aK v_mul (gK (eY aq aj)) (aK dH (pv 8) (cG K B.cH (ak (pv 6) aj)))))) (aD (Lj hr.hu (pv 2) (pv 5) (fZ (sc:=aoL) (N:=["_law_a","_law_b"]) (ix:=[none,none]) dY rfl (aoY K rfl B.ajo (ak (pv 7) (ak (pv 9) aj))) (λcl C s₀ H₀ ex=>⟨(CK K (n:=2) rfl (rM (bD 0 dN) (rM (bD 1 dN) B7))),eE,(pad K (pv 0) (pv 1))⟩)) rfl))))))))) (aD (bh (aJ Ax hr (ak (pv 2) (fH (aK v_mul (aO K (pv 0) aq) (aO K (pv 1) aq)) aj))))))),?_⟩;obtain⟨lp1,ys1,ex1,ht1,hl1,hp1⟩:=id A1;obtain⟨lp2,ys2,ex2,qm,hl2,hp2⟩:=id A2;refineλd hd=>?_;obtain⟨H0,uu,g0,h0⟩:=nw hd (.dK []);rw[uu];refine⟨_,rfl,_,rfl,_,_,.inr (aA.of (g0 _ _ qm)),rfl,(by show 2<=sizeLine;decide),λu1 hu1=>?_⟩;obtain⟨H1,uu,g1,h1⟩:=nw hu1 (.tup [.ref t1,.int b2]);rw[uu];refine⟨_,rfl,_,rfl,_,_,.inr (aA.of (g1 _ _ (g0 _ _ ht1))),rfl,(by show 2<=sizeLine;decide),λu2 hu2=>?_⟩;obtain⟨H2,uu,g2,h2⟩:=nw hu2 (.tup [.ref t2,.int b1]);rw[uu];refine⟨(by show 2<=sizeLine;decide),λlz hlz=>?_⟩;obtain⟨H3,uu,g3,h3⟩:=nw hlz (.lst [.ref u1,.ref u2]);rw[uu];have g02:=g1.trans (g2.trans g3);refine⟨lz,rfl,.inl ⟨⟨_,au.of h3⟩,?_⟩⟩;refine xY (xs:=[.ref u1,.ref u2]) (λi σ' H'=>∃(o3 o4 o5 o6 o7 o8 o9:Option V) (kvs:List (Key×V)) (T:List (Int×List Int)),σ'=[some (.ref t1),some (.ref t2),some (.ref d),o3,o4,o5,o6,o7,o8,o9]/\Same H H'/\H' u1=some (.tup [.ref t1,.int b2])/\H' u2=some (.tup [.ref t2,.int b1])/\H' lz=some (.lst [.ref u1,.ref u2])/\H' d=some (.dK kvs)/\Dk H' kvs T/\Cd T (10*i) λn=>(if 0<i then b2*Cf.bJ ps1 n else 0)+(if 1<i then b1*Cf.bJ ps2 n else 0))
   ⟨_,_,_,_,_,_,_,[],[],rfl,g0.trans g02,(g2.trans g3) _ _ h1,g3 _ _ h2,h3,g02 _ _ h0,.nil,⟨.nil,aN _,λp hp=>absurd hp gR,λn=>rfl⟩⟩ (λi σ' H' ⟨_,_,_,_,_,_,_,_,_,_,_,_,_,z,_⟩=>au.of z) ?_ ?_
  .rintro i x σ' H4 hx ⟨o3,o4,o5,o6,o7,o8,o9,kvs,T,rfl,g4,e1,e2,e3,hD,hK,hT⟩;obtain⟨u,t,c,b,ps,f,lp,ys,ex,rfl,hu,ht,hl,hp,O,bc,hF⟩:∃(u t:Addr) (c b:Int) (ps:List (Int×List Int)) (f:Nat->Int) (lp:Addr) (ys:List V) (ex:List Addr),x = .ref u/\H4 u=some (.tup [.ref t,.int c])/\H t=some (.tup [.int b,.ref lp])/\H lp=some (.lst ys)/\eG H ex ys ps/\FO f b ps/\Rm.Bd 2400 c/\
     (λn=>(if 0<i+1 then b2*Cf.bJ ps1 n else 0)+(if 1<i+1 then b1*Cf.bJ ps2 n else 0))=λn=>((if 0<i then b2*Cf.bJ ps1 n else 0)+(if 1<i then b1*Cf.bJ ps2 n else 0))+c*Cf.bJ ps n:=by
    match i,hx with
    |0,hx=>cases hx;exact⟨u1,t1,b2,b1,ps1,f1,lp1,ys1,ex1,rfl,e1,ht1,hl1,hp1,O1,O2.bb,funext λn=>by rw[if_pos ∅,if_neg ∅,if_neg ∅,if_neg ∅];omega⟩
    |1,hx=>cases hx;exact⟨u2,t2,b1,b2,ps2,f2,lp2,ys2,ex2,rfl,e2,qm,hl2,hp2,O2,O1.bb,funext λn=>by rw[if_pos ∅,if_pos ∅,if_pos ∅,if_neg ∅];omega⟩
   rw[hF];obtain⟨F,eF⟩:∃F:Nat->Int,∀n,(if 0<i then b2*Cf.bJ ps1 n else 0)+(if 1<i then b1*Cf.bJ ps2 n else 0)=F n:=⟨_,λ_=>rfl⟩;simp only[eF]at hT⊢;have ly:=hp.len;have few:=O.few;have hi2:i<2:=(List.getElem?_eq_some_iff.mp hx).1;refine⟨u,_,rfl,aA.of hu,rfl,_,_,rfl,_,_,rfl,rfl,?_⟩;refine⟨_,rfl,_,_,.inr (aA.of (g4 _ _ ht)),rfl,lp,rfl,.inl ⟨⟨_,au.of (g4 _ _ hl)⟩,?_⟩⟩;refine xY (xs:=ys) (λj σ' H'=>∃(o5 o6 o7 o8 o9:Option V) (kvs:List (Key×V)) (T:List (Int×List Int)),σ'=[some (.ref t1),some (.ref t2),some (.ref d),some (.ref t),some (.int c),o5,o6,o7,o8,o9]/\Same H H'/\H' u1=some (.tup [.ref t1,.int b2])/\H' u2=some (.tup [.ref t2,.int b1])/\H' lz=some (.lst [.ref u1,.ref u2])/\H' d=some (.dK kvs)/\Dk H' kvs T/\Cd T (10*i+j) λn=>F n+c*Cf.bJ (ps.take j) n)
    ⟨_,_,_,_,_,kvs,T,rfl,g4,e1,e2,e3,hD,hK,⟨hT.nd,hT.few,hT.ne,λn=>by rw[hT.sum];show _=_+c*0;rw[aP,dj]⟩⟩ (λj σ' H' ⟨_,_,_,_,_,_,_,_,z,_⟩=>au.of (z _ _ hl)) ?_ ?_
   .rintro j y σ' H5 hy ⟨o5,o6,o7,o8,o9,kvs,T,rfl,g5,e1,e2,e3,hD,hK,hT⟩;obtain⟨tt,a,r,ts,rfl,ep,htt,ha⟩:=hp.get hy;have hmem:=List.mem_of_getElem? ep;obtain⟨lt,bt⟩:=O.ok _ hmem;replace lt:ts.length<=10:=lt;replace bt:∀c∈ts,Rm.Bd 2400 c:=bt;have r0:r≠0:=O.fm.ne _ hmem;have hj:j<ys.length:=(List.getElem?_eq_some_iff.mp hy).1;refine⟨tt,[.int r,.ref a],rfl,aA.of (g5 _ _ htt),rfl,_,_,rfl,_,_,rfl,rfl,?_⟩;refine⟨_,rfl,d,rfl,.inl ⟨kvs,.inl hD⟩,_,rfl,cB _,λe he=>?_⟩;obtain⟨H6,uu,g6,h6⟩:=nw he (.lst []);rw[uu];refine⟨_,oY.k (k:= .inl r) (g6 _ _ hD),?_⟩;obtain⟨w,ew,hw⟩:∃w,(d7 kvs (.inl r)).getD (.ref e) = .ref w/\H6 w=some (.lst ((Cf.dB r T).map V.int)):=by
     rcases hK.val r with⟨w,z1,z2⟩|⟨z1,z2,_⟩
     .exact⟨w,by rw[z1];rfl,g6 _ _ z2⟩
     .exact⟨e,by rw[z1];rfl,by rw[z2];exact h6⟩
    rw[ew];have lv:(Cf.dB r T).length<=40:=by
     by_cases z:Cf.dB r T=[]
     .rw[z];exact cB _
     .exact(hT.ne _ (Cf.Fq z)).2
    have T':=hT.put (r:=r) (c:=Cf.yx (Cf.dB r T) (ts.map λt=>t*c)) r0 (by rw[Cf.ap6,aB];omega) (λn=>F n+c*Cf.bJ (ps.take (j+1)) n) λn=>by
     rw[Cf.akx,alM,take_one ep,f9];have:Cf.bJ (ps.take j++[(r,ts)]) n=Cf.bJ (ps.take j) n+r^n*Cf.pv ts n:=by
      unfold Cf.bJ;rw[fW,C7];show _+(r^n*Cf.pv ts n+0)=_;rw[dj]
     rw[this,f9,fj (r^n) c];omega
    have ndT:=hT.nd;have ay3:=hT.few;unfold Cf.yx at T';rw[aB]at T';generalize hvv:Cf.dB r T=cs at hw lv T';have lc:(cs.map V.int).length=cs.length:=aB _;have ls:(ts.map V.int).length=ts.length:=aB _;have Hu:=(g5.trans g6) _ _ ha;refine⟨_,rfl,.ref w,cs.length,rfl,.inl ⟨_,au.of hw,lc.symm⟩,_,rfl,.ref a,ts.length,rfl,.inl ⟨_,au.of Hu,ls.symm⟩,_,_,rfl,?_⟩;rw[aiZ];obtain⟨m,em⟩:∃m,m=max cs.length ts.length:=⟨_,rfl⟩;rw[<-em]at T'⊢;refine⟨_,rfl,(by show 1<=sizeLine;decide),λz0 hz0=>?_⟩;obtain⟨H7,uu,g7,h7⟩:=nw hz0 (.lst [.int 0]);rw[uu];refine⟨_,rfl,_,rfl,.ref w,cs.length,rfl,.inl ⟨_,au.of (g7 _ _ hw),lc.symm⟩,_,_,rfl,rfl,?_⟩;have en:((m:Int)-(cs.length:Int)).toNat=m-cs.length:=⋯;refine⟨_,h7,(⋯:-(2^63)<=(m:Int)-(cs.length:Int)),(⋯:(m:Int)-(cs.length:Int)<2^63),?_,λl8 CV=>?_⟩
    .rw[en];show 1*(m-cs.length)<=sizeLine;rw[m6];exact gG (dZ ⋯)
    rw[en,afs];obtain⟨H8,uu,g8,h8⟩:=nw CV (.lst ((cN (m-cs.length) (0:Int)).map V.int));rw[uu];refine .inl ⟨_,_,g8 _ _ (g7 _ _ hw),h8,?_,λl9 hl9=>?_⟩
    .rw[lc,aB,rP];exact gG (dZ ⋯)
    rw[<-fW];obtain⟨H9,uu,g9,h9⟩:=nw hl9 (.lst ((cs++cN (m-cs.length) 0).map V.int));rw[uu];have g69:=g6.trans (g7.trans (g8.trans g9));have Vh:=(g5.trans g69) _ _ ha;refine⟨_,rfl,a,rfl,.inl ⟨⟨_,au.of Vh⟩,?_⟩⟩;refine uK Vh ⋯ rfl (λt=>t*c) ?_ ?_
    .intro H' x g' hx k hk;exact⟨_,rfl,_,rfl,m9 (bt x hx) bc ∅,hk⟩
    intro D10 alp;obtain⟨wD,uu,rH,h10⟩:=nw alp (.lst ((ts.map λt=>t*c).map V.int));rw[uu];refine⟨(by show 1<=sizeLine;decide),λz1 hz1=>?_⟩;obtain⟨Lf,uu,rR,h11⟩:=nw hz1 (.lst [.int 0]);rw[uu];have aqk:=(rH.trans rR) _ _ Vh;refine⟨_,rfl,_,rfl,.ref a,ts.length,rfl,.inl ⟨_,au.of aqk,ls.symm⟩,_,_,rfl,rfl,?_⟩;have en2:((m:Int)-(ts.length:Int)).toNat=m-ts.length:=⋯;refine⟨_,h11,(⋯:-(2^63)<=(m:Int)-(ts.length:Int)),(⋯:(m:Int)-(ts.length:Int)<2^63),?_,λoK axY=>?_⟩
    .rw[en2];show 1*(m-ts.length)<=sizeLine;rw[m6];exact gG (dZ ⋯)
    rw[en2,afs];obtain⟨H12,uu,gk,h12⟩:=nw axY (.lst ((cN (m-ts.length) (0:Int)).map V.int));rw[uu];refine .inl ⟨_,_,gk _ _ (rR _ _ h10),h12,?_,λl13 ajZ=>?_⟩
    .rw[aB,aB,aB,rP];exact gG (dZ ⋯)
    rw[<-fW];obtain⟨H13,uu,oM,h13⟩:=nw ajZ (.lst (((ts.map λt=>t*c)++cN (m-ts.length) 0).map V.int));rw[uu];have abG:=rH.trans (rR.trans (gk.trans oM));have aeV:=abG _ _ h9;refine⟨_,rfl,_,rfl,false,false,l9,l13,_,_,rfl,au.of aeV,au.of h13,?_⟩;refine ak2 (t1:=false) (t2:=false) (au.of aeV) (au.of h13) (by rw[aB,dW,rP];exact gG (dZ ⋯)) rfl YK ?_ ?_
    .intro H' k x y g' hx hy kk hkk;obtain⟨x,_,rfl⟩:=bZ.mp (List.mem_of_getElem? hx);obtain⟨y,_,rfl⟩:=bZ.mp (List.mem_of_getElem? hy);exact⟨_,rfl,_,rfl,hkk⟩
    intro D14 Mf azq yR h14;rw[aby]at h14;have AF:=g69.trans (abG.trans yR);have hD':=AF _ _ hD;refine⟨_,rfl,_,rfl,d,_,rfl,xZ.k (k:= .inl r) hD' (by rw[hK.len];exact dZ ⋯),?_⟩;have nd:∀{b:Addr} {o:HO},Mf b=some o->(∀kv,o≠ .dK kv)->(upd Mf d (.dK (putK kvs (.inl r) (.ref D14)))) b=some o:=λ{b o} h no=>by
     rw[bF λz=>by rw[z,hD']at h;cases h;exact no _ rfl];exact h
    refine⟨_,_,_,_,_,_,_,rfl,(g5.trans AF).upd hd _,nd (AF _ _ e1) (λ_ z=>by cases z),nd (AF _ _ e2) (λ_ z=>by cases z),nd (AF _ _ e3) (λ_ z=>by cases z),aC,((hK.same AF).put h14 ndT).up (Og hD' _),T'⟩
   .rintro σ' H5 ⟨o5,o6,o7,o8,o9,kvs,T,rfl,g5,e1,e2,e3,hD,hK,hT⟩;rw[qY ⋯]at hT;exact⟨_,_,_,_,_,_,_,kvs,T,rfl,g5,e1,e2,e3,hD,hK,⟨hT.nd,by have:=hT.few;omega,hT.ne,hT.sum⟩⟩
  rintro σ' H4 ⟨o3,o4,o5,o6,o7,o8,o9,kvs,T,rfl,g4,e1,e2,e3,hD,hK,hT⟩;refine⟨_,rfl,_,rfl,_,_,.inr (aA.of (g4 _ _ ht1)),rfl,_,rfl,_,_,.inr (aA.of (g4 _ _ qm)),rfl,m9 O1.bb O2.bb ∅,?_⟩;have p1:=O1.fm.pos;have p2:=O2.fm.pos;refine⟨d,kvs,T,b1*b2,λn=>f1 n+f2 n,rfl,hD,hK,⟨hT.nd,fY hT.few (show 10*2<=40 by decide),hT.ne⟩,?_,(O1.bb.mul O2.bb).mono ∅,λn=>?_,λt b ps H5 g5 hF hf=>q t b ps H5 (g4.trans g5) hF hf⟩
  .have:=Jv p1 p2 ⋯ ⋯;omega
  .rw[hT.sum,O1.fm.sum,O2.fm.sum,f9];show(if 0<2 then _ else _)+(if 1<2 then _ else _)=_;rw[if_pos ∅,if_pos ∅,fj b2,bU,bU]
theorem asb{f:Addr}{fd:FuncData}(F:tQ K "law" "law" wk f fd)(JQ:agw P w K mg base)(oZ:FZ P w K mg base)(yd:WV P w K mg base fu dM)(Vz:agC P w K mg base)(Sw:agS P w K mg base)(Vt:ae3 P w K mg base)(Ax:QG P w K mg base):qU P w K mg base (rC P w) Oc f fd ["_law_script"] (Px K):=by
 refine F.okN (k:=14) tU (λvs H Q E h=>?_) (λcdv A outer s H vs Q E hr h=>?_)
 .obtain⟨a,ns,rfl,_⟩:=h;rfl
 .obtain⟨a,ns,rfl,hS,hlen,q⟩:=h;refine⟨_,(ao (aF 1 tU.nd (aJ JQ hr (ak (pv 0) (eY aq aj)))) (ao (aF 2 tU.nd (aJ JQ hr (ak (pv 0) (eY aq aj)))) (ao (sY (eZ (cU (jm K hr) (aK je (aJ oZ hr (ak (pv 0) (eY aq aj))) aq) aq) (aD (aF 2 tU.nd (gq (eY aq (aL (aO K (pv 1) aq) (aL (kJ (pq K) rfl B.oN boot_tuple (aL (fZ (sc:=as8) (N:=["_law_k","_law_script"]) (ix:=[none,some 0]) dY rfl (iz rfl B.gC (aL (cG K B.cH (aL (aO K (pv 1) aq) aj)) aj)) (λcl C s₀ H₀ ex=>⟨(bD 0 dN),eE,(aK dH (aK je (aJ oZ hr (ak (pv 1) (fH (pad K aq (pv 0)) aj))) aq) aq)⟩)) aj)) aj)))))) fB)) (ao (eZ (cU (nT K hr) (aJ yd hr (aL (aJ Vz hr (ak (pv 1) (ak (pv 2) aj))) aj)) (aJ Sw hr (aL (aJ yd hr (ak (pv 1) aj)) (aL (aJ yd hr (ak (pv 2) aj)) aj)))) (aD (bh Bb)) fB) (ao (gP (i:=3) tU.nd rfl (fP rfl) (aK dH (aK je (aJ oZ hr (ak (pv 0) (eY aq aj))) aq) aq)) (ao (aF 4 tU.nd (aJ yd hr (ak (pv 1) aj))) (ao (aF 5 tU.nd RW) (ao (gb PassesOwn.never rfl (fD K (aO K (pv 4) aq)) (CK K (n:=2) rfl (rM (bD 6 tU.nd) (rM (bD 7 tU.nd) B7))) (aD (Lj hr.hu (pv 5) (pv 6) (fZ (sc:=ayQ) (N:=["_law_top","_law_number"]) (ix:=[none,some 3]) dY rfl (fD K (pv 7)) (λcl C s₀ H₀ ex=>⟨(bD 0 dN),eE,(aK v_mul (pv 0) (pv 1))⟩)) rfl))) (aD (bh (yZ (jm K hr) (aJ yd hr (aL (aJ Vt hr (ak (pv 1) (ak (pv 3) aj))) aj)) (aJ Ax hr (ak (pv 5) (aL (aO K (pv 4) aq) aj))) (xO _)))))))))))),?_⟩;refine⟨_,rfl,a,ns,0,rfl,hS,hlen,∅,∅,λv1 rule ss H1 g1 pG G1 l1 b1=>?_⟩;refine⟨_,rfl,a,ns,20,rfl,g1.seq hS,hlen,∅,∅,λv2 ayW ss2 H2 g2 mY G2 l2 b2=>?_⟩;have C1:=G1.c ∅ l1 b1;have s5:=G1.short;have gk:=g1.trans g2;have WR:=pG.same g2;refine rF.by (λσ' H'=>∃v2 r2,σ'=[some (.ref a),some v1,some v2,none,none,none,none,none]/\Same H2 H'/\gZ H' v2 r2/\d8 5 30 r2) (λNN kO=>?_) ?_
  .refine⟨_,rfl,a,ns,40,rfl,gk.seq hS,hlen,∅,∅,λc=>?_⟩;refine⟨_,_,rfl,rfl,(∅:(0:Int)<3),_,rfl,?_⟩;refine dR (λcc=>?_) (λcc=>kO _ _ ⟨v2,_,rfl,Same.refl _,mY,G2.c ∅ l2 b2⟩);obtain⟨ra,p,p2,rfl,hA,hP,hSt⟩:=id WR;have lr:(rule.map V.int).length=rule.length:=aB _;refine⟨_,rfl,_,_,.inr (aA.of hA),rfl,?_⟩;refine⟨_,rfl,_,_,.inr (aA.of hA),rfl,.ref p,rule.length,rfl,.inr ⟨_,aA.of hP,lr.symm⟩,?_⟩;refine⟨(rule.length:Int),rfl,(⋯:-(2^62)<=(rule.length:Int)),(⋯:(rule.length:Int)<2^62),?_⟩;rw[d9];refine ap4 (n:=rule.length) ⋯ rfl (λx=>Rm.Bd 30 x) ?_ ?_
   .intro H' k g' hk kk hkk;refine⟨_,rfl,_,rfl,a,ns,41+(0+(k:Int)),rfl,(gk.trans g').seq hS,hlen,⋯,⋯,λc=>?_⟩;have d0:=qF c (show(0:Int)<9 by decide);have d1:=qb c (show(0:Int)<9 by decide);exact⟨_,_,rfl,rfl,(∅:(0:Int)<9),_,_,rfl,rfl,hkk _ ((Rm.Bd.of (n:=4) ⋯ ⋯).mono ∅)⟩
   intro D H3 xs hD g3 h3 lx bx;refine⟨D,_,rfl,.inl ⟨au.of h3,λtx htx=>?_⟩⟩;have g4:=Same.new htx (.tup (xs.map V.int));refine⟨(by show 3<=sizeLine;decide),λty hty=>?_⟩;have g5:=Same.new hty (.tup [.int 0,.ref p,.ref tx]);exact kO _ _ ⟨.ref ty,⟨0,rule,xs⟩,rfl,g3.trans (g4.trans g5),⟨ty,p,tx,rfl,aC,(g3.trans (g4.trans g5)) _ _ hP,g5 _ _ aC⟩,G1.c ∅ lx.symm bx⟩
  rintro _ H3 ⟨v2,r2,rfl,g3,mY,C2⟩;have pG:=WR.same g3;have g03:=gk.trans g3;refine⟨_,rfl,_,rfl,v1,v2,rfl,⟨0,rule,ss⟩,r2,30,pG,mY,C1,C2,∅,λv4 r4 H4 g4 hR4 C4 e4=>?_⟩;refine C4.closed hR4 λt5 b5 ps5 H5 g5 A5 O5=>?_;have GJ:=g4.trans g5;refine⟨_,rfl,C1.closed (pG.same GJ) λt6 b6 ps6 H6 g6 A6 O6=>?_⟩;have Al:=GJ.trans g6;refine⟨_,rfl,C2.closed (mY.same Al) λt7 b7 ps7 H7 g7 A7 O7=>?_⟩;refine⟨t6,t7,b6,b7,ps6,ps7,_,_,rfl,A6.same g7,A7,O6,O7,λt8 b8 ps8 H8 g8 A8 F8=>?_⟩;rw[e4]at O5;obtain⟨rfl,rfl⟩:=O5.fm.uniq F8;have g37:=Al.trans (g7.trans g8);refine ab9 (A5.same (g6.trans (g7.trans g8))) A8 ⟨_,rfl,lD ?_⟩;have V9:=pG.same g37;refine⟨_,rfl,a,ns,50,rfl,(g03.trans g37).seq hS,hlen,∅,∅,λc=>?_⟩;refine⟨_,_,rfl,rfl,(∅:(0:Int)<13),_,_,rfl,rfl,?_⟩;have m0:=qF c (show(0:Int)<13 by decide);have m1:=qb c (show(0:Int)<13 by decide);have bx:Rm.Bd 3 (c%13-6):=Rm.Bd.of ⋯ ⋯;generalize c%13-6=x at bx;refine⟨_,rfl,C1.closed V9 λt9 b9 W8 H9 g9 A9 O9=>?_⟩;refineλd hd=>?_;obtain⟨wD,uu,rH,h10⟩:=nw hd (.dK []);rw[uu];obtain⟨lp,ys,ex,ht,hl,hp⟩:=id A9;have ly:=hp.len;have few:=O9.few;refine⟨_,rfl,_,_,.inr (aA.of (rH _ _ ht)),rfl,lp,rfl,.inl ⟨⟨_,au.of (rH _ _ hl)⟩,?_⟩⟩;refine xY (xs:=ys) (λj σ' H'=>∃(o6 o7:Option V) (kvs:List (Key×V)) (T:List (Int×List Int)),σ'=[some (.ref a),some v1,some v2,some (.int x),some (.ref t9),some (.ref d),o6,o7]/\Same H9 H'/\H' d=some (.dK kvs)/\Dk H' kvs T/\T=(W8.take j).map λp=>(p.1,p.2.map λt=>t*x))
   ⟨_,_,[],[],rfl,rH,h10,.nil,rfl⟩ (λj σ' H' ⟨_,_,_,_,_,z,_⟩=>au.of (z _ _ hl)) ?_ ?_
  .rintro j y σ' Lf hy ⟨o6,o7,kvs,T,rfl,rR,hD,hK,eT⟩;obtain⟨tt,b,r,ts,rfl,ep,htt,hb⟩:=hp.get hy;have hmem:=List.mem_of_getElem? ep;obtain⟨lt,bt⟩:=O9.ok _ hmem;replace lt:ts.length<=10:=lt;have hj:j<ys.length:=(List.getElem?_eq_some_iff.mp hy).1;refine⟨tt,[.int r,.ref b],rfl,aA.of (rR _ _ htt),rfl,_,_,rfl,_,_,rfl,rfl,?_⟩;have abq:=rR _ _ hb;refine⟨_,rfl,b,rfl,.inl ⟨⟨_,au.of abq⟩,?_⟩⟩;refine uK abq ⋯ rfl (λt=>t*x) ?_ ?_
   .intro H' z g' hz k hk;exact⟨_,rfl,_,rfl,m9 (bt z hz) bx ∅,hk⟩
   intro D12 ajA;obtain⟨H12,uu,gk,h12⟩:=nw ajA (.lst ((ts.map λt=>t*x).map V.int));rw[uu];have hD':=gk _ _ hD;have hn:r∉T.map (·.1):=λz=>by
    rw[eT,cR]at z;obtain⟨p,hpm,e⟩:=bZ.mp z;obtain⟨i,hi,e2⟩:=jA.mp hpm;rw[jd]at hi;rw[List.getElem_take]at e2;obtain⟨hj2,e3⟩:=List.getElem?_eq_some_iff.mp ep;have:=adv.mp (vd.mp O9.fm.up) i j ⋯ hj2 ⋯;rw[e2,e3]at this;have e':p.1=r:=e;have t':p.1<r:=this;omega
   have lT:kvs.length<=10:=by rw[hK.len,eT,aB,jd];omega
   refine⟨_,rfl,_,rfl,d,_,rfl,xZ.k (k:= .inl r) hD' (dZ ⋯),?_⟩;have amj:Cf.n8 r (ts.map λt=>t*x) T=T++[(r,ts.map λt=>t*x)]:=by
    clear hK eT lT;induction T with
    |nil=>rfl
    |cons p T ih=>
     have h':r≠p.1/\r∉T.map (·.1):=by simpa[not_or]using hn
     unfold Cf.n8;rw[if_neg (λz=>h'.1 z.symm),ih h'.2];rfl
   have hdn:(T.map (·.1)).Nodup:=by
    rw[eT,cR];exact afA (aeZ _ (af3 _ _)) (Cf.qW O9.fm.up)
   refine⟨_,_,_,_,rfl,(rR.trans gk).upd (hd) _,aC,((hK.same gk).put h12 hdn).up (Og hD' _),?_⟩;rw[amj,eT,take_one ep,fW];rfl
  rintro σ' Lf ⟨o6,o7,kvs,T,rfl,rR,hD,hK,eT⟩;rw[qY ⋯]at eT;have b33:∀s∈ss.map (λs=>x*s),Rm.Bd 33 s:=λs hs=>by
   obtain⟨y,hy,rfl⟩:=bZ.mp hs;exact bx.mul (b1 y hy)
  have C33:=G1.c (ss:=ss.map λs=>x*s) (∅:33<=36) (by rw[aB];exact l1) b33;refine⟨_,rfl,_,rfl,v1,rule,ss,x,rfl,V9.same (g9.trans rR),C1,C33,bx,λv13 r13 H13 oM apg C13 e13=>?_⟩;refine C13.closed apg λt14 b14 ayZ Mf yR A14 O14=>?_;have Tf:=oM.trans yR;refine⟨_,rfl,_,rfl,_,_,.inr (aA.of ((rR.trans Tf) _ _ ht)),rfl,d,kvs,T,b9,r13.at,rfl,Tf _ _ hD,hK.same Tf,⟨?_,?_,λp hp=>?_⟩,O9.fm.pos,O9.bb.mono ∅,λn=>?_,λyO b15 azt H15 PN A15 UQ=>?_⟩
  .rw[eT,cR];exact Cf.qW O9.fm.up
  .rw[eT,aB];omega
  .rw[eT]at hp;obtain⟨p',hp',rfl⟩:=bZ.mp hp;exact⟨O9.fm.ne p' hp',by show(p'.2.map _).length<=40;rw[aB];have:=(O9.ok p' hp').1;omega⟩
  .have es:T=Cf.qj x W8:=by rw[eT];unfold Cf.qj;rw[show(λt=>t*x)=λt=>x*t from funext λt=>cA t x]
   rw[es,Cf.G8,O9.fm.sum,e13,av7 l1,fj]
  obtain⟨rfl,rfl⟩:=O14.fm.uniq UQ;exact ab9 (A14.same PN) A15 (q _)
end
def all_mk{P:Program}{w:World}{K:aG}{h:Heap}{mg:Str->Option Value}{fa:Addr}(X:K.In h)(G:h.Ns mainGlobals mg)(hfa:mg "law" = some (.ref fa))
  (F0:bw K "is_prime" QD) (F1:bw K "taken" Lr) (F2:bw K "inverse" Mh) (F3:bw K "over" Vx) (F4:bw K "shared_by" M7) (F5:bw K "refuse_prime" QZ) (F6:bw K "next_place" Tg) (F7:bw K "first_places" Qy) (F8:bw K "trimmed" Tw) (F9:bw K "times" Ur) (F10:bw K "divided" QM) (F11:bw K "monic" Vg) (F12:bw K "greatest" OL) (F13:bw K "of_rule" LC) (F14:bw K "rule_of" Oa) (UQ:bw K "prime_above" Ni) (F16:bw K "divides" Tv) (F17:bw K "taken_poly" Nk) (F18:bw K "nearest" Ss) (F19:bw K "joined" Vs) (F20:bw K "whole_greatest" MR) (F21:bw K "shared_divisor" Td) (F22:bw K "top_of" Pa) (F23:bw K "least_of" Sd) (F24:bw K "shortest" Nv) (F25:bw K "line_taken" NP) (F26:bw K "head_line" PL) (F27:bw K "bring_up" Li) (F28:bw K "freed" Va) (F29:bw K "clear" R4) (F30:bw K "common_divisor" Ti) (F31:bw K "lowest" Nz) (F32:bw K "free_numbers" Vc) (F33:bw K "solution" MJ) (F34:bw K "column_of" R5) (F35:bw K "paper_against" MP) (F36:bw K "solved" Ly) (F37:bw K "refuse_big" Uo) (F38:bw K "whole_divisors" Ny) (F39:bw K "perhaps_roots" Ux) (F40:bw K "divided_out" Lx) (F41:bw K "whole_roots" Mq) (F42:bw K "power" M9) (F43:bw K "form_line" PK) (F44:bw K "parts_of" Oi) (F45:bw K "closed" QV) (F46:bw K "refuse_long" Rj) (F47:bw K "told_row" Rk) (F48:bw K "sum_place" SN) (F49:bw K "pair_row" R9) (F50:bw K "joint_row" Ot) (F51:bw K "added" LV) (F52:bw K "scaled" Vf) (F53:bw K "_law_at" UG) (F54:bw K "_law_times" Lb) (F55:bw K "_law_roots" MG) (F56:bw K "_law_product" KW) (F57:bw K "_law_closed_row" Ue) (F58:bw K "_law_shared" NV) (F59:bw K "_law_lowest" Vw) (F60:bw K "_law_added" Qs) (FL:bw K "law" wk) (axW:jk K mainGlobals "abs" = some none) (amR:jk K mainGlobals "any" = some none) (alT:jk K mainGlobals "len" = some none) (ak1:jk K mainGlobals "list" = some none) (atZ:jk K mainGlobals "max" = some none) (axc:jk K mainGlobals "range" = some none) (aiD:jk K mainGlobals "reversed" = some none) (auV:jk K mainGlobals "sorted" = some none) (ays:jk K mainGlobals "sum" = some none) (awD:jk K mainGlobals "tuple" = some none) (auF:jk K mainGlobals "zip" = some none) (Lh:∃t,jk K mainGlobals "ABOVE_ALL_NUMBERS" = some (some (.int 1000000 t))) (Ut:∃t,jk K mainGlobals "BELOW_THE_PRIMES" = some (some (.int 1000000 t))) (Pb:∃t,jk K mainGlobals "LONGEST" = some (some (.int 12 t))) {fu:Addr} (abe:jk K mainGlobals "NoBy" = some (some (.ref fu))) {dM:Addr} (af7:jk K mainGlobals "TooBig" = some (some (.ref dM))) (awI:IW K fu [.type "ValueError",.type "Exception",.type "BaseException",.type "object"] "ValueError.__new__" = true) (awa:sU K (.ref fu) "__getattribute__" = some (some (.builtin "BaseException.__getattribute__"))) (ah6:sU K (.ref fu) "__getattr__" = some none) (apb:sU K (.ref fu) "__class__" = some (some (.builtin "object.__class__"))) (ayy:zF K fu (.type "BaseException")=some true) (aiu:zF K fu (.type "object")=some true) (an7:(W.clsIn K fu).isSome=true) (abt:oJ K (.ref fu) (.ref fu)=some true) (ab2:oJ K (.ref fu) (.ref dM)=some false) (acE:oJ K (.ref fu) (.type "ValueError")=some true) (ajL:IW K dM [.type "ValueError",.type "Exception",.type "BaseException",.type "object"] "ValueError.__new__" = true) (avI:sU K (.ref dM) "__getattribute__" = some (some (.builtin "BaseException.__getattribute__"))) (ahI:sU K (.ref dM) "__getattr__" = some none) (atF:sU K (.ref dM) "__class__" = some (some (.builtin "object.__class__"))) (ak6:zF K dM (.type "BaseException")=some true) (aiN:zF K dM (.type "object")=some true) (ame:(W.clsIn K dM).isSome=true) (afI:oJ K (.ref dM) (.ref fu)=some false) (abu:oJ K (.ref dM) (.ref dM)=some true) (V5:oJ K (.ref dM) (.type "ValueError")=some true):
  ∃fd:FuncData,(∀(s:Shared) (v:Value),BindsTo s fd ⟨[v],[]⟩ [("_law_script",v)])/\∀base:Heap,K.In base->base.Ns mainGlobals mg->qU P w K mg base (rC P w) Oc fa fd ["_law_script"] (Px K):=by
 obtain⟨f,oc,od,kV,doc,pm,an,cdv,ct,sl,e1,e2,e3,e4⟩:=FL.ex;have e:=hfa.symm.trans (uR X G e1);cases e;have FF:=agm (st:=wk) e2 e3 e4;have B:Bt mg:=⟨qx X G axW,qx X G amR,qx X G alT,qx X G ak1,qx X G atZ,qx X G axc,qx X G aiD,qx X G auV,qx X G ays,qx X G awD,qx X G auF,(let⟨t,q⟩:=Lh;⟨t,uR X G q⟩),(let⟨t,q⟩:=Ut;⟨t,uR X G q⟩),(let⟨t,q⟩:=Pb;⟨t,uR X G q⟩)⟩;refine⟨qL "law" "law" (pX wk) (lF wk) (aU wk) .none kV doc pm an cdv ct,λs v=> .of_eq rfl,λbase kB gB=>?_⟩;have M:Ms K mg base fu dM:=⟨uR X G abe,uR X G af7,agG kB gB abe awI SG ∅,⟨awa,ah6,apb,ayy,aiu,an7⟩,abt,ab2,acE,agG kB gB af7 ajL SG ∅,⟨avI,ahI,atF,ak6,aiN,ame⟩,afI,abu,V5⟩;have Nh:=aoP (P:=P) (w:=w) B M (F0.bK X G);have cM:=aqj (P:=P) (w:=w) B M (F1.bK X G);have U6:=aqU (P:=P) (w:=w) B M (F2.bK X G) cM;have oE:=aiQ (P:=P) (w:=w) B M (F3.bK X G) cM U6;have Ow:=axA (P:=P) (w:=w) B M (F4.bK X G);have MX:=aqZ (P:=P) (w:=w) B M (F5.bK X G);have OV:=anG (P:=P) (w:=w) B M (F6.bK X G) cM;have Fz:=aqz (P:=P) (w:=w) B M (F7.bK X G) OV;have ni:=asM (P:=P) (w:=w) B M (F8.bK X G);have Tj:=apF (P:=P) (w:=w) B M (F9.bK X G) cM ni;have nW:=aw1 (P:=P) (w:=w) B M (F10.bK X G) cM ni;have C0:=axn (P:=P) (w:=w) B M (F11.bK X G) oE;have Ai:=atJ (P:=P) (w:=w) B M (F12.bK X G) C0 nW;have wJ:=aiy (P:=P) (w:=w) B M (F13.bK X G) cM;have Am:=at6 (P:=P) (w:=w) B M (F14.bK X G) cM;have Ls:=ahn (P:=P) (w:=w) B M (UQ.bK X G) Nh;have Ip:=aif (P:=P) (w:=w) B M (F16.bK X G) nW;have Km:=awj (P:=P) (w:=w) B M (F17.bK X G) ni cM;have Ae:=anE (P:=P) (w:=w) B M (F18.bK X G);have Ud:=aoD (P:=P) (w:=w) B M (F19.bK X G) oE cM Ae;have UO:=aks (P:=P) (w:=w) B M (F20.bK X G) Ip Ls Ai Km Ae Ud;have Tc:=ani (P:=P) (w:=w) B M (F21.bK X G) UO Ai;have U5:=axo (P:=P) (w:=w) B M (F22.bK X G) cM ni;have zK:=atx (P:=P) (w:=w) B M (F23.bK X G) wJ U5 nW Tc;have xX:=aoC (P:=P) (w:=w) B M (F24.bK X G) zK Am;have O8:=arT (P:=P) (w:=w) B M (F25.bK X G) cM;have K6:=alN (P:=P) (w:=w) B M (F26.bK X G);have PZ:=akW (P:=P) (w:=w) B M (F27.bK X G) cM;have Pu:=aqY (P:=P) (w:=w) B M (F28.bK X G) oE cM;have Ql:=aop (P:=P) (w:=w) B M (F29.bK X G) K6 PZ Pu;have QX:=ao2 (P:=P) (w:=w) B M (F30.bK X G);have CT:=arC (P:=P) (w:=w) B M (F31.bK X G) oE QX;have QF:=av1 (P:=P) (w:=w) B M (F32.bK X G) cM CT;have B5:=au9 (P:=P) (w:=w) B M (F33.bK X G) O8 Ql CT QF;have VX:=aoA (P:=P) (w:=w) B M (F34.bK X G);have Ov:=ato (P:=P) (w:=w) B M (F35.bK X G) VX B5;have QJ:=aye (P:=P) (w:=w) B M (F36.bK X G) B5 Ov;have Mx:=auo (P:=P) (w:=w) B M (F37.bK X G);have MF:=aju (P:=P) (w:=w) B M (F38.bK X G);have LN:=aoJ (P:=P) (w:=w) B M (F39.bK X G) MF;have TX:=atB (P:=P) (w:=w) B M (F40.bK X G) nW;have Qk:=anJ (P:=P) (w:=w) B M (F41.bK X G) Mx LN TX;have EV:=axe (P:=P) (w:=w) B M (F42.bK X G);have U3:=ap5 (P:=P) (w:=w) B M (F43.bK X G) EV;have Ph:=ahQ (P:=P) (w:=w) B M (F44.bK X G);have yd:=aip (P:=P) (w:=w) B M (F45.bK X G) MX Qk zK U3 QJ Ph;have Tt:=an5 (P:=P) (w:=w) B M (F46.bK X G);have Aw:=atm (P:=P) (w:=w) B M (F47.bK X G) cM xX;have Ak:=ah8 (P:=P) (w:=w) B M (F48.bK X G);have SV:=amX (P:=P) (w:=w) B M (F49.bK X G) Fz Aw Ak
 have Qo:=aml (P:=P) (w:=w) B M (F50.bK X G) Ow xX Tt Tj wJ SV Am;have Vz:=atz (P:=P) (w:=w) B M (F51.bK X G) Qo Ak;have Vt:=asW (P:=P) (w:=w) B M (F52.bK X G) Aw;have oZ:=an6 (P:=P) (w:=w) B M (F53.bK X G);have MD:=atw (P:=P) (w:=w) B M (F54.bK X G);have MQ:=ayC (P:=P) (w:=w) B M (F55.bK X G) oZ;have SJ:=aw4 (P:=P) (w:=w) B M (F56.bK X G) MD;have JQ:=apl (P:=P) (w:=w) B M (F57.bK X G) MQ SJ oZ;have UJ:=axm (P:=P) (w:=w) B M (F58.bK X G);have Ax:=avd (P:=P) (w:=w) B M (F59.bK X G) UJ;have Sw:=aoN (P:=P) (w:=w) B M (F60.bK X G) Ax;exact asb B M FF JQ oZ yd Vz Sw Vt Ax
end K48
namespace L2
open PySem PySem.W W.X
def ajz{q:Program}{loose:List Str}{XP:(Str->Option Value)->Heap->Prop}{K:Params->Frag}{as:List Addr}{n t:Nat}{r:RowW}{d:DefRec}{kwd:List (Str×PySem.Expr)}{run:Value->List Value->Sem Value}(keys:∀P,as=(K P).map (·.1))
  (W:WalkO q loose XP (λw h=>(K w.params).In h) r d kwd run):WalkX q loose XP (obsZ as) (valZ K n t) r d kwd run:=
 λw s0 s1 mg mb G y a o pm cd doc dV kV h1 h2 h3 h4 h5 h6 args vals as' L p1 p2 p3 p4 p5=>W w s0 s1 mg mb G (InK.keeps w _ _ (z_facts keys y).2.1 L.keeps) a o pm cd doc dV kV h1 h2 h3 h4 h5 h6 args vals as' p1 p2 p3 p4 p5
end L2
namespace K48
def topF(i:Nat):PySem.Stmt:=PySem.Challenge.pw_nextbyrule_k48_whole_closed_forms_added.main.body.getD i (.Pass ⟨0,0,0,0⟩)
def pwL:PySem.Program:={ PySem.Challenge.pw_nextbyrule_k48_whole_closed_forms_added with main:={ PySem.Challenge.pw_nextbyrule_k48_whole_closed_forms_added.main with body:=[topF 0,topF 1,topF 2,topF 3,topF 4,topF 5,topF 6,topF 7,topF 8,topF 9,topF 10,topF 11,topF 12,topF 13,topF 14,topF 15,topF 16,topF 17,topF 18,topF 19,topF 20,topF 21,topF 22,topF 23,topF 24,topF 25,topF 26,topF 27,topF 28,topF 29,topF 30,topF 31,topF 32,topF 33,topF 34,topF 35,topF 36,topF 37,topF 38,topF 39,topF 40,topF 41,topF 42,topF 43,topF 44,topF 45,topF 46,topF 47,topF 48,topF 49,topF 50,topF 51,topF 52,topF 53,topF 54,topF 55,topF 56,topF 57,topF 58,topF 59,topF 60,topF 61,topF 62,topF 63,topF 64,topF 65,topF 66,topF 67,topF 68,topF 69,topF 70,topF 71,topF 72,topF 73,topF 74,topF 75,topF 76,topF 77,topF 78,topF 79,topF 80] } }
def rwL:PySem.W.OpenLaw:={ PySem.Challenge.rw_nextbyrule_k48_whole_closed_forms_added with prog:=pwL }
end K48
namespace K48
namespace H
noncomputable section
open PySem PySem.W PySem.Calls PyProof.Rows
theorem warm:(K48.pwL.main.body.isEmpty||true)=true:=by k_qdec
abbrev kh:=PyData.keyHash
abbrev tt(i:Nat):Stmt:=PySem.W.Fast.tw15146489478007629594 i
def zs(n:Nat):Str:=⟨⟨Nat.rec (motive:=λ_=>Nat->List Nat) (λ_=>[]) (λ_ f n=>cond (J9 n 0) [] (Nat.mod n 128::f (Nat.div n 128))) 64 n⟩⟩
def z0:=zs 53901559791857631
def z1:=zs 3208179332650860456210638676591681512506558178069465056296689482437491271843500411968155884
def z2:=zs 421105403244511
def z3:=zs 113039760542812094607327
def z4:=zs 883130438894441148383
def z5:=zs 53901488956436447
def z6:=zs 30344151541145318921183520387039
def z7:=zs 14469218985635115783729119
def z8:=zs 53901559540068319
def z9:=zs 2357460733860917196365705647
def Fi:=zs 883122557733039566815
def iu:=zs 8277558478201633490
def vD:=zs 64623894148134862
def uy:=zs 254851022
def vK:=zs 456808319416276
def uM:=zs 3567379019732
def Kc:=zs 57340970975885801
def Ez:=zs 29741478132
def FY:=zs 448184882935657
def IX:=zs 240745327
def z20:=zs 372306437449676
def IV:=zs 8774559251769619571
def GZ:=zs 15392349691394191890428658
def HS:=zs 938749362540629603054
def Ho:=zs 17498468575365494965318886
def Jh:=zs 443304474474868
def JK:=zs 31083689204
def Ft:=zs 443302050378980
def FD:=zs 26797127661
def J3:=zs 65811471622830439
def FT:=zs 447945196958575
def Ky:=zs 452440390056690
def z32:=zs 3388939034338339719930224380682946
def G3:=zs 120336165584743079508336
def Gs:=zs 509272748045540
def Ia:=zs 1123873219935479722228
def Hf:=zs 514152117859054
def Jy:=zs 3463318239210
def GR:=zs 289441913161409316528838145143
def Gg:=zs 284414884579460083709784913011
def J1:=zs 3534690727924
def Hi:=zs 57912373968138988
def FW:=zs 65811471658644595
def Ji:=zs 1021909407318828365036
def J8:=zs 7340207024155161320
def HN:=zs 63568258281404770
def JF:=zs 27057027430
def E3:=zs 30806734435
def Jr:=zs 284414884579460084056056362979
def E9:=zs 4016813504492
def Ko:=zs 17513834785821938975078758
def Ek:=zs 62416317197268979
def J7:=zs 7412783660194805731
def Js:=zs 2261275470442055200019329264
def KD:=zs 3463335065587
def Xy:=zs 434308986316663104229769186100109633
def JL:=zs 957628957581328888562
def Iu:=zs 286948200321414495131064333431
def GK:=zs 2242085010208081143823905520
def GV:=zs 138035814848017555371236
def GF:=zs 136846008923829311370359
def DR:=zs 30815418352
def GD:=zs 7340207024174315494
def Ih:=zs 57912373702078704
def Fy:=zs 3463328822883
def Ig:=zs 122623567470796438352626
def Iv:=zs 67483170342909940
def JX:=zs 7333979394848553715
def G7:=zs 67483170372219120
def Jt:=zs 8637845808191535082
def Ga:=zs 27057009249
def Et:=zs 3463313912307
def Ke:=zs 513532042442335
def JH:=zs 1068027428587418711647
def Ew:=zs 940052543510452663903
def Hy:=zs 1069109444717454063199
def GX:=zs 17647389358143558729102943
def EB:=zs 37989647601199336359529683646047
def Ja:=zs 118998992280703227950687
def J0:=zs 138016661087420065281631
def Kz:=zs 929671758841948698207
def Ii:=zs 1962220
def z82:=zs 35350842279982780
def z83:=zs 53901867955744735
def iY:=zs 883123151916293124063
def jg:=zs 601773989896021678643699154943881966
def rB:=zs 14469089781839015725264863
def jc:=zs 30344074158132277796980072755167
def iZ:=zs 133454983862861831018029446609853876543483871
def R6:=zs 113039831549272488013791
def vZ:=zs 3944329476846
def z91:=zs 505222325449956
def IK:=zs 77026659975835991945842263041131819758
def oA:=zs 15586
def YW:=zs 27342305648
def z95:=zs 3501140572403
def yD:=zs 244953836
def uq:=zs 1668975
def sJ:=zs 30815173231
def Dg:=zs 36741748820606704607921507807982
def Eu:=zs 1964018
def Nm:=zs 213596914
def an4:=zs 3501169685218
def afy:=zs 29196367860
def K1:=zs 107
def awV:=zs 31371130851
def avm:=zs 3982749104755
def Em:=zs 27076163558
def ahv:=zs 509719678253806
def aak:=zs 1652581
def wN:=zs 4703570198577737512948329283990254
def RD:=zs 105
def M5:=zs 1849332
def adp:=zs 29741626223
def aiK:=zs 31354156147
def auf:=zs 3947051413734
def Nu:=zs 31343606119
def M6:=zs 29219124979
def vV:=zs 601245688890028280284136002178396910
def aw8:=zs 7340232966842071021
def CJ:=zs 255539184
def XY:=zs 509824676214765
def aeC:=zs 245166834
def ave:=zs 213694445
def Rh:=zs 9945148414371482049252864243888973296366
def asO:=zs 31381287660
def nq:=zs 601245656567734219885054901293560558
def abT:=zs 31083705580
def ady:=zs 29749801698
def aft:=zs 3809077835747
def aaw:=zs 213464311
def apr:=zs 31081394920
def am5:=zs 245166316
def ain:=zs 14945
def ajQ:=zs 27340091636
def asF:=zs 3463305819383
def qN:=zs 4701993063269919393381765093405422
def VR:=zs 27057092980
def Zk:=zs 245102578
def aa0:=zs 31115180018
def aw5:=zs 65789479809203301
def ahq:=zs 513606627883376
def awh:=zs 232569588
def apU:=zs 243021812
def auW:=zs 31115227376
def alV:=zs 240808176
def as7:=zs 3604769125100
def wz:=zs 4697261539627313349707556634637038
def acG:=zs 243055343
def abx:=zs 3982193423476
def ahM:=zs 110
def aow:=zs 938749362540625162480
def akq:=zs 137989276334399845594719
def E6:=zs 3702244537951
def anD:=zs 929683040243566540383
def Zy:=zs 57345570095265375
def abO:=zs 1058801290007509759583
def ava:=zs 930329895887808525919
def anF:=zs 3667884799583
def WQ:=zs 8780259530764744287
def akJ:=zs 135526128861644626359903
def amv:=zs 1003179560991236585055
def av0:=zs 32292397438105324734265880507999
def auG:=zs 8421660479154845279
def aoW:=zs 8781323754941216351
noncomputable abbrev t0:String:=PySem.W.SL.s14018661285674007319x4
noncomputable abbrev t1:String:=PySem.W.SL.s7097527257260152453x26
noncomputable abbrev t2:String:=PySem.W.SL.s2766695959194262286x5
noncomputable abbrev t3:String:=PySem.W.SL.s5856160107412720595x4
noncomputable abbrev t4:String:=PySem.W.SL.s658472552662922059x5
noncomputable abbrev t5:String:=PySem.W.SL.s6070975301684473832x10
noncomputable abbrev t6:String:=PySem.W.SL.s11030030927630378310x26
noncomputable abbrev t7:String:=PySem.W.SL.s10062305145149207511x16
noncomputable abbrev t8:String:=PySem.W.SL.s17162191345867700912x4
noncomputable abbrev t9:String:=PySem.W.SL.s4209523147560561109x18
noncomputable abbrev t10:String:=PySem.W.SL.s5946037652744460706x9
noncomputable abbrev t11:String:=PySem.W.SL.s4278001404047624695x13
noncomputable abbrev tM:String:=PySem.W.SL.s2742458400755230247x6
noncomputable abbrev t13:String:=PySem.W.SL.s14755015743595814543x17
noncomputable abbrev t14:String:=PySem.W.SL.s10220274742760427390x26
noncomputable abbrev yO:String:=PySem.W.SL.s4290257624100764138x5
noncomputable abbrev CY:String:=PySem.W.SL.s4860613602091757760x24
noncomputable abbrev t17:String:=PySem.W.SL.s7174869446012820540x8
def cd(z:Str)(i:Nat):Obj:=⟨.none,.none,.func ⟨z,z,L2.pX (tt i),.stmts (L2.lF (tt i)),L2.aU (tt i),0,[],.none,.none,.none,.none,.none,.none,.none,0⟩,⟨[]⟩⟩
def fo(z:Str)(i:Nat)(y:Str)(t c:Nat):Obj:=⟨.type t17,.none,.func ⟨z,z,L2.pX (tt i),.stmts (L2.lF (tt i)),L2.aU (tt i),3,[],.none,.none,.none,.str y t,.none,.ref c,.none,0⟩,⟨[]⟩⟩
def cf(z:Str)(a:Nat)(l n:Int)(r:Nat)(x y:Value)(c e:Nat):Obj:=⟨.type t3,.none,.fields ⟨[.str z a,.str z (a+1),.str z9 (a+2),.int l 0,.int n 0,.int 0 0,.int 0 0,.int 3 0,.ref r,.bool true,.int 181 0,.ref (r+1),.none,x,y,.ref c,.int e 0,.int l 0,.str z9 (e+1)]⟩,⟨[]⟩⟩
def cg(z:Str)(a:Nat)(l n:Int)(r c e:Nat):Obj:=cf z a l n r (.ref (r+2)) (.ref (r+3)) c e
def ts(l:List Str)(a:Nat):Obj:=⟨.type t2,.none,.seq ⟨List.rec (motive:=λ_=>Nat->List Value) (λ_=>[]) (λz _ f a=> .str z a::f (a+1)) l a⟩ 0,⟨[]⟩⟩
def er(P:Params)(z:Str)(t r:Nat):DictEntry:=⟨kh P z,.str z t,.ref r⟩
def l3(P:Params):List DictEntry:=[⟨kh P z0,.str z0 165,.str z1 742⟩,⟨kh P z2,.str z2 166,.none⟩,⟨kh P z3,.str z3 167,.none⟩,⟨kh P z4,.str z4 168,.builtin t1⟩,⟨kh P z5,.str z5 169,.none⟩,er P z6 170 6,er P z7 171 4,⟨kh P z8,.str z8 173,.str z9 172⟩,⟨kh P Fi,.str Fi 174,.none⟩,er P iu 206 24,er P vD 222 37,er P uy 238 49,er P vK 254 61,er P uM 270 73,er P Kc 280 82,er P Ez 288 89,er P FY 299 96,er P IX 308 103,⟨kh P z20,.str z20 312,.int 12 311⟩,er P IV 320 110,er P GZ 327 117,er P HS 338 124,er P Ho 350 131,er P Jh 360 138,er P JK 372 145,er P Ft 387 152,er P FD 393 157,er P J3 405 164,er P FT 411 169,er P Ky 417 174,⟨kh P z32,.str z32 421,.int 1000000 420⟩,er P G3 429 181,er P Gs 437 188,er P Ia 443 193,er P Hf 452 200,er P Jy 463 207,er P GR 469 212,er P Gg 478 219,er P J1 486 224,er P Hi 496 231,er P FW 505 238,er P Ji 513 243,er P J8 523 250,er P HN 529 255,er P JF 535 260,er P E3 550 267,er P Jr 561 274,er P E9 567 279,er P Ko 573 284,er P Ek 579 289,er P J7 585 294,er P Js 591 299,er P KD 602 306,⟨kh P Xy,.str Xy 606,.int 1000000 605⟩,er P JL 612 311,er P Iu 622 318,er P GK 628 323,er P GV 639 330,er P GF 650 337,er P DR 660 344,er P GD 666 349,er P Ih 678 356,er P Fy 684 361,er P Ig 693 368,er P Iv 699 373,er P JX 708 380,er P G7 714 385,er P Jt 727 392,er P Ga 735 399,er P Et 741 404,er P Ke 752 411,er P JH 763 418,er P Ew 773 425,er P Hy 779 430,er P GX 790 437,er P EB 796 442,er P Ja 804 449,er P J0 810 454,er P Kz 816 459,er P Ii 822 464]
def hv(P:Params)(z:Str)(t n:Nat):Obj:=⟨.type t0,.none,.dict ⟨⟨kh P z0,.str z0 165,.str z t⟩::((l3 P).take n).drop 1⟩ n,⟨[]⟩⟩
def o3(P:Params):Obj:=⟨.type t0,.none,.dict ⟨l3 P⟩ 80,⟨[]⟩⟩
def aol(P:Params):=hv P jg 187 10
def aqr(P:Params):=hv P jg 187 11
def asC(P:Params):=hv P jg 187 12
def atg(P:Params):=hv P jg 187 13
def aiA(P:Params):=hv P Dg 309 20
def avT(P:Params):=hv P vV 418 33
def ahb(P:Params):=hv P nq 506 45
def auk(P:Params):=hv P qN 603 58
def alu(P:Params):Obj:=⟨.type t0,.none,.dict ⟨(l3 P).take 70⟩ 70,⟨[]⟩⟩
def aH:Obj:=⟨.type t2,.none,.seq ⟨[]⟩ 0,⟨[]⟩⟩
def fl(l:List (Int×Nat)):List Value:=l.flatMap λx=>[.int x.1 0,.int 0 0,.ref x.2]
def oK:=fl [(2,20),(4,33),(6,45),(8,57),(10,69),(13,81),(22,88),(26,95),(36,102),(44,109),(48,116),(51,123),(56,130),(65,137),(70,144),(76,151),(86,156),(91,163),(99,168),(103,173),(108,180),(113,187),(115,192),(117,199),(120,206),(123,211),(141,218),(144,223),(152,230),(157,237),(162,242),(164,249),(169,254),(174,259),(182,266),(196,273),(204,278),(213,283),(220,288),(234,293),(236,298),(242,305),(249,310),(252,317),(263,322),(268,329),(277,336),(287,343),(292,348),(297,355),(305,360),(316,367),(319,372),(323,379),(325,384),(330,391),(337,398),(339,403),(342,410),(349,417),(355,424),(360,429),(369,436),(375,441),(384,448),(390,453),(403,458),(413,463)]
def o12:Obj:=⟨.none,.none,.fields ⟨oK⟩,⟨[]⟩⟩
def adZ:Obj:=⟨.none,.none,.fields ⟨oK.take 0⟩,⟨[]⟩⟩
def au7:Obj:=⟨.none,.none,.fields ⟨oK.take 3⟩,⟨[]⟩⟩
def ax8:Obj:=⟨.none,.none,.fields ⟨oK.take 6⟩,⟨[]⟩⟩
def auO:Obj:=⟨.none,.none,.fields ⟨oK.take 9⟩,⟨[]⟩⟩
def ax6:Obj:=⟨.none,.none,.fields ⟨oK.take 12⟩,⟨[]⟩⟩
def amH:Obj:=⟨.none,.none,.fields ⟨oK.take 30⟩,⟨[]⟩⟩
def aoq:Obj:=⟨.none,.none,.fields ⟨oK.take 66⟩,⟨[]⟩⟩
def atM:Obj:=⟨.none,.none,.fields ⟨oK.take 102⟩,⟨[]⟩⟩
def aix:Obj:=⟨.none,.none,.fields ⟨oK.take 138⟩,⟨[]⟩⟩
def aoZ:Obj:=⟨.none,.none,.fields ⟨oK.take 174⟩,⟨[]⟩⟩
def RK:Obj:=⟨.type t3,.none,.fields ⟨[.str z82 182,.str z82 183,.str z9 184,.int 1 0,.int 0 0,.int 0 0,.int 0 0,.int 0 0,.ref 11,.bool false,.int 181 0,.ref 12,.none,.none,.none,.none,.int 185 0,.int 1 0,.str z9 186]⟩,⟨[]⟩⟩
def MB:Obj:=⟨.type t4,.none,.plain,⟨[.some (.ref 13),.some (.ref 3),.some (.ref 3),.none,.some (.str z83 164),.none,.some (.ref 0)]⟩⟩
def o15:Obj:=⟨.type t2,.none,.seq ⟨[.type t5]⟩ 0,⟨[]⟩⟩
def BK:Obj:=⟨.type t6,.none,.fields ⟨[.builtin t7,.type t8]⟩,⟨[]⟩⟩
def o17(P:Params):Obj:=⟨.type t0,.none,.dict ⟨[⟨kh P iY,.str iY 196,.str jg 187⟩,⟨kh P rB,.str rB 198,.str iu 197⟩,⟨kh P jc,.str jc 200,.int 2 199⟩,⟨kh P iZ,.str iZ 201,.ref 22⟩]⟩ 4,⟨[]⟩⟩
def bf:Obj:=⟨.none,.none,.fields ⟨[]⟩,⟨[]⟩⟩
def o20:Obj:=⟨.type t3,.none,.fields ⟨[.str iu 191,.str iu 192,.str z9 193,.int 2 0,.int 0 0,.int 0 0,.int 0 0,.int 0 0,.ref 18,.bool false,.int 181 0,.ref 19,.none,.none,.none,.none,.int 194 0,.int 2 0,.str z9 195]⟩,⟨[]⟩⟩
def o21:Obj:=⟨.type t4,.none,.plain,⟨[.some (.ref 20),.some (.ref 3),.some (.ref 17),.none,.some (.str jg 187),.none,.some (.ref 0)]⟩⟩
def o23(P:Params):Obj:=⟨.type t0,.none,.dict ⟨[⟨kh P iY,.str iY 196,.str jg 187⟩,⟨kh P jc,.str jc 200,.int 2 199⟩,⟨kh P iZ,.str iZ 201,.ref 22⟩,⟨kh P R6,.str R6 203,.ref 25⟩,⟨kh P z2,.str z2 204,.none⟩]⟩ 3,⟨[]⟩⟩
def o24:Obj:=⟨.type t8,.none,.cls ⟨iu,[.type t5],[.ref 24,.type t5,.type t10,.type t11,.type tM],23,iu,true,[],[.ref 37,.ref 49,.ref 61,.ref 73],false,.none,false⟩,⟨[.some (.ref 15),.none,.some (.str iu 189),.some (.str iu 197),.some (.builtin t9),.some (.bool true)]⟩⟩
def ai8:Obj:=⟨.type t8,.none,.cls ⟨iu,[.type t5],[.ref 24,.type t5,.type t10,.type t11,.type tM],23,iu,true,[],[],false,.none,false⟩,⟨[.some (.ref 15),.none,.some (.str iu 189),.some (.str iu 197),.some (.builtin t9),.some (.bool true)]⟩⟩
def akR:Obj:=⟨.type t8,.none,.cls ⟨iu,[.type t5],[.ref 24,.type t5,.type t10,.type t11,.type tM],23,iu,true,[],[.ref 37],false,.none,false⟩,⟨[.some (.ref 15),.none,.some (.str iu 189),.some (.str iu 197),.some (.builtin t9),.some (.bool true)]⟩⟩
def asT:Obj:=⟨.type t8,.none,.cls ⟨iu,[.type t5],[.ref 24,.type t5,.type t10,.type t11,.type tM],23,iu,true,[],[.ref 37,.ref 49],false,.none,false⟩,⟨[.some (.ref 15),.none,.some (.str iu 189),.some (.str iu 197),.some (.builtin t9),.some (.bool true)]⟩⟩
def awi:Obj:=⟨.type t8,.none,.cls ⟨iu,[.type t5],[.ref 24,.type t5,.type t10,.type t11,.type tM],23,iu,true,[],[.ref 37,.ref 49,.ref 61],false,.none,false⟩,⟨[.some (.ref 15),.none,.some (.str iu 189),.some (.str iu 197),.some (.builtin t9),.some (.bool true)]⟩⟩
def o25:Obj:=⟨.type t13,.none,.fields ⟨[.str R6 202,.ref 24,.builtin t14,.none]⟩,⟨[]⟩⟩
def o26:Obj:=⟨.type yO,.none,.fields ⟨[.ref 24,.ref 24,.ref 24]⟩,⟨[]⟩⟩
def o27:Obj:=⟨.type t6,.none,.fields ⟨[.builtin CY,.ref 24]⟩,⟨[]⟩⟩
def v5:Obj:=⟨.type t2,.none,.seq ⟨[.ref 24]⟩ 0,⟨[]⟩⟩
def o30(P:Params):Obj:=⟨.type t0,.none,.dict ⟨[⟨kh P iY,.str iY 214,.str jg 187⟩,⟨kh P rB,.str rB 216,.str vD 215⟩,⟨kh P jc,.str jc 218,.int 4 217⟩,⟨kh P iZ,.str iZ 219,.ref 35⟩]⟩ 4,⟨[]⟩⟩
def o33:Obj:=⟨.type t3,.none,.fields ⟨[.str vD 209,.str vD 210,.str z9 211,.int 4 0,.int 0 0,.int 0 0,.int 0 0,.int 0 0,.ref 31,.bool false,.int 181 0,.ref 32,.none,.none,.none,.none,.int 212 0,.int 4 0,.str z9 213]⟩,⟨[]⟩⟩
def o34:Obj:=⟨.type t4,.none,.plain,⟨[.some (.ref 33),.some (.ref 3),.some (.ref 30),.none,.some (.str jg 187),.none,.some (.ref 0)]⟩⟩
def o36(P:Params):Obj:=⟨.type t0,.none,.dict ⟨[⟨kh P iY,.str iY 214,.str jg 187⟩,⟨kh P jc,.str jc 218,.int 4 217⟩,⟨kh P iZ,.str iZ 219,.ref 35⟩,⟨kh P z2,.str z2 220,.none⟩]⟩ 2,⟨[]⟩⟩
def o37:Obj:=⟨.type t8,.none,.cls ⟨vD,[.ref 24],[.ref 37,.ref 24,.type t5,.type t10,.type t11,.type tM],36,vD,true,[],[],false,.none,false⟩,⟨[.some (.ref 28),.none,.some (.str vD 207),.some (.str vD 215),.some (.builtin t9),.some (.bool true)]⟩⟩
def o38:Obj:=⟨.type yO,.none,.fields ⟨[.ref 37,.ref 37,.ref 37]⟩,⟨[]⟩⟩
def o39:Obj:=⟨.type t6,.none,.fields ⟨[.builtin CY,.ref 37]⟩,⟨[]⟩⟩
def o42(P:Params):Obj:=⟨.type t0,.none,.dict ⟨[⟨kh P iY,.str iY 230,.str jg 187⟩,⟨kh P rB,.str rB 232,.str uy 231⟩,⟨kh P jc,.str jc 234,.int 6 233⟩,⟨kh P iZ,.str iZ 235,.ref 47⟩]⟩ 4,⟨[]⟩⟩
def o45:Obj:=⟨.type t3,.none,.fields ⟨[.str uy 225,.str uy 226,.str z9 227,.int 6 0,.int 0 0,.int 0 0,.int 0 0,.int 0 0,.ref 43,.bool false,.int 181 0,.ref 44,.none,.none,.none,.none,.int 228 0,.int 6 0,.str z9 229]⟩,⟨[]⟩⟩
def o46:Obj:=⟨.type t4,.none,.plain,⟨[.some (.ref 45),.some (.ref 3),.some (.ref 42),.none,.some (.str jg 187),.none,.some (.ref 0)]⟩⟩
def Y0(P:Params):Obj:=⟨.type t0,.none,.dict ⟨[⟨kh P iY,.str iY 230,.str jg 187⟩,⟨kh P jc,.str jc 234,.int 6 233⟩,⟨kh P iZ,.str iZ 235,.ref 47⟩,⟨kh P z2,.str z2 236,.none⟩]⟩ 2,⟨[]⟩⟩
def o49:Obj:=⟨.type t8,.none,.cls ⟨uy,[.ref 24],[.ref 49,.ref 24,.type t5,.type t10,.type t11,.type tM],48,uy,true,[],[],false,.none,false⟩,⟨[.some (.ref 40),.none,.some (.str uy 223),.some (.str uy 231),.some (.builtin t9),.some (.bool true)]⟩⟩
def o50:Obj:=⟨.type yO,.none,.fields ⟨[.ref 49,.ref 49,.ref 49]⟩,⟨[]⟩⟩
def o51:Obj:=⟨.type t6,.none,.fields ⟨[.builtin CY,.ref 49]⟩,⟨[]⟩⟩
def o54(P:Params):Obj:=⟨.type t0,.none,.dict ⟨[⟨kh P iY,.str iY 246,.str jg 187⟩,⟨kh P rB,.str rB 248,.str vK 247⟩,⟨kh P jc,.str jc 250,.int 8 249⟩,⟨kh P iZ,.str iZ 251,.ref 59⟩]⟩ 4,⟨[]⟩⟩
def o57:Obj:=⟨.type t3,.none,.fields ⟨[.str vK 241,.str vK 242,.str z9 243,.int 8 0,.int 0 0,.int 0 0,.int 0 0,.int 0 0,.ref 55,.bool false,.int 181 0,.ref 56,.none,.none,.none,.none,.int 244 0,.int 8 0,.str z9 245]⟩,⟨[]⟩⟩
def o58:Obj:=⟨.type t4,.none,.plain,⟨[.some (.ref 57),.some (.ref 3),.some (.ref 54),.none,.some (.str jg 187),.none,.some (.ref 0)]⟩⟩
def Xb(P:Params):Obj:=⟨.type t0,.none,.dict ⟨[⟨kh P iY,.str iY 246,.str jg 187⟩,⟨kh P jc,.str jc 250,.int 8 249⟩,⟨kh P iZ,.str iZ 251,.ref 59⟩,⟨kh P z2,.str z2 252,.none⟩]⟩ 2,⟨[]⟩⟩
def o61:Obj:=⟨.type t8,.none,.cls ⟨vK,[.ref 24],[.ref 61,.ref 24,.type t5,.type t10,.type t11,.type tM],60,vK,true,[],[],false,.none,false⟩,⟨[.some (.ref 52),.none,.some (.str vK 239),.some (.str vK 247),.some (.builtin t9),.some (.bool true)]⟩⟩
def o62:Obj:=⟨.type yO,.none,.fields ⟨[.ref 61,.ref 61,.ref 61]⟩,⟨[]⟩⟩
def o63:Obj:=⟨.type t6,.none,.fields ⟨[.builtin CY,.ref 61]⟩,⟨[]⟩⟩
def o66(P:Params):Obj:=⟨.type t0,.none,.dict ⟨[⟨kh P iY,.str iY 262,.str jg 187⟩,⟨kh P rB,.str rB 264,.str uM 263⟩,⟨kh P jc,.str jc 266,.int 10 265⟩,⟨kh P iZ,.str iZ 267,.ref 71⟩]⟩ 4,⟨[]⟩⟩
def o69:Obj:=⟨.type t3,.none,.fields ⟨[.str uM 257,.str uM 258,.str z9 259,.int 10 0,.int 0 0,.int 0 0,.int 0 0,.int 0 0,.ref 67,.bool false,.int 181 0,.ref 68,.none,.none,.none,.none,.int 260 0,.int 10 0,.str z9 261]⟩,⟨[]⟩⟩
def o70:Obj:=⟨.type t4,.none,.plain,⟨[.some (.ref 69),.some (.ref 3),.some (.ref 66),.none,.some (.str jg 187),.none,.some (.ref 0)]⟩⟩
def o72(P:Params):Obj:=⟨.type t0,.none,.dict ⟨[⟨kh P iY,.str iY 262,.str jg 187⟩,⟨kh P jc,.str jc 266,.int 10 265⟩,⟨kh P iZ,.str iZ 267,.ref 71⟩,⟨kh P z2,.str z2 268,.none⟩]⟩ 2,⟨[]⟩⟩
def XF:Obj:=⟨.type t8,.none,.cls ⟨uM,[.ref 24],[.ref 73,.ref 24,.type t5,.type t10,.type t11,.type tM],72,uM,true,[],[],false,.none,false⟩,⟨[.some (.ref 64),.none,.some (.str uM 255),.some (.str uM 263),.some (.builtin t9),.some (.bool true)]⟩⟩
def o74:Obj:=⟨.type yO,.none,.fields ⟨[.ref 73,.ref 73,.ref 73]⟩,⟨[]⟩⟩
def o75:Obj:=⟨.type t6,.none,.fields ⟨[.builtin CY,.ref 73]⟩,⟨[]⟩⟩
def o78:=ts [vZ,z91] 276
def o80:=cd Kc 7
def o81:=cg Kc 273 13 1 76 80 278
def o82:=fo Kc 7 IK 271 81
def o85:=ts [oA,vZ] 284
def o87:=cd Ez 8
def Y7:=cg Ez 281 22 2 83 87 286
def o89:=fo Ez 8 IK 271 88
def o92:=ts [YW,vZ,DR,z95,yD] 292
def o94:=cd FY 9
def o95:=cg FY 289 26 2 90 94 297
def Y6:=fo FY 9 IK 271 95
def o99:=ts [oA,uq,sJ] 303
def asU:=cd IX 10
def adq:=cg IX 300 36 3 97 101 306
def Yk:=fo IX 10 IK 271 102
def al6:=ts [uq,sJ] 316
def auI:=cd IV 13
def Yu:=cg IV 313 44 2 104 108 318
def XR:=fo IV 13 Dg 309 109
def awG:=ts [Eu] 324
def ai9:=cd GZ 14
def abS:=cg GZ 321 48 1 111 115 325
def ZX:=fo GZ 14 Dg 309 116
def ayL:=ts [oA,Nm,an4,afy,K1] 331
def au0:=cd HS 15
def Xw:=cg HS 328 51 3 118 122 336
def afx:=fo HS 15 Dg 309 123
def ayP:=ts [Eu,awV,oA,Nm,avm,Em] 342
def atb:=cd Ho 16
def afH:=cg Ho 339 56 2 125 129 348
def ad9:=fo Ho 16 Dg 309 130
def avi:=ts [ahv,aak] 356
def axq:=cd Jh 18
def XD:=cg Jh 353 65 1 132 136 358
def ad8:=fo Jh 18 wN 351 137
def aqF:=ts [oA,uq,sJ,afy,RD,K1] 364
def avZ:=cd JK 19
def ab8:=cg JK 361 70 3 139 143 370
def afU:=fo JK 19 wN 351 144
def aw3:=ts [oA,uq,sJ,M5,adp,yD,aiK,auf,K1] 376
def apV:=cd Ft 20
def abX:=cg Ft 373 76 3 146 150 385
def ag2:=fo Ft 20 wN 351 151
def aj2:=cd FD 21
def abD:=cf FD 388 86 2 153 .none .none 155 391
def acy:=fo FD 21 wN 351 156
def ahd:=ts [oA,uq,sJ,Nu,M6,yD] 397
def aui:=cd J3 22
def Z0:=cg J3 394 91 3 158 162 403
def aat:=fo J3 22 wN 351 163
def alX:=cd FT 23
def Wc:=cf FT 406 99 2 165 .none .none 167 409
def acp:=fo FT 23 wN 351 168
def asL:=cd Ky 24
def adk:=cf Ky 412 103 2 170 .none .none 172 415
def aai:=fo Ky 24 wN 351 173
def awM:=ts [vZ,Em] 425
def ajS:=cd G3 27
def acC:=cg G3 422 108 1 175 179 427
def abQ:=fo G3 27 vV 418 180
def ati:=ts [aw8,CJ] 433
def aqt:=cd Gs 28
def XU:=cg Gs 430 113 2 182 186 435
def Wo:=fo Gs 28 vV 418 187
def anR:=cd Ia 29
def ab4:=cf Ia 438 115 2 189 .none .none 191 441
def afT:=fo Ia 29 vV 418 192
def apS:=ts [XY,vZ,aeC] 447
def arA:=cd Hf 30
def YF:=cg Hf 444 117 2 194 198 450
def o200:=fo Hf 30 vV 418 199
def ar7:=ts [XY,vZ,YW,aeC,ave] 456
def awl:=cd Jy 31
def Zr:=cg Jy 453 120 4 201 205 461
def abZ:=fo Jy 31 vV 418 206
def awF:=cd GR 32
def Xl:=cf GR 464 123 2 208 .none .none 210 467
def WX:=fo GR 32 vV 418 211
def als:=ts [oA,uq,sJ] 473
def aox:=cd Gg 33
def aeG:=cg Gg 470 141 3 213 217 476
def WL:=fo Gg 33 vV 418 218
def aqq:=cd J1 35
def aek:=cf J1 481 144 2 220 .none .none 222 484
def Ye:=fo J1 35 Rh 479 223
def amG:=ts [Eu,oA,CJ,M5] 490
def ak0:=cd Hi 36
def Yj:=cg Hi 487 152 1 225 229 494
def W5:=fo Hi 36 Rh 479 230
def aho:=ts [Eu,asO,Nm] 500
def ane:=cd FW 37
def adT:=cg FW 497 157 1 232 236 503
def aaG:=fo FW 37 Rh 479 237
def ao5:=cd Ji 39
def XC:=cf Ji 508 162 2 239 .none .none 241 511
def aeH:=fo Ji 39 nq 506 242
def ahm:=ts [abT,ady,aft,RD] 517
def alg:=cd J8 40
def acg:=cg J8 514 164 3 244 248 521
def adQ:=fo J8 40 nq 506 249
def ahE:=cd HN 41
def aeD:=cf HN 524 169 4 251 .none .none 253 527
def adH:=fo HN 41 nq 506 254
def ahT:=cd JF 42
def abU:=cf JF 530 174 5 256 .none .none 258 533
def adR:=fo JF 42 nq 506 259
def alI:=ts [oA,aaw,abT,apr,am5,aft,M5,ain,RD] 539
def ap8:=cd E3 43
def abI:=cg E3 536 182 3 261 265 548
def Z2:=fo E3 43 nq 506 266
def alO:=ts [uq,sJ,Nu,M6,yD] 554
def aqH:=cd Jr 44
def agp:=cg Jr 551 196 2 268 272 559
def aaL:=fo Jr 44 nq 506 273
def ayc:=cd E9 45
def ach:=cf E9 562 204 3 275 .none .none 277 565
def aa8:=fo E9 45 nq 506 278
def ano:=cd Ko 46
def afu:=cf Ko 568 213 5 280 .none .none 282 571
def Ys:=fo Ko 46 nq 506 283
def axv:=cd Ek 47
def adg:=cf Ek 574 220 4 285 .none .none 287 577
def Zq:=fo Ek 47 nq 506 288
def auz:=cd J7 48
def Yg:=cf J7 580 234 2 290 .none .none 292 583
def ac3:=fo J7 48 nq 506 293
def akZ:=cd Js 49
def agA:=cf Js 586 236 4 295 .none .none 297 589
def ab6:=fo Js 49 nq 506 298
def an3:=ts [oA,aaw,ajQ,asF,Em] 595
def awq:=cd KD 50
def Xe:=cg KD 592 242 4 300 304 600
def afq:=fo KD 50 nq 506 305
def alH:=cd JL 53
def abm:=cf JL 607 249 1 307 .none .none 309 610
def aaC:=fo JL 53 qN 603 310
def ayg:=ts [vZ,M6,Nu,VR] 616
def auY:=cd Iu 54
def adz:=cg Iu 613 252 1 312 316 620
def Zd:=fo Iu 54 qN 603 317
def ajx:=cd GK 55
def af0:=cf GK 623 263 1 319 .none .none 321 626
def abr:=fo GK 55 qN 603 322
def axw:=ts [CJ,Zk,adp,yD,VR] 632
def aoa:=cd GV 56
def afX:=cg GV 629 268 2 324 328 637
def ae8:=fo GV 56 qN 603 329
def apj:=ts [CJ,aa0,yD,Zk,Em] 643
def arz:=cd GF 57
def acM:=cg GF 640 277 1 331 335 648
def WG:=fo GF 57 qN 603 336
def anB:=ts [vZ,aw5,ahq,awh] 654
def aqL:=cd DR 58
def V8:=cg DR 651 287 2 338 342 658
def W7:=fo DR 58 qN 603 343
def avU:=cd GD 59
def ac1:=cf GD 661 292 2 345 .none .none 347 664
def adO:=fo GD 59 qN 603 348
def akt:=ts [aa0,apU,auW,ady,alV,aak] 670
def asN:=cd Ih 60
def aci:=cg Ih 667 297 2 350 354 676
def adN:=fo Ih 60 qN 603 355
def ahz:=cd Fy 61
def ade:=cf Fy 679 305 1 357 .none .none 359 682
def Zw:=fo Fy 61 qN 603 360
def apG:=ts [as7] 690
def ahj:=cd Ig 63
def acL:=cg Ig 687 316 1 362 366 691
def Xu:=fo Ig 63 wz 685 367
def alc:=cd Iv 64
def Zg:=cf Iv 694 319 3 369 .none .none 371 697
def Xo:=fo Iv 64 wz 685 372
def apK:=ts [acG,abx,ahM] 703
def atO:=cd JX 65
def XQ:=cg JX 700 323 3 374 378 706
def agl:=fo JX 65 wz 685 379
def axN:=cd G7 66
def Zc:=cf G7 709 325 4 381 .none .none 383 712
def agr:=fo G7 66 wz 685 384
def akF:=ts [uq,sJ,aow,oA,acG,abx,CJ] 718
def avh:=cd Jt 67
def adC:=cg Jt 715 330 3 386 390 725
def ad4:=fo Jt 67 wz 685 391
def ajE:=ts [uq,sJ] 731
def ajg:=cd Ga 68
def afQ:=cg Ga 728 337 2 393 397 733
def afP:=fo Ga 68 wz 685 398
def avP:=cd Et 69
def VZ:=cf Et 736 339 2 400 .none .none 402 739
def aeU:=fo Et 69 wz 685 403
def amC:=ts [akq,E6,anD] 747
def ase:=cd Ke 71
def aei:=cg Ke 744 342 2 405 409 750
def YD:=fo Ke 71 z1 742 410
def al4:=ts [Zy,abO,ava,E6,anF] 756
def ahp:=cd JH 72
def afo:=cg JH 753 349 2 412 416 761
def adA:=fo JH 72 z1 742 417
def ai1:=ts [WQ,akJ,amv,E6] 767
def atX:=cd Ew 73
def avy:=cg Ew 764 355 2 419 423 771
def apM:=fo Ew 73 z1 742 424
def aw6:=cd Hy 74
def Wr:=cf Hy 774 360 4 426 .none .none 428 777
def afv:=fo Hy 74 z1 742 429
def alf:=ts [av0,WQ,auG,aoW,E6] 783
def arE:=cd GX 75
def ago:=cg GX 780 369 1 431 435 788
def acK:=fo GX 75 z1 742 436
def amU:=cd EB 76
def af8:=cf EB 791 375 2 438 .none .none 440 794
def aeY:=fo EB 76 z1 742 441
def aud:=ts [Zy,abO] 800
def aob:=cd Ja 77
def Wh:=cg Ja 797 384 2 443 447 802
def acj:=fo Ja 77 z1 742 448
def ayp:=cd J0 78
def YQ:=cf J0 805 390 2 450 .none .none 452 808
def afh:=fo J0 78 z1 742 453
def atj:=cd Kz 79
def W2:=cf Kz 811 403 2 455 .none .none 457 814
def Zt:=fo Kz 79 z1 742 458
def ag4:=cd Ii 80
def ZL:=cf Ii 817 413 1 460 .none .none 462 820
def ae0:=fo Ii 80 z1 742 463
def HL(P:Params):List Obj:=[PySem.W.boot_o_0 P,PySem.W.boot_o_1 P,PySem.W.boot_o_2 P,o3 P,PySem.W.boot_o_4 P,PySem.W.boot_o_5 P,PySem.W.boot_o_6 P,PySem.W.boot_o_7 P,PySem.W.boot_o_8 P,PySem.W.boot_o_9 P,PySem.W.boot_o_10 P,aH,o12,RK,MB,o15,BK,o17 P,aH,bf,o20,o21,aH,o23 P,o24,o25,o26,o27,v5,BK,o30 P,aH,bf,o33,o34,aH,o36 P,o37,o38,o39,v5,BK,o42 P,aH,bf,o45,o46,aH,Y0 P,o49,o50,o51,v5,BK,o54 P,aH,bf,o57,o58,aH,Xb P,o61,o62,o63,v5,BK,o66 P,aH,bf,o69,o70,aH,o72 P,XF,o74,o75,aH,bf,o78,aH,o80,o81,o82,aH,bf,o85,aH,o87,Y7,o89,aH,bf,o92,aH,o94,o95,Y6,aH,bf,o99,aH,asU,adq,Yk,aH,bf,al6,aH,auI,Yu,XR,aH,bf,awG,aH,ai9,abS,ZX,aH,bf,ayL,aH,au0,Xw,afx,aH,bf,ayP,aH,atb,afH,ad9,aH,bf,avi,aH,axq,XD,ad8,aH,bf,aqF,aH,avZ,ab8,afU,aH,bf,aw3,aH,apV,abX,ag2,aH,bf,aj2,abD,acy,aH,bf,ahd,aH,aui,Z0,aat,aH,bf,alX,Wc,acp,aH,bf,asL,adk,aai,aH,bf,awM,aH,ajS,acC,abQ,aH,bf,ati,aH,aqt,XU,Wo,aH,bf,anR,ab4,afT,aH,bf,apS,aH,arA,YF,o200,aH,bf,ar7,aH,awl,Zr,abZ,aH,bf,awF,Xl,WX,aH,bf,als,aH,aox,aeG,WL,aH,bf,aqq,aek,Ye,aH,bf,amG,aH,ak0,Yj,W5,aH,bf,aho,aH,ane,adT,aaG,aH,bf,ao5,XC,aeH,aH,bf,ahm,aH,alg,acg,adQ,aH,bf,ahE,aeD,adH,aH,bf,ahT,abU,adR,aH,bf,alI,aH,ap8,abI,Z2,aH,bf,alO,aH,aqH,agp,aaL,aH,bf,ayc,ach,aa8,aH,bf,ano,afu,Ys,aH,bf,axv,adg,Zq,aH,bf,auz,Yg,ac3,aH,bf,akZ,agA,ab6,aH,bf,an3,aH,awq,Xe,afq,aH,bf,alH,abm,aaC,aH,bf,ayg,aH,auY,adz,Zd,aH,bf,ajx,af0,abr,aH,bf,axw,aH,aoa,afX,ae8,aH,bf,apj,aH,arz,acM,WG,aH,bf,anB,aH,aqL,V8,W7,aH,bf,avU,ac1,adO,aH,bf,akt,aH,asN,aci,adN,aH,bf,ahz,ade,Zw,aH,bf,apG,aH,ahj,acL,Xu,aH,bf,alc,Zg,Xo,aH,bf,apK,aH,atO,XQ,agl,aH,bf,axN,Zc,agr,aH,bf,akF,aH,avh,adC,ad4,aH,bf,ajE,aH,ajg,afQ,afP,aH,bf,avP,VZ,aeU,aH,bf,amC,aH,ase,aei,YD,aH,bf,al4,aH,ahp,afo,adA,aH,bf,ai1,aH,atX,avy,apM,aH,bf,aw6,Wr,afv,aH,bf,alf,aH,arE,ago,acK,aH,bf,amU,af8,aeY,aH,bf,aud,aH,aob,Wh,acj,aH,bf,ayp,YQ,afh,aH,bf,atj,W2,Zt,aH,bf,ag4,ZL,ae0]
def ev(l:List Obj):Bool->List Obj:=List.rec (motive:=λ_=>Bool->List Obj) (λ_=>[]) (λo _ f b=>cond b (o::f false) (f true)) l
def bt(n:Nat):List Obj->BT:=Nat.rec (motive:=λ_=>List Obj->BT) (λ_=> .nil) (λ_ f l=>List.casesOn l .nil λo l=> .node o (f (ev l true)) (f (ev l false))) n
def TF(P:Params):BT:=bt 16 (HL P)
def HF(P:Params):Heap:=⟨⟨HL P⟩,{}⟩
def K(P:Params):Frag:=(nat_lit 0,PySem.W.boot_o_0 P)::(nat_lit 1,PySem.W.boot_o_1 P)::(nat_lit 2,PySem.W.boot_o_2 P)::(nat_lit 3,o3 P)::(nat_lit 4,PySem.W.boot_o_4 P)::(nat_lit 5,PySem.W.boot_o_5 P)::(nat_lit 6,PySem.W.boot_o_6 P)::(nat_lit 7,PySem.W.boot_o_7 P)::(nat_lit 8,PySem.W.boot_o_8 P)::(nat_lit 9,PySem.W.boot_o_9 P)::(nat_lit 10,PySem.W.boot_o_10 P)::(nat_lit 11,aH)::(nat_lit 12,o12)::(nat_lit 13,RK)::(nat_lit 14,MB)::(nat_lit 15,o15)::(nat_lit 22,aH)::(nat_lit 23,o23 P)::(nat_lit 24,o24)::(nat_lit 25,o25)::(nat_lit 28,v5)::(nat_lit 35,aH)::(nat_lit 36,o36 P)::(nat_lit 37,o37)::(nat_lit 40,v5)::(nat_lit 47,aH)::(nat_lit 48,Y0 P)::(nat_lit 49,o49)::(nat_lit 52,v5)::(nat_lit 59,aH)::(nat_lit 60,Xb P)::(nat_lit 61,o61)::(nat_lit 64,v5)::(nat_lit 71,aH)::(nat_lit 72,o72 P)::(nat_lit 73,XF)::(nat_lit 81,o81)::(nat_lit 82,o82)::(nat_lit 88,Y7)::(nat_lit 89,o89)::(nat_lit 95,o95)::(nat_lit 96,Y6)::(nat_lit 102,adq)::(nat_lit 103,Yk)::(nat_lit 109,Yu)::(nat_lit 110,XR)::(nat_lit 116,abS)::(nat_lit 117,ZX)::(nat_lit 123,Xw)::(nat_lit 124,afx)::(nat_lit 130,afH)::(nat_lit 131,ad9)::(nat_lit 137,XD)::(nat_lit 138,ad8)::(nat_lit 144,ab8)::(nat_lit 145,afU)::(nat_lit 151,abX)::(nat_lit 152,ag2)::(nat_lit 156,abD)::(nat_lit 157,acy)::(nat_lit 163,Z0)::(nat_lit 164,aat)::(nat_lit 168,Wc)::(nat_lit 169,acp)::(nat_lit 173,adk)::(nat_lit 174,aai)::(nat_lit 180,acC)::(nat_lit 181,abQ)::(nat_lit 187,XU)::(nat_lit 188,Wo)::(nat_lit 192,ab4)::(nat_lit 193,afT)::(nat_lit 199,YF)::(nat_lit 200,o200)::(nat_lit 206,Zr)::(nat_lit 207,abZ)::(nat_lit 211,Xl)::(nat_lit 212,WX)::(nat_lit 218,aeG)::(nat_lit 219,WL)::(nat_lit 223,aek)::(nat_lit 224,Ye)::(nat_lit 230,Yj)::(nat_lit 231,W5)::(nat_lit 237,adT)::(nat_lit 238,aaG)::(nat_lit 242,XC)::(nat_lit 243,aeH)::(nat_lit 249,acg)::(nat_lit 250,adQ)::(nat_lit 254,aeD)::(nat_lit 255,adH)::(nat_lit 259,abU)::(nat_lit 260,adR)::(nat_lit 266,abI)::(nat_lit 267,Z2)::(nat_lit 273,agp)::(nat_lit 274,aaL)::(nat_lit 278,ach)::(nat_lit 279,aa8)::(nat_lit 283,afu)::(nat_lit 284,Ys)::(nat_lit 288,adg)::(nat_lit 289,Zq)::(nat_lit 293,Yg)::(nat_lit 294,ac3)::(nat_lit 298,agA)::(nat_lit 299,ab6)::(nat_lit 305,Xe)::(nat_lit 306,afq)::(nat_lit 310,abm)::(nat_lit 311,aaC)::(nat_lit 317,adz)::(nat_lit 318,Zd)::(nat_lit 322,af0)::(nat_lit 323,abr)::(nat_lit 329,afX)::(nat_lit 330,ae8)::(nat_lit 336,acM)::(nat_lit 337,WG)::(nat_lit 343,V8)::(nat_lit 344,W7)::(nat_lit 348,ac1)::(nat_lit 349,adO)::(nat_lit 355,aci)::(nat_lit 356,adN)::(nat_lit 360,ade)::(nat_lit 361,Zw)::(nat_lit 367,acL)::(nat_lit 368,Xu)::(nat_lit 372,Zg)::(nat_lit 373,Xo)::(nat_lit 379,XQ)::(nat_lit 380,agl)::(nat_lit 384,Zc)::(nat_lit 385,agr)::(nat_lit 391,adC)::(nat_lit 392,ad4)::(nat_lit 398,afQ)::(nat_lit 399,afP)::(nat_lit 403,VZ)::(nat_lit 404,aeU)::(nat_lit 410,aei)::(nat_lit 411,YD)::(nat_lit 417,afo)::(nat_lit 418,adA)::(nat_lit 429,Wr)::(nat_lit 430,afv)::(nat_lit 436,ago)::(nat_lit 437,acK)::(nat_lit 441,af8)::(nat_lit 442,aeY)::(nat_lit 448,Wh)::(nat_lit 449,acj)::(nat_lit 453,YQ)::(nat_lit 454,afh)::(nat_lit 458,W2)::(nat_lit 459,Zt)::(nat_lit 463,ZL)::(nat_lit 464,ae0)::[]
def as:List Nat:=[0,1,2,3,4,5,6,7,8,9,10,11,12,13,14,15,22,23,24,25,28,35,36,37,40,47,48,49,52,59,60,61,64,71,72,73,81,82,88,89,95,96,102,103,109,110,116,117,123,124,130,131,137,138,144,145,151,152,156,157,163,164,168,169,173,174,180,181,187,188,192,193,199,200,206,207,211,212,218,219,223,224,230,231,237,238,242,243,249,250,254,255,259,260,266,267,273,274,278,279,283,284,288,289,293,294,298,299,305,306,310,311,317,318,322,323,329,330,336,337,343,344,348,349,355,356,360,361,367,368,372,373,379,380,384,385,391,392,398,399,403,404,410,411,417,418,429,430,436,437,441,442,448,449,453,454,458,459,463,464]
def cut(n:Nat)(t:BT):Nat->Nat->BT:=BT.rec (motive:=λ_=>Nat->Nat->BT) (λ_ _=> .nil) (λv _ _ l r a b=>cond (Nat.blt b n) (.node v (l (Nat.mul 2 a) (Nat.add a b)) (r (Nat.mul 2 a) (Nat.add (Nat.mul 2 a) b))) .nil) t
def HA(P:Params):Heap:=⟨⟨[PySem.W.boot_o_0 P,PySem.W.boot_o_1 P,PySem.W.boot_o_2 P,PySem.W.boot_o_3 P,PySem.W.boot_o_4 P,PySem.W.boot_o_5 P,PySem.W.boot_o_6 P,PySem.W.boot_o_7 P,PySem.W.boot_o_8 P,PySem.W.boot_o_9 P,PySem.W.boot_o_10 P,aH,adZ,RK,MB]⟩,{}⟩
def SA(w:World)(os:OsState):Shared:=⟨HA w.params,⟨[]⟩,{},187,os⟩
def T1(P:Params):BT:=((cut 15 (TF P) 1 0).set 3 λ_=>PySem.W.boot_o_3 P).set 12 λ_=>adZ
def S1(w:World)(os:OsState):SharedT:=⟨T1 w.params,15,{},⟨[]⟩,{},187,os⟩
def T2(P:Params):BT:=(((cut 28 (TF P) 1 0).set 3 λ_=>aol P).set 12 λ_=>au7).set 24 λ_=>ai8
def S2(w:World)(os:OsState):SharedT:=⟨T2 w.params,28,{},⟨[]⟩,{},207,os⟩
def T3(P:Params):BT:=(((cut 40 (TF P) 1 0).set 3 λ_=>aqr P).set 12 λ_=>ax8).set 24 λ_=>akR
def S3(w:World)(os:OsState):SharedT:=⟨T3 w.params,40,{},⟨[]⟩,{},223,os⟩
def T4(P:Params):BT:=(((cut 52 (TF P) 1 0).set 3 λ_=>asC P).set 12 λ_=>auO).set 24 λ_=>asT
def S4(w:World)(os:OsState):SharedT:=⟨T4 w.params,52,{},⟨[]⟩,{},239,os⟩
def T5(P:Params):BT:=(((cut 64 (TF P) 1 0).set 3 λ_=>atg P).set 12 λ_=>ax6).set 24 λ_=>awi
def S5(w:World)(os:OsState):SharedT:=⟨T5 w.params,64,{},⟨[]⟩,{},255,os⟩
def T6(P:Params):BT:=((cut 111 (TF P) 1 0).set 3 λ_=>aiA P).set 12 λ_=>amH
def S6(w:World)(os:OsState):SharedT:=⟨T6 w.params,111,{},⟨[]⟩,{},321,os⟩
def T7(P:Params):BT:=((cut 189 (TF P) 1 0).set 3 λ_=>avT P).set 12 λ_=>aoq
def S7(w:World)(os:OsState):SharedT:=⟨T7 w.params,189,{},⟨[]⟩,{},438,os⟩
def T8(P:Params):BT:=((cut 261 (TF P) 1 0).set 3 λ_=>ahb P).set 12 λ_=>atM
def S8(w:World)(os:OsState):SharedT:=⟨T8 w.params,261,{},⟨[]⟩,{},536,os⟩
def T9(P:Params):BT:=((cut 331 (TF P) 1 0).set 3 λ_=>auk P).set 12 λ_=>aix
def S9(w:World)(os:OsState):SharedT:=⟨T9 w.params,331,{},⟨[]⟩,{},640,os⟩
def T10(P:Params):BT:=((cut 405 (TF P) 1 0).set 3 λ_=>alu P).set 12 λ_=>aoZ
def S10(w:World)(os:OsState):SharedT:=⟨T10 w.params,405,{},⟨[]⟩,{},744,os⟩
def T11(P:Params):BT:=cut 465 (TF P) 1 0
def Xi(w:World)(os:OsState):SharedT:=⟨T11 w.params,465,{},⟨[]⟩,{},823,os⟩
def SF(w:World)(os:OsState):Shared:=⟨HF w.params,⟨[]⟩,{},823,os⟩
def ann:Option Value:=some (.ref 6)
def env:Env:={ scope:=pwL.main.scope,locals:=mainNs,globals:=mainNs,cells:=[],code:= .ref 13,frame:=some 14 }
def cE:Code:= .body (behindTheImports pwL) env
abbrev BB:List Frame:=[topFrame ⟨0,0,0,0⟩]
def q:Program:={ pwL with main:={ pwL.main with body:=[topF 1,topF 2,topF 3,topF 4,topF 5,topF 7,topF 8,topF 9,topF 10,topF 12,topF 13,topF 14,topF 15,topF 16,topF 18,topF 19,topF 20,topF 21,topF 22,topF 23,topF 24,topF 26,topF 27,topF 28,topF 29,topF 30,topF 31,topF 32,topF 33,topF 35,topF 36,topF 37,topF 39,topF 40,topF 41,topF 42,topF 43,topF 44,topF 45,topF 46,topF 47,topF 48,topF 49,topF 50,topF 52,topF 53,topF 54,topF 55,topF 56,topF 57,topF 58,topF 59,topF 60,topF 61,topF 63,topF 64,topF 65,topF 66,topF 67,topF 68,topF 69,topF 71,topF 72,topF 73,topF 74,topF 75,topF 76,topF 77,topF 78,topF 79,topF 80] } }
theorem warm2:((λ(_:Env) (_:Code) (_:Program)=>true) env cE q)=true:=by k_qdec
theorem a0:@segRunT=PySem.W.Fast.tw10110043849684766642:=PySem.W.Fast.te10110043849684766642
theorem a1:@treeTable=PySem.W.Fast.tw14364793385576792824:=PySem.W.Fast.te14364793385576792824
theorem a2:@topGo=PySem.W.Fast.tw15667345088766844465:=PySem.W.Fast.te15667345088766844465
theorem a3:@topRun=PySem.W.Fast.tw14082659384304107361:=PySem.W.Fast.te14082659384304107361
theorem a4:@segRun=PySem.W.Fast.tw14374325043358763698:=PySem.W.Fast.te14374325043358763698
theorem a5:@denote=PySem.W.Fast.tw11892475500146522536:=PySem.W.Fast.te11892475500146522536
theorem a6:@cE=PySem.W.Fast.tw7355519265585826011:=PySem.W.Fast.te7355519265585826011
theorem a7:@env=PySem.W.Fast.tw638331092393445792:=PySem.W.Fast.te638331092393445792
theorem a8:@q=PySem.W.Fast.tw13654841151508904784:=PySem.W.Fast.te13654841151508904784
theorem a9:@pwL=PySem.W.Fast.tw5457224468540051584:=PySem.W.Fast.te5457224468540051584
theorem a10:@topF=PySem.W.Fast.tw15146489478007629594:=PySem.W.Fast.te15146489478007629594
theorem a11:@importedModules=PySem.W.Fast.tw5923862056798008813:=PySem.W.Fast.te5923862056798008813
theorem a12:@openSeen=PySem.W.Fast.tw4187177175401517315:=PySem.W.Fast.te4187177175401517315
theorem a13:@Heap.nsMap=PySem.W.Fast.tw8920871248978507458:=PySem.W.Fast.te8920871248978507458
set_option maxHeartbeats 0
theorem pre(w:World)(os:OsState):topGo treeTable pwL w 11 ann 12 ⟨boot_heap w.params,⟨[]⟩,boot_drawn,boot_toks,os⟩ (topStub pwL)=some (SA w os,⟨denote treeTable cE,cE,⟨0,0,0,0⟩,BB⟩):=by
 rw[a1,a2,a5,a6,a9];kernel_rfl
theorem blk(w:World)(os:OsState):segRun treeTable pwL w 11 ann 1 1 (SA w os) (blockOf (behindTheImports pwL) env cE ⟨0,0,0,0⟩ BB)=some (.next,(S1 w os).abs,cE,⟨0,0,0,0⟩):=by
 rw[a1,a4,a6,a7,a9];kernel_rfl
abbrev c1:List Stmt:=[topF 0,topF 1]
theorem p1(w:World)(os:OsState):segRunT treeTable pwL w 11 ann 1 196 (S1 w os) (piecesOf c1 env cE ⟨0,0,0,0⟩ BB)=some (.next,S2 w os,cE,⟨2,0,3,8⟩):=by
 unfold c1;rw[a0,a1,a6,a7,a9,a10];kernel_rfl
abbrev c2:List Stmt:=[topF 2]
theorem p2(w:World)(os:OsState):segRunT treeTable pwL w 11 ann 1 214 (S2 w os) (piecesOf c2 env cE ⟨2,0,3,8⟩ BB)=some (.next,S3 w os,cE,⟨4,0,5,8⟩):=by
 unfold c2;rw[a0,a1,a6,a7,a9,a10];kernel_rfl
abbrev c3:List Stmt:=[topF 3]
theorem p3(w:World)(os:OsState):segRunT treeTable pwL w 11 ann 1 214 (S3 w os) (piecesOf c3 env cE ⟨4,0,5,8⟩ BB)=some (.next,S4 w os,cE,⟨6,0,7,8⟩):=by
 unfold c3;rw[a0,a1,a6,a7,a9,a10];kernel_rfl
abbrev c4:List Stmt:=[topF 4]
theorem p4(w:World)(os:OsState):segRunT treeTable pwL w 11 ann 1 214 (S4 w os) (piecesOf c4 env cE ⟨6,0,7,8⟩ BB)=some (.next,S5 w os,cE,⟨8,0,9,8⟩):=by
 unfold c4;rw[a0,a1,a6,a7,a9,a10];kernel_rfl
abbrev c5:List Stmt:=[topF 5,topF 6,topF 7,topF 8,topF 9,topF 10,topF 11,topF 12,topF 13]
theorem p5(w:World)(os:OsState):segRunT treeTable pwL w 11 ann 1 395 (S5 w os) (piecesOf c5 env cE ⟨8,0,9,8⟩ BB)=some (.next,S6 w os,cE,⟨44,0,47,17⟩):=by
 unfold c5;rw[a0,a1,a6,a7,a9,a10];kernel_rfl
abbrev c6:List Stmt:=[topF 14,topF 15,topF 16,topF 17,topF 18,topF 19,topF 20,topF 21,topF 22,topF 23,topF 24,topF 25,topF 26,topF 27,topF 28]
theorem p6(w:World)(os:OsState):segRunT treeTable pwL w 11 ann 1 397 (S6 w os) (piecesOf c6 env cE ⟨44,0,47,17⟩ BB)=some (.next,S7 w os,cE,⟨113,0,114,47⟩):=by
 unfold c6;rw[a0,a1,a6,a7,a9,a10];kernel_rfl
abbrev c7:List Stmt:=[topF 29,topF 30,topF 31,topF 32,topF 33,topF 34,topF 35,topF 36,topF 37,topF 38,topF 39,topF 40,topF 41,topF 42]
theorem p7(w:World)(os:OsState):segRunT treeTable pwL w 11 ann 1 365 (S7 w os) (piecesOf c7 env cE ⟨113,0,114,47⟩ BB)=some (.next,S8 w os,cE,⟨174,0,181,58⟩):=by
 unfold c7;rw[a0,a1,a6,a7,a9,a10];kernel_rfl
abbrev c8:List Stmt:=[topF 43,topF 44,topF 45,topF 46,topF 47,topF 48,topF 49,topF 50,topF 51,topF 52,topF 53,topF 54,topF 55,topF 56]
theorem p8(w:World)(os:OsState):segRunT treeTable pwL w 11 ann 1 369 (S8 w os) (piecesOf c8 env cE ⟨174,0,181,58⟩ BB)=some (.next,S9 w os,cE,⟨268,0,276,24⟩):=by
 unfold c8;rw[a0,a1,a6,a7,a9,a10];kernel_rfl
abbrev c9:List Stmt:=[topF 57,topF 58,topF 59,topF 60,topF 61,topF 62,topF 63,topF 64,topF 65,topF 66,topF 67,topF 68,topF 69,topF 70]
theorem p9(w:World)(os:OsState):segRunT treeTable pwL w 11 ann 1 373 (S9 w os) (piecesOf c9 env cE ⟨268,0,276,24⟩ BB)=some (.next,S10 w os,cE,⟨341,0,341,8⟩):=by
 unfold c9;rw[a0,a1,a6,a7,a9,a10];kernel_rfl
abbrev M4:List Stmt:=[topF 71,topF 72,topF 73,topF 74,topF 75,topF 76,topF 77,topF 78,topF 79,topF 80]
theorem p10(w:World)(os:OsState):segRunT treeTable pwL w 11 ann 1 290 (S10 w os) (piecesOf M4 env cE ⟨341,0,341,8⟩ BB)=some (.next,Xi w os,cE,⟨413,0,425,88⟩):=by
 unfold M4;rw[a0,a1,a6,a7,a9,a10];kernel_rfl
theorem fin(w:World)(os:OsState):topRun treeTable pwL w 11 ann 2 (Xi w os).abs ⟨doneF .next,cE,⟨413,0,425,88⟩,BB⟩=some (SF w os):=by
 rw[a1,a3,a6,a9];kernel_rfl
theorem body:behindTheImports pwL=c1++(c2++(c3++(c4++(c5++(c6++(c7++(c8++(c9++(M4++([])))))))))):=by
 rw[a9];kernel_rfl
theorem run(w:World)(os:OsState):topRun treeTable pwL w 11 ann (12+(1+(196+(214+(214+(214+(395+(397+(365+(369+(373+(290+(2))))))))))))) ⟨boot_heap w.params,⟨[]⟩,boot_drawn,boot_toks,os⟩ (topStub pwL)=some (SF w os):=
 go_top (pre w os) (piece_block (blk w os) (by rw[body];exact piece_app (segRun_of (p1 w os)) (piece_app (segRun_of (p2 w os)) (piece_app (segRun_of (p3 w os)) (piece_app (segRun_of (p4 w os)) (piece_app (segRun_of (p5 w os)) (piece_app (segRun_of (p6 w os)) (piece_app (segRun_of (p7 w os)) (piece_app (segRun_of (p8 w os)) (piece_app (segRun_of (p9 w os)) (piece_app (segRun_of (p10 w os)) (piece_nil (fin w os)))))))))))))
theorem size(w:World):((boot_heap w.params).isNs mainGlobals&&(Array.mk ([]:List GenState)).size==0,(boot_heap w.params).objs.size,(boot_heap w.params).nsMap mainGlobals "__annotations__")=(true,11,ann):=by
 rw[a13];kernel_rfl
abbrev Xt(s:Shared):Bool:=xlAt q [] s&&recOk [] s
theorem lk1(w:World)(os:OsState):(staticsOk (importedModules pwL.main.body) (boot_heap w.params) (HF w.params)&&namesBound pwL (HF w.params)&&gensDone (SF w os)&&laidKept (boot_heap w.params) (HF w.params))=true:=by
 rw[a9,a11];kernel_rfl
theorem lk2(w:World)(os:OsState):openSeen q [] (importedModules pwL.main.body) Xt true (SF w os)=openGood q []:=by
 rw[a8,a9,a11,a12];kernel_rfl
theorem lk3(w:World)(os:OsState):Zn as (SF w os)=agB K 465 823 w:=by
 kernel_rfl
theorem imports:opening pwL=plainProg pwL.main.scope.names:=by kernel_rfl
theorem left:LeftO pwL q [] Xt (Zn as) (agB K 465 823) 6160:=
 LeftO.of_pieces (boot_open imports (by rfl) (λs=>by kernel_rfl)) size run (by rfl) λw=>funext λos=>looks_pair (lk1 w os) (looks_pair (lk2 w os) (lk3 w os))
end
end H
end K48
open PySem PySem.W PyProof.Rows
set_option maxRecDepth 100000 in
set_option maxHeartbeats 0 in
theorem PySem.Challenge.cw_nextbyrule_k48_whole_closed_forms_added_holds : PySem.Challenge.rw_nextbyrule_k48_whole_closed_forms_added.Holds := by
 change K48.rwL.Holds
 w_on;o_law;rename_i said
 refine holds_openX (d:=?d) (kwd:=?kwd) K48.H.left (λs h=>xl_of s (HZ.mp h).1) XL.keeps (by rfl) (by rfl) (by rfl) (λs h=>recFacts_of (HZ.mp h).2) (by rfl) said (by decide +kernel) ⟨rfl,rfl,rfl,rfl,rfl,by decide +kernel⟩ ?hw ?hc;case hw=>w_witness2
 k_fill
 refine L2.ajz (λ_=>by kernel_rfl) ?_;refine L2.ahV (l:=K48.rwL) (n:=63) (k:=K48.Oc) (x:= "_law_script") (CX:=λw=>L2.rC K48.rwL.prog w) (sp:=λ_=>K48.Px _) rfl (by decide) rfl ⟨rfl,by decide,by decide⟩ (λw h Y=>Y) ?F (λw H a ns hl _ hS=>⟨a,ns,rfl,hS,hl,λ_=>rfl⟩) (λ_ _ _ _ _ z=>L2.ac2 z);case F=>
  intro w mg fa h KX G hmg;apply K48.all_mk KX G hmg;all_goals first|(refine' L2.auC ?a ?l ?c ?k;(case a|l|c|k=>k_is))|k_is|exact⟨_,by k_is⟩|k_exc|kernel_rfl|kit_is
