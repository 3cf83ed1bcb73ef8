import PyProof.Rows.All
import Wide.All
import OpenK.AllK
import Wide.FinOn
import Lean
import PyProof.EqAt
import PyProof.EqKinds
import PyProof.TupleCall
import PySem.Challenge.RW_nextbyrule_k53_desk_answers
local macro_rules | `(tactic| lia)=>`(tactic| first|lia -trace|omega)
local macro_rules | `(⋯)=>`(by lia)
local macro_rules | `(∅)=>`(by decide)
set_option hygiene false
local macro_rules | `({$x:term,*}) => do
  let mut a:=#[]
  for e in x.getElems do
    if e matches `(()) then a:=(a.push (<-`(_))).push (<-`(rfl))
    else if e matches `("") then a:=(((a.push (<-`(_))).push (<-`(_))).push (<-`(rfl))).push (<-`(rfl))
    else match e with
     |`(!$h)=>a:=((a.push (<-`(_))).push (<-`(_))).push (<-`(.inr (ao.of $h)))
     |`(¬$h)=>a:=((a.push (<-`(_))).push (<-`(_))).push (<-`(.inl (ak.of $h)))
     |_=>a:=a.push e
  `(⟨$a,*⟩)
local macro_rules | `(tactic|exists $x,*) => do
  let mut a:=#[]
  for e in x.getElems do
    if e matches `(()) then a:=(a.push (<-`(_))).push (<-`(rfl))
    else if e matches `("") then a:=(((a.push (<-`(_))).push (<-`(_))).push (<-`(rfl))).push (<-`(rfl))
    else match e with
     |`(!$h)=>a:=((a.push (<-`(_))).push (<-`(_))).push (<-`(.inr (ao.of $h)))
     |`(¬$h)=>a:=((a.push (<-`(_))).push (<-`(_))).push (<-`(.inl (ak.of $h)))
     |_=>a:=a.push e
  `(tactic|refine ⟨$a,*, ?_⟩)
local macro_rules | `(tactic|intros $x*) => do
  let a:=x.raw
  let mut p:=#[]
  for e in a.pop do
    p:=p.push (<-if e.isIdent then `(Lean.Parser.Tactic.rcasesPatLo|$(⟨e⟩):ident) else `(Lean.Parser.Tactic.rcasesPatLo|_))
  `(tactic|obtain ⟨$p,*⟩:=$(⟨a.back!⟩):ident)
local macro_rules | `(tactic|trivial)=>`(tactic|first|exact .inl rfl|exact .inr rfl|assumption)
set_option hygiene false
local macro_rules | `(tactic|delta $x) => `(tactic|refine F.cal $x λH Q E hr h=>?_)
local macro_rules | `(tactic|delta $x $_) => `(tactic|refine F.gh $x λH Q E hr h=>?_)
local macro_rules | `(($i:num :)) => `(pv $i)
local macro_rules | `((-$i:num :)) => `(aK K (pv $i) aP)
set_option hygiene true
set_option Elab.async false
set_option linter.all false
set_option compiler.extract_closed false
set_option maxRecDepth 100000
noncomputable section
def PySem.W.Fast.tw14213360399254772081:PySem.Program:=PySem.Challenge.pw_nextbyrule_k53_desk_answers
theorem PySem.W.Fast.te14213360399254772081:PySem.Challenge.pw_nextbyrule_k53_desk_answers=PySem.W.Fast.tw14213360399254772081:=rfl
open List renaming length_map->aB,mem_map->bO,mem_cons_of_mem->fM,mem_singleton->eN,mem_cons->c7,length_append->gk,size_toArray->gC,map_append->fH,forall_mem_cons->iT,map_map->dD,mem_cons_self->iY,mem_append->ig,mem_range->gZ,replicate->iy,map_congr_left->kW,take_of_length_le->oA,eq_nil_of_length_eq_zero->u5,length_cons->j8,length_range->mq,mem_append_right->qe,map_cons->ji,range->gq,length_take->m9,all_eq_true->mY,mem_iff_getElem->ug,length_pos_iff->rQ,filter_eq_self->rT,length_set->oU,append_nil->rJ,getElem_mem->sE,take_length->tX,mem_filter->sI,replicate_succ->zc,map->jc,take_succ_eq_append_getElem->NZ,drop_eq_nil_of_le->EY,length_reverse->Ax,length_drop->xX,mem_of_mem_take->CP,map_take->uX,nodup_cons->Cd,flatten_cons->Dq,append_assoc->E3,take_add_one->D8,not_mem_nil->Ej,take_append_of_le_length->Uq,filter_cons->Ma,nil_append->Jb,filter_append->Rq,filter_cons_of_neg->pT,filter_cons_of_pos->aw,lookup->AZ,drop_zero->K4,length_singleton->Zb,length_filter_le->ZR,take->wI,any_eq_true->Pg,count_eq_zero_of_not_mem->NU,mem_append_left->YX,any_cons->MG,dropLast_concat_getLast->ZN,filterMap_cons->Yx,of_mem_zip->Ri,foldl_cons->RV,range_succ->RZ,mem_filterMap->Z1,map_nil->Jy,cons_append->Vw,forIn_cons->i0,take_eq_take_iff->AY,filter_map->YL,mem_of_mem_drop->YR,take_zero->Y4,range'->TR,map_id->RJ,length_zipWith->BM,length_flatten->ye,flatten_append->QR,all_cons->Xx,sum_cons->mx,getElem_range->we,take_nil->Zn,map_drop->Vo,reverse_cons->EN,foldl_append->LL,map_set->pE,ext_getElem->So,getElem_map->WA,range'_succ->FU,mem_flatten->x5,length_nil->xN,sum_append->EU,headD_cons->UX,foldl->ZW,map_id'->yY,length->NJ
open Option renaming some->ι,none->ν
abbrev ζ:=List Int
abbrev χ:=PySem.Value->PySem.Shared->Prop
abbrev μ:=PySem.Str->Option PySem.Value
open PySem.Str renaming ofString->cP,empty->ur,length->vY,join->Ao
open Nat renaming le_refl->aZ,le_trans->cM,lt_of_lt_of_le->gJ,zero_le->cZ,add_sub_cancel->jY,pow_le_pow_right->ql,mul_le_mul_right->pO,le_of_lt->iR,ne_of_lt->jr,lt_of_le_of_lt->qU,lt_irrefl->n6,mul_le_mul_left->yj,pow_succ->pD,not_lt_zero->uz,toDigits_of_lt_base->Fz,lt_trans->p7,mul_le_mul->vq,toDigits->rB,add_sub_cancel_left->MQ,mod_eq_of_lt->BD,succ_mul->uI,le_of_dvd->xQ,sub_zero->uT,toDigits_append_toDigits->ZX,mul_comm->yH,strongRecOn->CW,add_mul_mod_self_left->gI,sub_self->Aj,add_assoc->CT,min_eq_left->Lx,mul_add->Af,gcd->oM,mul_succ->Fv,le_of_not_lt->RH,succ_ne_zero->Oq,div_le_self->RQ,le_of_eq->MX,pow_zero->Gk,pow_lt_pow_iff_right->Kj,lt_trichotomy->av,one_mul->Kf,dvd_trans->Rv,eq_zero_of_zero_dvd->yn,digitChar->PJ,lt_succ_self->iq,gcd_dvd_left->Wd,min_eq_right->VH,le_of_ble_eq_true->Mm,div_add_mod->uS,pow_add->Pq,mul_one->QY,one_le_two_pow->UB,gcd_dvd_right->yz,dvd_mul_right->WE,add_comm->oQ,add_zero->Yj,mul_zero->mw,zero_add->qV,min_le_right->AO,le_max_right->RF,succ_le_succ->We,le_max_left->EO,add_mul->V2,toList_repr->EH,log2_lt->gV,mod_lt->uB,mul_assoc->G1,ne_of_gt->FX,zero_mul->Sr,dvd_refl->IT,succ_pos->Mn,min_self->ZA,gcd_comm->UM,beq->T9,add->QN
open Int renaming toNat_natCast->dB,mul_zero->eV,add_zero->fK,mul_assoc->jx,mul_comm->jt,zero_add->jL,zero_mul->jH,emod_emod_of_dvd->uh,emod_lt_of_pos->qT,emod_nonneg->rK,mul_one->mH,pow_succ->pA,natAbs_natCast->Ce,dvd_refl->rR,mul_emod->vd,natAbs_mul->zB,one_mul->sY,dvd_of_emod_eq_zero->Qf,toNat_of_nonneg->Kv,mul_le_mul_of_nonneg_left->kr,dvd_add->wO,dvd_mul_right->Lh,add_comm->Ak,pow_zero->Bk,sub_zero->Ba,eq_ofNat_of_zero_le->iS,natCast_add->JM,emod_eq_of_lt->Ti,sub_self->Fb,dvd_trans->Lg,ofNat_dvd->Ju,mul_add->Cy,neg_mul->Fy,mul_eq_zero->PL,mul_ne_zero->Oj,natCast_mul->Rg,fdiv_eq_ediv_of_nonneg->IQ,zero_sub->GB,sub_eq_add_neg->Yy,natAbs_neg->Nk,add_mul->HM,mul_sub->KP,ediv_one->NT,dvd_self_sub_emod->NR,mul_le_mul->Ym,add_assoc->Xp,natAbs_add_le->MO,mul_left_comm->ME,dvd_mul_left->VO,natCast_emod->B8,neg_one_mul->FV,sub_mul->UN,natCast_pow->OA,le_trans->VE,zero_pow->QO
open PySem.W renaming Frag->aD,kitOne->bB,nsIn->bJ,mg_none_of->mO,findIn->gK,mg_of->fZ,kia_one->pQ,emptyDict->wJ,keepIn->oR,instObj->zj,callWith_K->Iv,looks_findIn->TJ,mroIn->rP,ktsIn->uQ,cellsFrom_some->ve,fnOf->qD,plainGet->LQ,hasDictIn->TQ,plainGet_of->WY,codeIn->ED,clsIn->BL,excIn->A8,methodObj->mP,hideAll->R9,plainOver->cz,makesIn->TY,lookIn->TX,takerIn->eS
open Bool renaming false_ne_true->gQ,and_eq_true->oN,eq_iff_iff->EV,or_eq_true->Cj,eq_false_iff->SJ,false_eq_true->px,true_and->Ow,and_eq_true_iff->K0,false_and->RR
open PySem.Heap renaming lt_size->dz,SameBut->Ig,FlyingW->Gs,ExtBut->uv,size_push->yo,MadeExcOf->Of
open PySem.F renaming plainAttrs_str->qO,slot_str_join->yE,type_str_join->yq,excBase_ValueError->CB,plainAttrs_list->RB,slot_dict_getitem->Vk,args_tuple_add_2->XQ,entry_tuple_add->sM,slot_tuple_add->oz,typeOf_object_class->kg,slot_str_startswith->xt,type_str_startswith->DE,args_str_split_2->ie,entry_str_split->bj,slot_str_split->Xy,slot_str_split->Na,type_str_split->xo,slot_dict_len->Zl,excAttr_ValueError->TK,slot_gs_get->Vm,slot_int_index->Ya,fills_int_mul->HU,slot_int_rmul->RE,slot_int_mul->Ll
open PySem.Builtin.Int renaming intBits->vW
open Classical renaming byContradiction->xY,not_forall->Q5,skolem->Qr
open PyProof.Rows renaming callWith_type1->AW,slot_tuple_getitem->EW,isStrOf->U2,callWith_builtin1->aPQ,signs_ofString->aww
open Option.some renaming inj->pL
open PySem renaming mem_of_lookup->yD,JoinOk->u6,Within->qA,sizeLine->OQ,call->VI
open Or renaming inr->fX,inl->jj
open Ne renaming symm->jB
open PySem.Obj renaming mapFields->yr,data_mapFields->Kz,isFreed_of_fields->SY,mapSeq->Az,cls_mapFields->VA
open PySem.StrLaws renaming join_length_le->Uk,sumLen_le->og,joinFits->dm,found_one->af9
open Array renaming length_toList->Qd,toList_append->Qa,toList_inj->OG,append_assoc->sx,size_append->TU,toList->UD
open PySem.PyData renaming eqv->wj,strOk->A9,depthAll->GR,canLayAll0->Ry,canLay0->MZ,keyHash->Jf,depth->JV,int->W3
open Option renaming map_some->Lp,getD_none->Rx,isSome_iff_exists->Ff,isSome_map->xF,getD_some->ZH,none->YN
open List.cons renaming inj->KC
open PySem.Txt renaming split->QJ,slice->yf
open PySem.Calls renaming Name_function_global->XA,callWith_builtin->Mo,evalArgs_plain->PQ,spliced_cons->FH,spliced_nil->JI
open PyProof renaming noPylong_small->XX
open Sum renaming inr->vL,inl->Bc
open PySem.Around renaming under->mI
open PySem.EqNone renaming eq_none_none->aQn,eq_none_bool->aCO,eq_bool_none->aEv,ne_none_none->azp,ne_none_bool->aKf,ne_bool_none->aM5,eq_none_int->aJK,eq_none_str->aDs,eq_int_none->aGT,eq_str_none->azI,ne_none_int->aFY,ne_none_str->aKd,ne_int_none->aD6,ne_str_none->aD2
open PySem.EqMixed renaming eq_bool_str->aE7,eq_str_bool->aGf,ne_bool_str->aSg,ne_str_bool->azd,eq_int_str->aH7,eq_str_int->aRc,ne_int_str->avJ,ne_str_int->aOz
open PySem.Builtin.Str renaming tooLong->az7
open PySem.W.X renaming obsZ->vS,valZ->ID
open Eq renaming trans->OX
open Sum.inr renaming inj->JP
open PySem.Heap.UpToSlots renaming refl->azw
open Prod renaming ext->ku
open PySem.Heap.IsSliceOf renaming new->aKp
open List.Sublist renaming slnil->axO
open PySem.Within renaming cons->avl
open List.Pairwise renaming nil->aL8
namespace L2
open PySem PySem.Spec PyProof.Rows
def inClass(s:Stmt)(j:Nat):Stmt:=match s with
 |.ClassDef _ _ _ body _ _ _ _ _ _ _=>body.getD j (.Pass {0,0,0,(0)})
 |_=>.Pass {0,0,0,(0)}
def mz(s:Stmt):Arguments:=match s with
 |.FunctionDef _ a _ _ _ _ _ _ _ _=>a
 |_=>{posonlyargs:=[],args:=[],vararg:=ν,kwonlyargs:=[],kw_defaults:=[],kwarg:=ν,defaults:=[]}
def iZ(s:Stmt):List Stmt:=match s with
 |.FunctionDef _ _ b _ _ _ _ _ _ _=>b
 |_=>[]
def aG(s:Stmt):Scope:=match s with
 |.FunctionDef _ _ _ _ _ _ sc _ _ _=>sc
 |_=>{kind:=.function,names:=[],isGenerator:=false,isCoroutine:=false}
end L2
namespace K53
def topF(i:Nat):PySem.Stmt:=PySem.Challenge.pw_nextbyrule_k53_desk_answers.main.body.getD i (.Pass {0,0,0,(0)})
def pwL:PySem.Program:={PySem.Challenge.pw_nextbyrule_k53_desk_answers with main:={PySem.Challenge.pw_nextbyrule_k53_desk_answers.main with body:=(List.range 185).map topF}}
def rwL:PySem.W.OpenLaw:={PySem.Challenge.rw_nextbyrule_k53_desk_answers with prog:=pwL}
end K53
namespace K53
namespace H
noncomputable section
open PySem PySem.W PySem.Calls PyProof.Rows
abbrev kh:=Jf
abbrev tt(i:Nat):Stmt:=topF i
def zs(n:Nat):Str:={{Nat.rec (motive:=λ_=>Nat->List Nat) (λ_=>[]) (λ_ f n=>cond (T9 n 0) [] (Nat.mod n 128::f (Nat.div n 128))) 64 n}}
def z0:=zs 0xbf7f2edc3bafdf
def z1:=zs 0x1cf965efcf761bfaf9e5c97d9b5d77f2ecebcbce2e9e32eebfdf0ec
def z2:=zs 421105403244511
def z3:=zs 0x17efe5cf875e3c3c2fdf
def z4:=zs 0x2fdfe597261dfb2fdf
def z5:=zs 0xbf7f1e5e1cefdf
def z6:=zs 0x17eff3ddbf4f4c3d37eedd86fdf
def z7:=zs 0xbf7f9eed3d3669eb8afdf
def z8:=zs 0xbf7f2ecd39afdf
def z9:=zs 0x79e0bba75c6bf6e9c3b31af
def R8:=zs 0x2fdfc997463c38efdf
def wV:=zs 0x72dfcb945cbb3ad2
def xP:=zs 0xe59716deb3b7ce
def vP:=zs 254851022
def xr:=zs 4018155108302
def xK:=zs 3943197046740
def v9:=zs 456808319416276
def wu:=zs 3567379019732
def wL:=zs 32177960910
def wN:=zs 3499797755854
def XM:=zs 0x53b30afcc9906fc5ad3e141
def GN:=zs 0xcbb37e8ef7f9e9
def Jp:=zs 0xcbb74f2e17f9e9
def Mh:=zs 32687782377
def Jt:=zs 0x72cb8b6f5dd7f9e9
def Mj:=zs 29741478132
def JY:=zs 448184882935657
def J2:=zs 240745327
def WQ:=zs 372306437449676
def z29:=zs 0xa94e2c8a94a0c6
def IB:=zs 0x1cf965c5b7aeebf97961
def Kr:=zs 4118845848041
def FJ:=zs 0x79c57f265e587473
def Iz:=zs 0xcbb74f2e17f2f3eb9b2f2
def KZ:=zs 0x32e3c3b385fe9e32ee
def Gm:=zs 0xe7971e1d9c2ff4e7cb4e6
def Ku:=zs 0x3961cd7f2f3eb9b2f2
def xM:=zs 3978691114608
def Lz:=zs 443304474474868
def Gq:=zs 0x74c37f965c5b7aee
def Ml:=zs 31083689204
def IW:=zs 443302050378980
def Ld:=zs 26797127661
def IZ:=zs 0xe9cf2f4c397967
def Jq:=zs 447945196958575
def FY:=zs 452440390056690
def HW:=zs 4011968920307
def z47:=zs 0xa7166c9a542fc59152fd79f322c2
def JK:=zs 0x197b6fc586fe5dba7970
def sX:=zs 509272748045540
def JN:=zs 0x3cecdfc2feecbaf0f4
def J4:=zs 514152117859054
def Jl:=zs 3463318239210
def J9:=zs 0x3a73cbd30e5e59efe5d9bf477
def K1:=zs 0x396fe7a7b69c97f265e587473
def FZ:=zs 3534690727924
def GV:=zs 0xcdbeff4e7872ec
def G9:=zs 0xe9cf2f4e5bf473
def Hu:=zs 456806792737008
def HZ:=zs 0xe9cf969cd7f26ed3a32e2
def G3:=zs 0x39edebceff2cbdf7f0
def Jz:=zs 0xe7b7af3bf9b7dfcbb3af2
def z62:=zs 0x2a5283529dfa94e2c8a94a0c6
def z63:=zs 0x1422d4a77ea538b124d7
def Ht:=zs 0x19f76fd97f2f3eb9b2f2
def Lf:=zs 0xe7c32f4e77f961cd7f2f3eb9b2f2
def Ln:=zs 0xefbf95fc9b37f4
def Gw:=zs 0x65c787670bfb7af3
def HX:=zs 0x65c787670bfd31f5c9bf970
def KQ:=zs 0xcb8f0ece17f265d9b37f2
def Ie:=zs 0xefbf95fe5a70f0
def JL:=zs 0x77dfcaff4dda77ea
def Hy:=zs 27057009249
def J6:=zs 3463314094066
def Jr:=zs 0x3265d3b3869e9b3aed
def J3:=zs 3463313912307
def M8:=zs 3463316208371
def vQ:=zs 32721435493
def Ks:=zs 0x64c397461bfd3af0
def Li:=zs 0x3765d787a5fcbbb4ec
def Lr:=zs 0x65dda765fc9872e8
def GK:=zs 0xe1d6fe7dda7962
def Kl:=zs 27057027430
def FT:=zs 30806734435
def J0:=zs 0x396fe7a7b69c97f76fdbb77e3
def G5:=zs 4016813504492
def FD:=zs 0xe7cb2e2dbd775fcb97966
def Iw:=zs 0xddbf4f4ebb37f3
def KN:=zs 0x66df7f76debb37e3
def Lj:=zs 0x74e7bb4e1cf86ff2cbc30f0
def Js:=zs 3463335065587
def LR:=zs 0xefbf95fe9cf2f2
def HB:=zs 0x336fbfcb7f3d3db4e4
def Ng:=zs 0x64cb934f6d393775
def Im:=zs 0xcbb74f2e17fce2
def z95:=zs 0x30bf6615fa94e2c8a94a0c6
def Mz:=zs 0x1c36f5d57f961cd7f2f3eb9b2f2
def Hs:=zs 0x3a66cbb2ff2cbdf7f0
def Mx:=zs 236681962
def JX:=zs 0xe986fe5c787670
def Ka:=zs 3466780866415
def WB:=zs 0x53a51614dab3afcc9906fc5ad3e141
def Ib:=zs 0x33e9c57f2f3eb9b2f2
def Hh:=zs 0x39f2dfcf4f6d392fe5d9bf477
def Mi:=zs 0x73e9bf7f2bfcf861d1cb2f0
def Nf:=zs 0x1d3aefbf932e4d3db4e4
def K3:=zs 0x1cfa6fdfcafe5d9bf477
def Ef:=zs 30815418352
def Jv:=zs 0x65dda765fdbcb7e6
def GD:=zs 0xcdbeff3e9cb0f0
def um:=zs 3463328822883
def VN:=zs 0xa75e7c49d26bdfa94e7cd
def JT:=zs 0x197269ef7f2f3eb9b2f2
def Hl:=zs 0x77dfcafe4ddd77f2
def Hv:=zs 0x326eebbf95fcbb70e3
def Gg:=zs 0xcdbefe4ddd77f2
def tV:=zs 27352724599
def aS:=zs 367430873507014
def aIi:=zs 0x1cb86ed9ab466c98b0
def tF:=zs 0x44831695fa7169558f2635fa94e7cd
def Kd:=zs 0x1bbbefd1cefecd986fe5edbf161
def Gh:=zs 0xdddf7e8e77f965c5b7aee
def Hf:=zs 29779293299
def HY:=zs 0x3765e9d34f2ef7f9e9
def KW:=zs 0x1cb2e2dbd775fc9872f2
def FQ:=zs 0x32edd3cb85fc9872f2
def IX:=zs 0x39e4e5bfbdfc9872f2
def MB:=zs 211317490
def dr:=zs 0x29ce8f269df8b360ce
def aCx:=zs 0x72e1bb66ad19b262c3d79f1dfb75e9cf971e1bf76dd9af569d19f365c98f161
def VP:=zs 0x8b360cebf529c58f3a7cc
def vc:=zs 0x22418b220dfa94e7cd
def AI:=zs 22442977222
def Hj:=zs 0xcdbeff3c9cb7f7
def Ky:=zs 0xcdbeff3c9bb4eb
def JW:=zs 0x65db8775fc9872f2
def GF:=zs 0x64cbb70eebfdf7f2
def JD:=zs 0x64e5bfbdfc9872f2
def Mr:=zs 0xefbf95fcbaf0ed
def JF:=zs 0x3a72dfa39dfcbaf0ed
def Lb:=zs 0xc9930dfcbaf0ed
def FN:=zs 0x79d9c34f4d9d76dfcbaf0ed
def KH:=zs 0x6cd9bf95fcbaf0ed
def Kh:=zs 0x32ecc38f9dfcbaf0ed
def K5:=zs 0xdbd79dfcbaf0ed
def J5:=zs 0x3cf2cbdb2dfcbaf0ed
def IV:=zs 0x3261cba30dfcbaf0ed
def IG:=zs 487624762126573
def LK:=zs 0x74e79795fcbaf0ed
def Le:=zs 0x6eefbf473bfcf965c5b7aee
def Gd:=zs 0x77dfa39dfd9b32f4
def Kw:=zs 0x1cf2e3c3b385fd9b32f4
def Jh:=zs 513532019553012
def Hi:=zs 0x74e58785fd9b32f4
def Io:=zs 0x326eebbf95fd9b32f4
def LX:=zs 0x32f2cba3bdfd9b32f4
def LV:=zs 0x1932f3dfb31dfd9b32f4
def Jd:=zs 0xe5bf9e9eda725fd9b32f4
def M5:=zs 0xe797269eda725fd9b32f4
def Fm:=zs 2874015932621
def LM:=zs 367874041651924
def vN:=zs 226292420
def MS:=zs 0xe986fecd9971dfef8765f
def JZ:=zs 0x6cdfbf85fef8765f
def K7:=zs 0xf1a76dfef8765f
def Jw:=zs 535556634736223
def G8:=zs 0x1cb2e2dbd775fef8765f
def JH:=zs 0xe7cb2e2dbd775fef8765f
def Ni:=zs 0x3befe57f66cc3b79dfef8765f
def Gu:=zs 0x74e79795fef8765f
def Ja:=zs 0x64e5bfbdfef8765f
def Lw:=zs 0x64d9bfa5fef8765f
def Gy:=zs 0x1932e3c3c39dfef8765f
def HS:=zs 0xe9e32f4bf932f3dfb31dfef8765f
def IK:=zs 0x1d3c65e97f2f2cba3bdfef8765f
def ML:=zs 0x73c9cb7f7bfe715fef8765f
def Kg:=zs 0xcbd725fef8765f
def LY:=zs 0x39f2cb8b6f5dd7f777c3cb25fef8765f
def J7:=zs 0x74f197a5fef8765f
def MF:=zs 0xc9973eec3a31dfef8765f
def RL:=zs 1962220
def ajG:=zs 0x7d97675c9bf6bc
def aC3:=zs 0xbf7f769c3b6fdf
def dO:=zs 0x2fdfcbb3ae4dfb6fdf
def iu:=zs 0x73e5bf972cabb2ecebcbce2e9e32ee
def jW:=zs 0xbf7f2edc3bb661ebc6fdf
def dN:=zs 0x17efefdd97769d9d39f2d39afdf
def dM:=zs 0x5fbfcf2f4eb8b4f2e9d30dfc7a7a61e9cefdf
def Es:=zs 0x17efe6cbcb5e1cbdefdf
def QB:=zs 27881272436
def BX:=zs 0x39f2cb8b6f5dcbb2ecebcbce2e9e32ee
def wY:=zs 3944329476846
def xT:=zs 505222325449956
def mF:=zs 15586
def Gi:=zs 27342305648
def ayA:=zs 3501140572403
def Bh:=zs 244953836
def rZ:=zs 1668975
def su:=zs 30815173231
def zW:=zs 0x1cfbefe4bb2ecebcbce2e9e32ee
def zY:=zs 213596914
def A4:=zs 3982749104755
def mD:=zs 1964018
def avR:=zs 3501169685218
def SK:=zs 29196367860
def yK:=zs 107
def GX:=zs 31371130851
def S9:=zs 27076163558
def AH:=zs 110
def GS:=zs 509719678253806
def X7:=zs 1652581
def uV:=zs 0xe7e766fe0bb2ecebcbce2e9e32ee
def Aq:=zs 255539184
def Uc:=zs 105
def VL:=zs 1849332
def MY:=zs 29741626223
def aAn:=zs 31354156147
def aJi:=zs 3947051413734
def Xq:=zs 31343606119
def Zt:=zs 29219124979
def Am:=zs 0x73cbb37e8eebb2ecebcbce2e9e32ee
def aCH:=zs 0x65ddbefe3d3bb7ed
def JA:=zs 509824676214765
def DV:=zs 245166834
def aRV:=zs 213694445
def dt:=zs 0x1d39e5e9cb7e8e6bb2ecebcbce2e9e32ee
def cw:=zs 31381287660
def Qg:=zs 243055343
def Pb:=zs 3982193423476
def azt:=zs 0xcbaf4ecc2bb2ecebcbce2e9e32ee
def Y5:=zs 0x73e597befe0bb2ecebcbce2e9e32ee
def wc:=zs 242973427
def aNf:=zs 1817583
def oC:=zs 3604769125100
def oF:=zs 0xe797c69dabb2ecebcbce2e9e32ee
def oo:=zs 31379192435
def Oy:=zs 236550771
def aDr:=zs 0x32e3c3b385fe5a70f0
def qY:=zs 0x73cbb3161e8bb2ecebcbce2e9e32ee
def WJ:=zs 31083705580
def Vg:=zs 29749801698
def xv:=zs 3809077835747
def Hm:=zs 213464311
def aTI:=zs 31081394920
def aMf:=zs 245166316
def Ls:=zs 14945
def aLb:=zs 27340091636
def aEU:=zs 3463305819383
def Pu:=zs 0x1cf96fe7a7b69c8bb2ecebcbce2e9e32ee
def ayO:=zs 31115244274
def Ko:=zs 0x3961ccbb2ecebcbce2e9e32ee
def awx:=zs 3501182285030
def aDg:=zs 443304183166948
def wg:=zs 0xe7d37efe4bb2ecebcbce2e9e32ee
def xB:=zs 27057092980
def Ts:=zs 245102578
def HG:=zs 31115180018
def az1:=zs 0xe9bb2eedfc3c65
def aCy:=zs 513606627883376
def Me:=zs 232569588
def aGX:=zs 243021812
def aN4:=zs 31115227376
def axA:=zs 240808176
def aNu:=zs 509894165509367
def Jo:=zs 0x73c9bbaefe4bb2ecebcbce2e9e32ee
def axf:=zs 4118816732407
def aAy:=zs 232354547
def yh:=zs 0xe7d3c65e8bb2ecebcbce2e9e32ee
def NS:=zs 211597303
def Md:=zs 245248756
def ic:=zs 31081674743
def aSA:=zs 1880290
def aLD:=zs 3465723654882
def Qu:=zs 31379420275
def Oc:=zs 1651297
def Nu:=zs 0xf3b3869e9b3aed
def Sq:=zs 228276210
def Px:=zs 27340075507
def RW:=zs 1800947
def Og:=zs 27048637537
def NP:=zs 14191
def IU:=zs 236714340
def Ny:=zs 251393139
def RM:=zs 245149936
def QT:=zs 27076163570
def tu:=zs 1434318
def aDS:=zs 177611476
def iV:=zs 65
def tY:=zs 2836160277198
def aSq:=zs 11458
def fW:=zs 0x1af9e5c8bb2ecebcbce2e9e32ee
def aPM:=zs 31081608427
def eW:=zs 245117675
def awg:=zs 213610734
def aDU:=zs 211530987
def mW:=zs 211448051
def aS8:=zs 27321202288
def Aa:=zs 0xbf7fa69dda6fdf
def Ac:=zs 1994995
def aIQ:=zs 215692019
def kM:=zs 0x5fbfd34eed37efaed7cf2c4
def Z7:=zs 0xf3879aed7cf2c4
def gL:=zs 0xbf7fa63d392fdf
def HK:=zs 0x1d3869e58f9dfef8765f
def sv:=zs 3702244537951
def P9:=zs 0x6cd9971dfef8765f
def Ab:=zs 0xcbcb2e8bfcb2e2dbd775fef8765f
def Q8:=zs 0x3965d1d37dfef8765f
def O8:=zs 0xcbcb2e8bfe715fef8765f
def aBT:=zs 0x64dda75dfef8765f
def aJY:=zs 0x79dd876dfef8765f
def DN:=zs 0x326eebbf35fef8765f
def YG:=zs 0x6be79725fef8765f
def XN:=zs 0x32f2cba2ff4f197a5fef8765f
def Od:=zs 0x32f2cba2fe4e5bfbdfef8765f
def Sj:=zs 3496086107743
def ayb:=zs 0x6de5bf35fef8765f
def aBd:=zs 0x74dfbf95fef8765f
def aTC:=zs 0x73e1bfa5fef8765f
def avz:=zs 0x32f2cba2fe4d9bfa5fef8765f
def Q9:=zs 0xcbbb7dfef8765f
def ia:=zs 0x65e59745fe7cb2e2dbd775fef8765f
def ayR:=zs 0xc9979f5cd9795fef8765f
def aNR:=zs 0x3a73e5a735fef8765f
def aHa:=zs 0x3a72c3d39dfef8765f
def aEV:=zs 0x70cbd39dfef8765f
def xD:=zs 0x74e1975dfef8765f
def aBU:=zs 0xefbf95fef8765f
def aCY:=zs 0xf387bdfef8765f
def aTt:=zs 0x39e5db8775fef8765f
def avC:=zs 3667884799583
def aNi:=zs 0xdddf7dfef8765f
def axi:=zs 0x39e4e5bfbdfef8765f
def aAo:=zs 0x3a61cbcb3dfef8765f
def aEj:=zs 0x65e59745fcbd725fef8765f
noncomputable abbrev t0:String:=PySem.W.SL.s14018661285674007319x4
noncomputable abbrev t1:String:=PySem.W.SL.s7097527257260152453x26
noncomputable abbrev t2:String:=PySem.W.SL.s2766695959194262286x5
noncomputable abbrev t3:String:=PySem.W.SL.s5856160107412720595x4
noncomputable abbrev t4:String:=PySem.W.SL.s658472552662922059x5
noncomputable abbrev t5:String:=PySem.W.SL.s6070975301684473832x10
noncomputable abbrev t6:String:=PySem.W.SL.s11030030927630378310x26
noncomputable abbrev t7:String:=PySem.W.SL.s10062305145149207511x16
noncomputable abbrev t8:String:=PySem.W.SL.s17162191345867700912x4
noncomputable abbrev t9:String:=PySem.W.SL.s4209523147560561109x18
noncomputable abbrev t10:String:=PySem.W.SL.s5946037652744460706x9
noncomputable abbrev t11:String:=PySem.W.SL.s4278001404047624695x13
noncomputable abbrev qQ:String:=PySem.W.SL.s2742458400755230247x6
noncomputable abbrev Ui:String:=PySem.W.SL.s14755015743595814543x17
noncomputable abbrev t14:String:=PySem.W.SL.s10220274742760427390x26
noncomputable abbrev vm:String:=PySem.W.SL.s4290257624100764138x5
noncomputable abbrev vh:String:=PySem.W.SL.s4860613602091757760x24
noncomputable abbrev t17:String:=PySem.W.SL.s7174869446012820540x8
noncomputable abbrev t18:String:=PySem.W.SL.s11443829558043349243x14
noncomputable abbrev t19:String:=PySem.W.SL.s6511155373996960695x17
noncomputable abbrev t20:String:=PySem.W.SL.s12411053484034534018x21
def cd(z:Str)(i:Nat):Obj:={.none,.none,.func {z,z,L2.mz (tt i),.stmts (L2.iZ (tt i)),L2.aG (tt i),0,[],.none,.none,.none,.none,.none,.none,.none,0},{([])}}
def fo(z:Str)(i:Nat)(y:Str)(t c:Nat):Obj:={.type t17,.none,.func {z,z,L2.mz (tt i),.stmts (L2.iZ (tt i)),L2.aG (tt i),3,[],.none,.none,.none,.str y t,.none,.ref c,.none,0},{([])}}
def cf(z:Str)(a:Nat)(l n:Int)(r:Nat)(x y:Value)(c e:Nat):Obj:={.type t3,.none,.fields {[.str z a,.str z (a+1),.str z9 (a+2),.int l 0,.int n 0,.int 0 0,.int 0 0,.int 3 0,.ref r,.bool true,.int 181 0,.ref (r+1),.none,x,y,.ref c,.int e 0,.int l 0,.str z9 (e+1)]},{([])}}
def cg(z:Str)(a:Nat)(l n:Int)(r c e:Nat):Obj:=cf z a l n r (.ref (r+2)) (.ref (r+3)) c e
def ts(l:List Str)(a:Nat):Obj:={.type t2,.none,.seq {List.rec (motive:=λ_=>Nat->List Value) (λ_=>[]) (λz _ f a=>.str z a::f (a+1)) l a} 0,{([])}}
def er(P:Params)(z:Str)(t r:Nat):DictEntry:={kh P z,.str z t,.ref r}
def l3(P:Params):List DictEntry:=[{kh P z0,.str z0 165,.str z1 1535},{kh P z2,.str z2 166,.none},{kh P z3,.str z3 167,.none},{kh P z4,.str z4 168,.builtin t1},{kh P z5,.str z5 169,.none},er P z6 170 6,er P z7 171 4,{kh P z8,.str z8 173,.str z9 172},{kh P R8,.str R8 174,.none},er P wV 206 24,er P xP 222 37,er P vP 238 49,er P xr 254 61,er P xK 270 73,er P v9 286 85,er P wu 302 97,er P wL 318 109,er P wN 334 121,{kh P XM,.str XM 338,.int 1000 337},er P GN 345 130,er P Jp 353 137,er P Mh 360 144,er P Jt 368 151,er P Mj 376 158,er P JY 387 165,er P J2 396 172,{kh P WQ,.str WQ 400,.int 12 399},{kh P z29,.str z29 402,.int 300 401},er P IB 408 177,er P Kr 418 184,er P FJ 426 191,er P Iz 433 198,er P KZ 444 205,er P Gm 456 212,er P Ku 463 219,er P xM 471 226,er P Lz 481 233,er P Gq 489 240,er P Ml 501 247,er P IW 516 254,er P Ld 522 259,er P IZ 534 266,er P Jq 540 271,er P FY 546 276,er P HW 552 281,{kh P z47,.str z47 556,.int 1000000 555},er P JK 564 288,er P sX 572 295,er P JN 578 300,er P J4 587 307,er P Jl 598 314,er P J9 604 319,er P K1 613 326,er P FZ 621 331,er P GV 631 338,er P G9 640 345,er P Hu 654 352,er P HZ 662 357,er P G3 673 364,er P Jz 682 371,{kh P z62,.str z62 686,.int 100 685},{kh P z63,.str z63 688,.int 10 687},er P Ht 695 378,er P Lf 703 385,er P Ln 709 390,er P Gw 718 397,er P HX 727 404,er P KQ 733 409,er P Ie 739 414,er P JL 752 421,er P Hy 760 428,er P J6 768 435,er P Jr 774 440,er P J3 780 445,er P M8 786 450,er P vQ 792 455,er P Ks 802 462,er P Li 810 467,er P Lr 820 474,er P GK 826 479,er P Kl 832 484,er P FT 847 491,er P J0 858 498,er P G5 864 503,er P FD 870 508,er P Iw 876 513,er P KN 882 518,er P Lj 888 523,er P Js 899 530,er P LR 907 535,er P HB 916 542,er P Ng 929 549,er P Im 937 556,{kh P z95,.str z95 941,.int 400 940},er P Mz 949 563,er P Hs 961 570,er P Mx 967 575,er P JX 975 582,er P Ka 981 587,{kh P WB,.str WB 985,.int 1000000 984},er P Ib 991 592,er P Hh 1001 599,er P Mi 1007 604,er P Nf 1018 611,er P K3 1029 618,er P Ef 1039 625,er P Jv 1045 630,er P GD 1057 637,er P um 1063 642,{kh P VN,.str VN 1067,.int 4096 1066},er P JT 1077 649,er P Hl 1085 656,er P Hv 1097 663,er P Gg 1104 670,er P tV 1110 675,{kh P aS,.str aS 1114,.str aIi 1113},{kh P tF,.str tF 1116,.int 60 1115},er P Kd 1122 682,er P Gh 1129 689,er P Hf 1135 694,er P HY 1141 699,er P KW 1148 706,er P FQ 1156 713,er P IX 1162 718,er P MB 1173 725,{kh P dr,.str dr 1177,.str aCx 1176},{kh P VP,.str VP 1179,.int 8 1178},{kh P vc,.str vc 1181,.int 12 1180},er P AI 1272 726,er P Hj 1280 755,er P Ky 1289 762,er P JW 1295 767,er P GF 1304 774,er P JD 1313 781,er P Mr 1320 788,er P JF 1327 795,er P Lb 1334 802,er P FN 1341 809,er P KH 1348 816,er P Kh 1355 823,er P K5 1362 830,er P J5 1369 837,er P IV 1375 842,er P IG 1382 849,er P LK 1389 856,er P Le 1395 861,er P Gd 1402 868,er P Kw 1409 875,er P Jh 1416 882,er P Hi 1424 889,er P Io 1431 896,er P LX 1437 901,er P LV 1443 906,er P Jd 1450 913,er P M5 1458 920,er P Fm 1481 921,er P LM 1500 922,er P vN 1534 944,er P MS 1544 955,er P JZ 1550 960,er P K7 1558 967,er P Jw 1566 974,er P G8 1575 981,er P JH 1587 988,er P Ni 1593 993,er P Gu 1601 1000,er P Ja 1607 1005,er P Lw 1618 1012,er P Gy 1624 1017,er P HS 1634 1024,er P IK 1642 1031,er P ML 1653 1038,er P Kg 1666 1045,er P LY 1676 1052,er P J7 1682 1057,er P MF 1695 1064,er P RL 1716 1071]
def hv(P:Params)(z:Str)(t n:Nat):Obj:={.type t0,.none,.dict {{kh P z0,.str z0 165,.str z t}::((l3 P).take n).drop 1} n,{([])}}
def o3(P:Params):Obj:={.type t0,.none,.dict {l3 P} 177,{([])}}
def ayt(P:Params):=hv P uV 472 42
def aI7(P:Params):=hv P fW 1174 128
def aj:Obj:={.type t2,.none,.seq {([])} 0,{([])}}
def fl(l:List (Int×Nat)):List Value:=l.flatMap λx=>[.int x.1 0,.int 0 0,.ref x.2]
noncomputable def wM:=fl [(2,20),(4,33),(6,45),(8,57),(10,69),(12,81),(14,93),(16,105),(18,117),(22,129),(24,136),(33,143),(37,150),(41,157),(45,164),(55,171),(64,176),(68,183),(77,190),(81,197),(84,204),(89,211),(97,218),(100,225),(104,232),(109,239),(111,246),(117,253),(127,258),(132,265),(140,270),(144,275),(147,280),(151,287),(156,294),(158,299),(160,306),(163,313),(166,318),(184,325),(187,330),(195,337),(200,344),(205,351),(215,356),(218,363),(224,370),(232,377),(235,384),(238,389),(242,396),(244,403),(246,408),(248,413),(253,420),(260,427),(262,434),(264,439),(274,444),(276,449),(284,454),(292,461),(298,466),(300,473),(305,478),(310,483),(318,490),(332,497),(340,502),(349,507),(356,512),(370,517),(372,522),(378,529),(384,534),(388,541),(394,548),(405,555),(410,562),(413,569),(421,574),(427,581),(429,586),(437,591),(440,598),(451,603),(456,610),(465,617),(475,624),(480,629),(485,636),(493,641),(505,648),(511,655),(517,662),(527,669),(529,674),(541,681),(543,688),(547,693),(555,698),(562,705),(566,712),(571,717),(578,724),(595,754),(602,761),(612,766),(616,773),(621,780),(631,787),(633,794),(635,801),(637,808),(639,815),(641,822),(643,829),(645,836),(647,841),(649,848),(651,855),(653,860),(655,867),(657,874),(659,881),(661,888),(664,895),(666,900),(674,905),(681,912),(683,919),(691,928),(708,954),(712,959),(729,966),(731,973),(734,980),(745,987),(752,992),(760,999),(764,1004),(772,1011),(784,1016),(786,1023),(793,1030),(800,1037),(820,1044),(830,1051),(835,1056),(846,1063),(859,1070)]
def iK:Obj:={.none,.none,.fields {(wM)},{([])}}
def ha0(a:Nat):Obj:={.none,.none,.fields {wM.take a},{([])}}
def y8:=ha0 0
def ayr:=ha0 90
def aHN:=ha0 315
def ha4(a:Str)(b d:Nat)(c e:Int):Obj:={.type t3,.none,.fields {[.str a b,.str a (b+1),.str z9 (b+2),.int c 0,.int 0 0,.int 0 0,.int 0 0,.int 0 0,.ref d,.bool false,.int 181 0,.ref (d+1),.none,.none,.none,.none,.int e 0,.int c 0,.str z9 (b+4)]},{([])}}
def BP:=ha4 ajG 182 11 1 185
def ha5(c:Str)(a b d:Nat):Obj:={.type t4,.none,.plain,{[.some (.ref a),.some (.ref 3),.some (.ref b),.none,.some (.str c d),.none,.some (.ref 0)]}}
def tU:=ha5 aC3 13 3 164
def vB:Obj:={.type t6,.none,.fields {[.builtin t7,.type t8]},{([])}}
def ha6(P:Params)(b:Str)(a d:Nat)(c:Int):Obj:={.type t0,.none,.dict {[{kh P dO,.str dO a,.str iu 187},{kh P jW,.str jW (a+2),.str b (a+1)},{kh P dN,.str dN (a+4),.int c (a+3)},{kh P dM,.str dM (a+5),.ref d}]} 4,{([])}}
def aH:Obj:={.none,.none,.fields {([])},{([])}}
def ha7(a:Nat):Obj:={.type vm,.none,.fields {[.ref a,.ref a,.ref a]},{([])}}
def ha8(a:Nat):Obj:={.type t6,.none,.fields {[.builtin vh,.ref a]},{([])}}
def nj:Obj:={.type t2,.none,.seq {[.ref 24]} 0,{([])}}
def ha9(P:Params)(a c:Nat)(b:Int):Obj:={.type t0,.none,.dict {[{kh P dO,.str dO a,.str iu 187},{kh P dN,.str dN (a+4),.int b (a+3)},{kh P dM,.str dM (a+5),.ref c},{kh P z2,.str z2 (a+6),.none}]} 2,{([])}}
def haa(a:Str)(b c:Nat):Obj:={.type t8,.none,.cls {a,[.ref 24],[.ref (b+9),.ref 24,.type t5,.type t10,.type t11,.type qQ],(b+8),a,true,[],[],false,.none,false},{[.some (.ref b),.none,.some (.str a c),.some (.str a (c+8)),.some (.builtin t9),.some (.bool true)]}}
section
local macro_rules | `(#[]) => `([])
local macro_rules | `(#[$i:num,$o]) => `((nat_lit $i,$o)::[])
local macro_rules | `(#[$i:num,$o,$x,*]) => `((nat_lit $i,$o)::#[$x,*])
noncomputable def K(P:Params):Frag:=#[0,PySem.W.boot_o_0 P,1,PySem.W.boot_o_1 P,2,PySem.W.boot_o_2 P,3,o3 P,4,PySem.W.boot_o_4 P,5,PySem.W.boot_o_5 P,6,PySem.W.boot_o_6 P,7,PySem.W.boot_o_7 P,8,PySem.W.boot_o_8 P,9,PySem.W.boot_o_9 P,10,PySem.W.boot_o_10 P,11,aj,12,iK,13,BP,14,tU,15,{.type t2,.none,.seq {[.type t5]} 0,{([])}},22,aj,23,{.type t0,.none,.dict {[{kh P dO,.str dO 196,.str iu 187},{kh P dN,.str dN 200,.int 2 199},{kh P dM,.str dM 201,.ref 22},{kh P Es,.str Es 203,.ref 25},{kh P z2,.str z2 204,.none}]} 3,{([])}},24,{.type t8,.none,.cls {wV,[.type t5],[.ref 24,.type t5,.type t10,.type t11,.type qQ],23,wV,true,[],[.ref 37,.ref 49,.ref 61,.ref 73,.ref 85,.ref 97,.ref 109,.ref 121],false,.none,false},{[.some (.ref 15),.none,.some (.str wV 189),.some (.str wV 197),.some (.builtin t9),.some (.bool true)]}},25,{.type Ui,.none,.fields {[.str Es 202,.ref 24,.builtin t14,.none]},{([])}},28,nj,35,aj,36,ha9 P 214 35 4,37,haa xP 28 207,40,nj,47,aj,48,ha9 P 230 47 6,49,haa vP 40 223,52,nj,59,aj,60,ha9 P 246 59 8,61,haa xr 52 239,64,nj,71,aj,72,ha9 P 262 71 10,73,haa xK 64 255,76,nj,83,aj,84,ha9 P 278 83 12,85,haa v9 76 271,88,nj,95,aj,96,ha9 P 294 95 14,97,haa wu 88 287,100,nj,107,aj,108,ha9 P 310 107 16,109,haa wL 100 303,112,nj,119,aj,120,ha9 P 326 119 18,121,haa wN 112 319,129,cg GN 339 22 1 124 128 343,130,fo GN 12 BX 335 129,136,cg Jp 346 24 1 131 135 351,137,fo Jp 13 BX 335 136,143,cg Mh 354 33 1 138 142 358,144,fo Mh 14 BX 335 143,150,cg Jt 361 37 2 145 149 366,151,fo Jt 15 BX 335 150,157,cg Mj 369 41 2 152 156 374,158,fo Mj 16 BX 335 157,164,cg JY 377 45 2 159 163 385,165,fo JY 17 BX 335 164,171,cg J2 388 55 3 166 170 394,172,fo J2 18 BX 335 171,176,cf IB 403 64 2 173 .none .none 175 406,177,fo IB 22 zW 397 176,183,cg Kr 409 68 1 178 182 416,184,fo Kr 23 zW 397 183,190,cg FJ 419 77 2 185 189 424,191,fo FJ 24 zW 397 190,197,cg Iz 427 81 1 192 196 431,198,fo Iz 25 zW 397 197,204,cg KZ 434 84 3 199 203 442,205,fo KZ 26 zW 397 204,211,cg Gm 445 89 2 206 210 454,212,fo Gm 27 zW 397 211,218,cg Ku 457 97 1 213 217 461,219,fo Ku 28 zW 397 218,225,cg xM 464 100 2 220 224 469,226,fo xM 29 zW 397 225,232,cg Lz 474 104 1 227 231 479,233,fo Lz 31 uV 472 232,239,cg Gq 482 109 2 234 238 487,240,fo Gq 32 uV 472 239,246,cg Ml 490 111 3 241 245 499,247,fo Ml 33 uV 472 246,253,cg IW 502 117 3 248 252 514,254,fo IW 34 uV 472 253,258,cf Ld 517 127 2 255 .none .none 257 520,259,fo Ld 35 uV 472 258,265,cg IZ 523 132 3 260 264 532,266,fo IZ 36 uV 472 265,270,cf Jq 535 140 2 267 .none .none 269 538,271,fo Jq 37 uV 472 270,275,cf FY 541 144 2 272 .none .none 274 544,276,fo FY 38 uV 472 275,280,cf HW 547 147 4 277 .none .none 279 550,281,fo HW 39 uV 472 280,287,cg JK 557 151 1 282 286 562,288,fo JK 42 Am 553 287,294,cg sX 565 156 2 289 293 570,295,fo sX 43 Am 553 294,299,cf JN 573 158 2 296 .none .none 298 576,300,fo JN 44 Am 553 299,306,cg J4 579 160 2 301 305 585,307,fo J4 45 Am 553 306,313,cg Jl 588 163 4 308 312 596,314,fo Jl 46 Am 553 313,318,cf J9 599 166 2 315 .none .none 317 602,319,fo J9 47 Am 553 318,325,cg K1 605 184 3 320 324 611,326,fo K1 48 Am 553 325,330,cf FZ 616 187 2 327 .none .none 329 619,331,fo FZ 50 dt 614 330,337,cg GV 622 195 1 332 336 629,338,fo GV 51 dt 614 337,344,cg G9 632 200 1 339 343 638,345,fo G9 52 dt 614 344,351,cg Hu 643 205 2 346 350 652,352,fo Hu 54 azt 641 351,356,cf HZ 657 215 3 353 .none .none 355 660,357,fo HZ 56 Y5 655 356,363,cg G3 663 218 2 358 362 671,364,fo G3 57 Y5 655 363,370,cg Jz 674 224 1 365 369 680,371,fo Jz 58 Y5 655 370,377,cg Ht 689 232 1 372 376 693,378,fo Ht 62 oF 683 377,384,cg Lf 696 235 2 379 383 701,385,fo Lf 63 oF 683 384,389,cf Ln 704 238 3 386 .none .none 388 707,390,fo Ln 64 oF 683 389,396,cg Gw 710 242 3 391 395 716,397,fo Gw 65 oF 683 396,403,cg HX 719 244 3 398 402 725,404,fo HX 66 oF 683 403,408,cf KQ 728 246 3 405 .none .none 407 731,409,fo KQ 67 oF 683 408,413,cf Ie 734 248 4 410 .none .none 412 737,414,fo Ie 68 oF 683 413,420,cg JL 740 253 3 415 419 750,421,fo JL 69 oF 683 420,427,cg Hy 753 260 2 422 426 758,428,fo Hy 70 oF 683 427,434,cg J6 761 262 2 429 433 766,435,fo J6 71 oF 683 434,439,cf Jr 769 264 2 436 .none .none 438 772,440,fo Jr 72 oF 683 439,444,cf J3 775 274 2 441 .none .none 443 778,445,fo J3 73 oF 683 444,449,cf M8 781 276 1 446 .none .none 448 784,450,fo M8 74 oF 683 449,454,cf vQ 787 284 3 451 .none .none 453 790,455,fo vQ 75 oF 683 454,461,cg Ks 793 292 2 456 460 800,462,fo Ks 76 oF 683 461,466,cf Li 805 298 2 463 .none .none 465 808,467,fo Li 78 qY 803 466,473,cg Lr 811 300 3 468 472 818,474,fo Lr 79 qY 803 473,478,cf GK 821 305 4 475 .none .none 477 824,479,fo GK 80 qY 803 478,483,cf Kl 827 310 5 480 .none .none 482 830,484,fo Kl 81 qY 803 483,490,cg FT 833 318 3 485 489 845,491,fo FT 82 qY 803 490,497,cg J0 848 332 2 492 496 856,498,fo J0 83 qY 803 497,502,cf G5 859 340 3 499 .none .none 501 862,503,fo G5 84 qY 803 502,507,cf FD 865 349 5 504 .none .none 506 868,508,fo FD 85 qY 803 507,512,cf Iw 871 356 4 509 .none .none 511 874,513,fo Iw 86 qY 803 512,517,cf KN 877 370 2 514 .none .none 516 880,518,fo KN 87 qY 803 517,522,cf Lj 883 372 4 519 .none .none 521 886,523,fo Lj 88 qY 803 522,529,cg Js 889 378 4 524 528 897,530,fo Js 89 qY 803 529,534,cf LR 902 384 2 531 .none .none 533 905,535,fo LR 91 Pu 900 534,541,cg HB 908 388 1 536 540 914,542,fo HB 92 Pu 900 541,548,cg Ng 917 394 4 543 547 927,549,fo Ng 93 Pu 900 548,555,cg Im 930 405 2 550 554 935,556,fo Im 94 Pu 900 555,562,cg Mz 942 410 2 557 561 947,563,fo Mz 97 Ko 938 562,569,cg Hs 950 413 3 564 568 959,570,fo Hs 98 Ko 938 569,574,cf Mx 962 421 2 571 .none .none 573 965,575,fo Mx 99 Ko 938 574,581,cg JX 968 427 2 576 580 973,582,fo JX 100 Ko 938 581,586,cf Ka 976 429 2 583 .none .none 585 979,587,fo Ka 101 Ko 938 586,591,cf Ib 986 437 1 588 .none .none 590 989,592,fo Ib 104 wg 982 591,598,cg Hh 992 440 1 593 597 999,599,fo Hh 105 wg 982 598,603,cf Mi 1002 451 1 600 .none .none 602 1005,604,fo Mi 106 wg 982 603,610,cg Nf 1008 456 2 605 609 1016,611,fo Nf 107 wg 982 610,617,cg K3 1019 465 1 612 616 1027,618,fo K3 108 wg 982 617,624,cg Ef 1030 475 2 619 623 1037,625,fo Ef 109 wg 982 624,629,cf Jv 1040 480 2 626 .none .none 628 1043,630,fo Jv 110 wg 982 629,636,cg GD 1046 485 2 631 635 1055,637,fo GD 111 wg 982 636,641,cf um 1058 493 1 638 .none .none 640 1061,642,fo um 112 wg 982 641,648,cg JT 1068 505 2 643 647 1075,649,fo JT 115 Jo 1064 648,655,cg Hl 1078 511 1 650 654 1083,656,fo Hl 116 Jo 1064 655,662,cg Hv 1086 517 1 657 661 1095,663,fo Hv 117 Jo 1064 662,669,cg Gg 1098 527 1 664 668 1102,670,fo Gg 118 Jo 1064 669,674,cf tV 1105 529 2 671 .none .none 673 1108,675,fo tV 119 Jo 1064 674,681,cg Kd 1117 541 0 676 680 1120,682,fo Kd 123 yh 1111 681,688,cg Gh 1123 543 1 683 687 1127,689,fo Gh 124 yh 1111 688,693,cf Hf 1130 547 1 690 .none .none 692 1133,694,fo Hf 125 yh 1111 693,698,cf HY 1136 555 1 695 .none .none 697 1139,699,fo HY 126 yh 1111 698,705,cg KW 1142 562 1 700 704 1146,706,fo KW 127 yh 1111 705,712,cg FQ 1149 566 1 707 711 1154,713,fo FQ 128 yh 1111 712,717,cf IX 1157 571 3 714 .none .none 716 1160,718,fo IX 129 yh 1111 717,724,cg MB 1163 578 1 719 723 1171,725,fo MB 130 yh 1111 724,726,{.type t0,.none,.dict {[{kh P mD,.str mD 1182,.ref 727},{kh P Qu,.str Qu 1186,.ref 728},{kh P Oc,.str Oc 1190,.ref 729},{kh P Nu,.str Nu 1195,.ref 730},{kh P Sq,.str Sq 1200,.ref 731},{kh P Px,.str Px 1205,.ref 732},{kh P RW,.str RW 1210,.ref 733},{kh P vQ,.str vQ 1214,.ref 734},{kh P Og,.str Og 1220,.ref 735},{kh P NP,.str NP 1225,.ref 736},{kh P DV,.str DV 1230,.ref 737},{kh P IU,.str IU 1235,.ref 738},{kh P Ny,.str Ny 1238,.ref 739},{kh P xM,.str xM 1241,.ref 740},{kh P Ls,.str Ls 1245,.ref 741},{kh P RM,.str RM 1249,.ref 742},{kh P QT,.str QT 1253,.ref 743},{kh P tV,.str tV 1256,.ref 745},{kh P um,.str um 1259,.ref 746},{kh P xT,.str xT 1261,.ref 747},{kh P sX,.str sX 1263,.ref 748}]} 21,{([])}},727,ts [tu,aDS] 1183,728,ts [tu,iV] 1187,729,ts [tu,iV,iV] 1191,730,ts [tu,iV,iV] 1196,731,ts [tu,iV,iV] 1201,732,ts [tu,iV,tY] 1206,733,ts [tu,iV] 1211,734,ts [tu,iV,tY,tY] 1215,735,ts [tu,iV,tY] 1221,736,ts [tu,iV,tY] 1226,737,ts [tu,iV,aSq] 1231,738,ts [iV] 1236,739,ts [iV] 1239,740,ts [iV,tY] 1242,741,ts [iV,tY] 1246,742,ts [iV,iV] 1250,743,ts [iV] 1254,745,ts [iV,tY] 1257,746,ts [iV] 1260,747,ts [iV] 1262,748,ts [iV,tY,tY,tY] 1264,754,cg Hj 1273 595 1 749 753 1278,755,fo Hj 136 fW 1174 754,761,cg Ky 1281 602 1 756 760 1287,762,fo Ky 137 fW 1174 761,766,cf JW 1290 612 1 763 .none .none 765 1293,767,fo JW 138 fW 1174 766,773,cg GF 1296 616 2 768 772 1302,774,fo GF 139 fW 1174 773,780,cg JD 1305 621 3 775 779 1311,781,fo JD 140 fW 1174 780,787,cg Mr 1314 631 1 782 786 1318,788,fo Mr 141 fW 1174 787,794,cg JF 1321 633 1 789 793 1325,795,fo JF 142 fW 1174 794,801,cg Lb 1328 635 1 796 800 1332,802,fo Lb 143 fW 1174 801,808,cg FN 1335 637 1 803 807 1339,809,fo FN 144 fW 1174 808,815,cg KH 1342 639 1 810 814 1346,816,fo KH 145 fW 1174 815,822,cg Kh 1349 641 1 817 821 1353,823,fo Kh 146 fW 1174 822,829,cg K5 1356 643 1 824 828 1360,830,fo K5 147 fW 1174 829,836,cg J5 1363 645 1 831 835 1367,837,fo J5 148 fW 1174 836,841,cf IV 1370 647 1 838 .none .none 840 1373,842,fo IV 149 fW 1174 841,848,cg IG 1376 649 1 843 847 1380,849,fo IG 150 fW 1174 848,855,cg LK 1383 651 1 850 854 1387,856,fo LK 151 fW 1174 855,860,cf Le 1390 653 1 857 .none .none 859 1393,861,fo Le 152 fW 1174 860,867,cg Gd 1396 655 1 862 866 1400,868,fo Gd 153 fW 1174 867,874,cg Kw 1403 657 1 869 873 1407,875,fo Kw 154 fW 1174 874,881,cg Jh 1410 659 1 876 880 1414,882,fo Jh 155 fW 1174 881,888,cg Hi 1417 661 1 883 887 1422,889,fo Hi 156 fW 1174 888,895,cg Io 1425 664 1 890 894 1429,896,fo Io 157 fW 1174 895,900,cf LX 1432 666 1 897 .none .none 899 1435,901,fo LX 158 fW 1174 900,905,cf LV 1438 674 1 902 .none .none 904 1441,906,fo LV 159 fW 1174 905,912,cg Jd 1444 681 1 907 911 1448,913,fo Jd 160 fW 1174 912,919,cg M5 1451 683 1 914 918 1456,920,fo M5 161 fW 1174 919,921,{.type t0,.none,.dict {[{kh P mD,.str mD 1459,.ref 788},{kh P Qu,.str Qu 1460,.ref 795},{kh P Oc,.str Oc 1461,.ref 802},{kh P Nu,.str Nu 1462,.ref 809},{kh P Sq,.str Sq 1463,.ref 816},{kh P Px,.str Px 1464,.ref 823},{kh P RW,.str RW 1465,.ref 830},{kh P vQ,.str vQ 1466,.ref 837},{kh P Og,.str Og 1467,.ref 842},{kh P NP,.str NP 1468,.ref 849},{kh P DV,.str DV 1469,.ref 856}]} 11,{([])}},922,{.type t0,.none,.dict {[{kh P Ny,.str Ny 1482,.ref 868},{kh P xM,.str xM 1483,.ref 875},{kh P Ls,.str Ls 1484,.ref 882},{kh P RM,.str RM 1485,.ref 889},{kh P QT,.str QT 1486,.ref 896},{kh P tV,.str tV 1487,.ref 901},{kh P um,.str um 1488,.ref 906},{kh P xT,.str xT 1489,.ref 913},{kh P sX,.str sX 1490,.ref 920}]} 9,{([])}},934,{.none,.none,.func {Aa,kM,L2.mz (L2.inClass (tt 164) 0),.stmts (L2.iZ (L2.inClass (tt 164) 0)),L2.aG (L2.inClass (tt 164) 0),0,[],.none,.none,.none,.none,.none,.none,.none,0},{([])}},935,{.type t3,.none,.fields {[.str Aa 1513,.str kM 1514,.str z9 1515,.int 693 0,.int 1 0,.int 0 0,.int 0 0,.int 3 0,.ref 930,.bool true,.int 181 0,.ref 931,.none,.ref 932,.ref 933,.ref 934,.int 1517 0,.int 693 0,.str z9 1518]},{([])}},936,{.type t17,.none,.func {Aa,kM,L2.mz (L2.inClass (tt 164) 0),.stmts (L2.iZ (L2.inClass (tt 164) 0)),L2.aG (L2.inClass (tt 164) 0),3,[],.none,.none,.none,.str fW 1174,.none,.ref 935,.none,0},{([])}},939,{.none,.none,.func {Ac,Z7,L2.mz (L2.inClass (tt 164) 1),.stmts (L2.iZ (L2.inClass (tt 164) 1)),L2.aG (L2.inClass (tt 164) 1),0,[],.none,.none,.none,.none,.none,.none,.none,0},{([])}},940,{.type t3,.none,.fields {[.str Ac 1520,.str Z7 1521,.str z9 1522,.int 696 0,.int 2 0,.int 0 0,.int 0 0,.int 3 0,.ref 937,.bool true,.int 181 0,.ref 938,.none,.none,.none,.ref 939,.int 1523 0,.int 696 0,.str z9 1524]},{([])}},941,{.type t17,.none,.func {Ac,Z7,L2.mz (L2.inClass (tt 164) 1),.stmts (L2.iZ (L2.inClass (tt 164) 1)),L2.aG (L2.inClass (tt 164) 1),3,[],.none,.none,.none,.str fW 1174,.none,.ref 940,.none,0},{([])}},943,{.type t0,.none,.dict {[{kh P dO,.str dO 1508,.str fW 1174},{kh P dN,.str dN 1512,.int 691 1511},{kh P Aa,.str Aa 1519,.ref 936},{kh P Ac,.str Ac 1525,.ref 941},{kh P dM,.str dM 1527,.ref 942},{kh P gL,.str gL 1529,.ref 945},{kh P Es,.str Es 1531,.ref 946},{kh P z2,.str z2 1532,.none}]} 4,{([])}},944,{.type t8,.none,.cls {vN,[.type qQ],[.ref 944,.type qQ],943,vN,true,[],[],false,.none,false},{[.none,.none,.some (.str vN 1501),.some (.str vN 1509),.some (.builtin t18),.some (.bool true)]}},945,{.type Ui,.none,.fields {[.str gL 1528,.ref 944,.builtin t19,.builtin t20]},{([])}},946,{.type Ui,.none,.fields {[.str Es 1530,.ref 944,.builtin t14,.none]},{([])}},954,cg MS 1537 708 2 949 953 1542,955,fo MS 166 z1 1535 954,959,cf JZ 1545 712 2 956 .none .none 958 1548,960,fo JZ 167 z1 1535 959,966,cg K7 1551 729 2 961 965 1556,967,fo K7 168 z1 1535 966,973,cg Jw 1559 731 1 968 972 1564,974,fo Jw 169 z1 1535 973,980,cg G8 1567 734 2 975 979 1573,981,fo G8 170 z1 1535 980,987,cg JH 1576 745 3 982 986 1585,988,fo JH 171 z1 1535 987,992,cf Ni 1588 752 3 989 .none .none 991 1591,993,fo Ni 172 z1 1535 992,999,cg Gu 1594 760 2 994 998 1599,1000,fo Gu 173 z1 1535 999,1004,cf Ja 1602 764 1 1001 .none .none 1003 1605,1005,fo Ja 174 z1 1535 1004,1011,cg Lw 1608 772 2 1006 1010 1616,1012,fo Lw 175 z1 1535 1011,1016,cf Gy 1619 784 1 1013 .none .none 1015 1622,1017,fo Gy 176 z1 1535 1016,1023,cg HS 1625 786 1 1018 1022 1632,1024,fo HS 177 z1 1535 1023,1030,cg IK 1635 793 1 1025 1029 1640,1031,fo IK 178 z1 1535 1030,1037,cg ML 1643 800 4 1032 1036 1651,1038,fo ML 179 z1 1535 1037,1044,cg Kg 1654 820 4 1039 1043 1664,1045,fo Kg 180 z1 1535 1044,1051,cg LY 1667 830 1 1046 1050 1674,1052,fo LY 181 z1 1535 1051,1056,cf J7 1677 835 4 1053 .none .none 1055 1680,1057,fo J7 182 z1 1535 1056,1063,cg MF 1683 846 4 1058 1062 1693,1064,fo MF 183 z1 1535 1063,1070,cg RL 1696 859 1 1065 1069 1714,1071,fo RL 184 z1 1535 1070]
end
def mr(f:Frag):Nat->List Obj->List Obj:=List.rec (motive:=λ_=>Nat->List Obj->List Obj) (λ_ r=>r) (λx _ g n r=>r.take (x.1-n)++x.2::g (x.1+1) (r.drop (x.1-n))) f
noncomputable def HL(P:Params):List Obj:=mr (K P) 0 [vB,ha6 P wV 196 22 2,aj,aH,ha4 wV 191 18 2 194,ha5 iu 20 17 187,ha7 24,ha8 24,vB,ha6 P xP 214 35 4,aj,aH,ha4 xP 209 31 4 212,ha5 iu 33 30 187,ha7 37,ha8 37,vB,ha6 P vP 230 47 6,aj,aH,ha4 vP 225 43 6 228,ha5 iu 45 42 187,ha7 49,ha8 49,vB,ha6 P xr 246 59 8,aj,aH,ha4 xr 241 55 8 244,ha5 iu 57 54 187,ha7 61,ha8 61,vB,ha6 P xK 262 71 10,aj,aH,ha4 xK 257 67 10 260,ha5 iu 69 66 187,ha7 73,ha8 73,vB,ha6 P v9 278 83 12,aj,aH,ha4 v9 273 79 12 276,ha5 iu 81 78 187,ha7 85,ha8 85,vB,ha6 P wu 294 95 14,aj,aH,ha4 wu 289 91 14 292,ha5 iu 93 90 187,ha7 97,ha8 97,vB,ha6 P wL 310 107 16,aj,aH,ha4 wL 305 103 16 308,ha5 iu 105 102 187,ha7 109,ha8 109,vB,ha6 P wN 326 119 18,aj,aH,ha4 wN 321 115 18 324,ha5 iu 117 114 187,ha7 121,ha8 121,aj,aH,ts [QB] 342,aj,cd GN 12,aj,aH,ts [wY,xT] 349,aj,cd Jp 13,aj,aH,ts [QB] 357,aj,cd Mh 14,aj,aH,ts [mF,QB] 364,aj,cd Jt 15,aj,aH,ts [mF,wY] 372,aj,cd Mj 16,aj,aH,ts [Gi,wY,Ef,ayA,Bh] 380,aj,cd JY 17,aj,aH,ts [mF,rZ,su] 391,aj,cd J2 18,aj,aH,cd IB 22,aj,aH,ts [QB,mF,zY,A4] 412,aj,cd Kr 23,aj,aH,ts [rZ,su] 422,aj,cd FJ 24,aj,aH,ts [mD] 430,aj,cd Iz 25,aj,aH,ts [mF,zY,avR,SK,yK] 437,aj,cd KZ 26,aj,aH,ts [mD,GX,mF,zY,A4,S9] 448,aj,cd Gm 27,aj,aH,ts [AH] 460,aj,cd Ku 28,aj,aH,ts [mD,GX] 467,aj,cd xM 29,aj,aH,ts [GS,X7] 477,aj,cd Lz 31,aj,aH,ts [Aq,yK] 485,aj,cd Gq 32,aj,aH,ts [mF,rZ,su,SK,Uc,yK] 493,aj,cd Ml 33,aj,aH,ts [mF,rZ,su,VL,MY,Bh,aAn,aJi,yK] 505,aj,cd IW 34,aj,aH,cd Ld 35,aj,aH,ts [mF,rZ,su,Xq,Zt,Bh] 526,aj,cd IZ 36,aj,aH,cd Jq 37,aj,aH,cd FY 38,aj,aH,cd HW 39,aj,aH,ts [wY,S9] 560,aj,cd JK 42,aj,aH,ts [aCH,Aq] 568,aj,cd sX 43,aj,aH,cd JN 44,aj,aH,ts [JA,wY,DV] 582,aj,cd J4 45,aj,aH,ts [JA,wY,Gi,DV,aRV] 591,aj,cd Jl 46,aj,aH,cd J9 47,aj,aH,ts [mF,rZ,su] 608,aj,cd K1 48,aj,aH,cd FZ 50,aj,aH,ts [mD,mF,Aq,VL] 625,aj,cd GV 51,aj,aH,ts [mD,cw,zY] 635,aj,cd G9 52,aj,aH,ts [rZ,su,GX,Qg,Pb,AH] 646,aj,cd Hu 54,aj,aH,cd HZ 56,aj,aH,ts [zY,GX,wc,yK,aNf] 666,aj,cd G3 57,aj,aH,ts [wc,zY,yK] 677,aj,cd Jz 58,aj,aH,ts [oC] 692,aj,cd Ht 62,aj,aH,ts [oo,Oy] 699,aj,cd Lf 63,aj,aH,cd Ln 64,aj,aH,ts [Qg,Pb,AH] 713,aj,cd Gw 65,aj,aH,ts [Qg,Pb,AH] 722,aj,cd HX 66,aj,aH,cd KQ 67,aj,aH,cd Ie 68,aj,aH,ts [rZ,su,aDr,mF,Qg,Pb,Aq] 743,aj,cd JL 69,aj,aH,ts [rZ,su] 756,aj,cd Hy 70,aj,aH,ts [rZ,su] 764,aj,cd J6 71,aj,aH,cd Jr 72,aj,aH,cd J3 73,aj,aH,cd M8 74,aj,aH,cd vQ 75,aj,aH,ts [mD,GS,cw,zY] 796,aj,cd Ks 76,aj,aH,cd Li 78,aj,aH,ts [WJ,Vg,xv,Uc] 814,aj,cd Lr 79,aj,aH,cd GK 80,aj,aH,cd Kl 81,aj,aH,ts [mF,Hm,WJ,aTI,aMf,xv,VL,Ls,Uc] 836,aj,cd FT 82,aj,aH,ts [rZ,su,Xq,Zt,Bh] 851,aj,cd J0 83,aj,aH,cd G5 84,aj,aH,cd FD 85,aj,aH,cd Iw 86,aj,aH,cd KN 87,aj,aH,cd Lj 88,aj,aH,ts [mF,Hm,aLb,aEU,S9] 892,aj,cd Js 89,aj,aH,cd LR 91,aj,aH,ts [mD,xT,oo] 911,aj,cd HB 92,aj,aH,ts [mD,xT,oo,Oy,oC,ayO,yK] 920,aj,cd Ng 93,aj,aH,ts [mD,Gi] 933,aj,cd Im 94,aj,aH,ts [mF,AH] 945,aj,cd Mz 97,aj,aH,ts [mF,Aq,AH,Bh,awx,aDg] 953,aj,cd Hs 98,aj,aH,cd Mx 99,aj,aH,ts [mD,AH] 971,aj,cd JX 100,aj,aH,cd Ka 101,aj,aH,cd Ib 104,aj,aH,ts [wY,Zt,Xq,xB] 995,aj,cd Hh 105,aj,aH,cd Mi 106,aj,aH,ts [Aq,Ts,MY,Bh,xB] 1011,aj,cd Nf 107,aj,aH,ts [Aq,HG,Bh,Ts,S9] 1022,aj,cd K3 108,aj,aH,ts [wY,az1,aCy,Me] 1033,aj,cd Ef 109,aj,aH,cd Jv 110,aj,aH,ts [HG,aGX,aN4,Vg,axA,X7] 1049,aj,cd GD 111,aj,aH,cd um 112,aj,aH,ts [Gi,oC,aNu,Me] 1071,aj,cd JT 115,aj,aH,ts [mD,cw] 1081,aj,cd Hl 116,aj,aH,ts [mD,mF,zY,axf,aAy,Vg] 1089,aj,cd Hv 117,aj,aH,ts [mD] 1101,aj,cd Gg 118,aj,aH,cd tV 119,aj,aH,aj,aj,cd Kd 123,aj,aH,ts [wY] 1126,aj,cd Gh 124,aj,aH,cd Hf 125,aj,aH,cd HY 126,aj,aH,ts [NS] 1145,aj,cd KW 127,aj,aH,ts [NS,Gi] 1152,aj,cd FQ 128,aj,aH,cd IX 129,aj,aH,ts [Md,ic,aSA,aLD,X7] 1166,aj,cd MB 130,{.type t0,.none,.dict {[{kh P tV,.str tV 1256,.ref 745},{kh P um,.str um 1259,.ref 746},{kh P xT,.str xT 1261,.ref 747},{kh P sX,.str sX 1263,.ref 748}]} 4,{([])}},aj,aH,ts [Md,ic] 1276,aj,cd Hj 136,aj,aH,ts [ic,aPM,GX] 1284,aj,cd Ky 137,aj,aH,cd JW 138,aj,aH,ts [eW,NS,awg] 1299,aj,cd GF 139,aj,aH,ts [eW,aDU,NS] 1308,aj,cd JD 140,aj,aH,ts [mW] 1317,aj,cd Mr 141,aj,aH,ts [mW] 1324,aj,cd JF 142,aj,aH,ts [mW] 1331,aj,cd Lb 143,aj,aH,ts [mW] 1338,aj,cd FN 144,aj,aH,ts [mW] 1345,aj,cd KH 145,aj,aH,ts [mW] 1352,aj,cd Kh 146,aj,aH,ts [mW] 1359,aj,cd K5 147,aj,aH,ts [mW] 1366,aj,cd J5 148,aj,aH,cd IV 149,aj,aH,ts [mW] 1379,aj,cd IG 150,aj,aH,ts [mW] 1386,aj,cd LK 151,aj,aH,cd Le 152,aj,aH,ts [mW] 1399,aj,cd Gd 153,aj,aH,ts [mW] 1406,aj,cd Kw 154,aj,aH,ts [mW] 1413,aj,cd Jh 155,aj,aH,ts [mW,aS8] 1420,aj,cd Hi 156,aj,aH,ts [mW] 1428,aj,cd Io 157,aj,aH,cd LX 158,aj,aH,cd LV 159,aj,aH,ts [mW] 1447,aj,cd Jd 160,aj,aH,ts [mW,yK] 1454,aj,cd M5 161,aj,vB,{.type t0,.none,.dict {[{kh P dO,.str dO 1508,.str fW 1174},{kh P jW,.str jW 1510,.str vN 1509},{kh P dN,.str dN 1512,.int 691 1511},{kh P Aa,.str Aa 1519,.ref 936},{kh P Ac,.str Ac 1525,.ref 941},{kh P dM,.str dM 1527,.ref 942}]} 6,{([])}},aj,{.none,.none,.fields {[.int 693 0,.int 4 0,.ref 935,.int 696 0,.int 4 0,.ref 940]},{([])}},ha4 vN 1503 926 691 1506,ha5 fW 928 925 1174,aj,aH,ts [aIQ] 1516,aj,aj,aH,ts [eW] 1526,ha7 944,ha8 944,aj,aH,ts [HK,sv] 1540,aj,cd MS 166,aj,aH,cd JZ 167,aj,aH,ts [P9,sv] 1554,aj,cd K7 168,aj,aH,ts [Ab,Q8] 1562,aj,cd Jw 169,aj,aH,ts [O8,Ab,aBT] 1570,aj,cd G8 170,aj,aH,ts [O8,P9,aJY,DN,Ab,sv] 1579,aj,cd JH 171,aj,aH,cd Ni 172,aj,aH,ts [O8,Ab] 1597,aj,cd Gu 173,aj,aH,cd Ja 174,aj,aH,ts [YG,XN,DN,Od,Sj] 1611,aj,cd Lw 175,aj,aH,cd Gy 176,aj,aH,ts [ayb,DN,aBd,aTC] 1628,aj,cd HS 177,aj,aH,ts [avz,DN] 1638,aj,cd IK 178,aj,aH,ts [Od,Q9,Q8,ia,DN] 1646,aj,cd ML 179,aj,aH,ts [Od,Q9,Q8,ia,DN,ayR,Sj] 1657,aj,cd Kg 180,aj,aH,ts [Ab,aNR,aHa,aEV] 1670,aj,cd LY 181,aj,aH,cd J7 182,aj,aH,ts [YG,xD,Q9,Ab,aBU,aCY,XN] 1686,aj,cd MF 183,aj,aH,ts [HK,aTt,O8,YG,xD,avC,aNi,axi,Ab,Od,Q9,Q8,ia,aAo,aEj] 1699,aj,cd RL 184]
def ev(l:List Obj):Bool->List Obj:=List.rec (motive:=λ_=>Bool->List Obj) (λ_=>[]) (λo _ f b=>cond b (o::f false) (f true)) l
def bt(n:Nat):List Obj->BT:=Nat.rec (motive:=λ_=>List Obj->BT) (λ_=>.nil) (λ_ f l=>List.casesOn l .nil λo l=>.node o (f (ev l true)) (f (ev l false))) n
def TF(P:Params):BT:=bt 16 (HL P)
def HF(P:Params):Heap:={{HL P},{}}
noncomputable def as:List Nat:=(K {strHash:=λ_=>0,shareClass:=λ_=>0,mergeTok:=λx=>x,idOf:=λ_=>0,idOfShared:=λ_ _=>0,followText:=λ_=>false,idOfImm:=λ_=>0}).map (·.1)
def cut(n:Nat)(t:BT):Nat->Nat->BT:=BT.rec (motive:=λ_=>Nat->Nat->BT) (λ_ _=>.nil) (λv _ _ l r a b=>cond (Nat.blt b n) (.node v (l (Nat.mul 2 a) (QN a b)) (r (Nat.mul 2 a) (QN (Nat.mul 2 a) b))) .nil) t
def HA(P:Params):Heap:={{[PySem.W.boot_o_0 P,PySem.W.boot_o_1 P,PySem.W.boot_o_2 P,PySem.W.boot_o_3 P,PySem.W.boot_o_4 P,PySem.W.boot_o_5 P,PySem.W.boot_o_6 P,PySem.W.boot_o_7 P,PySem.W.boot_o_8 P,PySem.W.boot_o_9 P,PySem.W.boot_o_10 P,aj,y8,BP,tU]},{}}
def SA(w:World)(os:OsState):Shared:={HA w.params,{([])},{},187,os}
def T1(P:Params):BT:=((cut 15 (TF P) 1 0).set 3 λ_=>PySem.W.boot_o_3 P).set 12 λ_=>y8
def S1(w:World)(os:OsState):SharedT:={T1 w.params,15,{},{([])},{},187,os}
def T2(P:Params):BT:=((cut 267 (TF P) 1 0).set 3 λ_=>ayt P).set 12 λ_=>ayr
def S2(w:World)(os:OsState):SharedT:={T2 w.params,267,{},{([])},{},535,os}
def T3(P:Params):BT:=((cut 726 (TF P) 1 0).set 3 λ_=>aI7 P).set 12 λ_=>aHN
def S3(w:World)(os:OsState):SharedT:={T3 w.params,726,{},{([])},{},1182,os}
def T4(P:Params):BT:=cut 1072 (TF P) 1 0
def S4(w:World)(os:OsState):SharedT:={T4 w.params,1072,{},{([])},{},1717,os}
def SF(w:World)(os:OsState):Shared:={HF w.params,{([])},{},1717,os}
def ann:Option Value:=ι (.ref 6)
def env:Env:={scope:=pwL.main.scope,locals:=mainNs,globals:=mainNs,cells:=[],code:=.ref 13,frame:=ι 14}
def cE:Code:=.body (behindTheImports pwL) env
abbrev BB:List Frame:=[topFrame {0,0,0,(0)}]
def LO:List Str:=[wV,xP,vP,xr,xK,v9,wu,wL,wN,XM,GN,Jp,Mh,Jt,Mj,JY,J2,WQ,z29,IB,Kr,FJ,Iz,KZ,Gm,Ku,xM,Lz,Gq,Ml,IW,Ld,IZ,Jq,FY,HW,z47,JK,sX,JN,J4,Jl,J9,K1,FZ,GV,G9,Hu,HZ,G3,Jz,z62,z63,Ht,Lf,Ln,Gw,HX,KQ,Ie,JL,Hy,J6,Jr,J3,M8,vQ,Ks,Li,Lr,GK,Kl,FT,J0,G5,FD,Iw,KN,Lj,Js,LR,HB,Ng,Im,z95,Mz,Hs,Mx,JX,Ka,WB,Ib,Hh,Mi,Nf,K3,Ef,Jv,GD,um,VN,JT,Hl,Hv,Gg,tV,aS,tF,Kd,Gh,Hf,HY,KW,FQ,IX,MB,dr,VP,vc,AI,Hj,Ky,JW,GF,JD,Mr,JF,Lb,FN,KH,Kh,K5,J5,IV,IG,LK,Le,Gd,Kw,Jh,Hi,Io,LX,LV,Jd,M5,Fm,LM,vN,MS,JZ,K7,Jw,G8,JH,Ni,Gu,Ja,Lw,Gy,HS,IK,ML,Kg,LY,J7,MF]
noncomputable def q:Program:={pwL with main:={pwL.main with body:=[topF 184]}}
theorem a0:@segRunT=PySem.W.Fast.tw10110043849684766642:=PySem.W.Fast.te10110043849684766642
theorem a1:@treeTable=PySem.W.Fast.tw14364793385576792824:=PySem.W.Fast.te14364793385576792824
theorem a2:@topGo=PySem.W.Fast.tw15667345088766844465:=PySem.W.Fast.te15667345088766844465
theorem a3:@topRun=PySem.W.Fast.tw14082659384304107361:=PySem.W.Fast.te14082659384304107361
theorem a4:@segRun=PySem.W.Fast.tw14374325043358763698:=PySem.W.Fast.te14374325043358763698
theorem a5:@denote=PySem.W.Fast.tw11892475500146522536:=PySem.W.Fast.te11892475500146522536
theorem a11:@importedModules=PySem.W.Fast.tw5923862056798008813:=PySem.W.Fast.te5923862056798008813
theorem a12:@openSeen=PySem.W.Fast.tw4187177175401517315:=PySem.W.Fast.te4187177175401517315
theorem a13:@Heap.nsMap=PySem.W.Fast.tw8920871248978507458:=PySem.W.Fast.te8920871248978507458
set_option maxHeartbeats 0
theorem pre(w:World)(os:OsState):topGo treeTable pwL w 11 ann 12 {boot_heap w.params,{([])},boot_drawn,boot_toks,os} (topStub pwL)=ι (SA w os,{denote treeTable cE,cE,{0,0,0,(0)},BB}):=by
 rw[a1,a2,a5];kernel_rfl
theorem blk(w:World)(os:OsState):segRun treeTable pwL w 11 ann 1 1 (SA w os) (blockOf (behindTheImports pwL) env cE {0,0,0,(0)} BB)=ι (.next,(S1 w os).abs,cE,{0,0,0,(0)}):=by
 rw[a1,a4];kernel_rfl
abbrev c1:List Stmt:=[topF 0,topF 1,topF 2,topF 3,topF 4,topF 5,topF 6,topF 7,topF 8,topF 9,topF 10,topF 11,topF 12,topF 13,topF 14,topF 15,topF 16,topF 17,topF 18,topF 19,topF 20,topF 21,topF 22,topF 23,topF 24,topF 25,topF 26,topF 27,topF 28,topF 29,topF 30,topF 31,topF 32,topF 33,topF 34,topF 35,topF 36]
abbrev hab(w:World)(o:OsState)(n:Nat)(s:World->OsState->SharedT)(c:List Stmt)(a:Pos)(t:World->OsState->SharedT)(b:Pos):Prop:=segRunT treeTable pwL w 11 ann 1 n (s w o) (piecesOf c env cE a BB)=ι (.next,t w o,cE,b)
theorem p1(w:World)(os:OsState):hab w os 2600 S1 c1 {0,0,0,(0)} S2 {132,0,139,(16)}:=by
 unfold hab c1;rw[a0,a1];kernel_rfl
abbrev c2:List Stmt:=[topF 37,topF 38,topF 39,topF 40,topF 41,topF 42,topF 43,topF 44,topF 45,topF 46,topF 47,topF 48,topF 49,topF 50,topF 51,topF 52,topF 53,topF 54,topF 55,topF 56,topF 57,topF 58,topF 59,topF 60,topF 61,topF 62,topF 63,topF 64,topF 65,topF 66,topF 67,topF 68,topF 69,topF 70,topF 71,topF 72,topF 73,topF 74,topF 75,topF 76,topF 77,topF 78,topF 79,topF 80,topF 81,topF 82,topF 83,topF 84,topF 85,topF 86,topF 87,topF 88,topF 89,topF 90,topF 91,topF 92,topF 93,topF 94,topF 95,topF 96,topF 97,topF 98,topF 99,topF 100,topF 101,topF 102,topF 103,topF 104,topF 105,topF 106,topF 107,topF 108,topF 109,topF 110,topF 111,topF 112,topF 113,topF 114,topF 115,topF 116,topF 117,topF 118,topF 119,topF 120,topF 121,topF 122,topF 123,topF 124,topF 125,topF 126,topF 127,topF 128,topF 129,topF 130,topF 131,topF 132,topF 133,topF 134]
theorem p2(w:World)(os:OsState):hab w os 2393 S2 c2 {132,0,139,(16)} S3 {593,0,593,(10)}:=by
 unfold hab c2;rw[a0,a1];kernel_rfl
abbrev c3:List Stmt:=[topF 135,topF 136,topF 137,topF 138,topF 139,topF 140,topF 141,topF 142,topF 143,topF 144,topF 145,topF 146,topF 147,topF 148,topF 149,topF 150,topF 151,topF 152,topF 153,topF 154,topF 155,topF 156,topF 157,topF 158,topF 159,topF 160,topF 161,topF 162,topF 163,topF 164,topF 165,topF 166,topF 167,topF 168,topF 169,topF 170,topF 171,topF 172,topF 173,topF 174,topF 175,topF 176,topF 177,topF 178,topF 179,topF 180,topF 181,topF 182,topF 183,topF 184]
theorem p3(w:World)(os:OsState):hab w os 2360 S3 c3 {593,0,593,(10)} S4 {859,0,892,(15)}:=by
 revert w;refine @PySem.W.byRow2 "special-get-raises" _ ?_ ?_<;>(intro w;unfold hab c3;rw[a0,a1];kernel_rfl)
theorem fin(w:World)(os:OsState):topRun treeTable pwL w 11 ann 2 (S4 w os).abs {doneF .next,cE,{859,0,892,(15)},BB}=ι (SF w os):=by
 rw[a1,a3];kernel_rfl
theorem body:behindTheImports pwL=c1++(c2++(c3++([]))):=by
 kernel_rfl
theorem run(w:World)(os:OsState):topRun treeTable pwL w 11 ann (12+(1+(2600+(2393+(2360+(2)))))) {boot_heap w.params,{([])},boot_drawn,boot_toks,os} (topStub pwL)=ι (SF w os):=
 go_top (pre w os) (piece_block (blk w os) (by rw[body];exact piece_app (segRun_of (p1 w os)) (piece_app (segRun_of (p2 w os)) (piece_app (segRun_of (p3 w os)) (piece_nil (fin w os))))))
theorem size(w:World):((boot_heap w.params).isNs mainGlobals&&(Array.mk ([]:List GenState)).size==0,(boot_heap w.params).objs.size,(boot_heap w.params).nsMap mainGlobals "__annotations__")=(true,11,ann):=by
 rw[a13];kernel_rfl
abbrev Xt(s:Shared):Bool:=xlAt q [] s&&recOk [] s
theorem lk1(w:World)(os:OsState):(staticsOk (importedModules pwL.main.body) (boot_heap w.params) (HF w.params)&&namesBound pwL (HF w.params)&&gensDone (SF w os)&&laidKept (boot_heap w.params) (HF w.params))=true:=by
 rw[a11];kernel_rfl
theorem lk2(w:World)(os:OsState):openSeen q LO (importedModules pwL.main.body) Xt true (SF w os)=openGood q LO:=by
 rw[a11,a12];kernel_rfl
theorem lk3(w:World)(os:OsState):vS as (SF w os)=ID K 1072 1717 w:=by
 kernel_rfl
theorem imports:opening pwL=plainProg pwL.main.scope.names:=by kernel_rfl
theorem left:LeftO pwL q LO Xt (vS as) (ID K 1072 1717) 14826:=
 LeftO.of_pieces (boot_open imports (by rfl) (λs=>by kernel_rfl)) size run (by rfl) λw=>funext λos=>looks_pair (lk1 w os) (looks_pair (lk2 w os) (lk3 w os))
end
end H
end K53
namespace L2
open PySem PySem.Spec PyProof.Rows
section
variable {H:Hp}{a b:Addr}{o u:HO}
abbrev Key:=Sum Int Str
def uO:Key->Value->Bool
 |.inl k,v=>Value.isInt k v
 |.inr x,v=>Value.isStrOf x v
def aRJ(w:World):Key->Int
 |.inl k=>hashInt k
 |.inr x=>hashStr w x
def wk:∀{k:Key} {v:Value},uO k v=true->(∃i t,k=Bc i/\v=Value.int i t)∨(∃x t,k=vL x/\v=Value.str x t)
 |.inl i,v,h=>by
  obtain⟨t,e⟩:=Value.isInt_shape (k:=i) (v:=v) h;exact .inl {i,t,rfl,(e)}
 |.inr x,v,h=>by
  obtain⟨t,e⟩:=Value.isStrOf_shape (x:=x) (v:=v) h;exact .inr {x,t,rfl,(e)}
def azh(i:Int)(t:Tok):uO (.inl i) (.int i t)=true:=by simp[uO,Value.isInt]
def IA(x:Str)(t:Tok):uO (.inr x) (.str x t)=true:=by simp[uO,Value.isStrOf]
def aFl(a b:Int):decide ((Bc a:Key)=Bc b)=(a==b):=by
 by_cases e:a=b
 .subst e;simp
 .have h:¬(Bc a:Key)=Bc b:=λq=>e (Sum.inl.inj q);rw[decide_eq_false h];exact(beq_eq_false_iff_ne.mpr e).symm
def aLR(a b:Str):decide ((vL a:Key)=vL b)=decide (a=b):=by
 by_cases e:a=b
 .subst e;simp
 .have h:¬(vL a:Key)=vL b:=λq=>e (JP q);rw[decide_eq_false h,decide_eq_false e]
def azi(a:Int)(b:Str):decide ((Bc a:Key)=vL b)=false:=decide_eq_false (λq=>nomatch q)
def awq(a:Str)(b:Int):decide ((vL a:Key)=Bc b)=false:=decide_eq_false (λq=>nomatch q)
def kZ(prog:Program)(w:World):PySem.KeyKind prog w Key where
 is:=uO
 hash:=aRJ w
 inj:=λv a b ha hb=>by
  rcases wk ha with⟨i,t,rfl,rfl⟩|⟨x,t,rfl,rfl⟩
  .rcases wk hb with⟨j,u,rfl,e⟩|⟨y,u,rfl,e⟩
   .injection e with e1 _;rw[e1]
   .exact nomatch e
  .rcases wk hb with⟨j,u,rfl,e⟩|⟨y,u,rfl,e⟩
   .exact nomatch e
   .injection e with e1 _;rw[e1]
 byValue:=λk v h=>by
  rcases wk h with⟨i,t,rfl,rfl⟩|⟨x,t,rfl,rfl⟩<;>rfl
 pyHash:=λhv h=>by
  rcases wk hv with⟨i,t,rfl,rfl⟩|⟨x,t,rfl,rfl⟩
  .exact wpAny_pyHash_int h
  .exact wpAny_pyHash_str h
 eqBool:=λhu hv h=>by
  rcases wk hu with⟨i,t,rfl,rfl⟩|⟨x,t,rfl,rfl⟩
  .rcases wk hv with⟨j,u,rfl,rfl⟩|⟨y,u,rfl,rfl⟩
   .rw[aFl]at h;exact wpAny_eqBool_int h
   .rw[azi]at h;exact SeqAt.EqAt.int_str i t y u _ _ _ _ h
  .rcases wk hv with⟨j,u,rfl,rfl⟩|⟨y,u,rfl,rfl⟩
   .rw[awq]at h;exact SeqAt.EqAt.str_int x t j u _ _ _ _ h
   .rw[aLR]at h;exact wpAny_eqBool_str h
 «strs»:=λk x t v h=>by
  rcases wk h with⟨i,u,rfl,e⟩|⟨y,u,rfl,e⟩
  .exact nomatch e
  .injection e with e1 _;subst e1;cases v<;>rfl
def aDN(prog:Program)(w:World)(i:Int)(t:Tok):(kZ prog w).is (.inl i) (.int i t)=true:=azh i t
def MH(prog:Program)(w:World)(x:Str)(t:Tok):(kZ prog w).is (.inr x) (.str x t)=true:=IA x t
inductive V where
 |non|bl (b:Bool)|int (i:Int)|str (x:Str)|oh (b:Array UInt8)|flt (b:UInt64)|ref (a:Addr)|ty (n:String)
 deriving DecidableEq
abbrev τ:=List V
def RelV:V->Value->Prop
 |.non,u=>u=Value.none
 |.bl b,u=>u=Value.bool b
 |.int i,u=>∃t,u=Value.int i t
 |.str x,u=>∃t,u=Value.str x t
 |.oh b,u=>∃t,u=Value.bytes b t
 |.flt b,u=>∃t,u=Value.float b t
 |.ref a,u=>u=Value.ref a
 |.ty n,u=>u=Value.type n
abbrev Vals:τ->List Value->Prop:=Paired RelV
theorem Vals.length{xs:τ}{us:List Value}(r:Vals xs us):xs.length=us.length:=Paired.length r
theorem Vals.get:∀{xs:τ} {us:List Value} {i:Nat} {x:V},Vals xs us->xs[i]?=ι x->∃u,us[i]?=ι u/\RelV x u
 |_,_,_,_,.nil,e=>by simp at e
 |_,_,0,_,.cons r _,e=>by simp at e;subst e;exact{(),r}
 |_,_,i+1,x,.cons _ t,e=>by
  obtain⟨u,h1,h2⟩:=Vals.get (i:=i) (x:=x) t (by simpa using e);exact{u,by simpa using h1,h2}
theorem Vals.set{x:V}{u:Value}(r:RelV x u):∀{xs:τ} {us:List Value} (i:Nat),Vals xs us->Vals (xs.set i x) (us.set i u)
 |_,_,_,.nil=>.nil
 |_,_,0,.cons _ t=>.cons r t
 |_,_,i+1,.cons q t=>.cons q (Vals.set r i t)
theorem Vals.append:∀{xs ys:τ} {us ws:List Value},Vals xs us->Vals ys ws->Vals (xs++ys) (us++ws)
 |_,_,_,_,.nil,s=>s
 |_,_,_,_,.cons r t,s=>.cons r (Vals.append t s)
theorem Vals.take:∀{xs:τ} {us:List Value} (n:Nat),Vals xs us->Vals (xs.take n) (us.take n)
 |_,_,0,_=>.nil
 |_,_,_+1,.nil=>.nil
 |_,_,n+1,.cons r t=>.cons r (Vals.take n t)
theorem Vals.drop:∀{xs:τ} {us:List Value} (n:Nat),Vals xs us->Vals (xs.drop n) (us.drop n)
 |_,_,0,r=>r
 |_,_,_+1,.nil=>.nil
 |_,_,n+1,.cons _ t=>Vals.drop n t
def lE:Option V->Option Value->Prop
 |some v,ι u=>RelV v u
 |none,ν=>True
 |_,_=>False
def KV{κ:Type}:List (κ×V)->List (κ×Value)->Prop:=Paired λ(p:κ×V)(q:κ×Value)=>p.1=q.1/\RelV p.2 q.2
def kV:Key->V
 |.inl i=>.int i
 |.inr x=>.str x
inductive HO where
 /-- z list -/
 |lst (xs:τ)
 /-- z tuple (never changes) -/
 |tup (xs:τ)
 /-- z dict whose keys are ints and texts;one whose keys are tuples of ints and texts (the empty one is both) -/
 |dK (kvs:List (Key×V))|dT (kvs:List (List Key×V))
 /-- z set of ints: its members,its size -/
 |set (S:Int->Bool) (n:Nat)
 /-- an instance of the class at C,its dict at dx,its attributes -/
 |ins (C dx:Addr) (fs:List (Str×V))
 /-- the dict of the instance at x -/
 |own (x:Addr)
 /-- the dict of an exception -/
 |xd (fs:List (Str×V))
 /-- z bound method,f of x -/
 |met (f x:Addr)
 /-- z range object lo,lo+1,.. below hi -/
 |rng (lo hi:Int)
 /-- z thing that is known to the object (the script;z dict while z loop walks it): read,never written while it is so -/
 |gP (o:Obj) (u:HO)
 /-- z code object's table -/
 |uK (ps:Array Value)
 /-- any other thing,by what is true of its one object (z def of aUx own: aUB z S n:=HO.ext λh=> ..) -/
 |ext (φ:Heap->Prop)
abbrev Hp:=Addr->Option HO
def upd(H:Hp)(a:Addr)(o:HO):Hp:=λb=>if b=a then ι o else H b
def aq:upd H a o a=ι o:=by unfold upd;rw[if_pos rfl]
def cH(h:b≠a):upd H a o b=H b:=by unfold upd;rw[if_neg h]
def aTp:upd (upd H a o) a u=upd H a u:=by
 funext b;unfold upd;split<;>rfl
def uR(h:H a=ι o)(h':H b=ι u)(d:o≠u):a≠b:=by
 intro e;subst e;rw[h]at h';exact d (pL h')
def jz(h:H a=ι o)(h':H b=ν):a≠b:=by
 intro e;subst e;rw[h]at h';cases h'
end
section
variable (P:Program)(w:World)
def fB(H:Hp)(h:Heap)(a:Addr):HO->Prop
 |.lst xs=>xs.length<=sizeLine/\∃(its:List Value) (n:Nat),Vals xs its/\h.get? a=ι {cls:=.type "list",data:=.seq its.toArray n}
 |.tup xs=>xs.length<=sizeLine/\∃its:List Value,Vals xs its/\IsTup h a its.toArray
 |.dK kvs=>kvs.length<=sizeLine/\(a==sysModules)=false/\∃vs,KV kvs vs/\h.DictOf (kZ P w) a vs
 |.dT kvs=>kvs.length<=sizeLine/\(a==sysModules)=false/\∃xs:List (List Key×Addr×Value),
   Paired (λ(p:List Key×V)(q:List Key×Addr×Value)=>p.1=q.1/\H q.2.1=ι (.tup (p.1.map kV))/\RelV p.2 q.2.2) kvs xs/\
   ∃o es ep,h.get? a=ι o/\o.ExactDict/\o.data=.dict es ep/\es.toList=xs.map (entryOfKey (tupleKind (kZ P w)))/\(xs.map (·.1)).Nodup
 |.set S n=>h.SetOf (intKind P w) a S n
 |.ins C dx fs=>H dx=ι (.own a)/\fs.length<=1000/\dx≠a/\h.get? a=ι (zj C dx)/\
   ∃mA,h.Ns1 dx mA/\(∀f,lE (fs.lookup f) (mA f))/\qA mA (fs.map (·.1))
 |.own _=>∃o,h.get? a=ι o
 |.xd fs=>∃mA,h.Ns1 a mA/\∀f,lE (fs.lookup f) (mA f)
 |.rng lo hi=>∃t u v,h.get? a=ι {cls:=.type "range",data:=.fields #[.int lo t,.int hi u,.int 1 v]}
 |.gP o u=>h.get? a=ι o/\fB H h a u
 |.uK ps=>h.get? a=ι {cls:=.none,data:=.fields ps}
 |.met f x=>h.get? a=ι (mP (.ref f) (.ref x))
 |.ext φ=>φ h/\(∃o,h.get? a=ι o)/\∀h1 h2:Heap,φ h1->(∀o,h1.get? a=ι o->h2.get? a=ι o)->φ h2
def fP(H:Hp)(h:Heap):Prop:=∀a o,H a=ι o->fB P w H h a o
end
theorem fB.lt(x:fB P w H h a o):a<h.objs.size:=by
 cases o with
 |lst xs=>intros _ _ _ _ e x;exact dz e
 |tup xs=>intros _ _ _ p x;exact p.lt
 |dK kvs=>intros _ _ _ _ o _ _ e _ x;exact dz e
 |dT kvs=>intros _ _ _ _ o _ _ e _ x;exact dz e
 |set S n=>intros o _ _ _ e _ x;exact dz e
 |ins C dx fs=>intros _ _ _ e _ x;exact dz e
 |own y=>intros _ e x;exact dz e
 |xd fs=>obtain⟨_,⟨_,_,_,e,_⟩,_⟩:=x;exact dz e
 |rng lo hi=>intros _ _ _ e x;exact dz e
 |gP ob u=>intros e _ x;exact dz e
 |uK ps=>exact dz (show h.get? a=ι _ from x)
 |met f y=>exact dz (show h.get? a=ι _ from x)
 |ext φ=>obtain⟨_,⟨_,e⟩,_⟩:=x;exact dz e
theorem Paired.GC:∀{l₁:List α} {l₂:List β},Paired F l₁ l₂->(∀a b,F a b->G a b)->Paired G l₁ l₂
 |_,_,.nil,_=>.nil
 |_,_,.cons r t,f=>.cons (f _ _ r) (Paired.GC t f)
def fB.stay(x:fB P w H h a o)(k:∀b u,(b=a∨H b=ι (.own a))->h.get? b=ι u->h'.get? b=ι u)
  (ho:∀b,H b=ι (.own a)->H' b=ι (.own a))(ht:∀b xs,H b=ι (.tup xs)->H' b=ι (.tup xs)):fB P w H' h' a o:=by
 induction o with
 |lst xs=>intros z its n r e x;exact{z,its,n,r,k _ _ (.inl rfl) e}
 |tup xs=>intros z its r ob e c x;exact{z,its,r,ob,k _ _ (.inl rfl) e,c}
 |dK kvs=>intros z y vs r ob es ep e c x;exact{z,y,vs,r,ob,es,ep,k _ _ (.inl rfl) e,c}
 |dT kvs=>
  intros z y xs r ob es ep e c x;exact{z,y,xs,Paired.GC r λp q z=>{z.1,ht _ _ z.2.1,z.2.2},ob,es,ep,k _ _ (.inl rfl) e,c}
 |set S n=>intros ob es ep t e c x;exact{ob,es,ep,t,k _ _ (.inl rfl) e,c}
 |ins C dx fs=>
  obtain⟨d,z,ne,e,mA,⟨od,es,ep,e2,c⟩,r⟩:=x;exact{ho _ d,z,ne,k _ _ (.inl rfl) e,mA,{od,es,ep,k _ _ (.inr d) e2,c},r}
 |own y=>intros ob e x;exact{ob,k _ _ (.inl rfl) e}
 |xd fs=>obtain⟨mA,⟨od,es,ep,e,c⟩,r⟩:=x;exact{mA,{od,es,ep,k _ _ (.inl rfl) e,c},r}
 |rng lo hi=>intros t u v e x;exact{t,u,v,k _ _ (.inl rfl) e}
 |gP ob u ih=>intros e q x;exact{k _ _ (.inl rfl) e,ih q}
 |uK ps=>
  have e:h.get? a=ι {cls:=.none,data:=.fields ps}:=x;show h'.get? a=ι {cls:=.none,data:=.fields ps};exact k a _ (.inl rfl) e
 |met f y=>
  have e:h.get? a=ι (mP (.ref f) (.ref y)):=x;show h'.get? a=ι (mP (.ref f) (.ref y));exact k a _ (.inl rfl) e
 |ext φ=>obtain⟨p,⟨o,e⟩,st⟩:=x;exact{st _ _ p λo q=>k _ _ (.inl rfl) q,{o,k _ _ (.inl rfl) e},st}
theorem fP.lt(x:fP P w H h)(e:H a=ι o):a<h.objs.size:=(x a o e).lt
def fP.fresh(x:fP P w H h)(e:h.objs.size<=a):H a=ν:=by
 cases q:H a with
 |none=>rfl
 |some u=>exact absurd (gJ (x.lt q) e) (n6 _)
def fP.kept(x:fP P w H h)(k:∀b u,h.get? b=ι u->h'.get? b=ι u):fP P w H h':=λa o e=>
 (x a o e).stay (λb u _ q=>k b u q) (λ_ q=>q) λ_ _ q=>q
def fP.laid(x:fP P w H h)(k:∀b u,h.get? b=ι u->h'.get? b=ι u)(hp:h.objs.size<=a)(new:fB P w (upd H a o) h' a o):fP P w (upd H a o) h':=λb u e=>by
 have hn:=x.fresh hp;by_cases hb:b=a
 .subst hb;rw[aq]at e;cases e;exact new
 .rw[cH hb]at e;exact(x b u e).stay (λc v _ q=>k c v q) (λc q=>by rw[cH (jz q hn)];exact q) λc xs q=>by rw[cH (jz q hn)];exact q
def Rd(H:Hp)(a:Addr)(u:HO):Prop:=H a=ι u∨∃o,H a=ι (.gP o u)
def Rd.ok(r:Rd H a u)(x:fP P w H h):fB P w H h a u:=by
 rcases r with r|⟨o,r⟩
 .exact x a u r
 .obtain⟨_,q⟩:=x a _ r;exact q
def HN:Option HO->Prop
 |some (.lst _)=>True
 |some (.dK _)=>True
 |some (.dT _)=>True
 |some (.set _ _)=>True
 |some (.ins _ _ _)=>True
 |some (.ext _)=>True
 |_=>False
def fP.write(ok:fP P w H h)(mu:HN (H x))(he:e=x∨H e=ι (.own x))(k:∀b u,b≠e->h.get? b=ι u->h'.get? b=ι u)(heo:∃u,h'.get? e=ι u)
  (new:fB P w (upd H x o') h' x o'):fP P w (upd H x o') h':=λb u q=>by
 have EF:∀c y,H c=ι (.own y)->c≠x:=λc y r z=>by subst z;rw[r]at mu;exact mu
 have aAl:∀c xs,H c=ι (.tup xs)->c≠x:=λc xs r z=>by subst z;rw[r]at mu;exact mu
 by_cases hb:b=x
 .subst hb;rw[aq]at q;cases q;exact new
 .rw[cH hb]at q;by_cases hbe:b=e
  .have q':H b=ι (.own x):=by
    rcases he with z|z
    .exact absurd (hbe.trans z) hb
    .rw[hbe];exact z
   rw[q]at q';cases q';intros v hv heo;exact{v,by rw[hbe];exact hv}
  .refine(ok b u q).stay (λc v hc r=>k c v ?_ r) (λc r=>by rw[cH (EF c b r)];exact r) λc xs r=>by rw[cH (aAl c xs r)];exact r
   rcases hc with rfl|hc
   .exact hbe
   .rintro rfl;rcases he with z|z
    .exact EF c b hc z
    .rw[hc]at z;cases z;exact hb rfl
structure Un(fs ex:List Addr)(H H':Hp)(h h':Heap):Prop where
 keep:∀b o,h.get? b=ι o->H b=ν->b∉fs->b∉ex->h'.get? b=ι o
 slot:∀b o,h.get? b=ι o->H b=ν->b∈fs->b∉ex->∃sl,h'.get? b=ι {o with slots:=sl}
 free:∀b o,h.get? b=ι o->H b=ν->b∉ex->H' b=ν
 there:∀b o,h.get? b=ι o->b∉ex->∃o',h'.get? b=ι o'
 tups:∀b xs,H b=ι (.tup xs)->H' b=ι (.tup xs)
 kO:∀b o u,H b=ι (.gP o u)->H' b=ι (.gP o u)
 oE:∀b ps,H b=ι (.uK ps)->∃more,H' b=ι (.uK (ps++more))
def Un.any(u:Un fs ex H H1 h h1)(q:h.get? b=ι ob)(n:H b=ν)(hx:b∉ex):∃sl,h1.get? b=ι {ob with slots:=sl}:=by
 by_cases hb:b∈fs
 .exact u.slot b ob q n hb hx
 .exact{ob.slots,u.keep b ob q n hb hx}
def Un.kept(k:∀b u,h.get? b=ι u->h'.get? b=ι u):Un fs ex H H h h':=
 {λb ob q _ _ _=>k b ob q,λb ob q _ _ _=>{ob.slots,k b ob q},λ_ _ _ n _=>n,λb ob q _=>{ob,k b ob q},λ_ _ q=>q,λ_ _ _ q=>q,λ_ ps q=>{#[],by rw[q];simp}}
def Un.refl:Un fs ex H H h h:=Un.kept λ_ _ q=>q
def Un.laid(k:∀b u,h.get? b=ι u->h'.get? b=ι u)(hp:h.objs.size<=a)(hn:H a=ν):Un fs ex H (upd H a o) h h' where
 keep:=λb u q _ _ _=>k b u q
 slot:=λb u q _ _ _=>{u.slots,k b u q}
 free:=λb u q n _=>by rw[cH (jr (gJ (dz q) hp))];exact n
 there:=λb u q _=>{u,k b u q}
 tups:=λb xs q=>by rw[cH (jz q hn)];exact q
 kO:=λb u xs q=>by rw[cH (jz q hn)];exact q
 oE:=λb ps q=>{#[],by rw[cH (jz q hn),q];simp}
def Un.write(mu:HN (H x))(he:e=x∨H e=ι (.own x))(k:∀b u,b≠e->h.get? b=ι u->h'.get? b=ι u)(heo:∃u,h'.get? e=ι u):Un fs ex H (upd H x o) h h':=by
 have hx:∀b,H b=ν->b≠x:=λb n z=>by subst z;rw[n]at mu;exact mu
 have hb:∀b,H b=ν->b≠e:=λb n z=>by
  subst z;rcases he with r|r
  .exact hx b n r
  .rw[n]at r;cases r
 have hm:∀b u,H b=ι u->¬HN (ι u)->b≠x:=λb u q nm z=>by subst z;rw[q]at mu;exact nm mu
 refine{λb u q n _ _=>k b u (hb b n) q,λb u q n _ _=>{u.slots,k b u (hb b n) q},λb u q n _=>by rw[cH (hx b n)];exact n,λb u q _=>?_,
  λb xs q=>by rw[cH (hm b _ q λz=>z)];exact q,λb u xs q=>by rw[cH (hm b _ q λz=>z)];exact q,λb ps q=>{#[],by rw[cH (hm b _ q λz=>z),q];simp}}
 by_cases hbe:b=e
 .subst hbe;exact heo
 .exact{u,k b u hbe q}
def PD(h:Heap)(H:Hp):List Addr:=(gq h.objs.size).filter λa=>(H a).isSome
def wB(h:Heap)(H:Hp):Heap:=R9 h (PD h H)
def aS5(h:Heap)(H:Hp):(wB h H).objs.size=h.objs.size:=W.hideAll_size _ _
def aBl(e:h.get? b=ι o)(n:H b=ν):(wB h H).get? b=ι o:=
 W.hideAll_get _ e λhm=>by
  have q:(H b).isSome=true:=(sI.mp hm).2;rw[n]at q;simp at q
def aMl(e:(wB h H).get? b=ι o):h.get? b=ι o/\H b=ν:=by
 have e':h.get? b=ι o:=W.of_hideAll (PD h H) e;exists e';cases q:H b with
 |none=>rfl
 |some x=>
  have hm:b∈PD h H:=sI.mpr {gZ.mpr (dz e'),by simp[q]};have z:(wB h H).get? b=ν:=W.hideAll_none (PD h H) hm;rw[z]at e;cases e
structure Mod(K:aD)(mg:μ)(base:Heap):Prop where
 zF:K.In base
 glob:base.Ns mainGlobals mg
 blt:∃mb,base.Ns builtinsNs mb/\∀x:Str,x≠ "__name__" -> mb x=bootBuiltins x
 nolimit:base.NoLimit
 digits:base.NoDigits
 seer:base.NoSeer
structure Cx where
 prog:Program
 w:World
 K:aD
 mg:μ
 base:Heap
 A:Around
 N:List Str
 s₀:Shared
 H₀:Hp
 env:Env
 outer:List Env
 stack:List Env
 ex:List Addr
 fn:Str->Bool
 calm:Bool
 pn:List (Addr×Obj)
 xe:χ
def frs(l:List Env):List Addr:=l.filterMap (·.frame)
abbrev Cx.fs(X:Cx):List Addr:=frs X.outer
def Pk(sc:Scope)(x:Str):Prop:=sc.names.lookup x=ι .local∨sc.names.lookup x=ι .cell∨sc.names.lookup x=ι .free
def Loc(sc:Scope)(x:Str):Prop:=sc.names.lookup x=ι .local∨sc.names.lookup x=ι .cell
def Look(env:Env)(h:Heap)(m:μ)(x:Str)(u:Value):Prop:=
 (env.kindOf x=ι .local/\m x=ι u)∨((env.kindOf x=ι .cell∨env.kindOf x=ι .free)/\∃c,env.cells.lookup x=ι c/\h.IsCell c (ι u))
structure Cx.Ok(X:Cx):Prop where
 mod:Mod X.K X.mg X.base
 kind:X.env.scope.kind=.function
 glob:X.env.globals=mainGlobals
 blt:X.env.builtins=builtinsNs
 above:X.s₀.heap.objs.size<=X.env.locals
 inj:∀x y c,X.env.cells.lookup x=ι c->X.env.cells.lookup y=ι c->x=y
 has:∀x,(X.env.kindOf x=ι .cell∨X.env.kindOf x=ι .free)->∃c,X.env.cells.lookup x=ι c
 cab:∀x c,X.fn x=true->X.env.cells.lookup x=ι c->X.s₀.heap.objs.size<=c
 hd:X.calm=true->X.A.handled=ν
 frames:X.A.frames=ι X.stack
 stk:X.stack=X.outer∨(X.stack=X.env::X.outer/\X.env.frame=ι X.env.locals)
 Yh:∀b∈X.ex,b≠X.env.locals/\∀x c,X.env.cells.lookup x=ι c->c≠b
 bs:∀b o,X.base.get? b=ι o->X.s₀.heap.get? b=ι o/\X.H₀ b=ν
 uM:X.base.objs.size<=X.s₀.heap.objs.size
 Ck:∀b o,X.base.get? b=ι o->b∉X.ex
 Ei:∀b∈X.ex,b∉X.fs
 qd:X.s₀.heap.FunFrames X.base X.outer
 zX:∀b∈X.fs,X.H₀ b=ν
 tree:X.prog.given.tree=ν
 top:∃e l,X.stack=e::l/\e.scope.isGenerator=false/\e.scope.isCoroutine=false/\e.builtins=builtinsNs/\e.globals=mainGlobals
structure Inv(X:Cx)(π:List (Addr×Obj))(σ:List (Option V))(H:Hp)(s:Shared):Prop where
 ok:X.Ok
 os:s.os=X.s₀.os
 bare:AllBare s.gens
 base:Un X.fs X.ex X.H₀ H X.s₀.heap s.heap
 loc:∃m,s.heap.Ns X.env.locals m/\∀(i:Nat)(x:Str)(v:V),X.N[i]?=ι x->σ[i]?=ι (ι v)->Pk X.env.scope x->∃u,RelV v u/\Look X.env s.heap m x u
 cell:∀x c,X.env.cells.lookup x=ι c->∃v,s.heap.IsCell c v
 free:H X.env.locals=ν
 oO:∀x c,X.env.cells.lookup x=ι c->H c=ν
 pin:∀p∈X.pn++π,s.heap.get? p.1=ι p.2/\H p.1=ν/\p.1≠X.env.locals/\p.1∉X.fs/\∀v,p.2.data≠ .cell v
 hok:fP X.prog X.w H s.heap
 len:σ.length=X.N.length
section
variable {X:Cx}{π:List (Addr×Obj)}{σ:List (Option V)}{H H':Hp}{s:Shared}{h':Heap}
section
variable {g':Array GenState}{t' i:Nat}{d':Drawn}{ch:List Addr}{x:Str}{v:V}{u:Value}
def Cx.Ok.aKE(ok:X.Ok)(e:X.base.get? b=ι o):b∉X.fs:=λhb=>by
 have:=(ok.qd.mem hb).1;rw[e]at this;cases this
theorem Inv.bs(I:Inv X π σ H s):∀b o,X.base.get? b=ι o->s.heap.get? b=ι o/\H b=ν:=λb o e=>
 {I.base.keep b o (I.ok.bs b o e).1 (I.ok.bs b o e).2 (I.ok.aKE e) (I.ok.Ck b o e),I.base.free b o (I.ok.bs b o e).1 (I.ok.bs b o e).2 (I.ok.Ck b o e)}
def Inv.bk(I:Inv X π σ H s):∀b o,X.base.get? b=ι o->s.heap.get? b=ι o:=λb o e=>(I.bs b o e).1
theorem Inv.mod(I:Inv X π σ H s):Mod X.K X.mg X.base:=I.ok.mod
def Inv.dR(I:Inv X π σ H s):X.K.In s.heap:=I.ok.mod.zF.keeps I.bk
theorem Inv.lt(I:Inv X π σ H s):X.env.locals<s.heap.objs.size:=let⟨_,hn,_⟩:=I.loc;hn.lt
def Inv.sz(I:Inv X π σ H s):X.s₀.heap.objs.size<=s.heap.objs.size:=cM I.ok.above (iR I.lt)
def Inv.aQk(I:Inv X π σ H s)(h:s.heap.objs.size<=a):a∉X.fs:=λhb=>by
 obtain⟨_,o,ho,_⟩:=I.ok.qd.mem hb;exact absurd (gJ (dz ho) (cM I.sz h)) (n6 _)
def Inv.xW(I:Inv X π σ H s):∀x c,X.env.cells.lookup x=ι c->c≠X.env.locals:=λx c e z=>by
 obtain⟨v,o,ho,hd⟩:=I.cell x c e;obtain⟨m,⟨o',es,ep,ho',hd',_⟩,_⟩:=I.loc;rw[z,ho']at ho;cases ho;rw[hd']at hd;cases hd
theorem Inv.qd(I:Inv X π σ H s):s.heap.FunFrames X.base X.outer:=by
 have all:∀(l:List Env),(∀b∈frs l,b∈X.fs)->X.s₀.heap.FunFrames X.base l->s.heap.FunFrames X.base l:=by
  intro l;induction l with
  |nil=>intro _ _;trivial
  |cons env r ih=>
   intro hs hl;obtain⟨hk,⟨L,o,hf,hn,ho,hd⟩,hr⟩:=hl;have hL:L∈X.fs:=hs L (by unfold frs;rw[Yx,hf];exact iY);obtain⟨sl,e⟩:=I.base.slot L o ho (I.ok.zX L hL) hL λz=>I.ok.Ei L z hL;exact{hk,{L,_,hf,hn,e,hd},ih (λb hb=>hs b (by unfold frs;rw[Yx,hf];exact fM _ hb)) hr}
 exact all X.outer (λ_ hb=>hb) I.ok.qd
theorem Inv.stack(I:Inv X π σ H s):s.heap.FunFrames X.base X.stack:=by
 rcases I.ok.stk with e|⟨e,hf⟩
 .rw[e];exact I.qd
 .rw[e];intros m hn _ I.loc;refine .cons (by rw[I.ok.kind];decide) hf hn ?_ I.qd;exact Heap.get?_none_of_le (cM I.ok.uM I.ok.above)
def Inv.Tg(I:Inv X π σ H s):∀b∈frs X.stack,b∈X.env.locals::X.fs:=λb hb=>by
 rcases I.ok.stk with e|⟨e,hf⟩
 .rw[e]at hb;exact fM _ hb
 .rw[e]at hb;unfold frs at hb;rw[Yx,hf]at hb;exact hb
def Inv.sQ(I:Inv X π σ H s):∀b∈frs X.stack,H b=ν:=λb hb=>by
 rcases c7.mp (I.Tg b hb)with e|hb
 .rw[e];exact I.free
 .obtain⟨_,o,ho,_⟩:=I.ok.qd.mem hb;exact I.base.free b o ho (I.ok.zX b hb) λz=>I.ok.Ei b z hb
def Inv.step(I:Inv X π σ H s)
  (hch:∀b∈ch,(b∈X.ex∨X.s₀.heap.objs.size<=b)/\b≠X.env.locals/\(∀x c,X.env.cells.lookup x=ι c->c≠b)/\∀p∈X.pn++π,p.1≠b)
  (keep:∀b o,b≠X.env.locals->b∉X.fs->b∉ch->s.heap.get? b=ι o->H b=ν->h'.get? b=ι o)
  (slot:∀b o,b≠X.env.locals->b∈X.fs->b∉ch->s.heap.get? b=ι o->H b=ν->∃sl,h'.get? b=ι {o with slots:=sl}) (free:∀b o,b∉ch->s.heap.get? b=ι o->H b=ν->H' b=ν)
  (there:∀b o,b∉ch->s.heap.get? b=ι o->∃o',h'.get? b=ι o')
  (tups:∀b xs,H b=ι (.tup xs)->H' b=ι (.tup xs)) (kO:∀b o u,H b=ι (.gP o u)->H' b=ι (.gP o u)) (oE:∀b ps,H b=ι (.uK ps)->∃more,H' b=ι (.uK (ps++more)))
  (ns:∀m,s.heap.Ns X.env.locals m->h'.Ns X.env.locals m) (hok:fP X.prog X.w H' h') (hg:AllBare g'):
  Inv X π σ H' {s with heap:=h',gens:=g',drawn:=d',toks:=t'}:=by
 have neL:∀b o,X.s₀.heap.get? b=ι o->b≠X.env.locals:=λb o e=>jr (gJ (dz e) I.ok.above);have Tz:∀b o,X.s₀.heap.get? b=ι o->b∉X.ex->b∉ch:=λb o e hx hb=>by
  rcases(hch b hb).1 with z|z
  .exact hx z
  .exact absurd (gJ (dz e) z) (n6 _)
 have cellK:∀x c,X.env.cells.lookup x=ι c->∀v,s.heap.IsCell c v->h'.IsCell c v:=λx c e v ⟨o,ho,hd⟩=>by
  have Ii:c∉ch:=λz=>(hch c z).2.2.1 x c e rfl;by_cases hc:c∈X.fs
  .obtain⟨sl,q⟩:=slot c o (I.xW x c e) hc Ii ho (I.oO x c e);exact{_,q,hd}
  .exact{o,keep c o (I.xW x c e) hc Ii ho (I.oO x c e),hd}
 refine{I.ok,I.os,hg,{λb o e n hb hx=>?_,λb o e n hb hx=>?_,λb o e n hx=>?_,λb o e hx=>?_,λb xs e=>tups b xs (I.base.tups b xs e),λb o xs e=>kO b o xs (I.base.kO b o xs e),λb ps e=>?_},?_,λx c e=>?_,?_,λx c e=>?_,λp hp=>?_,hok,I.len}
 .exact keep b o (neL b o e) hb (Tz b o e hx) (I.base.keep b o e n hb hx) (I.base.free b o e n hx)
 .obtain⟨sl,e1⟩:=I.base.slot b o e n hb hx;obtain⟨sl',e2⟩:=slot b _ (neL b o e) hb (Tz b o e hx) e1 (I.base.free b o e n hx);exact{sl',(e2)}
 .obtain⟨o',e1⟩:=I.base.there b o e hx;exact free b o' (Tz b o e hx) e1 (I.base.free b o e n hx)
 .obtain⟨o',e1⟩:=I.base.there b o e hx;exact there b o' (Tz b o e hx) e1
 .obtain⟨m1,e1⟩:=I.base.oE b ps e;obtain⟨m2,e2⟩:=oE b _ e1;exact{m1++m2,by rw[e2,sx]}
 .intros m hn hl I.loc;refine{m,ns m hn,λi x v e1 e2 e3=>?_};obtain⟨u,r,l⟩:=hl i x v e1 e2 e3;exists u,r;rcases l with l|⟨k,c,e,z⟩
  .exact .inl l
  .exact .inr {k,c,e,cellK x c e _ z}
 .obtain⟨v,z⟩:=I.cell x c e;exact{v,cellK x c e v z}
 .obtain⟨m,⟨o,_,_,ho,_⟩,_⟩:=I.loc;exact free _ o (λz=>(hch _ z).2.1 rfl) ho I.free
 .obtain⟨v,o,ho,hd⟩:=I.cell x c e;exact free c o (λz=>(hch c z).2.2.1 x c e rfl) ho (I.oO x c e)
 .obtain⟨e,n,ne,nf,d⟩:=I.pin p hp;have Ii:p.1∉ch:=λz=>(hch p.1 z).2.2.2 p hp rfl;exact{keep p.1 p.2 ne nf Ii e n,free p.1 p.2 Ii e n,ne,nf,d}
def Inv.un(I:Inv X π σ H s)(u:Un X.fs [] H H' s.heap h')(hok:fP X.prog X.w H' h'):Inv X π σ H' {s with heap:=h',toks:=t'}:=by
 obtain⟨m,⟨o,es,ep,ho,r⟩,_⟩:=id I.loc;obtain⟨sl,hL⟩:=u.any ho I.free (by simp);exact I.step (g':=s.gens) (d':=s.drawn) (ch:=[]) (λ_ z=>nomatch z) (λb o _ hb _ e n=>u.keep b o e n hb (by simp)) (λb o _ hb _ e n=>u.slot b o e n hb (by simp)) (λb o _ e n=>u.free b o e n (by simp)) (λb o _ e=>u.there b o e (by simp)) u.tups u.kO u.oE (λm' hm=>by
  intros o' es' ep' ho' r' hm;rw[ho]at ho';cases ho';exact{_,es',ep',hL,r'}) hok I.bare
def Inv.call(I:Inv X π σ H s)(u:Un (frs X.stack) ch H H' s.heap h')(hok:fP X.prog X.w H' h')(hg:AllBare g')
  (hch:∀b∈ch,(b∈X.ex∨X.s₀.heap.objs.size<=b)/\b≠X.env.locals/\(∀x c,X.env.cells.lookup x=ι c->c≠b)/\∀p∈X.pn++π,p.1≠b):
  Inv X π σ H' {s with heap:=h',gens:=g',drawn:=d',toks:=t'}:=by
 obtain⟨m,⟨o,es,ep,ho,r⟩,_⟩:=id I.loc;obtain⟨sl,hL⟩:=u.any ho I.free λz=>(hch _ z).2.1 rfl;exact I.step (ch:=ch) hch (λb o hL hb hc e n=>u.keep b o e n (λz=>(c7.mp (I.Tg b z)).elim hL hb) hc) (λb o _ _ hc e n=>u.any e n hc) (λb o hc e n=>u.free b o e n hc) (λb o hc e=>u.there b o e hc) u.tups u.kO u.oE (λm' hm=>by
  intros o' es' ep' ho' r' hm;rw[ho]at ho';cases ho';exact{_,es',ep',hL,r'}) hok hg
def Inv.turned(I:Inv X π σ H s)(k:∀b o,b≠it->s.heap.get? b=ι o->h'.get? b=ι o)(hn:H it=ν)(hL:it≠X.env.locals)
  (h1:it∈X.ex∨X.s₀.heap.objs.size<=it)(h2:∀x c,X.env.cells.lookup x=ι c->c≠it)(h3:∀p∈X.pn++π,p.1≠it):Inv X π σ H {s with heap:=h',toks:=t'}:=by
 have nit:∀b u,H b=ι u->b≠it:=λb u e z=>by rw[z,hn]at e;cases e
 refine I.step (g':=s.gens) (d':=s.drawn) (ch:=[it]) (λb hb=>?_) (λb o _ _ hc e _=>k b o (λz=>hc (by simp[z])) e) (λb o _ _ hc e _=>{o.slots,k b o (λz=>hc (by simp[z])) e}) (λ_ _ _ _ n=>n)
  (λb o hc e=>{o,k b o (λz=>hc (by simp[z])) e}) (λ_ _ e=>e) (λ_ _ _ e=>e) (λb ps e=>{#[],by rw[e];simp}) (λm hm=>?_) (λb u e=>?_) I.bare
 .have e:b=it:=by simpa using hb
  subst e;exact{h1,hL,h2,(h3)}
 .intros o es ep ho r hm;exact{o,es,ep,k _ o (jB hL) ho,r}
 .refine(I.hok b u e).stay (λc v hc q=>k c v ?_ q) (λ_ q=>q) λ_ _ q=>q;rcases hc with z|z
  .rw[z];exact nit b u e
  .exact nit c _ z
def Inv.tok(I:Inv X π σ H s)(t:Nat):Inv X π σ H {s with toks:=t}:=I.un (h':=s.heap) (t':=t) Un.refl I.hok
theorem Inv.kept{t':Nat}(I:Inv X π σ H s)(k:∀b u,s.heap.get? b=ι u->h'.get? b=ι u):Inv X π σ H {s with heap:=h',toks:=t'}:=I.un (Un.kept k) (I.hok.kept k)
theorem Inv.laid{t':Nat}(I:Inv X π σ H s)(k:∀b u,s.heap.get? b=ι u->h'.get? b=ι u)(hp:s.heap.objs.size<=a)(new:fB X.prog X.w (upd H a o) h' a o):
  Inv X π σ (upd H a o) {s with heap:=h',toks:=t'}:=I.un (Un.laid k hp (I.hok.fresh hp)) (I.hok.laid k hp new)
theorem Inv.write{x:Addr}{t':Nat}(I:Inv X π σ H s)(mu:HN (H x))(he:e=x∨H e=ι (.own x))(k:∀b u,b≠e->s.heap.get? b=ι u->h'.get? b=ι u)(heo:∃u,h'.get? e=ι u)
  (new:fB X.prog X.w (upd H x o) h' x o):Inv X π σ (upd H x o) {s with heap:=h',toks:=t'}:=I.un (Un.write mu he k heo) (I.hok.write mu he k heo new)
def Inv.XW(I:Inv X π σ H s)(h:∀p∈Er,s.heap.get? p.1=ι p.2/\H p.1=ν/\p.1≠X.env.locals/\p.1∉X.fs/\∀v,p.2.data≠ .cell v):Inv X Er σ H s:=
 {I.ok,I.os,I.bare,I.base,I.loc,I.cell,I.free,I.oO,λp hp=>(ig.mp hp).elim (λz=>I.pin p (YX _ z)) (h p),I.hok,I.len}
def ZM{N:List Str}(hN:N.Nodup){i j:Nat}{x:Str}(a:N[i]?=ι x)(b:N[j]?=ι x):i=j:=by
 obtain⟨h1,e1⟩:=List.getElem?_eq_some_iff.mp a;obtain⟨h2,e2⟩:=List.getElem?_eq_some_iff.mp b;exact(List.getElem_inj hN).mp (e1.trans e2.symm)
def aFZ(I:Inv X π σ H s)(hN:X.N.Nodup)(hi:X.N[i]?=ι x)(hx:Loc X.env.scope x)(r:RelV v u)
  (h:∀s',Inv X π (σ.set i (ι v)) H s'->(∃a,Ig a s.heap s'.heap/\(a=X.env.locals∨X.env.cells.lookup x=ι a))->Q () s')(hf:X.fn x=true∨X.env.scope.names.lookup x=ι .local:=by trivial):wpAny M A (storeName X.env x u) Q E s:=by
 obtain⟨m,hn,hl⟩:=id I.loc;have hcls:(X.env.scope.kind== .class||(X.env.scope.kind== .module&&X.env.locals != X.env.globals))=false:=by rw[I.ok.kind];rfl
 have hiσ:i < σ.length:=by rw[I.len];exact(List.getElem?_eq_some_iff.mp hi).1
 have xW:=I.xW;have tracked:∀{a:Addr} {h':Heap},(∃o,s.heap.get? a=ι o/\H a=ν)->Ig a s.heap h'->fP X.prog X.w H h':=λ{a h'} ha hs b ob e=>by
  intros _ _ hfree ha;refine(I.hok b ob e).stay (λc w' hc q=>(hs.2 c ?_).trans q) (λ_ q=>q) λ_ _ q=>q;rintro rfl;rcases hc with rfl|hc
  .rw[hfree]at e;cases e
  .rw[hfree]at hc;cases hc
 rcases hx with hk|hk
 .refine wpAny_storeName_local hk hn (λh' hn' hs=>?_) hcls;obtain⟨oL,_,_,hoL,_⟩:=id hn;refine h _ {I.ok,I.os,I.bare,{λb o e n hb hx=>?_,λb o e n hb hx=>?_,I.base.free,λb o e hx=>?_,I.base.tups,I.base.kO,I.base.oE},{_,hn',λj y v' e1 e2 e3=>?_},λy c e=>?_,I.free,I.oO,λp hp=>?_,tracked {oL,hoL,(I.free)} hs,by simpa using I.len} {_,hs,.inl rfl}
  .exact(hs.2 b (jr (gJ (dz e) I.ok.above))).trans (I.base.keep b o e n hb hx)
  .obtain⟨sl,e1⟩:=I.base.slot b o e n hb hx;exact{sl,(hs.2 b (jr (gJ (dz e) I.ok.above))).trans e1}
  .obtain⟨o',e1⟩:=I.base.there b o e hx;exact{o',(hs.2 b (jr (gJ (dz e) I.ok.above))).trans e1}
  .by_cases hj:j=i
   .subst hj;rw[hi]at e1;cases e1;rw[List.getElem?_set_self hiσ]at e2;cases e2;exact{u,r,.inl {hk,by simp}}
   .rw[List.getElem?_set_ne (jB hj)]at e2;obtain⟨u',r',q⟩:=hl j y v' e1 e2 e3;exists u',r';rcases q with⟨k,e⟩|⟨k,c,e,z⟩
    .refine .inl {k,?_};have:y≠x:=λe=>hj (ZM hN e1 (e▸hi));simp[this,e]
    .exact .inr {k,c,e,z.sameBut hs (xW y c e)}
  .obtain⟨w',z⟩:=I.cell y c e;exact{w',z.sameBut hs (xW y c e)}
  .obtain⟨e,n,ne,nf,d⟩:=I.pin p hp;exact{(hs.2 p.1 ne).trans e,n,ne,nf,d}
 .have hfn:X.fn x=true:=by
   rcases hf with z|z
   .exact z
   .rw[z]at hk;cases hk
  obtain⟨c,hc⟩:=I.ok.has x (.inl hk);obtain⟨w',z⟩:=I.cell x c hc;refine wpAny_storeName_cell I.ok.kind hk hc z (λh' hc' hs=>?_);obtain⟨oc,hoc,aDL⟩:=id z;refine h {s with heap:=h'} {I.ok,I.os,I.bare,{λb o e n hb hx=>?_,λb o e n hb hx=>?_,I.base.free,λb o e hx=>?_,I.base.tups,I.base.kO,I.base.oE},{m,hn.sameBut hs (jB (xW x c hc)),λj y v' e1 e2 e3=>?_},λy c' e=>?_,I.free,I.oO,λp hp=>?_,tracked {oc,hoc,I.oO x c hc} hs,by simpa using I.len} {c,hs,.inr hc}
  .exact(hs.2 b (jr (gJ (dz e) (I.ok.cab x c hfn hc)))).trans (I.base.keep b o e n hb hx)
  .obtain⟨sl,e1⟩:=I.base.slot b o e n hb hx;exact{sl,(hs.2 b (jr (gJ (dz e) (I.ok.cab x c hfn hc)))).trans e1}
  .obtain⟨o',e1⟩:=I.base.there b o e hx;exact{o',(hs.2 b (jr (gJ (dz e) (I.ok.cab x c hfn hc)))).trans e1}
  .by_cases hj:j=i
   .subst hj;rw[hi]at e1;cases e1;rw[List.getElem?_set_self hiσ]at e2;cases e2;exact{u,r,.inr {.inl hk,c,hc,hc'}}
   .rw[List.getElem?_set_ne (jB hj)]at e2;obtain⟨u',r',q⟩:=hl j y v' e1 e2 e3;exists u',r';rcases q with q|⟨k,c',e,z'⟩
    .exact .inl q
    .refine .inr {k,c',e,z'.sameBut hs ?_};rintro rfl;exact hj (ZM hN e1 (I.ok.inj _ _ _ e hc▸hi))
  .by_cases hcc:c'=c
   .subst hcc;exact{_,hc'}
   .obtain⟨w2,z2⟩:=I.cell y c' e;exact{w2,z2.sameBut hs hcc}
  .obtain⟨e,n,ne,nf,d⟩:=I.pin p hp;refine{(hs.2 p.1 ?_).trans e,n,ne,nf,d};intro q;rw[q,hoc]at e;have q':oc=p.2:=pL e;exact d w' (by rw[<-q'];exact aDL)
def Gx(I:Inv X π σ H s)(hN:X.N.Nodup)(hi:X.N[i]?=ι x)(hx:Loc X.env.scope x)(r:RelV v u)
  (h:∀s',Inv X π (σ.set i (ι v)) H s'->Q () s')(hf:X.fn x=true∨X.env.scope.names.lookup x=ι .local:=by trivial):wpAny M A (storeName X.env x u) Q E s:=
 aFZ I hN hi hx r (λs' I' _=>h s' I') hf
def Inv.ky{s':Shared}(I:Inv X π σ H s)(ho:s'.os=s.os)(u:Un (frs X.stack) ch H H' s.heap s'.heap)(hok:fP X.prog X.w H' s'.heap)(hg:AllBare s'.gens)
  (hch:∀b∈ch,(b∈X.ex∨X.s₀.heap.objs.size<=b)/\b≠X.env.locals/\(∀x c,X.env.cells.lookup x=ι c->c≠b)/\∀p∈X.pn++π,p.1≠b):Inv X π σ H' s':=by
 intros h' g' d' t' o' s';have e:o'=s.os:=ho;subst e;exact I.call (g':=g') (t':=t') (d':=d') u hok hg hch
end
end
abbrev XK:=Value->Option Addr->Hp->Prop
abbrev St:=List (Option V)
abbrev VK:=V->Hp->Prop
abbrev TE:=St->Hp->VK->Prop
abbrev TT:=St->Hp->(Bool->Hp->Prop)->Prop
abbrev TA:=St->Hp->(τ->Hp->Prop)->Prop
structure Ends where
 nx:St->Hp->Prop
 rt:VK
 bk:St->Hp->Prop:=λ_ _=>False
 ct:St->Hp->Prop:=λ_ _=>False
abbrev TS:=Ends->St->Hp->Prop
def EP(X:Cx)(π:List (Addr×Obj))(σ:St)(Q:VK)(u:Value)(s':Shared):Prop:=∃v H',Inv X π σ H' s'/\RelV v u/\Q v H'
def TP(X:Cx)(π:List (Addr×Obj))(σ:St)(Q:Bool->Hp->Prop)(b:Bool)(s':Shared):Prop:=∃H',Inv X π σ H' s'/\Q b H'
def AP(X:Cx)(π:List (Addr×Obj))(σ:St)(Q:τ->Hp->Prop)(us:List Value)(s':Shared):Prop:=∃vs H',Inv X π σ H' s'/\Vals vs us/\Q vs H'
def SP(X:Cx)(π:List (Addr×Obj))(D:Ends)(f:Flow)(s':Shared):Prop:=
 match f with
 |.next=>∃σ' H',Inv X π σ' H' s'/\D.nx σ' H'
 |.brk=>∃σ' H',Inv X π σ' H' s'/\D.bk σ' H'
 |.cont=>∃σ' H',Inv X π σ' H' s'/\D.ct σ' H'
 |.ret u=>∃v σ' H',Inv X π σ' H' s'/\RelV v u/\D.rt v H'
def PE(X:Cx)(e:Expr)(t:TE):Prop:=
 ∀π s σ H (Q:VK),Inv X π σ H s->t σ H Q->wpAny (model X.prog X.w) X.A (eval e X.env) (EP X π σ Q) X.xe s
def PT(X:Cx)(e:Expr)(t:TT):Prop:=
 ∀π s σ H (Q:Bool->Hp->Prop),Inv X π σ H s->t σ H Q->wpAny (model X.prog X.w) X.A (isTrue e X.env (eval e X.env)) (TP X π σ Q) X.xe s
def PW(X:Cx)(e:Expr)(t:TT):Prop:=
 ∀(whole:Sem Value)(π:List (Addr×Obj))(s:Shared)(σ:St)(H:Hp)(Q:Bool->Hp->Prop),Inv X π σ H s->t σ H Q->wpAny (model X.prog X.w) X.A (isTrue e X.env whole) (TP X π σ Q) X.xe s
def PW.pt(h:PW X e t):PT X e t:=h _
def PA(X:Cx)(es:List Expr)(t:TA):Prop:=
 ∀(pos:Pos)(π:List (Addr×Obj))(s:Shared)(σ:St)(H:Hp)(Q:τ->Hp->Prop),Inv X π σ H s->t σ H Q->wpAny (model X.prog X.w) X.A (spliced (backTo pos (starEach es X.env))) (AP X π σ Q) X.xe s
def PS(X:Cx)(st:Stmt)(t:TS):Prop:=
 ∀π s σ H (D:Ends),Inv X π σ H s->t D σ H->wpAny (model X.prog X.w) X.A (exec st X.env) (SP X π D) X.xe s
def jN(X:Cx)(st:List Stmt)(t:TS):Prop:=
 ∀π s σ H (D:Ends),Inv X π σ H s->t D σ H->wpAny (model X.prog X.w) X.A (execs st X.env) (SP X π D) X.xe s
def aY(h:wpAny M A t Q E s)(hQ:∀a s,Q a s->Q' a s):wpAny M A t Q' E s:=wpAny_mono h hQ λ_ _ x=>x
section
variable {X:Cx}
section
variable {x:Str}{Q:χ}{σ:St}{H:Hp}{v:V}
inductive aQq(i:Nat)(σ:St)(H:Hp)(Q:VK):Prop|mk(z:V)(_:σ[i]?=ι (ι z))(_:Q z H)
def DR(i:Nat):TE:=λσ H Q=>aQq i σ H Q
def tC(v:V):TE:=λ_ H Q=>Q v H
def av7(hN:X.N[i]?=ι x)(hv:Pk X.env.scope x)(hd:(x==("__debug__":Str))=false:=by decide)(hcd:(x==("__classdict__":Str))=false:=by decide):PE X (.Name x pos) (DR i):=by
 intro π s σ H Q I h;intros v e h h;intros m hn hl I.loc;obtain⟨u,r,l⟩:=hl i x v hN e hv;have fin:EP X π σ Q u s:={v,H,I,r,(h)};rcases l with⟨hk,hm⟩|⟨hk,c,hc,hcell⟩
 .exact wpAny_Name (wpAny_loadName_local I.ok.kind hk hn hm fin) hd
 .rcases hk with hk|hk
  .exact wpAny_Name (wpAny_loadName_cell I.ok.kind hk hc hcell fin) hd
  .exact wpAny_Name (wpAny_loadName_free I.ok.kind hk hc hcell fin hcd) hd
def aP{i j pos}:PE X (.Constant (.int i) j pos) (tC (.int i)):=λ_ _ _ H _ I h=>wpAny_Constant_int {.int i,H,I.tok _,{()},h}
def lF{b j pos}:PE X (.Constant (.bool b) j pos) (tC (.bl b)):=λ_ _ _ H _ I h=>Constant_bool {.bl b,H,I,rfl,h}
def zu{j pos}:PE X (.Constant .none j pos) (tC .non):=λ_ _ _ H _ I h=>Constant_none {.non,H,I,rfl,h}
def fR{x j pos}:PE X (.Constant (.str x) j pos) (tC (.str x)):=λ_ _ _ H _ I h=>Calls.Constant_str {.str x,H,I.tok _,{()},h}
def Gl(X:Cx)(x:Str):Prop:=X.env.kindOf x=ι .globalImplicit
def qP(I:Inv X π σ H s)(hg:Gl X x)(hm:X.mg x=ι u)(h:Q u s)
  (hd:(x==("__debug__":Str))=false:=by decide):wpAny (model X.prog X.w) X.A (eval (.Name x pos) X.env) Q E s:=
 XA I.ok.kind hg (Calls.loadGlobal_global (by rw[I.ok.glob];exact I.mod.glob.keeps I.bk) hm h) hd
def vX(I:Inv X π σ H s)(hg:Gl X x)(hm:X.mg x=ν)(hv:bootBuiltins x=ι u)(h:Q u s)
  (hn:x≠ "__name__" := by decide)(hd:(x==("__debug__":Str))=false:=by decide):wpAny (model X.prog X.w) X.A (eval (.Name x pos) X.env) Q E s:=by
 intros mb h1 h2 I.mod.blt;exact XA I.ok.kind hg (Calls.loadGlobal_builtin (by rw[I.ok.glob];exact I.mod.glob.keeps I.bk) hm (by rw[I.ok.blt];exact h1.keeps I.bk) ((h2 x hn).trans hv) h) hd
def rq(hg:Gl X x)(hm:X.mg x=ι u)(r:RelV v u)(hd:(x==("__debug__":Str))=false:=by decide):PE X (.Name x pos) (tC v):=
 λ_ _ _ H _ I h=>qP I hg hm {v,H,I,r,(h)} hd
def aDO(hg:Gl X x)(hm:X.mg x=ν)(hv:bootBuiltins x=ι u)(r:RelV v u)(hn:x≠ "__name__" := by decide)(hd:(x==("__debug__":Str))=false:=by decide):PE X (.Name x pos) (tC v):=
 λ_ _ _ H _ I h=>vX I hg hm hv {v,H,I,r,(h)} hn hd
end
variable {a b:Expr}{ta tb:TE}{pos:Pos}
def PC(X:Cx)(op:CmpOp)(a b:Expr)(t:TE):Prop:=
 ∀π s σ H (Q:VK),Inv X π σ H s->t σ H Q->
  wpAny (model X.prog X.w) X.A (eval a X.env) (λv s₁=>wpAny (model X.prog X.w) X.A (eval b X.env) (λu s₂=>wpAny (model X.prog X.w) X.A (compareOp op v u) (EP X π σ Q) X.xe s₂) X.xe s₁) X.xe s
def To(b:Expr)(h:op≠ .In)(h2:op≠ .NotIn):behindInMarks op b=false:=by
 have e1:(op==CmpOp.In)=false:=by cases op<;>first|rfl|exact absurd rfl h
 have e2:(op==CmpOp.NotIn)=false:=by cases op<;>first|rfl|exact absurd rfl h2
 cases b<;>simp[behindInMarks,e1,e2]
def aSw(ta:TE):TE:=λσ H Q=>ta σ H λx H1=>Q (.bl (decide (x=.non))) H1
def aAc(ta:TE):TE:=λσ H Q=>ta σ H λx H1=>Q (.bl (!decide (x=.non))) H1
def RelV.UA(r:RelV x v):(v==Value.none)=decide (x=.non):=by
 cases x with
 |non=>cases r;rfl
 |bl _=>cases r;rfl
 |int _=>intros t rfl r;rfl
 |str _=>intros t rfl r;rfl
 |oh _=>intros t rfl r;rfl
 |flt _=>intros t rfl r;rfl
 |ref _=>cases r;rfl
 |ty _=>cases r;rfl
def Ar{j pos'}(ha:PE X a ta):PC X .Is a (.Constant .none j pos') (aSw ta):=by
 intro π s σ H Q I h;refine aY (ha π s σ H _ I h) λv s1 ⟨x,H1,I1,r1,q1⟩=>?_;exact Constant_none (is_none_gen {.bl _,H1,I1,by rw[r1.UA];rfl,q1})
def aRn{j pos'}(ha:PE X a ta):PC X .IsNot a (.Constant .none j pos') (aAc ta):=by
 intro π s σ H Q I h;refine aY (ha π s σ H _ I h) λv s1 ⟨x,H1,I1,r1,q1⟩=>?_;exact Constant_none (isnot_none_gen {.bl _,H1,I1,by rw[r1.UA];rfl,q1})
def tB(t:TE):TT:=λσ H Q=>t σ H λx H1=>∃c,x=.bl c/\Q c H1
def TL(h:PC X op a b t)(h1:behindInMarks op b=false:=by first|exact To _ ∅ ∅|rfl):PE X (.Compare a [op] [b] pos) t:=λπ s σ H Q I hw=>wpAny_Compare1 (h π s σ H Q I hw) h1
def tQ(h:PC X op a b t)(h1:behindInMarks op b=false:=by first|exact To _ ∅ ∅|rfl):PT X (.Compare a [op] [b] pos) (tB t):=by
 intro π s σ H Q I hw;refine wpAny_isTrue_Compare1 (aY (h π s σ H _ I hw) λv s1 h1=>aY h1 λu s2 h2=>aY h2 λc s3 ⟨x,H1,I1,r1,q1⟩=>?_) h1;intros d rfl q q1;cases r1;exact wpAny_truthy_bool {H1,I1,(q)}
def iD(h:PE X e t)(he:∀whole,isTrue e X.env whole=(do let v<-whole;standAt e.pos;holding [v] (truthy v)):=by intro _;rfl):PT X e (tB t):=by
 intro π s σ H Q I hw;refine isTrue_plain (aY (h π s σ H _ I hw) λv s1 ⟨x,H1,I1,r1,q1⟩=>?_) (he _);intros d rfl q q1;cases r1;exact wpAny_truthy_bool {H1,I1,(q)}
variable {tA Nz:TT}{rest:List Expr}
def aG3(t u:TT):TT:=λσ H Q=>t σ H λc H1=>if c=true then u σ H1 Q else Q false H1
def tOr(t u:TT):TT:=λσ H Q=>t σ H λc H1=>if c=true then Q true H1 else u σ H1 Q
def aI4(t:TT):TT:=λσ H Q=>t σ H λc H1=>Q (!c) H1
def yX(ha:PT X a tA):PW X (.BoolOp .And [a] pos) tA:=by
 intro wh π s σ H Q I h;refine isTrue_and (aY (ha π s σ H Q I h) λc s1 e=>?_);cases c with
 |true=>exact isTrue_and_nil e
 |false=>exact e
def qj(ha:PT X a tA):PW X (.BoolOp .Or [a] pos) tA:=by
 intro wh π s σ H Q I h;refine isTrue_or (aY (ha π s σ H Q I h) λc s1 e=>?_);cases c with
 |false=>exact isTrue_or_nil e
 |true=>exact e
def vK(ha:PT X a tA)(hb:PW X (.BoolOp .And (b::rest) pos) Nz):PW X (.BoolOp .And (a::b::rest) pos) (aG3 tA Nz):=by
 intro wh π s σ H Q I h;refine isTrue_and (aY (ha π s σ H _ I h) λc s1 ⟨H1,I1,q1⟩=>?_);cases c with
 |true=>exact hb wh π s1 σ H1 Q I1 q1
 |false=>exact{H1,I1,(q1)}
def lH(ha:PT X a tA)(hb:PW X (.BoolOp .Or (b::rest) pos) Nz):PW X (.BoolOp .Or (a::b::rest) pos) (tOr tA Nz):=by
 intro wh π s σ H Q I h;refine isTrue_or (aY (ha π s σ H _ I h) λc s1 ⟨H1,I1,q1⟩=>?_);cases c with
 |true=>exact{H1,I1,(q1)}
 |false=>exact hb wh π s1 σ H1 Q I1 q1
def jF(ha:PT X a tA):PT X (.UnaryOp .Not a pos) (aI4 tA):=by
 intro π s σ H Q I h;exact isTrue_not (ha π s σ H (λc H1=>Q (!c) H1) I h)
def aIa(ta tb:TE):TE:=λσ H Q=>ta σ H λx H1=>∃c,x=.bl c/\if c=true then tb σ H1 Q else Q (.bl false) H1
def aOj(ta tb:TE):TE:=λσ H Q=>ta σ H λx H1=>∃c,x=.bl c/\if c=true then Q (.bl true) H1 else tb σ H1 Q
def aw6(ta:TE):TE:=λσ H Q=>ta σ H λx H1=>∃c,x=.bl c/\Q (.bl (!c)) H1
def PN{op}(h:PE X a t):PE X (.BoolOp op [a] pos) t:=λπ s σ H Q I hw=>BoolOp_one (h π s σ H Q I hw)
def aLq(ha:PE X a ta)(hb:PE X (.BoolOp .And (b::rest) pos) tb):PE X (.BoolOp .And (a::b::rest) pos) (aIa ta tb):=by
 intro π s σ H Q I h;refine BoolOp_and (aY (ha π s σ H _ I h) λv s1 ⟨x,H1,I1,r1,q1⟩=>?_);intros c rfl q1 q1;cases r1;refine wpAny_truthy_bool ?_;cases c with
 |true=>exact hb π s1 σ H1 Q I1 q1
 |false=>exact{.bl false,H1,I1,rfl,q1}
def vn(ha:PE X a ta)(hb:PE X (.BoolOp .Or (b::rest) pos) tb):PE X (.BoolOp .Or (a::b::rest) pos) (aOj ta tb):=by
 intro π s σ H Q I h;refine BoolOp_or (aY (ha π s σ H _ I h) λv s1 ⟨x,H1,I1,r1,q1⟩=>?_);intros c rfl q1 q1;cases r1;refine wpAny_truthy_bool ?_;cases c with
 |false=>exact hb π s1 σ H1 Q I1 q1
 |true=>exact{.bl true,H1,I1,rfl,q1}
def w4(ha:PE X a ta):PE X (.UnaryOp .Not a pos) (aw6 ta):=by
 intro π s σ H Q I h;refine UnaryOp_ (aY (ha π s σ H _ I h) λv s1 ⟨x,H1,I1,r1,q1⟩=>?_);intros c rfl q1 q1;cases r1;exact not_of (wpAny_truthy_bool {.bl (!c),H1,I1,rfl,q1})
def tIf(t:TT)(ta tb:TE):TE:=λσ H Q=>t σ H λc H1=>if c=true then ta σ H1 Q else tb σ H1 Q
def C2(hc:PT X c tA)(ha:PE X a ta)(hb:PE X b tb):PE X (.IfExp c a b pos) (tIf tA ta tb):=by
 intro π s σ H Q I h;refine wpAny_IfExp (aY (hc π s σ H _ I h) λd s1 ⟨H1,I1,q1⟩=>?_);cases d with
 |true=>exact ha π s1 σ H1 Q I1 q1
 |false=>exact hb π s1 σ H1 Q I1 q1
end
def ak(K:aD)(H:Hp)(a:Addr)(xs:τ):Prop:=
 Rd H a (.lst xs)∨
  ∃(o:Obj) (its:Array Value) (n:Nat),K.lookup a=ι o/\o.cls=.type "list" /\ o.dict=ν/\o.data=.seq its n/\its.size<=sizeLine/\Vals xs its.toList
def ao(K:aD)(H:Hp)(a:Addr)(xs:τ):Prop:=
 Rd H a (.tup xs)∨
  ∃(o:Obj) (its:Array Value) (n:Nat),K.lookup a=ι o/\o.cls=.type "tuple" /\ o.data=.seq its n/\its.size<=sizeLine/\Vals xs its.toList
def aF7:Value->Option V
 |.none=>ι .non
 |.bool b=>ι (.bl b)
 |.int i _=>ι (.int i)
 |.str x _=>ι (.str x)
 |.bytes b _=>ι (.oh b)
 |.float b _=>ι (.flt b)
 |.ref a=>ι (.ref a)
 |.type n=>ι (.ty n)
 |_=>ν
def RelV.abs(r:RelV x u):aF7 u=ι x:=by
 cases x with
 |non=>cases r;rfl
 |bl _=>cases r;rfl
 |int _=>intros t rfl r;rfl
 |str _=>intros t rfl r;rfl
 |oh _=>intros t rfl r;rfl
 |flt _=>intros t rfl r;rfl
 |ref _=>cases r;rfl
 |ty _=>cases r;rfl
theorem RelV.inj(r:RelV x u)(q:RelV y u):x=y:=pL (r.abs.symm.trans q.abs)
theorem Vals.inj(h:Vals xs us)(h':Vals ys us):xs=ys:=by
 induction h generalizing ys with
 |nil=>cases h';rfl
 |cons r t ih=>
  cases h' with
  |cons r' t'=>rw[r.inj r',ih t']
section
variable {H:Hp}{a:Addr}{xs:τ}
def ak.of{K:aD}(h:H a=ι (.lst xs)):ak K H a xs:=.inl (.inl h)
def ao.of{K:aD}(h:H a=ι (.tup xs)):ao K H a xs:=.inl (.inl h)
def Inv.list(I:Inv X π σ H s)(h:ak X.K H a xs):∃its:List Value,Vals xs its/\PlainL s.heap a its.toArray/\xs.length<=sizeLine:=by
 rcases h with h|⟨o,its,n,hk,hc,hd,hs,hz,r⟩
 .obtain⟨z,its,n,r,e⟩:=h.ok I.hok;exact{its,r,{_,n,e,rfl,rfl,rfl},z}
 .refine{its.toList,r,{o,n,I.dR a o hk,hc,hd,by simpa using hs},?_};have e:=r.length;simp only[Qd]at e;lia
def Inv.tuple(I:Inv X π σ H s)(h:ao X.K H a xs):∃its:List Value,Vals xs its/\IsTup s.heap a its.toArray/\xs.length<=sizeLine:=by
 rcases h with h|⟨o,its,n,hk,hc,hs,hz,r⟩
 .obtain⟨z,its,r,p⟩:=h.ok I.hok;exact{its,r,p,(z)}
 .refine{its.toList,r,{o,I.dR a o hk,hc,n,by simpa using hs},?_};have e:=r.length;simp only[Qd]at e;lia
def Inv.WG(I:Inv X π σ H s)(h:ak X.K H a xs)(h':ak X.K H a ys):xs=ys:=by
 obtain⟨its,r,⟨o,n,e,_,_,d⟩,_⟩:=I.list h;obtain⟨its',r',⟨o',n',e',_,_,d'⟩,_⟩:=I.list h';rw[e]at e';cases e';rw[d]at d';injection d' with d1 _;have:its=its':=by simpa using congrArg UD d1
 subst this;exact r.inj r'
def Inv.aPk(I:Inv X π σ H s)(h:ao X.K H a xs)(h':ao X.K H a ys):xs=ys:=by
 obtain⟨its,r,⟨o,e,_,n,d⟩,_⟩:=I.tuple h;obtain⟨its',r',⟨o',e',_,n',d'⟩,_⟩:=I.tuple h';rw[e]at e';cases e';rw[d]at d';injection d' with d1 _;have:its=its':=by simpa using congrArg UD d1
 subst this;exact r.inj r'
end
abbrev Cx.wish(X:Cx)(E:χ):Cx:={X with xe:=E}
abbrev Cx.sW(X:Cx):Cx:=X.wish λ_ _=>False
theorem Cx.Ok.wish{X:Cx}(ok:X.Ok)(E:χ):(X.wish E).Ok:=
 {ok.mod,ok.kind,ok.glob,ok.blt,ok.above,ok.inj,ok.has,ok.cab,ok.hd,ok.frames,ok.stk,ok.Yh,ok.bs,ok.uM,ok.Ck,ok.Ei,ok.qd,ok.zX,ok.tree,(ok.top)}
def Cx.Ok.qW{X:Cx}{E:χ}(ok:(X.wish E).Ok):X.Ok:=
 {ok.mod,ok.kind,ok.glob,ok.blt,ok.above,ok.inj,ok.has,ok.cab,ok.hd,ok.frames,ok.stk,ok.Yh,ok.bs,ok.uM,ok.Ck,ok.Ei,ok.qd,ok.zX,ok.tree,(ok.top)}
section
variable {X:Cx}{π:List (Addr×Obj)}{σ:St}{H:Hp}{s:Shared}{E:χ}
theorem Inv.wish(I:Inv X π σ H s)(E:χ):Inv (X.wish E) π σ H s:={I.ok.wish E,I.os,I.bare,I.base,I.loc,I.cell,I.free,I.oO,I.pin,I.hok,I.len}
theorem Inv.qW(I:Inv (X.wish E) π σ H s):Inv X π σ H s:={I.ok.qW,I.os,I.bare,I.base,I.loc,I.cell,I.free,I.oO,I.pin,I.hok,(I.len)}
theorem SP.qW(h:SP (X.wish E) π D f s'):SP X π D f s':=by
 cases f with
 |next=>intros σ' H' I q h;exact{σ',H',I.qW,(q)}
 |brk=>intros σ' H' I q h;exact{σ',H',I.qW,(q)}
 |cont=>intros σ' H' I q h;exact{σ',H',I.qW,(q)}
 |ret u=>intros v σ' H' I r q h;exact{v,σ',H',I.qW,r,(q)}
theorem jN.sW{st:List Stmt}{t:TS}(h:jN X.sW st t):jN X st t:=λπ s σ H D I hw=>
 wpAny_mono (h π s σ H D (I.wish _) hw) (λ_ _ q=>q.qW) λ_ _ z=>False.elim z
end
section
variable {X:Cx}{st:Stmt}{rest:List Stmt}{t u:TS}{te:TE}
def Qm:TS:=λD σ H=>D.nx σ H
def aBX(t u:TS):TS:=λD σ H=>t {D with nx:=u D} σ H
def aW:jN X [] Qm:=λ_ _ σ H _ I h=>wpAny_execs_nil {σ,H,I,(h)}
def P4(h1:PS X st t)(h2:jN X rest u):jN X (st::rest) (aBX t u):=by
 intro π s σ H D I h;refine wpAny_execs_cons (aY (h1 π s σ H {D with nx:=u D} I h) λf s1 q=>?_);cases f with
 |next=>
  intros σ' H' I' q q;exact h2 π s1 σ' H' D I' q
 |ret v=>exact q
 |brk=>exact q
 |cont=>exact q
def aJ(h1:PS X st t):jN X [st] t:=by
 intro π s σ H D I h;refine wpAny_execs_cons (aY (h1 π s σ H D I h) λf s1 q=>?_);cases f with
 |next=>exact wpAny_execs_nil q
 |ret v=>exact q
 |brk=>exact q
 |cont=>exact q
def Inv.quiet(I:Inv X π σ H s):interactive X.env=false:=by simp[interactive,I.ok.kind]
def axw(te:TE):TS:=λD σ H=>te σ H λ_ H1=>D.nx σ H1
def fY(he:PE X e te)(hs:swapsWith e ν pos.line X.env=pure false:=by rfl):PS X (.Expr e pos) (axw te):=by
 intro π s σ H D I h;exact wpAny_Expr_any (aY (he π s σ H _ I h) λv s1 ⟨x,H1,I1,r1,q1⟩=>{σ,H1,I1,(q1)}) I.quiet hs
def aNN(te:TE):TS:=λD σ H=>te σ H D.rt
def aF(he:PE X e te):PS X (.Return (ι e) pos) (aNN te):=by
 intro π s σ H D I h;exact wpAny_Return_some (aY (he π s σ H _ I h) λv s1 ⟨x,H1,I1,r1,q1⟩=>{x,σ,H1,I1,r1,(q1)})
def QW(c:TT)(t u:TS):TS:=λD σ H=>c σ H λb H1=>if b=true then t D σ H1 else u D σ H1
def aV(hc:PT X c tc)(ha:jN X a t)(hb:jN X b u):PS X (.If c a b pos) (QW tc t u):=by
 intro π s σ H D I h;refine wpAny_If (aY (hc π s σ H _ I h) λd s1 ⟨H1,I1,q1⟩=>?_);cases d with
 |true=>exact ha π s1 σ H1 D I1 q1
 |false=>exact hb π s1 σ H1 D I1 q1
def aTG:TS:=λ_ _ _=>False
def jO:PS X st aTG:=λ_ _ _ _ _ _ h=>h.elim
end
abbrev TG:=V->St->Hp->(St->Hp->Prop)->Prop
abbrev uJ:=τ->St->Hp->(St->Hp->Prop)->Prop
def PG(X:Cx)(target:Expr)(t:TG):Prop:=
 ∀π s σ H (v:V) (u:Value) (Q:St->Hp->Prop),Inv X π σ H s->RelV v u->t v σ H Q->
  wpAny (model X.prog X.w) X.A (assign target X.env u) (λ_ s'=>∃σ' H',Inv X π σ' H' s'/\Q σ' H') X.xe s
def Av(X:Cx)(ts:List Expr)(t:uJ):Prop:=
 ∀π s σ H (vs:τ) (us:List Value) (Q:St->Hp->Prop),Inv X π σ H s->Vals vs us->t vs σ H Q->
  wpAny (model X.prog X.w) X.A (assignInOrder ((assignEach ts X.env).map (·.2)) us) (λ_ s'=>∃σ' H',Inv X π σ' H' s'/\Q σ' H') X.xe s
abbrev ace:=V->V->V->Hp->(Hp->Prop)->Prop
def NA(X:Cx)(t:ace):Prop:=
 ∀π s σ H (o i v:V) (ov iv u:Value) (Q:Hp->Prop),Inv X π σ H s->RelV o ov->RelV i iv->RelV v u->t o i v H Q->
  wpAny (model X.prog X.w) X.A (setItem ov iv u) (λ_ s'=>∃H',Inv X π σ H' s'/\Q H') X.xe s
def gU(i:Nat):TG:=λv σ H Q=>Q (σ.set i (ι v)) H
def YD(hN:X.N.Nodup)(hi:X.N[i]?=ι x)(hx:Loc X.env.scope x)(hf:X.fn x=true∨X.env.scope.names.lookup x=ι .local:=by trivial):PG X (.Name x pos) (gU i):=by
 intro π s σ H v u Q I r h;exact wpAny_assign_Name (Gx I hN hi hx r (λs' I'=>{_,H,I',h}) hf)
def af5:uJ:=λvs σ H Q=>vs=[]/\Q σ H
inductive aFs(t:TG)(u:uJ)(vs:τ)(σ:St)(H:Hp)(Q:St->Hp->Prop):Prop|mk(v:V)(r:τ)(_:vs=v::r)(_:t v σ H λσ' H'=>u r σ' H' Q)
def js(t:TG)(u:uJ):uJ:=λvs σ H Q=>aFs t u vs σ H Q
def B2:Av X [] af5:=by
 intro π s σ H vs us Q I r h;intros e h h;subst e;cases r;exact assignInOrder_nil {σ,H,I,(h)}
def RN(h1:PG X e t)(h2:Av X es u)
  (hs:(assignEach (e::es) X.env).map (·.2)=assign e X.env::(assignEach es X.env).map (·.2):=by rfl):Av X (e::es) (js t u):=by
 intro π s σ H vs us Q I r h;intros v vr e1 h h;subst e1;cases r with
 |cons r rr=>
  rw[hs];refine assignInOrder_cons (aY (h1 π s σ H _ _ _ I r h) λ_ s1 ⟨σ1,H1,I1,q1⟩=>?_);exact h2 π s1 σ1 H1 _ _ Q I1 rr q1
def Pj(K:aD)(n:Nat)(t:uJ):TG:=λv σ H Q=>∃a xs,v=.ref a/\ao K H a xs/\xs.length=n/\t xs σ H Q
def ax4(hc:X.calm=true)(h:Av X es t)
  (hn:(assignEach es X.env).length=n:=by rfl)(hst:(assignEach es X.env).findIdx? (·.1)=ν:=by rfl):PG X (.Tuple es k pos) (Pj X.K n t):=by
 intro π s σ H v u Q I r hw;intros a xs e1 hq hl hw hw;subst e1;cases r;obtain⟨its,rv,ht,hz⟩:=I.tuple hq;refine assign_Tuple_tuple (I.ok.hd hc) ht (by simp[hn,<-hl,rv.length]) hst λh' hx=>?_;have I1:Inv X π σ H {s with heap:=h'}:=I.kept (t':=s.toks) λb o e=>hx b o (jr (dz e)) e;exact h π _ σ H xs _ Q I1 (by simpa using rv) hw
def aJh(to ti:TE)(t:ace):TG:=λv σ H Q=>to σ H λo H1=>ti σ H1 λi H2=>t o i v H2 λH3=>Q σ H3
def vD(ho:PE X o to)(hi:PE X i ti)(hs:NA X t)
  (ha:∀v,assign (.Subscript o i pos) X.env v=(do
   let ov<-holding [v] (eval o X.env)
   let iv<-holding [v,ov] (eval i X.env)
   standAt pos
   holding [v,ov,iv] (setItem ov iv v)
   release [v,ov,iv] []):=by intro _;rfl):PG X (.Subscript o i pos) (aJh to ti t):=by
 intro π s σ H v u Q I r h;rw[ha];refine wpAny_bind (wpAny_holding (aY (ho π s σ H _ I h) λov s1 ⟨x,H1,I1,r1,q1⟩=>?_));refine wpAny_bind (wpAny_holding (aY (hi π s1 σ H1 _ I1 q1) λiv s2 ⟨y,H2,I2,r2,q2⟩=>?_));refine wpAny_bind (wpAny_standAt (wpAny_bind (wpAny_holding (aY (hs π s2 σ H2 x y v ov iv u _ I2 r1 r2 r q2) λ_ s3 ⟨H3,I3,q3⟩=>?_))));exact wpAny_release {σ,H3,I3,(q3)}
def Ey(te:TE)(g:TG):TS:=λD σ H=>te σ H λx H1=>g x σ H1 D.nx
def vU(he:PE X e te)(hg:PG X tg g)(hs:swapsWithSole [tg] e pos.line X.env=pure false:=by rfl)(hw:swappedStores [tg] e X.env=pure ν:=by rfl)
  (h1:(assignEach [tg] X.env).map (·.2)=[assign tg X.env]:=by rfl):PS X (.Assign [tg] e pos) (Ey te g):=by
 intro π s σ H D I h;refine wpAny_Assign_stores (aY (he π s σ H _ I h) λv s1 ⟨x,H1,I1,r1,q1⟩=>?_) hs hw;rw[h1];exact aY (hg π s1 σ H1 x v _ I1 r1 q1) λ_ s2 q=>q
def iw(hN:X.N.Nodup)(hi:X.N[i]?=ι x)(hx:Loc X.env.scope x)(he:PE X e te)(hs:swapsWith e (ι (.Name x pos')) pos.line X.env=pure false:=by rfl)(hf:X.fn x=true∨X.env.scope.names.lookup x=ι .local:=by trivial):
  PS X (.Assign [.Name x pos'] e pos) (Ey te (gU i)):=by
 intro π s σ H D I h;refine wpAny_Assign_Name (aY (he π s σ H _ I h) λv s1 ⟨y,H1,I1,r1,q1⟩=>?_) hs;exact Gx I1 hN hi hx r1 (λs2 I2=>{_,H1,I2,q1}) hf
def aCK(c:TT)(tb:TS):TS:=λD σ H=>∃W:Nat->St->Hp->Prop,(∃m,W m σ H)/\∀m σ H,W m σ H->
 c σ H λb H1=>if b=true then ∃N:St->Hp->Prop,(∀σ' H',N σ' H'->∃m',m'<m/\W m' σ' H')/\tb {D with nx:=N,ct:=N,bk:=D.nx} σ H1 else D.nx σ H1
def rW(hp:PassesOwn (model X.prog X.w) X.A X.env X.xe)(hc:PT X c tc)(hb:jN X body tb):PS X (.While c body [] pos) (aCK tc tb):=by
 intro π s σ H D I h;obtain⟨W,⟨m0,w0⟩,turn⟩:=h;refine wpAny_While (codeAny_whileLoop (λn s'=>∃σ' H',Inv X π σ' H' s'/\W n σ' H') ?_ m0 {σ,H,I,(w0)});rintro n s1 ⟨σ1,H1,I1,w1⟩;refine wpAny_passesOwn hp (aY (hc π s1 σ1 H1 _ I1 (turn n σ1 H1 w1)) λb s2 ⟨H2,I2,q2⟩=>?_);cases b with
 |true=>
  intros N hN q2 q2;rw[if_pos rfl];refine wpAny_passesOwn hp (aY (hb π s2 σ1 H2 _ I2 q2) λf s3 q3=>?_);cases f with
  |next=>
   intros σ3 H3 I3 n3 q3;obtain⟨m',hm,w3⟩:=hN σ3 H3 n3;exact{m',hm,σ3,H3,I3,(w3)}
  |cont=>
   intros σ3 H3 I3 n3 q3;obtain⟨m',hm,w3⟩:=hN σ3 H3 n3;exact{m',hm,σ3,H3,I3,(w3)}
  |brk=>exact q3
  |ret v=>exact q3
 |false=>
  rw[if_neg gQ];exact wpAny_execs_nil {σ1,H2,I2,(q2)}
section
variable {s:Shared}{tg:Expr}{P:Program}{w:World}{K:aD}
structure It where
 go:Nat->Hp->Prop
 m5:Nat->Hp->V->Hp->Prop
 stop:Nat->Hp->Prop
def qX(X:Cx)(π:List (Addr×Obj))(H:Hp)(b:Addr):Prop:=
 H b=ν/\b≠X.env.locals/\b∉X.fs/\(b∈X.ex∨X.s₀.heap.objs.size<=b)/\(∀x c,X.env.cells.lookup x=ι c->c≠b)/\∀p∈X.pn++π,p.1≠b
def Inv.sZ(I:Inv X π σ H s)(hb:s.heap.objs.size<=b)(hn:H' b=ν):qX X π H' b:=by
 refine{hn,FX (gJ I.lt hb),I.aQk hb,.inr (cM I.sz hb),λx c e z=>?_,λp hp z=>?_}
 .obtain⟨v,q⟩:=I.cell x c e;exact absurd (gJ q.lt (by rw[z];exact hb)) (n6 _)
 .exact absurd (gJ (dz (I.pin p hp).1) (by rw[z];exact hb)) (n6 _)
structure Turn(P:Program)(w:World)(K:aD)(tg:Expr)(J:It)(fp:List Addr)(it:Addr)(tn:Nat->Heap->Prop)(cm:Cx->Prop:=λX=>X.calm=true):Prop where
 mem:it∈fp
 obj:∀i h,tn i h->∀b∈fp,∃o,h.get? b=ι o/\∀v,o.data≠ .cell v
 keep:∀i h h',tn i h->(∀b∈fp,∀o,h.get? b=ι o->h'.get? b=ι o)->tn i h'
 item:∀(X:Cx),X.prog=P->X.w=w->X.K=K->cm X->∀(i:Nat)(π:List (Addr×Obj))(s:Shared)(σ:St)(H:Hp)(E:χ),Inv X π σ H s->(∀b∈fp,qX X π H b)->tn i s.heap->J.go i H->
  wpAny (model P w) X.A (pyNext (.ref it)) (λr s1=>∃u,r=ι u/\
   wpAny (model P w) X.A (letOwnedTupleGo tg (.ref it) u) (λ_ s2=>∃x H',Inv X π σ H' s2/\RelV x u/\J.m5 i H x H'/\tn (i+1) s2.heap/\∀b∈fp,H' b=ν) E s1) E s
 done:∀(X:Cx),X.prog=P->X.w=w->X.K=K->cm X->∀(i:Nat)(π:List (Addr×Obj))(s:Shared)(σ:St)(H:Hp)(E:χ),Inv X π σ H s->(∀b∈fp,qX X π H b)->tn i s.heap->J.stop i H->
  wpAny (model P w) X.A (pyNext (.ref it)) (λr s1=>r=ν/\Inv X π σ H s1) E s
 self:∀(A:Around)(i:Nat)(s:Shared)(Q:χ)(E:χ),tn i s.heap->Q (.ref it) s->wpAny (model P w) A (pyIter (.ref it)) Q E s
abbrev TI:=St->Hp->(It->Hp->Prop)->Prop
def HV(cm:Cx->Prop)(X:Cx)(π:List (Addr×Obj))(σ:St)(tg:Expr)(R:It->Hp->Prop)(itv:Value)(s2:Shared):Prop:=
 ∃(it:Addr)(fp:List Addr)(tn:Nat->Heap->Prop)(J:It)(H':Hp),itv=.ref it/\Inv X π σ H' s2/\Turn X.prog X.w X.K tg J fp it tn cm/\tn 0 s2.heap/\(∀b∈fp,qX X π H' b)/\R J H'
abbrev PIE:=HV λX=>X.calm=true
def KL(cm:Cx->Prop)(X:Cx)(tg iter:Expr)(wi:TI):Prop:=
 ∀π s σ H (R:It->Hp->Prop),Inv X π σ H s->wi σ H R->
  wpAny (model X.prog X.w) X.A (eval iter X.env) (λv s1=>wpAny (model X.prog X.w) X.A (pyIter v) (HV cm X π σ tg R) X.xe s1) X.xe s
def PI(X:Cx)(tg iter:Expr)(wi:TI):Prop:=KL (λX=>X.calm=true) X tg iter wi
def zZ(ho:s.heap.get? it=ι o)(hc:o.cls=.type n)(hd:o.data=.fields vs)
  (hn:["enumerate","zip","dict_itemiterator","dict_reverseitemiterator","odict_iterator","itertools.zip_longest","itertools.pairwise"].contains n=false)(hQ:Q () s):wpAny M A (letOwnedTupleGo tg (.ref it) u) Q E s:=by
 unfold letOwnedTupleGo;cases tg<;>first
  |exact wpAny_pure hQ
  |(cases u<;>first
    |exact wpAny_pure hQ
    |(refine wpAny_bind (wpAny_load ho ?_);rw[hc,hd];show wpAny M A (if(["enumerate","zip","dict_itemiterator","dict_reverseitemiterator","odict_iterator","itertools.zip_longest","itertools.pairwise"].contains n&&vs[0]?==ι (rawInt _))=true then _ else _) Q E s;rw[if_neg (by intro h;rw[hn,RR]at h;cases h)];exact wpAny_pure hQ))
def rm(K:aD)(a:Addr):It:=
 {λi H=>∃xs x,ak K H a xs/\xs[i]?=ι x,λi H x H'=>H'=H/\∀xs,ak K H a xs->xs[i]?=ι x,λi H=>∃xs,ak K H a xs/\xs.length<=i}
def La(K:aD)(a:Addr):It:=
 {λi H=>∃xs x,ao K H a xs/\xs[i]?=ι x,λi H x H'=>H'=H/\∀xs,ao K H a xs->xs[i]?=ι x,λi H=>∃xs,ao K H a xs/\xs.length<=i}
def qK(lo:Int)(n:Nat):It:={λi _=>i<n,λi H x H'=>H'=H/\x=.int (lo+i),λi _=>n<=i}
def Oo(a it:Addr):Turn P w K tg (rm K a) [it] it (λi h=>h.IsListIter it a i) where
 mem:=by simp
 obj:=λi h st b hb=>by
  have e:b=it:=by simpa using hb
  subst e;intros o e c d st;exact{o,e,λv z=>by rw[d]at z;cases z}
 keep:=λi h h' st k=>st.at λo e=>k it (by simp) o e
 item:=by
  intro X hP hw hK hc i π s σ H E I hf st hg;subst hP hw hK;intros xs x hq hx hg;obtain⟨its,rv,p,hz⟩:=I.list hq;obtain⟨u,hu,ru⟩:=rv.get hx;obtain⟨f0,f1,f2,f3,f4,f5⟩:=hf it (by simp);refine wpAny_pyNext_list_item st p.isList (x:=u) (by simpa using hu) λh' st' sb=>?_;have I1:Inv X π σ H {s with heap:=h'}:=I.turned (t':=s.toks) (λb o hb e=>(sb.2 b hb).trans e) f0 f1 f3 f4 f5;obtain⟨o,e,c,d⟩:=id st';exact{u,rfl,zZ (s:={s with heap:=h'}) e c d ∅ {x,H,I1,ru,{rfl,λys hy=>by rw[I.WG hy hq];exact hx},st',λb hb=>(hf b hb).1}}
 done:=by
  intro X hP hw hK hc i π s σ H E I hf st hg;subst hP hw hK;intros xs hq hx hg;obtain⟨its,rv,p,hz⟩:=I.list hq;obtain⟨f0,f1,f2,f3,f4,f5⟩:=hf it (by simp);have hl:=rv.length;exact wpAny_pyNext_list_end (I.ok.hd hc) st p.isList (by simp;lia) λh' eb=>{rfl,I.turned (t':=s.toks) (λb o hb e=>eb b o hb e) f0 f1 f3 f4 f5}
 self:=λ_ _ _ _ _ st h=>wpAny_pyIter_listiter st h
def aFS(a it:Addr):Turn P w K tg (La K a) [it] it (λi h=>h.IsTupleIter it a i) where
 mem:=by simp
 obj:=λi h st b hb=>by
  have e:b=it:=by simpa using hb
  subst e;intros o e c d st;exact{o,e,λv z=>by rw[d]at z;cases z}
 keep:=λi h h' st k=>st.at λo e=>k it (by simp) o e
 item:=by
  intro X hP hw hK hc i π s σ H E I hf st hg;subst hP hw hK;intros xs x hq hx hg;obtain⟨its,rv,p,hz⟩:=I.tuple hq;obtain⟨u,hu,ru⟩:=rv.get hx;obtain⟨f0,f1,f2,f3,f4,f5⟩:=hf it (by simp);refine wpAny_pyNext_tuple_item st (show s.heap.IsTuple a its.toArray from p) (x:=u) (by simpa using hu) λh' st' sb=>?_;have I1:Inv X π σ H {s with heap:=h'}:=I.turned (t':=s.toks) (λb o hb e=>(sb.2 b hb).trans e) f0 f1 f3 f4 f5;obtain⟨o,e,c,d⟩:=id st';exact{u,rfl,zZ (s:={s with heap:=h'}) e c d ∅ {x,H,I1,ru,{rfl,λys hy=>by rw[I.aPk hy hq];exact hx},st',λb hb=>(hf b hb).1}}
 done:=by
  intro X hP hw hK hc i π s σ H E I hf st hg;subst hP hw hK;intros xs hq hx hg;obtain⟨its,rv,p,hz⟩:=I.tuple hq;obtain⟨f0,f1,f2,f3,f4,f5⟩:=hf it (by simp);have hl:=rv.length;exact wpAny_pyNext_tuple_end (I.ok.hd hc) st (show s.heap.IsTuple a its.toArray from p) (by simp;lia) λh' eb=>{rfl,I.turned (t':=s.toks) (λb o hb e=>eb b o hb e) f0 f1 f3 f4 f5}
 self:=λ_ _ _ _ _ st h=>wpAny_pyIter_tupleiter st h
def aHc(it:Addr)(lo:Int)(n:Nat):Turn P w K tg (qK lo n) [it] it (λi h=>IsRangeIter h it (lo+(i:Nat)*1) ((n:Int)-(i:Nat)) 1) where
 mem:=by simp
 obj:=λi h st b hb=>by
  have e:b=it:=by simpa using hb
  subst e;exact{_,st,λv z=>by
   have z':Data.fields _=Data.cell v:=z;cases z'}
 keep:=λi h h' st k=>k it (by simp) _ st
 item:=by
  intro X hP hw hK hc i π s σ H E I hf st hg;subst hP hw hK;obtain⟨f0,f1,f2,f3,f4,f5⟩:=hf it (by simp);have W:=Walks.range (prog:=X.prog) (w:=X.w) (I.ok.hd hc) it lo 1 n;refine W.item i s _ _ hg st λv h' tk hv st' kk=>?_;intros t rfl hv;have I1:Inv X π σ H {s with heap:=h',toks:=tk}:=I.turned (λb o hb e=>kk b o (by simpa using hb) e) f0 f1 f3 f4 f5;refine{(),zZ (s:={s with heap:=h',toks:=tk}) (n:="range_iterator") st' rfl rfl ∅ {.int (lo+i),H,I1,{t,?_},{rfl,(rfl)},st',λb hb=>(hf b hb).1}};rw[mH]
 done:=by
  intro X hP hw hK hc i π s σ H E I hf st hg;subst hP hw hK;obtain⟨f0,f1,f2,f3,f4,f5⟩:=hf it (by simp);exact wpAny_pyNext_range_end (I.ok.hd hc) st (by have:n<=i:=hg;lia) λh' eb=>{rfl,I.turned (t':=s.toks) (λb o hb e=>eb b o hb e) f0 f1 f3 f4 f5}
 self:=λ_ _ _ _ _ st h=>wpAny_pyIter_rangeiter st h
end
section
variable {X:Cx}
section
variable {σ:St}{H:Hp}{s:Shared}{a:Expr}{ta:TA}{fp:List Addr}{h:Heap}
def aTP(K:aD)(tl:TE):TI:=λσ H R=>tl σ H λx H1=>∃a,x=.ref a/\(∃xs,ak K H1 a xs)/\R (rm K a) H1
def L4{R:It->Hp->Prop}{E:χ}{lo hi:Int}{tk:Nat}(I:Inv X π σ H s)(h1:-(2^62)<=lo)(h2:lo<2^62)(h3:-(2^62)<=hi)(h4:hi<2^62)
  (q:R (qK lo (hi-lo).toNat) H):wpAny (model X.prog X.w) X.A (pyIter (.ref s.heap.objs.size)) (PIE X π σ tg R) E {s with heap:=s.heap.push {cls:=.type "range",data:=.fields #[.int lo t,.int hi u,.int 1 v]},toks:=tk}:=by
 refine wpAny_pyIter_range (IsRange.new ..) (small_one h1 h2 h3 h4) ?_;have I1:Inv X π σ H {s with heap:=s.heap.push {cls:=.type "range",data:=.fields #[.int lo t,.int hi u,.int 1 v]},toks:=tk}:=I.kept λb o e=>Heap.get?_push_of_some _ e;refine{(s.heap.push {cls:=.type "range",data:=.fields #[.int lo t,.int hi u,.int 1 v]}).objs.size,[(s.heap.push {cls:=.type "range",data:=.fields #[.int lo t,.int hi u,.int 1 v]}).objs.size],_,_,H,rfl,
  I1.kept (t':=tk) λb o e=>Heap.get?_push_of_some _ e,aHc _ lo (hi-lo).toNat,?_,λb hb=>?_,q}
 .have e1:lo+((0:Nat):Int)*1=lo:=by simp
  have e2:(((hi-lo).toNat:Nat):Int)-((0:Nat):Int)=Builtin.Range.rangeSize lo hi 1:=by rw[rangeSize_one];split<;>lia
  show IsRangeIter _ _ (lo+((0:Nat):Int)*1) ((((hi-lo).toNat:Nat):Int)-((0:Nat):Int)) 1;rw[e1,e2];exact Heap.get?_push_size _ rfl
 .have e:b=(s.heap.push {cls:=.type "range",data:=.fields #[.int lo t,.int hi u,.int 1 v]}).objs.size:=by simpa using hb
  subst e;exact I1.sZ (aZ _) (I1.hok.fresh (aZ _))
inductive aNo(vs:τ)(H:Hp)(R:It->Hp->Prop):Prop|mk(j:Int)(_:vs=[.int j])(h1:-(2^62)<=j)(h2:j<2^62)(_:R (qK 0 j.toNat) H)
def aOl(ta:TA):TI:=λσ H R=>ta σ H λvs H1=>aNo vs H1 R
def aHQ(ta:TA):TI:=λσ H R=>ta σ H λvs H1=>∃i j:Int,vs=[.int i,.int j]/\(-(2^62)<=i/\i<2^62/\-(2^62)<=j/\j<2^62)/\R (qK i (j-i).toNat) H1
def gH(hg:Gl X "range")(hm:X.mg "range"=ν)(ha:PA X [a] ta)(hs:starEach [a] X.env=[(false,eval a X.env)]:=by rfl):PI X tg (.Call (.Name "range" p) [a] [] pos) (aOl ta):=by
 intro π s σ H R I h;refine Call_ (vX I hg hm boot_range (AW (aY (ha pos π s σ H _ I h) λus s1 ⟨vs,H1,I1,r1,q1⟩=>?_) hs rfl));intros j e q1 q2 q q1;subst e;cases r1 with
 |cons r rr=>
  cases rr;intros t rfl r;exact call_range_1 (L4 I1 ⋯ ⋯ q1 q2 (by simpa using q))
def Ot(hg:Gl X "range")(hm:X.mg "range"=ν)(ha:PA X [a,b] ta)(hs:starEach [a,b] X.env=[(false,eval a X.env),(false,eval b X.env)]:=by rfl)(hs2:starEach [b] X.env=[(false,eval b X.env)]:=by rfl):
  PI X tg (.Call (.Name "range" p) [a,b] [] pos) (aHQ ta):=by
 intro π s σ H R I h;refine Call_ (vX I hg hm boot_range (AW (aY (ha pos π s σ H _ I h) λus s1 ⟨vs,H1,I1,r1,q1⟩=>?_) (by rw[hs,hs2]) (by rw[hs2];rfl)));obtain⟨i,j,e,⟨q1,q2,q3,q4⟩,q⟩:=q1;subst e;cases r1 with
 |cons r rr=>
  cases rr with
  |cons r' rr=>
   cases rr;intros t rfl r;intros t' rfl r';exact call_range_2 (L4 I1 q1 q2 q3 q4 q)
def aKj(wi:TI)(g:TG)(tb:TS):TS:=λD σ H=>wi σ H λJ H1=>∃W:Nat->Nat->St->Hp->Prop,(∃m,W 0 m σ H1)/\∀i m σ H,W i m σ H->
 (J.stop i H/\D.nx σ H)∨(J.go i H/\∃N:St->Hp->Prop,(∀σ' H',N σ' H'->∃m',m'<m/\W (i+1) m' σ' H')/\∀x H',J.m5 i H x H'->g x σ H' λσ2 H2=>tb {D with nx:=N,ct:=N,bk:=D.nx} σ2 H2)
def Km(fp:List Addr)(h:Heap):List (Addr×Obj):=fp.filterMap λb=>(h.get? b).map λo=>(b,o)
def Jk(hb:b∈fp)(e:h.get? b=ι o):(b,o)∈Km fp h:=Z1.mpr {b,hb,by rw[e];rfl}
def aRw(hp:p∈Km fp h):p.1∈fp/\h.get? p.1=ι p.2:=by
 obtain⟨b,hb,e⟩:=Z1.mp hp;cases q:h.get? b with
 |none=>rw[q]at e;cases e
 |some o=>
  rw[q]at e;have e':(b,o)=p:=pL e;subst e';exact{hb,(q)}
def Inv.pinned(I:Inv X π σ H s)(hf:∀b∈fp,qX X π H b)(ho:∀b∈fp,∃o,s.heap.get? b=ι o/\∀v,o.data≠ .cell v):Inv X (π++Km fp s.heap) σ H s:=
 I.XW λp hp=>(ig.mp hp).elim (λz=>I.pin p (qe _ z)) λz=>by
  obtain⟨hb,e⟩:=aRw z;obtain⟨f0,f1,f2,_⟩:=hf p.1 hb;obtain⟨o,e',d⟩:=ho p.1 hb;rw[e]at e';cases e';exact{e,f0,f1,f2,(d)}
def Inv.Ly(I:Inv X (π++pl) σ H s):Inv X π σ H s:=I.XW λp hp=>I.pin p (qe _ (YX _ hp))
def iC(hp:PassesOwn (model X.prog X.w) X.A X.env X.xe)(hc:X.calm=true)(hi:PI X tg iter wi)(hg:PG X tg g)(hb:jN X body tb)
  (hs:∀x,foldedSetIterable iter X.env x=pure x:=by intro _;rfl):PS X (.For tg iter body [] pos) (aKj wi g tb):=by
 intro π s σ H D I h;refine wpAny_For (aY (hi π s σ H _ I h) λv s1 h1=>aY h1 λitv s2 h2=>?_) hs;obtain⟨it,fp,tn,J,H2,e,I2,T,st2,f2,W,⟨m0,w0⟩,turn⟩:=h2;subst e;have stat:∀{H':Hp},(∀b∈fp,H' b=ν)->∀b∈fp,qX X π H' b:=λhn b hb=>{hn b hb,(f2 b hb).2};refine codeAny_forLoop_any (λn s'=>∃i σ' H',Inv X π σ' H' s'/\tn i s'.heap/\(∀b∈fp,H' b=ν)/\W i n σ' H') ?_ m0 {0,σ,H2,I2,st2,λb hb=>(f2 b hb).1,w0};rintro n s3 ⟨i,σ3,H3,I3,st3,fr3,w3⟩;rcases turn i n σ3 H3 w3 with⟨stop,qn⟩|⟨go,N,hN,step⟩
 .refine wpAny_passesOwn hp (aY (T.done X rfl rfl rfl hc i π s3 σ3 H3 X.xe I3 (stat fr3) st3 stop) λr s4 ⟨hr,I4⟩=>?_);subst hr;exact wpAny_execs_nil {σ3,H3,I4,(qn)}
 .refine wpAny_passesOwn hp (aY (T.item X rfl rfl rfl hc i π s3 σ3 H3 X.xe I3 (stat fr3) st3 go) λr s4 ⟨u,hr,h4⟩=>?_);subst hr;refine wpAny_passesOwn hp (aY h4 λ_ s5 ⟨x,H5,I5,r5,y5,Fd,Qj⟩=>?_);have I5':=I5.pinned (stat Qj) (T.obj _ _ Fd);refine wpAny_passesOwn hp (aY (hg _ s5 σ3 H5 x u _ I5' r5 (step x H5 y5)) λ_ s6 ⟨σ6,H6,I6,q6⟩=>?_);refine wpAny_passesOwn hp (aY (hb _ s6 σ6 H6 _ I6 q6) λf s7 q7=>?_);have again:∀{σ7:St} {H7:Hp},Inv X (π++Km fp s5.heap) σ7 H7 s7->N σ7 H7->∃m,m<n/\∃i σ' H',Inv X π σ' H' s7/\tn i s7.heap/\(∀b∈fp,H' b=ν)/\W i m σ' H':=λ{σ7 H7} I7 n7=>by
   obtain⟨m',hm,w7⟩:=hN σ7 H7 n7;refine{m',hm,i+1,σ7,H7,I7.Ly,T.keep _ _ _ Fd λb hb o e=>(I7.pin (b,o) (qe _ (qe _ (Jk hb e)))).1,λb hb=>?_,w7};obtain⟨o,e,d⟩:=T.obj _ _ Fd b hb;exact(I7.pin (b,o) (qe _ (qe _ (Jk hb e)))).2.1
  cases f with
  |next=>intros σ7 H7 I7 n7 q7;exact again I7 n7
  |cont=>intros σ7 H7 I7 n7 q7;exact again I7 n7
  |brk=>intros σ7 H7 I7 q7 q7;exact{σ7,H7,I7.Ly,(q7)}
  |ret v=>intros x7 σ7 H7 I7 r7 q7 q7;exact{x7,σ7,H7,I7.Ly,r7,(q7)}
end
end
def kI{lo:Int}{n:Nat}{g:TG}{tb:TS}{D:Ends}{σ:St}{H:Hp}(Pv:Nat->St->Hp->Prop)(h0:Pv 0 σ H)
  (hs:∀i σ H,i<n->Pv i σ H->g (.int (lo+i)) σ H λσ2 H2=>tb {D with nx:=Pv (i+1),ct:=Pv (i+1),bk:=D.nx} σ2 H2) (hd:∀σ H,Pv n σ H->D.nx σ H):
  ∃W:Nat->Nat->St->Hp->Prop,(∃m,W 0 m σ H)/\∀i m σ H,W i m σ H->
   ((qK lo n).stop i H/\D.nx σ H)∨((qK lo n).go i H/\∃N:St->Hp->Prop,(∀σ' H',N σ' H'->∃m',m'<m/\W (i+1) m' σ' H')/\∀x H',(qK lo n).m5 i H x H'->g x σ H' λσ2 H2=>tb {D with nx:=N,ct:=N,bk:=D.nx} σ2 H2):=by
 refine{λi m σ H=>m=n-i/\i<=n/\Pv i σ H,{n,by simp,cZ _,h0},?_};rintro i m σ H ⟨rfl,hi,p⟩;by_cases hlt:i<n
 .refine .inr {hlt,Pv (i+1),λσ' H' p'=>{n-(i+1),⋯,rfl,hlt,p'},λx H' y=>?_};intros e y y;subst e y;exact hs i σ _ hlt p
 .have e:i=n:=⋯;subst e;exact .inl {aZ _,hd σ H p}
abbrev R2:=V->V->Hp->VK->Prop
def cQ(X:Cx)(f:Value->Value->Sem Value)(r:R2):Prop:=
 ∀π s σ H (x y:V) (v u:Value) (Q:VK),Inv X π σ H s->RelV x v->RelV y u->r x y H Q->
  wpAny (model X.prog X.w) X.A (f v u) (EP X π σ Q) X.xe s
def UnR(X:Cx)(f:Value->Sem Value)(r:V->Hp->VK->Prop):Prop:=
 ∀π s σ H (x:V) (v:Value) (Q:VK),Inv X π σ H s->RelV x v->r x H Q->
  wpAny (model X.prog X.w) X.A (f v) (EP X π σ Q) X.xe s
def iM(X:Cx)(f:Value)(r:τ->Hp->VK->Prop):Prop:=
 ∀π s σ H (xs:τ) (us:List Value) (Q:VK),Inv X π σ H s->Vals xs us->r xs H Q->
  wpAny (model X.prog X.w) X.A (call f us) (EP X π σ Q) X.xe s
def u9(r:R2)(ta tb:TE):TE:=λσ H Q=>ta σ H λx H1=>tb σ H1 λy H2=>r x y H2 Q
def tUn(r:V->Hp->VK->Prop)(ta:TE):TE:=λσ H Q=>ta σ H λx H1=>r x H1 Q
inductive SII(C:Int->Int->Prop)(g:Int->Int->V)(x y:V)(H:Hp)(Q:VK):Prop|mk(i j:Int)(_:x=.int i)(_:y=.int j)(_:C i j)(_:Q (g i j) H)
def rI(C:Int->Int->Prop)(g:Int->Int->V):R2:=λx y H Q=>SII C g x y H Q
inductive SI0(g:Int->Int->V)(x y:V)(H:Hp)(Q:VK):Prop|mk(i j:Int)(_:x=.int i)(_:y=.int j)(_:Q (g i j) H)
def zU(g:Int->Int->V):R2:=λx y H Q=>SI0 g x y H Q
inductive SU(g:Int->V)(x:V)(H:Hp)(Q:VK):Prop|mk(i:Int)(_:x=.int i)(_:Q (g i) H)
def rU(g:Int->V):V->Hp->VK->Prop:=λx H Q=>SU g x H Q
section
variable {X:Cx}
section
variable {f:Value->Value->Sem Value}{g:Int->Int->Int}
def Za(ha:PE X a ta)(hb:PE X b tb){R:V->V->Hp->Prop}(I:Inv X π σ H s)
  (h:ta σ H λx H1=>tb σ H1 λy H2=>R x y H2){Q:χ}{f:Value->Value->Sem Value}
  (hf:∀v u s2 x y H2,Inv X π σ H2 s2->RelV x v->RelV y u->R x y H2->wpAny (model X.prog X.w) X.A (f v u) Q X.xe s2):
  wpAny (model X.prog X.w) X.A (eval a X.env) (λv s₁=>wpAny (model X.prog X.w) X.A (eval b X.env) (λu s₂=>wpAny (model X.prog X.w) X.A (f v u) Q X.xe s₂) X.xe s₁) X.xe s:=by
 refine aY (ha π s σ H _ I h) λv s1 ⟨x,H1,I1,r1,q1⟩=>?_;refine aY (hb π s1 σ H1 _ I1 q1) λu s2 ⟨y,H2,I2,r2,q2⟩=>?_;exact hf v u s2 x y H2 I2 r1 r2 q2
def lZ(ho:cQ X (binaryOp op) r)(ha:PE X a ta)(hb:PE X b tb):PE X (.BinOp a op b pos) (u9 r ta tb):=by
 intro π s σ H Q I h;exact wpAny_BinOp (Za ha hb I h λv u s2 x y H2 I2 rx ry q=>ho π s2 σ H2 x y v u Q I2 rx ry q)
def Nm(ho:UnR X (unaryOp op) r)(ha:PE X a ta):PE X (.UnaryOp op a pos) (tUn r ta):=by
 intro π s σ H Q I h;exact UnaryOp_ (aY (ha π s σ H _ I h) λv s1 ⟨x,H1,I1,r1,q1⟩=>ho π s1 σ H1 x v Q I1 r1 q1)
def Bj{C:Int->Int->Prop}
  (ρ:∀(i j:Int)(t u:Tok)(s:Shared)(Q:χ)(E:χ),C i j->Q (.int (g i j) s.toks) {s with toks:=s.toks+1}->wpAny (model X.prog X.w) X.A (f (.int i t) (.int j u)) Q E s):
  cQ X f (rI C λi j=>.int (g i j)):=by
 intro π s σ H x y v u Q I rx ry h;intros i j rfl rfl hc q h;intros t rfl rx;intros t' rfl ry;exact ρ i j t t' s _ _ hc {.int (g i j),H,I.tok _,{()},q}
def vF
  (ρ:∀(i j:Int)(t u:Tok)(s:Shared)(Q:χ)(E:χ),Q (.int (g i j) s.toks) {s with toks:=s.toks+1}->wpAny (model X.prog X.w) X.A (f (.int i t) (.int j u)) Q E s):
  cQ X f (zU λi j=>.int (g i j)):=by
 intro π s σ H x y v u Q I rx ry h;intros i j rfl rfl q h;intros t rfl rx;intros t' rfl ry;exact ρ i j t t' s _ _ {.int (g i j),H,I.tok _,{()},q}
def TN{g:Int->Int->Bool}
  (ρ:∀(i j:Int)(t u:Tok)(s:Shared)(Q:χ)(E:χ),Q (.bool (g i j)) s->wpAny (model X.prog X.w) X.A (f (.int i t) (.int j u)) Q E s):
  cQ X f (zU λi j=>.bl (g i j)):=by
 intro π s σ H x y v u Q I rx ry h;intros i j rfl rfl q h;intros t rfl rx;intros t' rfl ry;exact ρ i j t t' s _ _ {.bl (g i j),H,I,rfl,q}
def aRP(i j:Int):Prop:=0<j/\j<1073741824
def aLT(i j:Int):Prop:=0<=j/\j<=1000000/\i.natAbs<2^64
def aKQ(k:Nat):(0:Int)<=2^k:=by
 rw[two_pow_cast];exact Int.natCast_nonneg _
def avY:cQ X (binaryOp .Add) (zU λi j=>.int (i+j)):=vF λ_ _ _ _ _ _ _ q=>add_int q
def aPI:cQ X (binaryOp .Sub) (zU λi j=>.int (i-j)):=vF λ_ _ _ _ _ _ _ q=>sub_int q
def aMD:cQ X (binaryOp .FloorDiv) (rI aRP λi j=>.int (i/j)):=Bj λi j _ _ _ _ _ hc q=>by
 have h1:(0:Int)<j:=hc.1;have h2:j<1073741824:=hc.2;exact floordiv_int ⋯ (by rw[IQ i ⋯];exact q) (.inl (XX ⋯))
def aRL:cQ X (binaryOp .Mod) (rI (λ_ j=>0<j) λi j=>.int (i%j)):=Bj λi j _ _ _ _ _ hc q=>by
 have h1:(0:Int)<j:=hc;exact mod_int' ⋯ (by rw[Int.fmod_eq_emod_of_nonneg i ⋯];exact q)
def Qv:cQ X (binaryOp .Pow) (rI aLT λi j=>.int (i^j.toNat)):=Bj λ_ _ _ _ _ _ _ hc q=>pow_int_small hc.1 hc.2.1 hc.2.2 q
def aFy:cQ X (binaryOp .RShift) (rI (λ_ j=>0<=j) λi j=>.int (i/2^j.toNat)):=Bj λi j _ _ _ _ _ hc q=>
 rshift_int hc (by rw[IQ i (aKQ _)];exact q)
def unI{f:Value->Sem Value}{g:Int->Int}
  (ρ:∀(i:Int)(t:Tok)(s:Shared)(Q:χ)(E:χ),Q (.int (g i) s.toks) {s with toks:=s.toks+1}->wpAny (model X.prog X.w) X.A (f (.int i t)) Q E s):
  UnR X f (rU λi=>.int (g i)):=by
 intro π s σ H x v Q I rx h;intros i rfl q h;intros t rfl rx;exact ρ i t s _ _ {.int (g i),H,I.tok _,{()},q}
def RX:UnR X (unaryOp .USub) (rU λi=>.int (-i)):=unI λ_ _ _ _ _ q=>neg_int q
end
end
def eM:V->V->Bool
 |.non,.non=>true|.non,.int _=>true|.int _,.non=>true|.non,.bl _=>true|.bl _,.non=>true|.non,.str _=>true|.str _,.non=>true
 |.int _,.int _=>true|.bl _,.bl _=>true|.str _,.str _=>true|.oh _,.oh _=>true
 |.int _,.str _=>true|.str _,.int _=>true|.bl _,.str _=>true|.str _,.bl _=>true
 |_,_=>false
def rEq:R2:=λx y H Q=>eM x y=true/\Q (.bl (decide (x=y))) H
def rNe:R2:=λx y H Q=>eM x y=true/\Q (.bl (!decide (x=y))) H
def VS:decide (V.int i=V.int j)=(i==j):=by
 rw[EV];simp
def EL:decide (V.bl i=V.bl j)=(i==j):=by
 rw[EV];simp
def Hc:decide (V.str i=V.str j)=(i==j):=by
 rw[EV];simp
def WI:decide (V.oh i=V.oh j)=(i.toList==j.toList):=by
 rw[EV];cases i;cases j;simp
section
variable {ta tb tc:TE}
section
variable {r r':R2}{x:V}
def gb(I:Inv X π σ H s)(q:Q (.bl k) H)(e:k=k'):EP X π σ Q (.bool k') s:=by
 subst e;exact{.bl k,H,I,rfl,q}
def aOJ:cQ X (compareOp .Eq) rEq:=by
 intro π s σ H x y v u Q I rx ry h;intros hs q h;cases x with
 |non=>
  cases rx;cases y with
  |non=>cases ry;exact aQn (gb I q (by simp))
  |bl j=>cases ry;exact aCO (gb I q (by simp))
  |int j=>intros t' rfl ry;exact aJK (gb I q (by simp))
  |str j=>intros t' rfl ry;exact aDs (gb I q (by simp))
  |_=>exact absurd (show false=true from hs) gQ
 |bl i=>
  cases rx;cases y with
  |non=>cases ry;exact aEv (gb I q (by simp))
  |bl j=>cases ry;exact eq_bool (gb I q EL)
  |str j=>intros t' rfl ry;exact aE7 (gb I q (by simp))
  |_=>exact absurd (show false=true from hs) gQ
 |int i=>
  intros t rfl rx;cases y with
  |non=>cases ry;exact aGT (gb I q (by simp))
  |int j=>intros t' rfl ry;exact eq_int (gb I q VS)
  |str j=>intros t' rfl ry;exact aH7 (gb I q (by simp))
  |_=>exact absurd (show false=true from hs) gQ
 |str i=>
  intros t rfl rx;cases y with
  |non=>cases ry;exact azI (gb I q (by simp))
  |bl j=>cases ry;exact aGf (gb I q (by simp))
  |int j=>intros t' rfl ry;exact aRc (gb I q (by simp))
  |str j=>intros t' rfl ry;exact eq_str (gb I q Hc)
  |_=>exact absurd (show false=true from hs) gQ
 |oh i=>
  intros t rfl rx;cases y with
  |oh j=>intros t' rfl ry;exact W.eq_bytes (gb I q WI)
  |_=>exact absurd (show false=true from hs) gQ
 |_=>cases y<;>exact absurd (show false=true from hs) gQ
def YI:cQ X (compareOp .NotEq) rNe:=by
 intro π s σ H x y v u Q I rx ry h;intros hs q h;cases x with
 |non=>
  cases rx;cases y with
  |non=>cases ry;exact azp (gb I q (by simp))
  |bl j=>cases ry;exact aKf (gb I q (by simp))
  |int j=>intros t' rfl ry;exact aFY (gb I q (by simp))
  |str j=>intros t' rfl ry;exact aKd (gb I q (by simp))
  |_=>exact absurd (show false=true from hs) gQ
 |bl i=>
  cases rx;cases y with
  |non=>cases ry;exact aM5 (gb I q (by simp))
  |bl j=>cases ry;exact ne_bool (gb I q (congrArg not EL))
  |str j=>intros t' rfl ry;exact aSg (gb I q (by simp))
  |_=>exact absurd (show false=true from hs) gQ
 |int i=>
  intros t rfl rx;cases y with
  |non=>cases ry;exact aD6 (gb I q (by simp))
  |int j=>intros t' rfl ry;exact ne_int (gb I q (congrArg not VS))
  |str j=>intros t' rfl ry;exact avJ (gb I q (by simp))
  |_=>exact absurd (show false=true from hs) gQ
 |str i=>
  intros t rfl rx;cases y with
  |non=>cases ry;exact aD2 (gb I q (by simp))
  |bl j=>cases ry;exact azd (gb I q (by simp))
  |int j=>intros t' rfl ry;exact aOz (gb I q (by simp))
  |str j=>intros t' rfl ry;exact ne_str (gb I q (congrArg not Hc))
  |_=>exact absurd (show false=true from hs) gQ
 |oh i=>
  intros t rfl rx;cases y with
  |oh j=>intros t' rfl ry;exact W.ne_bytes (gb I q (congrArg not WI))
  |_=>exact absurd (show false=true from hs) gQ
 |_=>cases y<;>exact absurd (show false=true from hs) gQ
def Pn:cQ X (compareOp .Lt) (zU λi j=>.bl (decide (i<j))):=TN λ_ _ _ _ _ _ _ q=>lt_int q
def A2:cQ X (compareOp .LtE) (zU λi j=>.bl (decide (i<=j))):=TN λ_ _ _ _ _ _ _ q=>le_int q
def O1:cQ X (compareOp .Gt) (zU λi j=>.bl (decide (j<i))):=TN λ_ _ _ _ _ _ _ q=>gt_int q
def wb:cQ X (compareOp .GtE) (zU λi j=>.bl (decide (j<=i))):=TN λ_ _ _ _ _ _ _ q=>ge_int q
def MC:cQ X (compareOp .In) (λx y H Q=>∃i j,x=.str i/\y=.str j/\Q (.bl (!(Builtin.Str.occurrences j i 0 j.length 1).isEmpty)) H):=by
 intro π s σ H x y v u Q I rx ry h;intros i j rfl rfl q h;intros t rfl rx;intros t' rfl ry;exact in_str (gb I q rfl)
def cQ.or(h:cQ X f r)(h':cQ X f r'):cQ X f (λx y H Q=>r x y H Q∨r' x y H Q):=by
 intro π s σ H x y v u Q I rx ry q;rcases q with q|q
 .exact h π s σ H x y v u Q I rx ry q
 .exact h' π s σ H x y v u Q I rx ry q
def pq(b:Expr)(h:op≠ .In:=by decide)(h2:op≠ .NotIn:=by decide):behindInMarks op b=false:=by
 have e1:(op==CmpOp.In)=false:=by cases op<;>first|rfl|exact absurd rfl h
 have e2:(op==CmpOp.NotIn)=false:=by cases op<;>first|rfl|exact absurd rfl h2
 cases b<;>simp[behindInMarks,e1,e2]
def nQ(ho:cQ X (compareOp op) r)(ha:PE X a ta)(hb:PE X b tb)(hm:behindInMarks op b=false):PE X (.Compare a [op] [b] pos) (u9 r ta tb):=by
 intro π s σ H Q I h;exact wpAny_Compare1 (Za ha hb I h λv u s2 x y H2 I2 rx ry q=>ho π s2 σ H2 x y v u Q I2 rx ry q) hm
inductive aPe(x:V)(H:Hp)(Q:Bool->Hp->Prop):Prop|mk(k:Bool)(_:x=.bl k)(_:Q k H)
def CZ(t:TE):TT:=λσ H Q=>t σ H λx H'=>aPe x H' Q
def AE(ho:cQ X (compareOp op) r)(ha:PE X a ta)(hb:PE X b tb)(hm:behindInMarks op b=false):PT X (.Compare a [op] [b] pos) (CZ (u9 r ta tb)):=by
 intro π s σ H Q I h;refine wpAny_isTrue_Compare1 (aY (ha π s σ H _ I h) λv s1 ⟨x,H1,I1,r1,q1⟩=>aY (hb π s1 σ H1 _ I1 q1) λu s2 ⟨y,H2,I2,r2,q2⟩=>
  aY (ho π s2 σ H2 x y v u _ I2 r1 r2 q2) λc s3 ⟨z,H3,I3,r3,k,e,q3⟩=>?_) hm
 subst e;cases r3;exact wpAny_truthy_bool {H3,I3,(q3)}
def CA(r r':R2)(ta tb tc:TE):TE:=λσ H Q=>ta σ H λx H1=>tb σ H1 λy H2=>r x y H2 λz H3=>∃k,z=.bl k/\
 (if k=true then tc σ H3 λw' H4=>r' y w' H4 Q else Q (.bl false) H3)
def axr(ho:cQ X (compareOp op) r)(ho':cQ X (compareOp op') r')(ha:PE X a ta)(hb:PE X b tb)(hc:PE X c tc)
  (hm:lastMarks [op,op'] [b,c]=false:=by with_unfolding_all rfl):PE X (.Compare a [op,op'] [b,c] pos) (CA r r' ta tb tc):=by
 intro π s σ H Q I h;refine Compare_chain (aY (ha π s σ H _ I h) λv s1 ⟨x,H1,I1,r1,q1⟩=>chain_link (aY (hb π s1 σ H1 _ I1 q1) λu s2 ⟨y,H2,I2,r2,q2⟩=>
  aY (ho π s2 σ H2 x y v u _ I2 r1 r2 q2) λd s3 ⟨z,H3,I3,r3,k,e,q3⟩=>?_)) hm
 subst e;cases r3;refine wpAny_truthy_bool ?_;cases k with
 |false=>exact ite_ff {.bl false,H3,I3,rfl,q3}
 |true=>exact ite_tt (chain_last (aY (hc π s3 σ H3 _ I3 q3) λw' s4 ⟨z',H4,I4,r4,q4⟩=>ho' π s4 σ H4 y z' u w' Q I4 r2 r4 q4))
def avx(ho:cQ X (compareOp op) r)(ho':cQ X (compareOp op') r')(ha:PE X a ta)(hb:PE X b tb)(hc:PE X c tc)
  (hm:lastMarks [op,op'] [b,c]=false:=by with_unfolding_all rfl):PT X (.Compare a [op,op'] [b,c] pos) (CZ (CA r r' ta tb tc)):=by
 intro π s σ H Q I h;refine isTrue_chain (aY (ha π s σ H _ I h) λv s1 ⟨x,H1,I1,r1,q1⟩=>test_link (aY (hb π s1 σ H1 _ I1 q1) λu s2 ⟨y,H2,I2,r2,q2⟩=>
  aY (ho π s2 σ H2 x y v u _ I2 r1 r2 q2) λd s3 ⟨z,H3,I3,r3,k,e,q3⟩=>?_)) hm
 subst e;cases r3;refine wpAny_truthy_bool ?_;cases k with
 |false=>
  intros k' e' q' q3;cases e';exact ite_ff {H3,I3,(q')}
 |true=>
  refine ite_tt (test_last (aY (hc π s3 σ H3 _ I3 q3) λw' s4 ⟨z',H4,I4,r4,q4⟩=>aY (ho' π s4 σ H4 y z' u w' _ I4 r2 r4 q4) λd' s5 ⟨z2,H5,I5,r5,k2,e2,q5⟩=>?_));subst e2;cases r5;exact wpAny_truthy_bool {H5,I5,(q5)}
def aUl(r:KV kvs vs):(!vs.isEmpty)=!kvs.isEmpty:=by
 cases r<;>rfl
def aUg(r:Vals xs its):(!its.toArray.isEmpty)=!xs.isEmpty:=by
 cases r<;>simp
def Gj:(sizeLine:Nat)<2^63:=by rw[sizeLine_eq];decide
def aFL:cQ X (binaryOp .Add) (λx y H Q=>∃i j,x=.str i/\y=.str j/\i.length+j.length<=sizeLine/\Q (.str (i++j)) H):=by
 intro π s σ H x y v u Q I rx ry h;intros i j rfl rfl hz q h;intros t rfl rx;intros t' rfl ry;exact add_str (λt' tk=>{.str (i++j),H,I.tok _,{()},q}) hz
def vals1(r:Vals [x] us):∃u,us=[u]/\RelV x u:=by
 cases r with
 |cons r1 r2=>cases r2;exact{(),r1}
def vals2(r:Vals [x,y] us):∃u w',us=[u,w']/\RelV x u/\RelV y w':=by
 cases r with
 |cons r1 r2=>
  cases r2 with
  |cons r3 r4=>cases r4;exact{_,(),r1,r3}
def Fe:iM X (.builtin "abs") (λxs H Q=>∃i,xs=[.int i]/\Q (.int (if i<0 then -i else i)) H):=by
 intro π s σ H xs us Q I r h;intros i rfl q h;obtain⟨u,rfl,t,rfl⟩:=vals1 r;exact call_abs_int λu tk=>{.int (if i<0 then -i else i),H,I.tok _,{()},q}
def Mc(hc:X.calm=true):iM X (.builtin "max") (λxs H Q=>∃i j,xs=[.int i,.int j]/\Q (.int (if j>i then j else i)) H):=by
 intro π s σ H xs us Q I r h;intros i j rfl q h;obtain⟨u,w',rfl,⟨t,rfl⟩,⟨t',rfl⟩⟩:=vals2 r;refine max_two_ints (I.ok.hd hc) λh' tk k=>{_,H,I.kept k,?_,q};by_cases hj:j>i
 .rw[if_pos hj,if_pos hj];exact{()}
 .rw[if_neg hj,if_neg hj];exact{()}
def K9:iM X (.type "int") (λxs H Q=>(∃i,xs=[.int i]/\Q (.int i) H)∨∃k,xs=[.bl k]/\Q (.int (if k then 1 else 0)) H):=by
 intro π s σ H xs us Q I r h;rcases h with⟨i,rfl,q⟩|⟨k,rfl,q⟩
 .obtain⟨u,rfl,t,rfl⟩:=vals1 r;exact call_int_int {.int i,H,I,{()},q}
 .obtain⟨u,rfl,r1⟩:=vals1 r;cases r1;exact call_int_bool {.int (if k then 1 else 0),H,I.tok _,{()},q}
def Nx:iM X (.type "str") (λxs H Q=>∃i,xs=[.int i]/\i.natAbs.log2<1920/\Q (.str (toString i)) H):=by
 intro π s σ H xs us Q I r h;intros i rfl hz q h;obtain⟨u,rfl,t,rfl⟩:=vals1 r;exact PySem.P.str_of_int hz {.str _,H,I.tok _,{()},q}
def aIv(K:aD)(x:V)(H:Hp)(n:Nat):Prop:=
 match x with
 |.str y=>y.length<=sizeLine/\n=y.length
 |.oh y=>y.size<=sizeLine/\n=y.size
 |.ref p=>(∃xs,ak K H p xs/\n=xs.length)∨∃xs,ao K H p xs/\n=xs.length
 |_=>False
inductive dA(K:aD)(xs:τ)(H:Hp)(Q:VK):Prop|mk(x:V)(n:Nat)(_:xs=[x])(_:aIv K x H n)(_:Q (.int n) H)
def aP8:iM X (.builtin "len") (dA X.K):=by
 intro π s σ H xs us Q I r h;intros x n rfl e q h;obtain⟨u,rfl,rx⟩:=vals1 r;have hl:=Gj;have hs:sizeLine=16777216:=sizeLine_eq;cases x with
 |str y=>
  intros t rfl rx;obtain⟨hy,e'⟩:y.length<=sizeLine/\n=y.length:=e;subst e';exact len_str ⋯ {.int _,H,I.tok _,{()},q}
 |oh y=>
  intros t rfl rx;obtain⟨hy,e'⟩:y.size<=sizeLine/\n=y.size:=e;subst e';exact W.len_bytes ⋯ {.int _,H,I.tok _,{()},q}
 |ref p=>
  cases rx;have e':(∃xs,ak X.K H p xs/\n=xs.length)∨∃xs,ao X.K H p xs/\n=xs.length:=e;rcases e' with⟨xs,hx,e'⟩|⟨xs,hx,e'⟩
  .subst e';obtain⟨its,r',pl,hz⟩:=I.list hx;have hlen:=r'.length;exact Calls.call_len_list pl.isList (by simp only[gC];lia) {.int xs.length,H,I.tok _,{_,by simp only[gC];rw[hlen]},q}
  .subst e';obtain⟨its,r',pl,hz⟩:=I.tuple hx;have hlen:=r'.length;exact len_tuple pl (by simp only[gC];lia) {.int xs.length,H,I.tok _,{_,by simp only[gC];rw[hlen]},q}
 |_=>exact(show False from e).elim
end
end
structure AX(h:Heap)(x dx C:Addr)(mA:μ):Prop where
 obj:h.get? x=ι (zj C dx)
 ns:h.Ns1 dx mA
 ne:dx≠x
def aPD{h:Heap}{mA:μ}(n:h.Ns1 dx mA):∃od,h.get? dx=ι od/\∀name,TX name od=ι (mA name):=by
 intros o es ep ho hd hk _ hm n;refine{o,ho,λname=>?_};have e:=hm name;unfold nsFind findBy at e;rw[<-Array.find?_toList]at e;unfold TX;rw[hd];dsimp only;split
 .rename_i y q
  rw[q]at e;exact congrArg ι e
 .rename_i q
  rw[q]at e;have a:es.toList.any (·.refKey)=false:=by
   rw[List.any_eq_false];intro y hy;obtain⟨z,t,hkey⟩:=hk y (Array.mem_toList_iff.mp hy);simp[DictEntry.refKey,hkey]
  have a':¬es.toList.any (·.refKey)=true:=by rw[a];exact gQ
  rw[if_neg a'];exact congrArg ι e
def AX.look(I:AX h x dx C mA):∃od,W.InstAt h x (zj C dx) C (ι od)/\∀name,TX name od=ι (mA name):=
 let⟨od,ho,hl⟩:=aPD I.ns
 {od,{I.obj,rfl,rfl,(ho)},hl}
section
variable {A:Around}{E:χ}{s:Shared}{K:aD}{mA:μ}
def get_map{expr:Bool}{Q:χ}(X:K.In s.heap)(I:AX s.heap x dx C mA)(hg:LQ K C name=true)(hh:TQ K C=true)
  (ha:gK K (.ref C) name=ι ν)(hv:mA name=ι v)(hv':W.handedIn v=true)(h:Q v {s with toks:=s.toks+1}):
  wpAny (model prog w) A (getAttr (.ref x) name expr) Q E s:=by
 intros od J hl I.look;exact W.get_value X J (WY hg).1 (W.findObj_own hh ha rfl (by rw[hl,hv])) hv' h
def aLh{Q:Value×List Value->Shared->Prop}(X:K.In s.heap)(I:AX s.heap x dx C mA)(hg:LQ K C name=true)
  (hf:gK K (.ref C) name=ι (ι (.ref f)))(ht:W.isFn K (.ref f)=true)(hv:mA name=ν)(h:Q (.ref f,[.ref x]) s):
  wpAny (model prog w) A (getMethod (.ref x) name pl) Q E s:=by
 intros od J hl I.look;exact W.method_fn X J (WY hg).1 (WY hg).2 hf (beq_iff_eq.mp ht) (by show(TX name od).map (·.isSome)=ι false;rw[hl,hv];rfl) h
def aDd{ns:List Str}{Q:Unit->Shared->Prop}(X:K.In s.heap)(I:AX s.heap x dx C mA)
  (hs:gK K (.ref C) "__setattr__"=ι (ι (.builtin "object.__setattr__")))(hp:cz K C=true)(ht:eS K C name=ι ν)(hh:TQ K C=true)
  (hw:qA mA ns)(hsz:ns.length<=sizeLine)
  (h:∀h',AX h' x dx C (λy=>if y=name then ι v else mA y)->Ig dx s.heap h'->Q () {s with heap:=h',toks:=s.toks+2}):
  wpAny (model prog w) A (setAttr (.ref x) name v) Q E s:=by
 intros od J hl I.look;refine W.set_plain X J hs (W.osa_open (s:={s with toks:=s.toks+1}) (r:=ν) X J hp ht λb=>?_);obtain⟨cd,hc,hd'⟩:=W.any_some hh;have hx:s.heap.get? x=ι {.ref C,ι dx,.plain,#[]}:=I.obj;refine wpAny_bind (wpAny_pure (wpAny_bind (wpAny_bind (wpAny_loadPart hx (wpAny_bind (W.Looks.here (s:={s with toks:=s.toks+1}) (W.looks_clsIn X hc) ?_))))));rw[hd'];refine wpAny_pure (a:=ι dx) (wpAny_bind (wpAny_pure (wpAny_bind ?_)));refine wpAny_nsSet1 (s:={s with toks:=s.toks+1}) I.ns λh' hn2 hs2=>?_;obtain⟨oD,esD,epD,hoD,hdD,hcD⟩:=hn2.count (avl name v hw);refine wpAny_bind (wpAny_lookBehind hoD (by rw[hdD];exact pastItsLine_dict (cM hcD (by rw[j8];lia))) ?_);exact wpAny_pure (h _ {(hs2.2 _ (jB I.ne)).trans I.obj,hn2,I.ne} hs2)
def aFQ{R:Result->Shared->Prop}(X:K.In s.heap)(hm:TY K C=true)
  (hi:gK K (.ref C) "__init__"=ι (ι (.ref f)))(hf:W.typeIn K (.ref f)=ι (.type "function"))
  (h:codeAny (model prog w) (A.under (.builtin "type.__call__" {.ref C::vs,kw})) (.call (.ref f) {.ref (s.heap.objs.size+1)::vs,kw}) (W.InitBack (s.heap.objs.size+1) R)
   {s with heap:=(s.heap.push wJ).push (zj C s.heap.objs.size)}):
  codeAny (model prog w) A (.call (.ref C) {vs,(kw)}) R s:=by
 intros hh g d t os s;exact W.make_core (W.makes_of X hm) (TJ X hi) (λself=>W.bind_fn X self hf) (.inl rfl) h
end
def kE(f:Str)(v:V):List (Str×V)->List (Str×V)
 |[]=>[(f,v)]
 |(g,x)::r=>if g=f then(g,v)::r else(g,x)::kE f v r
theorem Nj(f g:Str)(v:V):∀fs:List (Str×V),(kE f v fs).lookup g=if g=f then ι v else fs.lookup g
 |[]=>by
  show AZ g [(f,v)]=_;by_cases h:g=f
  .have hb:(g==f)=true:=beq_iff_eq.mpr h;simp only[AZ,hb,if_pos h]
  .have hb:(g==f)=false:=beq_eq_false_iff_ne.mpr h;simp only[AZ,hb,if_neg h]
 |(k,x)::r=>by
  have ih:=Nj f g v r;rw[show kE f v ((k,x)::r)=(if k=f then(k,v)::r else(k,x)::kE f v r)from rfl];by_cases hk:k=f
  .rw[if_pos hk];by_cases h:g=k
   .have hb:(g==k)=true:=beq_iff_eq.mpr h;simp only[AZ,hb,if_pos (h.trans hk)]
   .have hb:(g==k)=false:=beq_eq_false_iff_ne.mpr h;simp only[AZ,hb,if_neg (λe:g=f=>h (e.trans hk.symm))]
  .rw[if_neg hk];by_cases h:g=k
   .have hb:(g==k)=true:=beq_iff_eq.mpr h;simp only[AZ,hb,if_neg (λe:g=f=>hk (h.symm.trans e))]
   .have hb:(g==k)=false:=beq_eq_false_iff_ne.mpr h;simp only[AZ,hb];exact ih
theorem YK(f:Str)(v:V):∀fs:List (Str×V),f∈(kE f v fs).map (·.1)/\∀g,g∈fs.map (·.1)->g∈(kE f v fs).map (·.1)
 |[]=>{by simp[kE],λg h=>by simp at h}
 |(k,x)::r=>by
  obtain⟨i1,i2⟩:=YK f v r;rw[show kE f v ((k,x)::r)=(if k=f then(k,v)::r else(k,x)::kE f v r)from rfl];by_cases hk:k=f
  .rw[if_pos hk];subst hk;exact{by simp,λg h=>by simpa using h}
  .rw[if_neg hk];refine{?_,λg h=>?_}
   .rw[ji];exact fM _ i1
   .rw[ji]at h⊢;rcases c7.mp h with e|e
    .exact c7.mpr (.inl e)
    .exact fM _ (i2 g e)
theorem KA(f:Str)(v:V):∀fs:List (Str×V),(kE f v fs).length<=fs.length+1
 |[]=>by simp[kE]
 |(k,x)::r=>by
  have ih:=KA f v r;rw[show kE f v ((k,x)::r)=(if k=f then(k,v)::r else(k,x)::kE f v r)from rfl];by_cases hk:k=f
  .rw[if_pos hk,j8,j8];lia
  .rw[if_neg hk,j8,j8];lia
def lE.some_of(r:lE (ι v) o):∃u,o=ι u/\RelV v u:=by
 cases o with
 |none=>exact(show False from r).elim
 |some u=>exact{u,rfl,(r)}
def lE.none_of(r:lE ν o):o=ν:=by
 cases o with
 |none=>rfl
 |some u=>exact(show False from r).elim
def awH(r:RelV v u):W.handedIn u=true:=by
 cases v with
 |non=>cases (show u=Value.none from r);rfl
 |bl b=>cases (show u=Value.bool b from r);rfl
 |int i=>obtain⟨t,e⟩:=(show ∃t,u=Value.int i t from r);cases e;rfl
 |str x=>obtain⟨t,e⟩:=(show ∃t,u=Value.str x t from r);cases e;rfl
 |oh b=>obtain⟨t,e⟩:=(show ∃t,u=Value.bytes b t from r);cases e;rfl
 |flt b=>obtain⟨t,e⟩:=(show ∃t,u=Value.float b t from r);cases e;rfl
 |ref a=>cases (show u=Value.ref a from r);rfl
 |ty n=>cases (show u=Value.type n from r);rfl
def Qo(hok:fP P w H h)(e:H a=ι (.ins C dx fs)):∃mA,AX h a dx C mA/\(∀f,lE (fs.lookup f) (mA f))/\qA mA (fs.map (·.1))/\fs.length<=1000/\H dx=ι (.own a):=by
 obtain⟨d,z,ne,ob,mA,n,r,q⟩:=(show fB P w H h a (.ins C dx fs)from hok a _ e);exact{mA,{ob,n,(ne)},r,q,z,d}
structure Cls(K:aD)(C:Addr):Prop where
 pg:LQ K C Str.empty=true
 hd:TQ K C=true
 po:cz K C=true
 sa:gK K (.ref C) "__setattr__"=ι (ι (.builtin "object.__setattr__"))
def Cls.get{K:aD}{C:Addr}(c:Cls K C)(f:Str):LQ K C f=true:=c.pg
def AK(K:aD)(C:Addr)(f:Str):Prop:=gK K (.ref C) f=ι ν
def AK.aHV{K:aD}{C:Addr}{f:Str}(n:AK K C f):eS K C f=ι ν:=by
 unfold eS;rw[show gK K (.ref C) f=ι ν from n];rfl
structure Meth(K:aD)(C:Addr)(m:Str)(f:Addr):Prop where
 at_:gK K (.ref C) m=ι (ι (.ref f))
 fn:W.isFn K (.ref f)=true
 kp:oR K (.ref f)=true
def aSE(I:Inv X π σ H s)(e:H a=ι (.ins C dx fs))(c:Cls X.K C)(n:AK X.K C f)(l:fs.lookup f=ι v)
  (h:∀u s',Inv X π σ H s'->RelV v u->Q u s'):wpAny (model X.prog X.w) A (getAttr (.ref a) f b) Q E s:=by
 obtain⟨mA,O,r,_,_,_⟩:=Qo I.hok e;obtain⟨u,hu,ru⟩:=lE.some_of (v:=v) (o:=mA f) (by rw[<-l];exact r f);exact get_map I.dR O (c.get f) c.hd n hu (awH ru) (h u _ (I.tok _) ru)
def aMh(I:Inv X π σ H s)(e:H a=ι (.ins C dx fs))(c:Cls X.K C)(k:Meth X.K C m g)(l:fs.lookup m=ν)
  (h:Q (.ref g,[.ref a]) s):wpAny (model X.prog X.w) A (getMethod (.ref a) m pl) Q E s:=by
 obtain⟨mA,O,r,_,_,_⟩:=Qo I.hok e;have hn:mA m=ν:=lE.none_of (by rw[<-l];exact r m);exact aLh I.dR O (c.get m) k.at_ k.fn hn h
def aDf(I:Inv X π σ H s)(e:H a=ι (.ins C dx fs))(c:Cls X.K C)(n:AK X.K C f)(hl:fs.length<1000)(ry:RelV y u)
  (h:∀s',Inv X π σ (upd H a (.ins C dx (kE f y fs))) s'->Q () s'):wpAny (model X.prog X.w) A (setAttr (.ref a) f u) Q E s:=by
 obtain⟨mA,O,r,wi,_,ho⟩:=Qo I.hok e;have hz:(fs.map (·.1)).length<=sizeLine:=by rw[aB,sizeLine_eq];lia
 refine aDd I.dR O c.sa c.po n.aHV c.hd wi hz λh' O' sb=>h _ ?_;have hd:∃o,h'.get? dx=ι o:=let⟨o,_,_,e',_⟩:=O'.ns;{o,(e')};refine I.write (x:=a) (e:=dx) (by rw[e];exact True.intro) (.inr ho) (λb q hb z=>(sb.2 b hb).trans z) hd ?_;refine{by rw[cH O.ne];exact ho,?_,O.ne,O'.obj,_,O'.ns,λg=>?_,λg hg=>?_}
 .have:=KA f y fs;lia
 .show lE ((kE f y fs).lookup g) (if g=f then ι u else mA g);rw[Nj];by_cases q:g=f
  .rw[if_pos q,if_pos q];exact ry
  .rw[if_neg q,if_neg q];exact r g
 .by_cases q:g=f
  .rw[q];exact(YK f y fs).1
  .refine(YK f y fs).2 g (wi g λz=>hg ?_);show(if g=f then ι u else mA g)=ν;rw[if_neg q];exact z
def Inv.made(I:Inv X π σ H s):Inv X π σ (upd (upd H s.heap.objs.size (.own (s.heap.objs.size+1))) (s.heap.objs.size+1) (.ins C s.heap.objs.size []))
  {s with heap:=(s.heap.push wJ).push (zj C s.heap.objs.size)}:=by
 have e1:(s.heap.push wJ).get? s.heap.objs.size=ι wJ:=Heap.get?_push_size s.heap rfl;have e2:((s.heap.push wJ).push (zj C s.heap.objs.size)).get? (s.heap.objs.size+1)=ι (zj C s.heap.objs.size):=by
  have:=Heap.get?_push_size (s.heap.push wJ) (o:=zj C s.heap.objs.size) rfl
  rwa [yo]at this
 have e3:(s.heap.push wJ).Ns s.heap.objs.size (λ_=>ν):={wJ,#[],_,e1,rfl,(λe he=>absurd he (by simp)),λ_=>rfl};have I1:=I.laid (a:=s.heap.objs.size) (o:=.own (s.heap.objs.size+1)) (h':=s.heap.push wJ) (t':=s.toks) (λb u q=>Heap.get?_push_of_some _ q) (aZ _) {_,e1};refine I1.laid (a:=s.heap.objs.size+1) (o:=.ins C s.heap.objs.size []) (t':=s.toks) (λb u q=>Heap.get?_push_of_some _ q) (MX (yo _ _)) ?_;have ne:s.heap.objs.size≠s.heap.objs.size+1:=jr (iq _);refine{by rw[cH ne,aq],cZ _,ne,e2,λ_=>ν,(Heap.Ns1.of_empty e3).at λo q=>Heap.get?_push_of_some _ q,λ_=>True.intro,λy hy=>absurd rfl hy}
def aNQ(hb:attributeBase e f env (eval e env)=eval e env)
  (h:wpAny (model prog w) A (eval e env) (λo s₁=>wpAny (model prog w) A (getAttr o f true) Q E s₁) E s):wpAny (model prog w) A (eval (.Attribute e f pos) env) Q E s:=
 Attribute_any_ h (by rw[arm_eval_Attribute,hb])
def BG(K:aD)(ta:TE)(f:Str):TE:=λσ H Q=>ta σ H λx H1=>∃a C dx fs v,x=.ref a/\H1 a=ι (.ins C dx fs)/\Cls K C/\AK K C f/\fs.lookup f=ι v/\Q v H1
def azQ(K:aD)(ta tv:TE)(f:Str):TS:=λD σ H=>tv σ H λy H1=>ta σ H1 λx H2=>∃a C dx fs,x=.ref a/\H2 a=ι (.ins C dx fs)/\Cls K C/\AK K C f/\fs.length<1000/\
 D.nx σ (upd H2 a (.ins C dx (kE f y fs)))
def aSj(he:PE X e ta)(hb:attributeBase e f X.env (eval e X.env)=eval e X.env):PE X (.Attribute e f pos) (BG X.K ta f):=by
 intro π s σ H Q I h;refine aNQ hb (aY (he π s σ H _ I h) λu s1 ⟨x,H1,I1,rx,a,C,dx,fs,v,ex,ea,c,n,l,q⟩=>?_);subst ex;obtain rfl:u=Value.ref a:=rx;exact aSE I1 ea c n l λu' s2 I2 ru=>{v,H1,I2,ru,(q)}
def aQy(ha:PE X o ta)(hv:PE X value tv)(hs:swapsWith value (ι (.Attribute o f pos')) pos.line X.env=pure false):PS X (.Assign [.Attribute o f pos'] value pos) (azQ X.K ta tv f):=by
 intro π s σ H D I h;refine plainObj_wpAny_Assign_Attribute (aY (hv π s σ H _ I h) λu s1 ⟨y,H1,I1,ry,q⟩=>aY (ha π s1 σ H1 _ I1 q) λov s2 ⟨x,H2,I2,rx,a,C,dx,fs,ex,ea,c,n,l,q2⟩=>?_) hs;subst ex;obtain rfl:ov=Value.ref a:=rx;exact aDf I2 ea c n l ry λs3 I3=>{σ,_,I3,q2}
section
variable {H:Hp}
inductive pY(K:aD)(H:Hp):V->Value->Prop where
 |non:pY K H .non (.type "NoneType")
 |bl (x:Bool):pY K H (.bl x) (.type "bool")
 |int (i:Int):pY K H (.int i) (.type "int")
 |str (x:Str):pY K H (.str x) (.type "str")
 |flt (x:UInt64):pY K H (.flt x) (.type "float")
 |lst {a:Addr} {xs:τ} (e:H a=ι (.lst xs)):pY K H (.ref a) (.type "list")
 |gP {a:Addr} {o:Obj} {xs:τ} (e:H a=ι (.gP o (.lst xs))):pY K H (.ref a) (.type "list")
 |tup {a:Addr} {xs:τ} (e:H a=ι (.tup xs)):pY K H (.ref a) (.type "tuple")
 |dK {a:Addr} {kvs:List (Key×V)} (e:H a=ι (.dK kvs)):pY K H (.ref a) (.type "dict")
 |dT {a:Addr} {kvs:List (List Key×V)} (e:H a=ι (.dT kvs)):pY K H (.ref a) (.type "dict")
 |ins {a C dx:Addr} {fs:List (Str×V)} (e:H a=ι (.ins C dx fs)) (cl:Cls K C) (ha:gK K (.ref C) "__class__"=ι (ι (.builtin "object.__class__")))
   (hn:W.specialIn K (.builtin "object.__class__") "__get__"=ι (ι (.builtin "getset_descriptor.__get__"))) (htk:W.takesIn K (.builtin "object.__class__")=ι true)
   (hm:rP K C (.type "object")=ι true):pY K H (.ref a) (.ref C)
def aNT(I:Inv X π σ H s)(rx:RelV x u)(ty:pY X.K H x t)(e:bB X.K t c=ι b)(h:∀tk,Q (.bool b) {s with toks:=tk}):
  wpAny (model X.prog X.w) A (call (.builtin "isinstance") [u,c]) Q E s:=by
 cases ty with
 |non=>cases (show u=Value.none from rx);exact pQ W.kitx_none I.dR True.intro e (λz=>nomatch z) h
 |bl y=>cases (show u=Value.bool y from rx);exact pQ W.kitx_bool I.dR True.intro e (λz=>nomatch z) h
 |int i=>obtain⟨t,q⟩:=(show ∃t,u=Value.int i t from rx);cases q;exact pQ W.kitx_int I.dR True.intro e (λz=>nomatch z) h
 |str y=>obtain⟨t,q⟩:=(show ∃t,u=Value.str y t from rx);cases q;exact pQ W.kitx_str I.dR True.intro e (λz=>nomatch z) h
 |flt y=>obtain⟨t,q⟩:=(show ∃t,u=Value.float y t from rx);cases q;exact pQ W.kitx_float I.dR True.intro e (λz=>nomatch z) h
 |@lst a xs ea=>
  cases (show u=Value.ref a from rx);obtain⟨_,_,n,_,h1⟩:=(show fB X.prog X.w H s.heap a (.lst xs)from I.hok a _ ea);exact pQ W.kitx_list I.dR {_,h1,rfl} e (λz=>nomatch z) h
 |@gP a ob xs ea=>
  cases (show u=Value.ref a from rx);obtain⟨_,_,_,n,_,h1⟩:=(show fB X.prog X.w H s.heap a (.gP ob (.lst xs))from I.hok a _ ea);exact pQ W.kitx_list I.dR {_,h1,rfl} e (λz=>nomatch z) h
 |@tup a xs ea=>
  cases (show u=Value.ref a from rx);obtain⟨_,_,_,p⟩:=(show fB X.prog X.w H s.heap a (.tup xs)from I.hok a _ ea);intros o h1 h2 _ p;exact pQ W.kitx_tuple I.dR {o,h1,(h2)} e (λz=>nomatch z) h
 |@dK a kvs ea=>
  cases (show u=Value.ref a from rx);obtain⟨_,_,vs,_,p⟩:=(show fB X.prog X.w H s.heap a (.dK kvs)from I.hok a _ ea);intros o es ep h1 h2 _ p;exact pQ W.kitx_dict I.dR {o,h1,(h2.1)} e (λz=>nomatch z) h
 |@dT a kvs ea=>
  cases (show u=Value.ref a from rx);obtain⟨_,_,xs,_,o,es,ep,h1,h2,_⟩:=(show fB X.prog X.w H s.heap a (.dT kvs)from I.hok a _ ea);exact pQ W.kitx_dict I.dR {o,h1,(h2.1)} e (λz=>nomatch z) h
 |@ins a C dx fs ea cl ha hn htk hm=>
  cases (show u=Value.ref a from rx);obtain⟨mA,O,_⟩:=Qo I.hok ea;intros od J _ O.look;exact pQ (W.kitx_own (cl.get _) cl.hd ha hn htk hm) I.dR J e (λz=>nomatch z) h
end
section
variable {k:Nat}{A:Around}{C:Addr}{us:List Value}{kw:List (Str×Value)}
structure cX(k:Nat)(A:Around):Prop where
 hd:A.handled=ν
 dp:A.depth+3*k+105<recursionLimit
 un:A.units+16*k+200<cLine
def cX.mono(r:cX k A)(h:j<=k):cX j A:={r.hd,by have:=r.dp;lia,by have:=r.un;lia}
theorem cX.deeper{k:Nat}{A:Around}(r:cX (k+1) A)(env:Env):cX k (A.deeper env):=
 {r.hd,by have:=r.dp;show A.depth+1+3*k+105<_;lia,by have:=r.un;show A.units+3+16*k+200<_;lia}
def awC:(A.under (.builtin "type.__call__" {.ref C::us,kw})).depth=A.depth+1:=by
 first|rfl|simp[mI,Code.weight,Code.isCreation,Code.isGuard,Code.isCaller,Code.frames,Code.isFrame,guardIds]
def aBC:(A.under (.builtin "type.__call__" {.ref C::us,kw})).units=A.units+1:=by
 first|rfl|simp[mI,Code.cUnits,Code.frames,Code.isFrame]
def cX.make{k:Nat}{A:Around}(r:cX (k+1) A)(C:Addr)(us:List Value)(kw:List (Str×Value)):cX k (A.under (.builtin "type.__call__" {.ref C::us,kw})):=
 {r.hd,by have:=r.dp;rw[awC];lia,by have:=r.un;rw[aBC];lia}
theorem cX.depth{k:Nat}{A:Around}(r:cX k A):A.depth<recursionLimit:=by have:=r.dp;lia
theorem cX.units{k:Nat}{A:Around}(r:cX k A):A.units+64<cLine:=by have:=r.un;lia
def cX.NI(r:cX k A):A.units<cLine:=by have:=r.un;lia
def uD:TA:=λ_ H Q=>Q [] H
def uq(ta:TE)(tr:TA):TA:=λσ H Q=>ta σ H λx H1=>tr σ H1 λxs H2=>Q (x::xs) H2
end
section
variable {t:TA}
def iW:PA X [] uD:=λ_ _ _ _ H Q I h=>JI {[],H,I,.nil,h}
def xV(ha:PE X e te)(hr:PA X es t)(hs:starEach (e::es) X.env=(false,eval e X.env)::starEach es X.env:=by rfl):PA X (e::es) (uq te t):=by
 intro pos π s σ H Q I h;rw[hs];show wpAny _ _ (spliced ((false,eval e X.env)::backTo pos (starEach es X.env))) _ _ s;refine FH (aY (ha π s σ H _ I h) λu s1 ⟨x,H1,I1,r1,q1⟩=>?_);exact aY (hr pos π s1 σ H1 _ I1 q1) λus s2 ⟨xs,H2,I2,r2,q2⟩=>{x::xs,H2,I2,.cons r1 r2,q2}
inductive Nd(xs:τ)(o:HO)(H:Hp)(Q:VK):Prop|mk(_:xs.length<=sizeLine)(_:∀p,H p=ν->Q (.ref p) (upd H p o))
def zi(t:TA):TE:=λσ H Q=>t σ H λxs H1=>Nd xs (.tup xs) H1 Q
def aKA(t:TA):TE:=λσ H Q=>t σ H λxs H1=>Nd xs (.lst xs) H1 Q
def dG{x1}(h:PA X es t):PE X (.Tuple es x1 pos) (zi t):=by
 intro π s σ H Q I hq;refine wpAny_Tuple_spliced (aY (h pos π s σ H _ I hq) λus s1 ⟨xs,H1,I1,r,z,q⟩=>{by rw[<-r.length];exact z,?_});have hf:H1 s1.heap.objs.size=ν:=I1.hok.fresh (aZ _);refine{.ref s1.heap.objs.size,upd H1 s1.heap.objs.size (.tup xs),I1.laid (t':=s1.toks) (λb u e=>Heap.get?_push_of_some _ e) (aZ _) ?_,rfl,q _ hf};exact{z,us,r,{_,Heap.get?_push_size _ rfl,rfl,()}}
def dI(h:PA X es t):PE X (.List es pos) (aKA t):=by
 intro π s σ H Q I hq;refine wpAny_List_spliced (aY (h pos π s σ H _ I hq) λus s1 ⟨xs,H1,I1,r,z,q⟩=>{by rw[<-r.length];exact z,?_});have hf:H1 s1.heap.objs.size=ν:=I1.hok.fresh (aZ _);refine{.ref s1.heap.objs.size,upd H1 s1.heap.objs.size (.lst xs),I1.laid (t':=s1.toks) (λb u e=>Heap.get?_push_of_some _ e) (aZ _) ?_,rfl,q _ hf};exact{z,us,0,r,Heap.get?_push_size _ rfl}
end
abbrev Sp:=τ->Hp->VK->XK->Prop
abbrev tK:=List Env->Hp->Shared->XK->Value->Shared->Prop
structure zN(P:Program)(w:World)(K:aD)(mg:μ)(base:Heap)(A:Around)(outer:List Env)(s:Shared)(H:Hp):Prop where
 frames:A.frames=ι outer
 mod:Mod K mg base
 bs:∀b o,base.get? b=ι o->s.heap.get? b=ι o/\H b=ν
 uM:base.objs.size<=s.heap.objs.size
 qd:s.heap.FunFrames base outer
 zX:∀b∈frs outer,H b=ν
 hok:fP P w H s.heap
 bare:AllBare s.gens
 tree:P.given.tree=ν
def CE(outer:List Env)(P:Program)(w:World)(H:Hp)(s:Shared)(Q:VK)(u:Value)(s':Shared):Prop:=
 ∃v H',s'.os=s.os/\AllBare s'.gens/\Un (frs outer) [] H H' s.heap s'.heap/\fP P w H' s'.heap/\RelV v u/\Q v H'
def CR(CX:tK)(outer:List Env)(P:Program)(w:World)(H:Hp)(s:Shared)(Q:VK)(E:XK)(r:Result)(s':Shared):Prop:=
 match r with
 |.ok (.ret u)=>CE outer P w H s Q u s'
 |.ok _=>False
 |.error e=>CX outer H s E e s'
structure kj(P:Program)(w:World)(K:aD)(mg:μ)(base:Heap)(CX:tK)(k:Nat)(f:Addr)(fd:FuncData)(ps:List Str)(sp:Sp):Prop where
 len:∀vs H Q E,sp vs H Q E->vs.length=ps.length
 run:∀(A:Around)(outer:List Env)(s:Shared)(H:Hp)(args:Args)(us:List Value)(vs:τ)(Q:VK)(E:XK),cX k A->zN P w K mg base A outer s H->BindsTo s fd args (ps.zip us)->Vals vs us->sp vs H Q E->
  codeAny (model P w) A (.call (.ref f) args) (CR CX outer P w H s Q E) s
theorem kj.mono{P:Program}{w:World}{K:aD}{mg:μ}{base:Heap}{CX:tK}{j k:Nat}{f:Addr}{fd:FuncData}{ps:List Str}{sp:Sp}(F:kj P w K mg base CX j f fd ps sp)(h:j<=k):
  kj P w K mg base CX k f fd ps sp:={F.len,λA outer s H args us vs Q E hr=>F.run A outer s H args us vs Q E (hr.mono h)}
def zN.make{P:Program}{w:World}{K:aD}{mg:μ}{base:Heap}{A:Around}{outer:List Env}{s:Shared}{H:Hp}(e:zN P w K mg base A outer s H)(C:Addr)(us:List Value)(kw:List (Str×Value)):
  zN P w K mg base (A.under (.builtin "type.__call__" {.ref C::us,kw})) outer s H:={by first|exact e.frames|(simpa[mI,Code.envs,Code.isFrame,pushEnvs]using e.frames),e.mod,e.bs,e.uM,e.qd,e.zX,e.hok,e.bare,e.tree}
section
variable {X:Cx}{π:List (Addr×Obj)}{σ:St}{H:Hp}{s s':Shared}
def Inv.env0(I:Inv X π σ H s):zN X.prog X.w X.K X.mg X.base X.A X.stack s H:=
 {I.ok.frames,I.ok.mod,I.bs,cM I.ok.uM I.sz,I.stack,I.sQ,I.hok,I.bare,I.ok.tree}
def Inv.after{Q:VK}{u:Value}(I:Inv X π σ H s)(h:CE X.stack X.prog X.w H s Q u s'):EP X π σ Q u s':=by
 intros v H' os bare un hok r q h;intros hh g d t os' s';obtain rfl:os'=s.os:=os;exact{v,H',I.call (h':=hh) (g':=g) (d':=d) (t':=t) (ch:=[]) un hok bare (λb z=>absurd z (by simp)),r,q}
end
def Ep(sp:Sp)(iI:τ)(E:XK)(t:TA):TE:=λσ H Q=>t σ H λvs H1=>sp (vs++iI) H1 Q E
def WU(C:Addr)(sp:Sp)(iI:τ)(E:XK)(t:TA):TE:=λσ H Q=>t σ H λvs H1=>∀x dx,H1 x=ν->H1 dx=ν->dx≠x->
 sp (.ref x::(vs++iI)) (upd (upd H1 dx (.own x)) x (.ins C dx [])) (λv H2=>v=.non/\Q (.ref x) H2) E
def Binds(K:aD)(fd:FuncData)(ps:List Str)(ds:List Value):Prop:=
 ∀(s:Shared)(us:List Value),K.In s.heap->(us++ds).length=ps.length->BindsTo s fd {us,([])} (ps.zip (us++ds))
def Binds.all{K:aD}{fd:FuncData}{ps:List Str}(h:∀us:List Value,us.length=ps.length->bindArgs fd {us,([])}=pure (ps.zip us)):Binds K fd ps []:=λs us _ hl=>by
 rw[rJ]at hl⊢;exact .of_eq (h us hl)
def Passes(CX:tK)(X:Cx)(E:XK):Prop:=∀(π:List (Addr×Obj))(σ:St)(H:Hp)(s:Shared)(e:Value)(s':Shared),Inv X π σ H s->CX X.stack H s E e s'->X.xe e s'
section
variable {f C:Addr}
def kT(F:kj X.prog X.w X.K X.mg X.base CX k f fd ps sp)(hr:cX k X.A)(hb:Binds X.K fd ps ds)(hd:Vals iI ds)(hx:Passes CX X E)
  (I:Inv X π σ H s)(r:Vals vs us)(h:sp (vs++iI) H Q E):wpAny (model X.prog X.w) X.A (call (.ref f) us) (EP X π σ Q) X.xe s:=by
 have r2:Vals (vs++iI) (us++ds):=r.append hd;have hl:(us++ds).length=ps.length:=by rw[<-r2.length];exact F.len _ _ _ _ h
 refine wpAny_call (codeAny_mono (F.run X.A X.stack s H {us,([])} (us++ds) (vs++iI) Q E hr I.env0 (hb s us I.dR hl) r2 h) λr s' hq=>?_);cases r with
 |error e=>exact hx π σ H s e s' I hq
 |ok fl=>
  cases fl with
  |ret u=>exact I.after hq
  |next=>exact False.elim hq
  |brk=>exact False.elim hq
  |cont=>exact False.elim hq
def Tu(F:kj X.prog X.w X.K X.mg X.base CX k f fd ps sp)(hr:cX k X.A)(hg:Gl X x)(hm:X.mg x=ι (.ref f))(hk:oR X.K (.ref f)=true)(hb:Binds X.K fd ps ds)(hd:Vals iI ds)(hx:Passes CX X E)
  (ha:PA X (e::es) t)(hdb:(x==("__debug__":Str))=false:=by decide)(he:starEach (e::es) X.env=(false,eval e X.env)::starEach es X.env:=by rfl)(hpl:(backTo pos (starEach es X.env)).any (·.1)=false:=by rfl):
  PE X (.Call (.Name x p) (e::es) [] pos) (Ep sp iI E t):=by
 intro π s σ H Q I h;refine wpAny_Call_Name_kw (qP I hg hm ?_ hdb);refine Iv (h₀:=X.base) I.ok.mod.zF hk (aY (ha pos π s σ H _ I h) λus s1 ⟨vs,H1,I1,r,q⟩=>{I1.dR,?_}) he hpl;exact kT F hr hb hd hx I1 r q
def aAW(F:kj X.prog X.w X.K X.mg X.base CX k f fd ps sp)(hr:cX k X.A)(hg:Gl X x)(hm:X.mg x=ι (.ref f))(hk:oR X.K (.ref f)=true)(hb:Binds X.K fd ps ds)(hd:Vals iI ds)(hx:Passes CX X E)
  (hdb:(x==("__debug__":Str))=false:=by decide):PE X (.Call (.Name x p) [] [] pos) (Ep sp iI E uD):=by
 intro π s σ H Q I h;refine wpAny_Call_Name_kw (qP I hg hm ?_ hdb);exact W.callWith_K0 I.dR hk (kT (us:=[]) F hr hb hd hx I .nil h)
structure Mk(K:aD)(C f:Addr):Prop where
 makes:TY K C=true
 init:gK K (.ref C) "__init__"=ι (ι (.ref f))
 fn:W.isFn K (.ref f)=true
 kp:oR K (.ref C)=true
def aLF(M:Mk X.K C f)(F:kj X.prog X.w X.K X.mg X.base CX k f fd ps sp)(hr:cX (k+1) X.A)(hb:Binds X.K fd ps ds)(hd:Vals iI ds)
  (hx:Passes CX X E)(I:Inv X π σ H s)(r:Vals vs us)
  (h:∀x dx,H x=ν->H dx=ν->dx≠x->sp (.ref x::(vs++iI)) (upd (upd H dx (.own x)) x (.ins C dx [])) (λv H2=>v=.non/\Q (.ref x) H2) E):
  wpAny (model X.prog X.w) X.A (call (.ref C) us) (EP X π σ Q) X.xe s:=by
 have hq:=h (s.heap.objs.size+1) s.heap.objs.size (I.hok.fresh (Nat.le_succ _)) (I.hok.fresh (aZ _)) (jr (iq _));have I2:=Inv.made (C:=C) I;have r2:Vals (V.ref (s.heap.objs.size+1)::(vs++iI)) (Value.ref (s.heap.objs.size+1)::(us++ds)):=.cons rfl (r.append hd);have hl:(Value.ref (s.heap.objs.size+1)::us++ds).length=ps.length:=by
  have e:=r2.length;rw[F.len _ _ _ _ hq]at e;exact e.symm
 refine wpAny_call (aFQ (f:=f) I.dR M.makes M.init (beq_iff_eq.mp M.fn) (codeAny_mono (F.run _ X.stack _ _ {Value.ref (s.heap.objs.size+1)::us,[]} (Value.ref (s.heap.objs.size+1)::(us++ds)) _ _ E (hr.make C us [])
  (I2.env0.make C us []) (hb _ (Value.ref (s.heap.objs.size+1)::us) I2.dR hl) r2 hq) λr s' hq'=>?_))
 cases r with
 |error e=>exact hx π σ _ _ e s' I2 hq'
 |ok fl=>
  cases fl with
  |ret u=>
   obtain⟨v,H',I3,rv,ev,q3⟩:=I2.after hq';subst ev;exact{rv,{V.ref (s.heap.objs.size+1),H',I3,rfl,q3}}
  |next=>exact False.elim hq'
  |brk=>exact False.elim hq'
  |cont=>exact False.elim hq'
def az8(M:Mk X.K C f)(F:kj X.prog X.w X.K X.mg X.base CX k f fd ps sp)(hr:cX (k+1) X.A)(hg:Gl X x)(hm:X.mg x=ι (.ref C))(hb:Binds X.K fd ps ds)(hd:Vals iI ds)(hx:Passes CX X E)
  (hdb:(x==("__debug__":Str))=false:=by decide):PE X (.Call (.Name x p) [] [] pos) (WU C sp iI E uD):=by
 intro π s σ H Q I h;refine wpAny_Call_Name_kw (qP I hg hm ?_ hdb);exact W.callWith_K0 I.dR M.kp (aLF (us:=[]) M F hr hb hd hx I .nil h)
end
section
variable {CX:tK}{P:Program}{w:World}{K:aD}{mg:μ}{base:Heap}{qual:Str}{scope:Scope}{f:Addr}
structure aL(N P:List Str)(sc:Scope):Prop where
 kind:sc.kind=.function
 co:sc.isCoroutine=false
 gen:sc.isGenerator=false
 nd:N.Nodup
 pre:N.take P.length=P
 par:∀x∈P,sc.names.lookup x=ι .local∨sc.names.lookup x=ι .cell
 Yl:∀y∈sc.names,y.2≠ .free
theorem NO{kindOf:Str->Option NameKind}:∀{binds:List (Str×Value)} {m:μ},(∀v,(x,v)∉binds)->bindL kindOf binds m x=m x
 |[],_,_=>rfl
 |(n,v)::r,m,h=>by
  unfold bindL;rw[NO λw hw=>h w (fM _ hw)];split
  .have:x≠n:=by rintro rfl;exact h v iY
   simp[this]
  .rfl
theorem xc{kindOf:Str->Option NameKind}:∀{binds:List (Str×Value)} {m:μ},(∀v,(x,v)∉binds)->bindC kindOf binds m x=m x
 |[],_,_=>rfl
 |(n,v)::r,m,h=>by
  unfold bindC;rw[xc λw hw=>h w (fM _ hw)];split
  .rfl
  .have:x≠n:=by rintro rfl;exact h v iY
   simp[this]
theorem AU{kindOf:Str->Option NameKind}:∀{P:List Str} {vs:List Value} {i:Nat} {m:μ},P.Nodup->P[i]?=ι x->vs[i]?=ι v->kindOf x=ι .local->
  bindL kindOf (P.zip vs) m x=ι v
 |[],_,_,_,_,h,_,_=>by simp at h
 |_::_,[],_,_,_,_,h,_=>by simp at h
 |p::P,w::vs,0,m,nd,h1,h2,hk=>by
  simp at h1 h2;subst h1;subst h2;show bindL kindOf ((p,w)::P.zip vs) m p=_;unfold bindL;rw[NO λv hv=>(Cd.mp nd).1 (Ri hv).1,if_pos hk];simp
 |p::P,w::vs,i+1,m,nd,h1,h2,hk=>by
  show bindL kindOf ((p,w)::P.zip vs) m x=_;unfold bindL;exact AU (i:=i) (Cd.mp nd).2 (by simpa using h1) (by simpa using h2) hk
theorem Hk{kindOf:Str->Option NameKind}:∀{P:List Str} {vs:List Value} {i:Nat} {m:μ},P.Nodup->P[i]?=ι x->vs[i]?=ι v->kindOf x≠ι .local->
  bindC kindOf (P.zip vs) m x=ι v
 |[],_,_,_,_,h,_,_=>by simp at h
 |_::_,[],_,_,_,_,h,_=>by simp at h
 |p::P,w::vs,0,m,nd,h1,h2,hk=>by
  simp at h1 h2;subst h1;subst h2;show bindC kindOf ((p,w)::P.zip vs) m p=_;unfold bindC;rw[xc λv hv=>(Cd.mp nd).1 (Ri hv).1,if_neg hk];simp
 |p::P,w::vs,i+1,m,nd,h1,h2,hk=>by
  show bindC kindOf ((p,w)::P.zip vs) m x=_;unfold bindC;exact Hk (i:=i) (Cd.mp nd).2 (by simpa using h1) (by simpa using h2) hk
def start(N:List Str)(vs:τ):St:=vs.map ι++iy (N.length-vs.length) ν
def CG(CX:tK)(P:Program)(w:World)(K:aD)(mg:μ)(base:Heap)(N:List Str)(qual:Str)(scope:Scope)(f:Addr)(cd:Value)(A:Around)(outer:List Env)(s:Shared)(H:Hp)(E:XK):Cx where
 prog:=P
 w:=w
 K:=K
 mg:=mg
 base:=base
 A:=A.deeper (envOfC qual scope s.heap.objs.size f cd)
 N:=N
 s₀:=s
 H₀:=H
 env:=envOfC qual scope s.heap.objs.size f cd
 outer:=outer
 stack:=envOfC qual scope s.heap.objs.size f cd::outer
 ex:=[]
 calm:=true
 fn:=λ_=>true
 pn:=[]
 xe:=λe s'=>wpAny (model P w) (A.deeper (envOfC qual scope s.heap.objs.size f cd)) (leaving (envOfC qual scope s.heap.objs.size f cd) e) (λ_ s''=>CX outer H s E e s'') (λe' s''=>CX outer H s E e' s'') s'
def Lu{sc:Scope}{n:Nat}(h:sc.names.lookup x=ι .cell):∃c,(cellsFrom n sc.names []).lookup x=ι c:=by
 have q:=ve sc.names n [] (.inl h);exact Ff.mp q
def ET{N ps:List Str}{cd:Value}{A:Around}{outer:List Env}{s s1:Shared}{H:Hp}{E:XK}{us:List Value}{vs:τ}{cb:Bool}
  (S:aL N ps scope) (hd:cb=true->A.handled=ν) (e0:zN P w K mg base A outer s H) (hl:vs.length=ps.length) (r:Vals vs us)
  (x:InCallC s s.heap.objs.size (bindL (envOfC qual scope s.heap.objs.size f cd).kindOf (ps.zip us) λ_=>ν) (cellsFrom (s.heap.objs.size+1) scope.names []) (bindC (envOfC qual scope s.heap.objs.size f cd).kindOf (ps.zip us) λ_=>ν) s1):
  Inv {CG CX P w K mg base N qual scope f cd A outer s H E with calm:=cb} [] (start N vs) H s1:=by
 have hpl:ps.length<=N.length:=by have:=congrArg NJ S.pre;rw[m9]at this;lia
 intros h1 tk rfl hk x.done;have J1:∀b:Addr,b∉(CG CX P w K mg base N qual scope f cd A outer s H E).ex:=λb z=>absurd (show b∈([]:List Addr)from z) (by simp);refine{{e0.mod,S.kind,rfl,rfl,aZ _,λy z c h1 h2=>?_,λy hy=>?_,λy c _ h=>?_,hd,Around.frames_deeper e0.frames,.inr {rfl,(rfl)},λb z=>absurd z (J1 b),e0.bs,e0.uM,λb _ _=>J1 b,λb z=>absurd z (J1 b),e0.qd,e0.zX,e0.tree,{_,(),S.gen,S.co,rfl,rfl}},
  rfl,e0.bare,Un.kept hk,{_,x.toInCall.ns,λi y v h1 h2 h3=>?_},λy c h=>{_,x.cell y c h},e0.hok.fresh (aZ _),λy c h=>?_,λp hp=>absurd (show p∈([]:List (Addr×Obj))from hp) (by simp),e0.hok.kept hk,?_}
 .exact name_of_addr x.apart (yD h1) (yD h2)
 .have hy:scope.names.lookup y=ι .cell∨scope.names.lookup y=ι .free:=hy;rcases hy with hy|hy
  .exact Lu hy
  .exact absurd rfl (S.Yl _ (yD hy))
 .exact iR (x.above y c (yD h))
 .have hi:i<vs.length:=by
   unfold start at h2;by_cases hi:i<vs.length
   .exact hi
   .rw[List.getElem?_append_right (by simpa using hi)]at h2;rw[List.getElem?_replicate]at h2;split at h2<;>cases h2
  have ha:vs[i]?=ι v:=by
   unfold start at h2;rw[List.getElem?_append_left (by simpa using hi),List.getElem?_map]at h2;cases e:vs[i]? with
   |none=>rw[e]at h2;cases h2
   |some a=>rw[e]at h2;cases h2;rfl
  obtain⟨u,hu,rv⟩:=r.get ha;have hp:ps[i]?=ι y:=by
   rw[<-S.pre,List.getElem?_take_of_lt ⋯];exact h1
  have ndP:ps.Nodup:=by rw[<-S.pre];exact S.nd.sublist (List.take_sublist _ _)
  exists u,rv;rcases S.par y (List.mem_of_getElem? hp)with k|k
  .exact .inl {k,AU ndP hp hu k}
  .obtain⟨c,e⟩:=Lu (n:=s.heap.objs.size+1) k;refine .inr {.inl k,c,e,?_};have q:=x.cell y c e;rw[Hk ndP hp hu (by show scope.names.lookup y≠_;rw[k];decide)]at q;exact q
 .exact e0.hok.fresh (iR (x.above y c (yD h)))
 .unfold start;show _=N.length;rw[gk,aB,List.length_replicate];lia
def aAx{k:Nat}{name:Str}{params:Arguments}{body:List Stmt}{dV kV doc pm cdv ct oc:Value}{an od:Option Addr}
  {osl:Array (Option Value)} {N ps:List Str} {sp:Sp} (lk:K.lookup f=ι {oc,od,.func (qD name qual params body scope dV kV doc pm an cdv ct),osl}) (hcd:ED K cdv qual=true) (S:aL N ps scope)
  (len:∀vs H Q E,sp vs H Q E->vs.length=ps.length)
  (hbody:∀(A:Around)(outer:List Env)(s:Shared)(H:Hp)(vs:τ)(Q:VK)(E:XK),cX k (A.deeper (envOfC qual scope s.heap.objs.size f cdv))->sp vs H Q E->
   ∃t,jN (CG CX P w K mg base N qual scope f cdv A outer s H E) body t/\t {nx:=λ_ H'=>Q .non H',rt:=Q} (start N vs) H):
  kj P w K mg base CX (k+1) f (qD name qual params body scope dV kV doc pm an cdv ct) ps sp:=by
 refine{len,λA outer s H args us vs Q E hr e0 hb r hsp=>?_};have hl:=len _ _ _ _ hsp;have KX:K.In s.heap:=e0.mod.zF.keeps λb o e=>(e0.bs b o e).1;have lim:s.heap.NoLimit:=e0.mod.nolimit.keeps λb o e=>(e0.bs b o e).1;have hkind:∀y∈ps.zip us,scope.names.lookup y.1=ι .local∨(scope.names.lookup y.1=ι .cell/\((cellsFrom (s.heap.objs.size+1) scope.names []).lookup y.1).isSome=true):=λ⟨n,v⟩ hy=>by
  rcases S.par n (Ri hy).1 with q|q
  .exact .inl q
  .exact .inr {q,ve _ _ _ (.inl q)}
 refine codeAny_call_function hr.depth (KX _ _ lk) rfl S.co S.gen rfl (W.codeRec_of KX hcd) (hb _ _ _ _ ?_);refine wpAny_newFunctionEnv_cells S.kind hkind λenv he s1 x=>?_;subst he;refine{lim.keeps x.toInCall.keep,codeAny_func ?_};obtain⟨t,ht,hq⟩:=hbody A outer s H vs Q E (hr.deeper _) hsp;have I:Inv (CG CX P w K mg base N qual scope f cdv A outer s H E) [] (start N vs) H s1:=ET (cb:=true) S (λ_=>hr.hd) e0 hl r x;refine wpAny_mono (ht [] s1 (start N vs) H _ I hq) (λfl s' hs=>?_) λe s' hs=>hs;have fin:∀{σ':St} {H':Hp} {v:V} {u:Value},Inv (CG CX P w K mg base N qual scope f cdv A outer s H E) [] σ' H' s'->RelV v u->Q v H'->CE outer P w H s Q u s':=
  λ{σ' H' v u} J rv q=>{v,H',J.os,J.bare,J.base,J.hok,rv,(q)}
 cases fl with
 |ret u=>
  intros v σ' H' J rv q hs;exact fin J rv q
 |next=>
  intros σ' H' J q hs;exact fin (v:=V.non) (u:=Value.none) J rfl q
 |brk=>
  intros _ _ _ q hs;exact False.elim q
 |cont=>
  intros _ _ _ q hs;exact False.elim q
end
section
variable {X:Cx}{x:Str}{p pos:Pos}{e:Expr}{es:List Expr}{t:TA}{id:String}{r:τ->Hp->VK->Prop}
def SN(r:τ->Hp->VK->Prop)(t:TA):TE:=λσ H Q=>t σ H λvs H1=>r vs H1 Q
def eX(hc:iM X (.builtin id) r)(hg:Gl X x)(hm:X.mg x=ν)(hv:bootBuiltins x=ι (.builtin id))(ha:PA X (e::es) t)(hn:x≠ "__name__" := by decide)(hdb:(x==("__debug__":Str))=false:=by decide)
  (he:starEach (e::es) X.env=(false,eval e X.env)::starEach es X.env:=by rfl) (hpl:(backTo pos (starEach es X.env)).any (·.1)=false:=by rfl):PE X (.Call (.Name x p) (e::es) [] pos) (SN r t):=by
 intro π s σ H Q I h;refine wpAny_Call_Name_kw (vX I hg hm hv ?_ hn hdb);exact aPQ (aY (ha pos π s σ H _ I h) λus s1 ⟨vs,H1,I1,r1,q1⟩=>hc π s1 σ H1 vs us Q I1 r1 q1) he hpl
def dW(hc:iM X (.type T) r)(hg:Gl X x)(hm:X.mg x=ν)(hv:bootBuiltins x=ι (.type T))(ha:PA X (e::es) t)(hn:x≠ "__name__" := by decide)(hdb:(x==("__debug__":Str))=false:=by decide)
  (he:starEach (e::es) X.env=(false,eval e X.env)::starEach es X.env:=by rfl)(hpl:(backTo pos (starEach es X.env)).any (·.1)=false:=by rfl):PE X (.Call (.Name x p) (e::es) [] pos) (SN r t):=by
 intro π s σ H Q I h;refine wpAny_Call_Name_kw (vX I hg hm hv ?_ hn hdb);exact AW (aY (ha pos π s σ H _ I h) λus s1 ⟨vs,H1,I1,r1,q1⟩=>hc π s1 σ H1 vs us Q I1 r1 q1) he hpl
end
end L2
namespace HT
open PySem PyProof.Rows
section
open PySem.SeqAt
open PySem.AutoSeq1 (wpAny_loadPart')
open PySem.MeetsSeq PySem.MeetsSeq2 PySem.MeetsSeq3
end
section
variable {prog:Program}{w:World}{A:Around}{E:χ}{s:Shared}
section
variable {t sl:Addr}{Q:χ}{vl vu:Value}{lo hi:Option Int}
def aCv(ht:IsTup s.heap t vs.toArray)(hb:IsTup s.heap b ws.toArray)(hv:vs≠[])
  (h1:ws=[]->Q (.ref t) s)(h2:ws≠[]->Q (.ref s.heap.objs.size) {s with heap:=s.heap.push {cls:=.type "tuple",data:=.seq (vs++ws).toArray}})
  (hsz:vs.length+ws.length<=sizeLine):wpAny (model prog w) A (binaryOp .Add (.ref t) (.ref b)) Q E s:=by
 obtain⟨⟨cls,dd,data,sl⟩,ho,hc,n,hd⟩:=id ht;obtain⟨⟨cls2,dd2,data2,sl2⟩,ho2,hc2,n2,hd2⟩:=id hb;simp only at hc hd hc2 hd2;subst hc hd hc2 hd2;have e:vs.toArray++ws.toArray=(vs++ws).toArray:=by simp
 by_cases hw:ws=[]
 .exact concat_meets {_,ho,rfl} {_,ho2,rfl} noFill_tuple_add seq_tuple_add oz sM (XQ _ _)
   (tuple_addW1 t b vs.toArray ws.toArray n n2 dd dd2 sl sl2 (by simpa using hv) (by simp[hw])) {ho,ho2,h1 hw}
 .refine concat_meets {_,ho,rfl} {_,ho2,rfl} noFill_tuple_add seq_tuple_add oz sM (XQ _ _)
   (tuple_addW2 t b vs.toArray ws.toArray n n2 dd dd2 sl sl2 (by simpa using hv) (by simpa using hw) (by rw[gC,gC];exact hsz)) {ho,ho2,?_}
  rw[e];exact h2 hw
def bN(n d:Nat):Option Int->Nat
 |none=>d
 |some v=>if v<0 then(v+(n:Int)).toNat else min v.toNat n
def vC(n d:Nat):bN n d ν=d:=rfl
def pH(n d k:Nat):bN n d (ι (k:Int))=min k n:=by
 show(if(k:Int)<0 then((k:Int)+(n:Int)).toNat else min (k:Int).toNat n)=min k n;rw[if_neg ⋯,dB]
def aKg(n d:Nat)(hd:d<=n)(o:Option Int):bN n d o<=n:=by
 cases o with
 |none=>exact hd
 |some v=>
  show(if v<0 then(v+(n:Int)).toNat else min v.toNat n)<=n;by_cases hv:v<0
  .rw[if_pos hv];lia
  .rw[if_neg hv];exact AO _ _
def Cn(v:Int)(n d:Nat):(if v<0 then max (v+(n:Int)) 0 else min v (n:Int))=((bN n d (ι v):Nat):Int):=by
 show(if v<0 then max (v+(n:Int)) 0 else min v (n:Int))=(((if v<0 then(v+(n:Int)).toNat else min v.toNat n):Nat):Int);by_cases hv:v<0
 .simp only[if_pos hv];lia
 .simp only[if_neg hv];lia
def aSf(lo hi:Option Int)(n:Nat):Builtin.Slice.sliceAdjust lo hi 1 (n:Int)=(((bN n 0 lo:Nat):Int),((bN n n hi:Nat):Int)):=by
 have h1:¬((1:Int)<0):=⋯;unfold Builtin.Slice.sliceAdjust;simp only[h1,if_false];refine ku ?_ ?_
 .cases lo with
  |none=>rfl
  |some v=>exact Cn v n 0
 .cases hi with
  |none=>rfl
  |some v=>exact Cn v n n
def aRU(i j:Nat):Builtin.Slice.slicePlaces (i:Int) (j:Int) 1=j-i:=by
 unfold Builtin.Slice.slicePlaces;have h1:(1:Int)>0:=⋯;simp only[h1,if_true,NT];split<;>lia
def xm{Q:Option Int->Shared->Prop}(p:IsPart v o)(h:Q o s):wpAny (model prog w) A (Builtin.Slice.slicePartIndex v) Q E s:=by
 cases p with
 |none=>exact slicePart_none h
 |int i t=>exact slicePart_int h
def LP{n:Nat}{Q:Int×Int×Nat->Shared->Prop}(hs:s.heap.IsSliceOf sl vl vu .none)(pl:IsPart vl lo)(pu:IsPart vu hi)
  (h:Q (((bN n 0 lo:Nat):Int),1,bN n n hi-bN n 0 lo) s):wpAny (model prog w) A (Builtin.Slice.sliceApplied (.ref sl) (pure (n:Int))) Q E s:=by
 obtain⟨os,hos,hcs,hds⟩:=id hs;unfold Builtin.Slice.sliceApplied Builtin.Slice.sliceFields;refine wpAny_bind (wpAny_bind (wpAny_field hos hds (x:=vl) rfl (wpAny_bind (wpAny_field hos hds (x:=vu) rfl (wpAny_bind (wpAny_field hos hds (x:=.none) rfl (wpAny_pure ?_)))))));refine wpAny_bind (slicePart_none ?_);show wpAny _ _ (if((1:Int)==0)=true then _ else _) _ _ s;rw[if_neg ∅];refine wpAny_bind (xm pl (wpAny_bind (xm pu (wpAny_bind (wpAny_pure ?_)))));show wpAny _ _ (match Builtin.Slice.sliceAdjust lo hi 1 (n:Int)with|(lo,hi)=>pure (lo,(1:Int),Builtin.Slice.slicePlaces lo hi 1)) _ _ s
 rw[aSf lo hi n];show wpAny _ _ (pure (((bN n 0 lo:Nat):Int),(1:Int),Builtin.Slice.slicePlaces ((bN n 0 lo:Nat):Int) ((bN n n hi:Nat):Int) 1)) _ _ s;rw[aRU];exact wpAny_pure h
def awR(xs:Array Value)(i k:Nat):((gq k).filterMap λ(m:Nat)=>xs[((i:Int)+(m:Int)*1).toNat]?).toArray=((xs.toList.drop i).take k).toArray:=by
 have e:(λ(m:Nat)=>xs[((i:Int)+(m:Int)*1).toNat]?)=λm=>xs[i+m]?:=by
  funext m
  have:((i:Int)+(m:Int)*1).toNat=i+m:=⋯;rw[this]
 rw[e];have:=pick_run xs i k;rw[List.filterMap_map]at this;have e2:((λx=>xs[x]?)∘λx=>i+x)=λm=>xs[i+m]?:=rfl;rw[e2]at this;rw[this]
def aLU{items:Array Value}(ht:IsTup s.heap t items)(hs:s.heap.IsSliceOf sl vl vu .none)(pl:IsPart vl lo)(pu:IsPart vu hi)
  (hw:¬(bN items.size 0 lo=0/\bN items.size items.size hi=items.size))
  (h:Q (.ref s.heap.objs.size) {s with heap:=s.heap.push {cls:=.type "tuple",data:=.seq ((items.toList.drop (bN items.size 0 lo)).take (bN items.size items.size hi-bN items.size 0 lo)).toArray}})
  (hsz:items.size<=sizeLine):wpAny (model prog w) A (getItem (.ref t) (.ref sl)) Q E s:=by
 have OD:sizeOk (.seq ((items.toList.drop (bN items.size 0 lo)).take (bN items.size items.size hi-bN items.size 0 lo)).toArray):=by
  show((items.toList.drop (bN items.size 0 lo)).take (bN items.size items.size hi-bN items.size 0 lo)).toArray.size<=sizeLine;rw[gC,m9,xX,Qd];lia
 have hj:bN items.size items.size hi<=items.size:=aKg _ _ (aZ _) hi;obtain⟨os,hos,hcs,hds⟩:=id hs;have hTs:s.TypeIs (.ref sl) "slice" := {os,hos,(hcs)};unfold getItem;try with_reducible refine wpAny_holding ?_
 first|refine wpAny_bind (wpAny_pure ?_)|skip
 refine wpAny_bind (wpAny_sequenceKey ht.typeIs ∅ ?_);refine wpAny_bind (wpAny_callSpecial?_slot (name:=Str.ofString "__getitem__") ht.typeIs EW
  (wpAny_call_entry EW ht.typeIs entry_tuple_getitem ?_ (args_tuple_getitem _ _)))
 show wpAny _ _ (Builtin.Tuple.tupleItemsOf (.ref t)>>=_) _ _ s;refine wpAny_bind (tupleItemsOf_ ht ?_);refine wpAny_bind (wpAny_typeOf hTs ?_);rw[if_pos ∅];refine wpAny_bind (LP hs pl pu ?_);have hno:¬((((bN items.size 0 lo:Nat):Int)==0&&(1:Int)==1&&(bN items.size items.size hi-bN items.size 0 lo)==items.size)=true):=by
  intro q;rw[oN,oN]at q;have q1:((bN items.size 0 lo:Nat):Int)=0:=eq_of_beq q.1.1;have q2:bN items.size items.size hi-bN items.size 0 lo=items.size:=eq_of_beq q.2;exact hw {⋯,⋯}
 show wpAny _ _ (if(((bN items.size 0 lo:Nat):Int)==0&&(1:Int)==1&&(bN items.size items.size hi-bN items.size 0 lo)==items.size)=true then _ else _) _ _ s;rw[if_neg hno,awR];first
  |exact wpAny_bind (m:=Builtin.Tuple.tupleExact _) (wpAny_newObj_type (wpAny_pure {(),wpAny_pure h}) OD)
  |exact wpAny_bind (m:=Builtin.Tuple.tupleExact _) (wpAny_newObj_type (wpAny_bind (wpAny_pure (wpAny_pure {(),wpAny_pure h}))) OD)
  |exact wpAny_bind (wpAny_bind (m:=Builtin.Tuple.tupleExact _) (wpAny_newObj_type (wpAny_pure (wpAny_pure {(),wpAny_pure h})) OD))
  |exact wpAny_bind (wpAny_bind (m:=Builtin.Tuple.tupleExact _) (wpAny_newObj_type (wpAny_pure {(),wpAny_pure h}) OD))
end
end
end HT
namespace L2
open PySem PySem.Spec PyProof.Rows
abbrev TO:=St->Hp->(Option Int->Hp->Prop)->Prop
def PO(X:Cx)(e:Option Expr)(t:TO):Prop:=
 ∀π s σ H (Q:Option Int->Hp->Prop),Inv X π σ H s->t σ H Q->
  wpAny (model X.prog X.w) X.A (evalPart e X.env) (λu s'=>∃o H',Inv X π σ H' s'/\IsPart u o/\Q o H') X.xe s
def aLx:TO:=λ_ H Q=>Q ν H
inductive aPY(x:V)(H:Hp)(Q:Option Int->Hp->Prop):Prop|mk(i:Int)(_:x=.int i)(_:Q (ι i) H)
def aTR(t:TE):TO:=λσ H Q=>t σ H λx H1=>aPY x H1 Q
def intsAre_of:∀{us:List Value},Vals (ns.map V.int) us->IntsAre us ns:=by
 induction ns with
 |nil=>intro us r;rw[Jy]at r;cases r;exact .nil
 |cons n ns ih=>
  intro us r;rw[ji]at r;cases r with
  |cons r1 r2=>
   intros t e r1;subst e;exact .cons n t (ih r2)
section
variable {X:Cx}{e:Expr}{te:TE}{lo hi:Option Expr}{tl th:TO}{pos p2:Pos}
def jZ:PO X ν aLx:=by
 intro π s σ H Q I h;rw[evalPart_none];exact wpAny_pure {ν,H,I,.none,h}
def jC(h:PE X e te):PO X (ι e) (aTR te):=by
 intro π s σ H Q I hw;rw[evalPart_some];refine aY (h π s σ H _ I hw) λu s1 ⟨x,H1,I1,r1,q1⟩=>?_;intros i rfl q q1;intros t rfl r1;exact{ι i,H1,I1,.int i t,q}
def qJ(X:Cx)(r:V->Option Int->Option Int->Hp->VK->Prop):Prop:=
 ∀π s σ H (x:V) (v vl vu:Value) (lo hi:Option Int) (sl:Addr) (Q:VK),Inv X π σ H s->RelV x v->s.heap.IsSliceOf sl vl vu .none->IsPart vl lo->IsPart vu hi->r x lo hi H Q->
  ∃T id,typeLookup (.type T) "__getitem__" = pure (ι (.builtin id))/\s.TypeIs v T/\wpAny (model X.prog X.w) X.A (getItem v (.ref sl)) (EP X π σ Q) X.xe s
def qJ.or(h:qJ X r)(h':qJ X r'):qJ X (λx lo hi H Q=>r x lo hi H Q∨r' x lo hi H Q):=by
 intro π s σ H x v vl vu lo hi sl Q I rx hs pl pu q;rcases q with q|q
 .exact h π s σ H x v vl vu lo hi sl Q I rx hs pl pu q
 .exact h' π s σ H x v vl vu lo hi sl Q I rx hs pl pu q
def tSl(r:V->Option Int->Option Int->Hp->VK->Prop)(te:TE)(tl th:TO):TE:=λσ H Q=>te σ H λx H1=>tl σ H1 λl H2=>th σ H2 λu H3=>r x l u H3 Q
def jT{r:V->Option Int->Option Int->Hp->VK->Prop}(hr:qJ X r)(he:PE X e te)(hl:PO X lo tl)(hu:PO X hi th):PE X (.Subscript e (.Slice lo hi ν p2) pos) (tSl r te tl th):=by
 intro π s σ H Q I h;refine Subscript_ (aY (he π s σ H _ I h) λv s1 ⟨x,H1,I1,r1,q1⟩=>?_);refine wpAny_Slice (aY (hl π s1 σ H1 _ I1 q1) λvl s2 ⟨l,H2,I2,pl,q2⟩=>aY (hu π s2 σ H2 _ I2 q2) λvu s3 ⟨u,H3,I3,pu,q3⟩=>?_);rw[evalPart_none];refine wpAny_pure ?_;have I4:Inv X π σ H3 {s3 with heap:=s3.heap.push {cls:=.type "slice",data:=.fields #[vl,vu,.none]}}:=I3.kept (t':=s3.toks) λb ob q=>Heap.get?_push_of_some _ q;obtain⟨T,id,hT,ht,hg⟩:=hr π {s3 with heap:=s3.heap.push {cls:=.type "slice",data:=.fields #[vl,vu,.none]}} σ H3 x v vl vu l u s3.heap.objs.size Q I4 r1 (aKp ..) pl pu q3;show wpAny (model X.prog X.w) X.A (subscriptTail e (.Slice lo hi ν p2) v (.ref s3.heap.objs.size)) (EP X π σ Q) X.xe {s3 with heap:=s3.heap.push {cls:=.type "slice",data:=.fields #[vl,vu,.none]}};exact tail_any (ops:=[.ref s3.heap.objs.size,v]) ht hT hg (by with_unfolding_all rfl)
def fO(xs:τ)(lo hi:Option Int):τ:=(xs.drop (HT.bN xs.length 0 lo)).take (HT.bN xs.length xs.length hi-HT.bN xs.length 0 lo)
def IJ(xs:τ)(lo hi:Option Int):(fO xs lo hi).length<=xs.length:=by
 unfold fO;rw[m9,xX];lia
def av6(K:aD):V->Option Int->Option Int->Hp->VK->Prop:=λx lo hi H Q=>∃a xs,x=.ref a/\ao K H a xs/\
 ¬(HT.bN xs.length 0 lo=0/\HT.bN xs.length xs.length hi=xs.length)/\∀p,H p=ν->Q (.ref p) (upd H p (.tup (fO xs lo hi)))
def aNg:qJ X (av6 X.K):=by
 intro π s σ H x v vl vu lo hi sl Q I rx hs pl pu h;intros a xs rfl hx hw q h;cases rx;obtain⟨its,r,ht,hz⟩:=I.tuple hx;have hlen:its.toArray.size=xs.length:=by rw[gC];exact r.length.symm
 exists "tuple",_,EW.lookup,ht.typeIs;refine HT.aLU ht hs pl pu (by rw[hlen];exact hw) ?_ (by rw[hlen];exact hz);rw[hlen];refine{.ref s.heap.objs.size,_,I.laid (t':=s.toks) (o:=.tup (fO xs lo hi)) (λb ob q=>Heap.get?_push_of_some _ q) (aZ _) ?_,rfl,q _ (I.hok.fresh (aZ _))};exact{cM (IJ xs lo hi) hz,_,(r.drop (HT.bN xs.length 0 lo)).take (HT.bN xs.length xs.length hi-HT.bN xs.length 0 lo),IsTup.new _ _}
def aLA(K:aD):R2:=λx y H Q=>∃a b xs ys,x=.ref a/\y=.ref b/\ao K H a xs/\ao K H b ys/\xs≠[]/\xs.length+ys.length<=sizeLine/\
 (ys=[]->Q (.ref a) H)/\(ys≠[]->∀p,H p=ν->Q (.ref p) (upd H p (.tup (xs++ys))))
def Vals.Qh(r:Vals xs us):us=[]↔xs=[]:=by
 cases r with
 |nil=>simp
 |cons _ _=>simp
def axn:cQ X (binaryOp .Add) (aLA X.K):=by
 intro π s σ H x y v u Q I rx ry h;intros a b xs ys rfl rfl ha hb hx hz q1 q2 h;cases rx;cases ry;obtain⟨its,r1,p1,_⟩:=I.tuple ha;obtain⟨its2,r2,p2,_⟩:=I.tuple hb;refine HT.aCv p1 p2 (λz=>hx (r1.Qh.mp z)) (λz=>{.ref a,H,I,rfl,q1 (r2.Qh.mp z)}) (λz=>?_) (by rw[<-r1.length,<-r2.length];exact hz);refine{.ref s.heap.objs.size,_,I.laid (t':=s.toks) (o:=.tup (xs++ys)) (λb ob q=>Heap.get?_push_of_some _ q) (aZ _) ?_,rfl,q2 (λw=>z (r2.Qh.mpr w)) _ (I.hok.fresh (aZ _))};exact{by rw[gk];exact hz,_,r1.append r2,IsTup.new _ _}
end
def vV(n:Nat)(i:Int):Option Nat:=if 0<=i then(if i<n then ι i.toNat else ν)else if -(n:Int)<=i then ι (i+n).toNat else ν
def je{α:Type}(xs:List α)(i:Int):Option α:=(vV xs.length i).bind λj=>xs[j]?
def Lc(h:vV n i=ι j):seqIndex? i n=ι j/\j<n/\-(n:Int)<=i/\i<n:=by
 unfold vV at h;by_cases h0:0<=i
 .rw[if_pos h0]at h;by_cases h1:i<n
  .rw[if_pos h1]at h;have e:i.toNat=j:=pL h;exact{by rw[seqIndex_of h0 h1,e],⋯,⋯,h1}
  .rw[if_neg h1]at h;cases h
 .rw[if_neg h0]at h;by_cases h1:-(n:Int)<=i
  .rw[if_pos h1]at h;have e:(i+n).toNat=j:=pL h;exact{by rw[seqIndex_neg ⋯ h1,e],⋯,h1,⋯}
  .rw[if_neg h1]at h;cases h
def V7(h:je xs i=ι v):∃j,seqIndex? i xs.length=ι j/\xs[j]?=ι v/\j<xs.length/\-(xs.length:Int)<=i/\i<xs.length:=by
 unfold je at h;cases e:vV xs.length i with
 |none=>rw[e]at h;cases h
 |some j=>
  rw[e]at h;obtain⟨h1,h2,h3,h4⟩:=Lc e;exact{j,h1,h,h2,h3,(h4)}
def nZ{j:Nat}(h:xs[j]?=ι v):je xs (j:Int)=ι v:=by
 have hj:j<xs.length:=(List.getElem?_eq_some_iff.mp h).1;have e:vV xs.length (j:Int)=ι j:=by
  unfold vV;rw[if_pos ⋯,if_pos ⋯];simp
 unfold je;rw[e];exact h
def ND(b:Expr):Prop:=∀o i,subscripted b false o i=operate [o,i] (getItem o i)
def oH(X:Cx)(r:R2):Prop:=
 ∀(value slice:Expr)(π:List (Addr×Obj))(s:Shared)(σ:St)(H:Hp)(x y:V)(v u:Value)(Q:VK),Inv X π σ H s->RelV x v->RelV y u->r x y H Q->
  subscripted slice false v u=operate [v,u] (getItem v u)->wpAny (model X.prog X.w) X.A (subscriptTail value slice v u) (EP X π σ Q) X.xe s
def wR(X:Cx)(id:String)(r:V->τ->Hp->VK->Prop):Prop:=
 ∀π s σ H (x:V) (xs:τ) (v:Value) (us:List Value) (Q:VK),Inv X π σ H s->RelV x v->Vals xs us->r x xs H Q->
  wpAny (model X.prog X.w) X.A (call (.builtin id) (v::us)) (EP X π σ Q) X.xe s
section
variable {X:Cx}{a b:Expr}
section
variable {r:R2}{π:List (Addr×Obj)}{σ:St}{H:Hp}{s:Shared}{y x:V}{u v:Value}
def oH.or(h:oH X r)(h':oH X r'):oH X (λx y H Q=>r x y H Q∨r' x y H Q):=by
 intro value slice π s σ H x y v u Q I rx ry q hs;rcases q with q|q
 .exact h value slice π s σ H x y v u Q I rx ry q hs
 .exact h' value slice π s σ H x y v u Q I rx ry q hs
def aG1(hr:oH X r)(ha:PE X a ta)(hb:PE X b tb)(hs:ND b):PE X (.Subscript a b pos) (u9 r ta tb):=by
 intro π s σ H Q I h;exact Subscript_ (Za ha hb I h λv u s2 x y H2 I2 rx ry q=>hr a b π s2 σ H2 x y v u Q I2 rx ry q (hs _ _))
def BV(K:aD):R2:=λx y H Q=>∃p xs i v,x=.ref p/\y=.int i/\ak K H p xs/\je xs i=ι v/\Q v H
def Hn(K:aD):R2:=λx y H Q=>∃p xs i v,x=.ref p/\y=.int i/\ao K H p xs/\je xs i=ι v/\Q v H
def A3:R2:=λx y H Q=>∃z i c,x=.str z/\y=.int i/\z.length<=sizeLine/\je z.cps.toList i=ι c/\Q (.str {(#[c])}) H
def aBM:oH X (BV X.K):=by
 intro value slice π s σ H x y v u Q I rx ry h hs;intros p xs i z rfl rfl hq he q h;cases rx;intros t rfl ry;obtain⟨its,r,pl,hz⟩:=I.list hq;obtain⟨j,h1,h2,h3,h4,h5⟩:=V7 he;obtain⟨w,ew,wC⟩:=r.get h2;have hl:=r.length;have hn:=Gj;have fin:EP X π σ Q w s:={z,H,I,wC,(q)};by_cases h0:0<=i
 .have hj:i.toNat=j:=by
   rw[seqIndex_of h0 h5]at h1;exact pL h1
  exact item_listR pl.isList h0 ⋯ (by rw[hj];simpa using ew) fin hs
 .have hj:(i+(its.toArray.size:Int)).toNat=j:=by
   rw[seqIndex_neg ⋯ h4]at h1;rw[gC,<-hl];exact pL h1
  exact subscriptTail_builtinR (x:=w) pl.isList.typeIs slot_list_getitem.lookup
   (wpAny_getItem_list_neg (Q:=λr s'=>r=w/\EP X π σ Q r s') pl.isList ⋯ (by rw[gC]<;>lia) ⋯ (by rw[hj];simpa using ew) {rfl,(fin)}) hs
def awX:oH X (Hn X.K):=by
 intro value slice π s σ H x y v u Q I rx ry h hs;intros p xs i z rfl rfl hq he q h;cases rx;intros t rfl ry;obtain⟨its,r,pl,hz⟩:=I.tuple hq;obtain⟨j,h1,h2,h3,h4,h5⟩:=V7 he;obtain⟨w,ew,wC⟩:=r.get h2;have hl:=r.length;have hn:=Gj;have fin:EP X π σ Q w s:={z,H,I,wC,(q)};exact subscriptTail_builtinR (x:=w) pl.typeIs slot_tuple_getitem.lookup
  (getItem_tuple (j:=j) (Q:=λr s'=>r=w/\EP X π σ Q r s') pl ⋯ ⋯ (by rw[gC,<-hl];exact h1) (by simpa using ew) {rfl,(fin)}) hs
def aN5:oH X A3:=by
 intro value slice π s σ H x y v u Q I rx ry h hs;intros z i c rfl rfl hz he q h;intros t rfl rx;intros t' rfl ry;obtain⟨j,h1,h2,h3,h4,h5⟩:=V7 he;have hl:z.cps.toList.length=z.length:=by simp[Str.length]
 rw[hl]at h1 h4 h5;have hn:=Gj;exact tail_any (typeIs_str s z t) slot_str_getitem.lookup (getItem_str (c:=c) (by
  have e1:decide (i < -(2^63:Int))=false:=decide_eq_false ⋯;have e2:decide (i≥2^63)=false:=decide_eq_false ⋯;rw[e1,e2,Bool.or_false]) (by rw[h1];simpa using h2) {.str {(#[c])},H,I.tok _,{()},q}) hs
def rIx(K:aD):R2:=λx y H Q=>BV K x y H Q∨Hn K x y H Q∨A3 x y H Q
def aIE:oH X (rIx X.K):=aBM.or (awX.or aN5)
def aTD(its:List Value)(n j:Nat)(u:Value):Az (·.setIfInBounds j u) {cls:=.type "list",data:=.seq its.toArray n}={cls:=.type "list",data:=.seq (its.set j u).toArray n}:=by
 simp[Az]
theorem Inv.lst{π:List (Addr×Obj)}{σ:St}{H:Hp}{s:Shared}{p:Addr}{xs:τ}(I:Inv X π σ H s)(h:H p=ι (.lst xs)):
  ∃(its:List Value) (n:Nat),Vals xs its/\s.heap.get? p=ι {cls:=.type "list",data:=.seq its.toArray n}/\xs.length<=sizeLine:=by
 obtain⟨z,its,n,r,e⟩:=I.hok p _ h;exact{its,n,r,e,(z)}
def Inv.aJF{p:Addr}{xs ys:τ}{its its':List Value}{n n':Nat}{f:Obj->Obj}(I:Inv X π σ H s)(h:H p=ι (.lst xs))
  (ho:s.heap.get? p=ι {cls:=.type "list",data:=.seq its.toArray n}) (hf:f {cls:=.type "list",data:=.seq its.toArray n}={cls:=.type "list",data:=.seq its'.toArray n'}) (r:Vals ys its') (hz:ys.length<=sizeLine) (t:Nat):
  Inv X π σ (upd H p (.lst ys)) {s with heap:=s.heap.update p f,toks:=t}:=by
 have e:(s.heap.update p f).get? p=ι {cls:=.type "list",data:=.seq its'.toArray n'}:=by
  rw[Heap.get?_update_self f ho (by rw[hf]<;>rfl),hf]
 refine I.write (x:=p) (e:=p) (by rw[h];trivial) (.inl rfl) (λb u hb q=>(Heap.get?_update_other _ _ (jB hb)).trans q) {_,e} ?_;exact{hz,its',n',r,(e)}
inductive SSet(o i z:V)(H:Hp)(Q:Hp->Prop):Prop|mk(p:Addr)(xs:τ)(k:Int)(j:Nat)(_:o=.ref p)(_:i=.int k)(_:H p=ι (.lst xs))(_:vV xs.length k=ι j)(_:Q (upd H p (.lst (xs.set j z))))
def aEA:V->V->V->Hp->(Hp->Prop)->Prop:=λo i v H Q=>SSet o i v H Q
def set_list:NA X aEA:=by
 intro π s σ H o i v ov iv u Q I ro ri rv h;intros p xs k j rfl rfl hp hj q h;cases ro;intros t rfl ri;obtain⟨its,n,r,ho,hz⟩:=I.lst hp;obtain⟨h1,h2,h3,h4⟩:=Lc hj;have hl:=r.length;have hn:=Gj;have I':Inv X π σ (upd H p (.lst (xs.set j v))) {s with heap:=s.heap.update p (Az (·.setIfInBounds j u))}:=
  I.aJF hp ho (aTD its n j u) (r.set rv j) (by rw[oU];exact hz) s.toks
 by_cases h0:0<=k
 .have hk:k.toNat=j:=by
   rw[seqIndex_of h0 h4]at h1;exact pL h1
  exact W.ki_setAt ho h0 ⋯ (by rw[gC,<-hl];exact h4) (by rw[hk];exact{_,I',q})
 .have hk:(k+(its.toArray.size:Int)).toNat=j:=by
   rw[seqIndex_neg ⋯ h3]at h1;rw[gC,<-hl];exact pL h1
  exact W.ki_setBack ho ⋯ (by rw[gC,<-hl];exact h3) ⋯ (by rw[hk];exact{_,I',q})
def aMc(lo hi:Option Int)(n:Nat):(sliceBounds lo hi ν n).1=((HT.bN n 0 lo:Nat):Int)/\(sliceBounds lo hi ν n).2.1=((HT.bN n n hi:Nat):Int)/\(sliceBounds lo hi ν n).2.2=1:=by
 refine{?_,?_,rfl}
 .cases lo with
  |none=>simp[sliceBounds,HT.bN]
  |some i=>
   simp only[sliceBounds,HT.bN,Rx,(∅:(1:Int)>0),if_true];by_cases h:i<0
   .simp only[h,if_true]<;>lia
   .simp only[h,if_false]<;>lia
 .cases hi with
  |none=>simp[sliceBounds,HT.bN]
  |some i=>
   simp only[sliceBounds,HT.bN,Rx,(∅:(1:Int)>0),if_true];by_cases h:i<0
   .simp only[h,if_true]<;>lia
   .simp only[h,if_false]<;>lia
def aRs(its:List Value)(lo hi:Option Int):slicePick its.toArray lo hi ν=((its.drop (HT.bN its.length 0 lo)).take (HT.bN its.length its.length hi-HT.bN its.length 0 lo)).toArray:=by
 obtain⟨h1,h2,h3⟩:=aMc lo hi its.toArray.size;unfold slicePick;rw[h1,h2,h3];simp only[sliceRange_one,pick_run,gC]<;>rfl
def av3(K:aD):V->Option Int->Option Int->Hp->VK->Prop:=λx lo hi H Q=>∃a xs,x=.ref a/\ak K H a xs/\∀p,H p=ν->Q (.ref p) (upd H p (.lst (fO xs lo hi)))
def aGn:qJ X (av3 X.K):=by
 intro π s σ H x v vl vu lo hi sl Q I rx hs pl pu h;intros a xs rfl hx q h;cases rx;obtain⟨its,r,ht,hz⟩:=I.list hx;have hlen:=r.length;exists "list",_,slot_list_getitem.lookup,ht.isList.typeIs;refine wpAny_getItem_list_slice ht.isList hs pl pu .none (by simp) ?_ (by rw[gC]<;>lia);rw[aRs,<-hlen];refine{.ref s.heap.objs.size,_,I.laid (t':=s.toks) (o:=.lst (fO xs lo hi)) (λb ob q=>Heap.get?_push_of_some _ q) (aZ _) ?_,rfl,q _ (I.hok.fresh (aZ _))};exact{cM (IJ xs lo hi) hz,_,0,(r.drop (HT.bN xs.length 0 lo)).take (HT.bN xs.length xs.length hi-HT.bN xs.length 0 lo),Heap.get?_push_size _ rfl}
def mU:V->Bool
 |.non=>true
 |.bl _=>true
 |.int _=>true
 |.str _=>true
 |_=>false
def ux:V->V->Bool
 |.non,.non=>true
 |.bl a,.bl b=>a==b
 |.bl a,.int b=>(if a then 1 else 0)==b
 |.int a,.bl b=>a==(if b then 1 else 0)
 |.int a,.int b=>a==b
 |.str a,.str b=>a==b
 |_,_=>false
def G2(ry:RelV y u)(rx:RelV x v)(fy:mU y=true)(fx:mU x=true):SeqAt.EqAt A s u v (ux y x):=by
 cases y with
 |non=>
  cases ry;cases x with
  |non=>cases rx;exact SeqAt.EqAt.same _
  |bl b=>cases rx;exact SeqAt.EqAt.none_bool b
  |int b=>intros t rfl rx;exact SeqAt.EqAt.none_int b t
  |str b=>intros t rfl rx;exact SeqAt.EqAt.none_str b t
  |_=>exact absurd (show false=true from fx) gQ
 |bl a=>
  cases ry;cases x with
  |non=>cases rx;exact SeqAt.EqAt.bool_none a
  |bl b=>cases rx;exact SeqAt.EqAt.bool_bool a b
  |int b=>intros t rfl rx;exact SeqAt.EqAt.bool_int a b t
  |str b=>intros t rfl rx;exact SeqAt.EqAt.bool_str a b t
  |_=>exact absurd (show false=true from fx) gQ
 |int a=>
  intros t' rfl ry;cases x with
  |non=>cases rx;exact SeqAt.EqAt.int_none a t'
  |bl b=>cases rx;exact SeqAt.EqAt.int_bool a t' b
  |int b=>intros t rfl rx;exact SeqAt.EqAt.int_int a t' b t
  |str b=>intros t rfl rx;exact SeqAt.EqAt.int_str a t' b t
  |_=>exact absurd (show false=true from fx) gQ
 |str a=>
  intros t' rfl ry;cases x with
  |non=>cases rx;exact SeqAt.EqAt.str_none a t'
  |bl b=>cases rx;exact SeqAt.EqAt.str_bool a t' b
  |int b=>intros t rfl rx;exact SeqAt.EqAt.str_int a t' b t
  |str b=>intros t rfl rx;exact SeqAt.EqAt.str_str a t' b t
  |_=>exact absurd (show false=true from fx) gQ
 |_=>exact absurd (show false=true from fy) gQ
def wZ(x:V)(u:Value):Bool:=match u with
 |.none=>ux .non x
 |.bool b=>ux (.bl b) x
 |.int i _=>ux (.int i) x
 |.str z _=>ux (.str z) x
 |_=>false
def EI(r:RelV y u)(f:mU y=true):wZ x u=ux y x:=by
 cases y with
 |non=>cases r;rfl
 |bl b=>cases r;rfl
 |int i=>intros t rfl r;rfl
 |str z=>intros t rfl r;rfl
 |_=>exact absurd (show false=true from f) gQ
theorem YZ{x:V}:∀{xs:τ} {us:List Value},Vals xs us->xs.all mU=true->us.any (wZ x)=xs.any λy=>ux y x
 |_,_,.nil,_=>rfl
 |y::xs,u::us,.cons r t,f=>by
  rw[Xx,oN]at f;rw[MG,MG,EI r f.1,YZ t f.2]
theorem YW{s:Shared}{x:V}{v:Value}(rx:RelV x v)(fx:mU x=true):∀{xs:τ} {us:List Value},Vals xs us->xs.all mU=true->∀u∈us,SeqAt.EqAt A s u v (wZ x u)
 |_,_,.nil,_=>λu hu=>by cases hu
 |y::xs,u::us,.cons r t,f=>λu' hu=>by
  rw[Xx,oN]at f;rcases c7.mp hu with rfl|hu
  .rw[EI r f.1];exact G2 r rx f.1 fx
  .exact YW rx fx t f.2 u' hu
def inV(x:V)(xs:τ):Bool:=xs.any λy=>ux y x
def rIn(K:aD)(neg:Bool):R2:=λx y H Q=>∃p xs,y=.ref p/\(ak K H p xs∨ao K H p xs)/\mU x=true/\xs.all mU=true/\Q (.bl (if neg then !inV x xs else inV x xs)) H
def aB9:cQ X (compareOp .In) (rIn X.K false):=by
 intro π s σ H x y v u Q I rx ry h;intros p xs rfl hq fx fs q h;cases ry;rcases hq with hq|hq
 .obtain⟨its,r,pl,hz⟩:=I.list hq;refine SeqAt.in_listAt (wZ x) pl.isList (λw hw=>YW rx fx r fs w (by simpa using hw)) {.bl _,H,I,rfl,?_};rw[show its.toArray.any (wZ x)=its.any (wZ x)by simp,YZ r fs];exact q
 .obtain⟨its,r,pl,hz⟩:=I.tuple hq;refine SeqAt.in_tupleAt (wZ x) pl (λw hw=>YW rx fx r fs w (by simpa using hw)) {.bl _,H,I,rfl,?_};rw[show its.toArray.any (wZ x)=its.any (wZ x)by simp,YZ r fs];exact q
def aPS:iM X (.type "list") (λxs H Q=>∃p ys,xs=[.ref p]/\(ak X.K H p ys∨ao X.K H p ys)/\∀l,H l=ν->Q (.ref l) (upd H l (.lst ys))):=by
 intro π s σ H xs us Q I r h;intros p ys rfl hq q h;obtain⟨u,rfl,rx⟩:=vals1 r;cases rx;have fin:∀(its:List Value),Vals ys its->ys.length<=sizeLine->∀(h':Heap)(c':Nat),(∀b o',s.heap.get? b=ι o'->h'.get? b=ι o')->
   h'.get? s.heap.objs.size=ι {cls:=.type "list",dict:=ν,data:=.seq its.toArray c',slots:=#[]}->EP X π σ Q (.ref s.heap.objs.size) {s with heap:=h'}:=λits r' hz h' c' kp e=>
  {.ref s.heap.objs.size,_,I.laid (t':=s.toks) kp (aZ _) (show fB X.prog X.w _ h' _ (.lst ys)from{hz,its,c',r',(e)}),rfl,q _ (I.hok.fresh (aZ _))}
 rcases hq with hq|hq
 .obtain⟨its,r',pl,hz⟩:=I.list hq;have hlen:=r'.length;intros o ho hc n hd pl.isList;exact call_list_seq p (.inl rfl) ho hc hd (λh' c' kp e=>fin its r' hz h' c' kp e) (by simp only[gC]<;>lia)
 .obtain⟨its,r',pl,hz⟩:=I.tuple hq;have hlen:=r'.length;intros o ho hc n hd pl;exact call_list_seq p (.inr rfl) ho hc hd (λh' c' kp e=>fin its r' hz h' c' kp e) (by simp only[gC]<;>lia)
def aPP:iM X (.type "tuple") (λxs H Q=>∃p ys,xs=[.ref p]/\((ak X.K H p ys/\∀l,H l=ν->Q (.ref l) (upd H l (.tup ys)))∨(ao X.K H p ys/\Q (.ref p) H))):=by
 intro π s σ H xs us Q I r h;intros p ys rfl h h;obtain⟨u,rfl,rx⟩:=vals1 r;cases rx;rcases h with⟨hq,q⟩|⟨hq,q⟩
 .obtain⟨its,r',pl,hz⟩:=I.list hq;have hlen:=r'.length;refine call_tuple_list pl.isList (λh' kp=>?_) (by simp only[gC]<;>lia);have I1:Inv X π σ H {s with heap:=h'}:=I.kept (t':=s.toks) kp;have I2:Inv X π σ (upd H h'.objs.size (.tup ys)) {s with heap:=h'.push {cls:=.type "tuple",data:=.seq its.toArray}}:=
   I1.laid (t':=s.toks) (λb o e=>Heap.get?_push_of_some _ e) (aZ _) (show fB X.prog X.w _ _ _ (.tup ys)from{hz,its,r',IsTup.new _ _})
  exact{.ref h'.objs.size,_,I2,rfl,q _ (I1.hok.fresh (aZ _))}
 .obtain⟨its,r',pl,hz⟩:=I.tuple hq;exact call_tuple_same pl {.ref p,H,I,rfl,q}
def V3(K:aD)(T:String)(x:V)(H:Hp):Prop:=match x with
 |.str _=>T = "str"
 |.int _=>T = "int"
 |.ref p=>(T = "list" /\ ∃xs,ak K H p xs)∨(T = "tuple" /\ ∃o,K.lookup p=ι o/\o.cls=.type "tuple" /\ o.dict=ν)∨
   (T = "dict" /\ ((∃kvs,H p=ι (.dK kvs))∨∃kvs,H p=ι (.dT kvs)))∨(T = "set" /\ ∃S n,H p=ι (.set S n))
 |_=>False
def X0{T:String}(I:Inv X π σ H s)(r:RelV x v)(ty:V3 X.K T x H):
  s.TypeIs v T/\∀a,v=.ref a->∃ob,s.heap.get? a=ι ob/\ob.dict=ν:=by
 cases x with
 |str z=>
  intros t rfl r;cases (show T = "str" from ty);exact{typeIs_str s z t,λ_ e=>nomatch e}
 |int i=>
  intros t rfl r;cases (show T = "int" from ty);exact{typeIs_int s i t,λ_ e=>nomatch e}
 |ref p=>
  cases r;rcases ty with⟨rfl,xs,hq⟩|⟨rfl,o,hk,hc,hd⟩|⟨rfl,hk⟩|⟨rfl,S,n,hk⟩
  .obtain⟨its,_,pl,_⟩:=I.list hq;refine{pl.isList.typeIs,λa e=>?_};cases e;intros o n e c hd _ pl;exact{o,e,(hd)}
  .refine{{o,I.dR p o hk,hc},λa e=>?_};cases e;exact{o,I.dR _ o hk,hd}
  .have z:∃o,s.heap.get? p=ι o/\o.ExactDict:=by
    rcases hk with⟨kvs,hk⟩|⟨kvs,hk⟩
    .obtain⟨_,_,_,_,o,_,_,e,ex,_⟩:=I.hok p _ hk;exact{o,e,(ex)}
    .obtain⟨_,_,_,_,o,_,_,e,ex,_⟩:=I.hok p _ hk;exact{o,e,(ex)}
   intros o e ex z;refine{{o,e,(ex.1)},λa e2=>?_};cases e2;exact{o,e,(ex.2.1)}
  .obtain⟨o,_,_,_,e,ex,_⟩:=I.hok p _ hk;refine{{o,e,(ex.1)},λa e2=>?_};cases e2;exact{o,e,(ex.2.1)}
 |_=>exact False.elim ty
inductive aOb(K:aD)(T:String)(r:V->τ->Hp->VK->Prop)(x:V)(H:Hp)(Q:VK):Prop|mk(_:V3 K T x H)(_:r x [] H Q)
def SH(K:aD)(T:String)(r:V->τ->Hp->VK->Prop)(to:TE):TE:=λσ H Q=>to σ H λx H1=>aOb K T r x H1 Q
inductive SBM(K:aD)(T:String)(r:V->τ->Hp->VK->Prop)(t:TA)(x:V)(σ:St)(H:Hp)(Q:VK):Prop|mk(_:V3 K T x H)(_:t σ H λxs H2=>r x xs H2 Q)
def Qx(K:aD)(T:String)(r:V->τ->Hp->VK->Prop)(to:TE)(t:TA):TE:=λσ H Q=>to σ H λx H1=>SBM K T r t x σ H1 Q
end
variable {o e:Expr}{es:List Expr}{to:TE}{t:TA}{name:Str}{apos cpos:Pos}{T id:String}{r:V->τ->Hp->VK->Prop}
def avL(pa:PlainAttrs T)(slot:Slot T name id)(hty:typeOf (.builtin id)=pure (.type "method_descriptor"))(hm:wR X id r)(ho:PE X o to)
  (hbase:attributeBase o name X.env (eval o X.env)=eval o X.env:=by rfl) (hline:(apos.endLine==cpos.line)=true:=by rfl):PE X (.Call (.Attribute o name apos) [] [] cpos) (SH X.K T r to):=by
 intro π s σ H Q I h;refine wpAny_Call_method0_late hbase hline (aY (ho π s σ H _ I h) λv s1 ⟨x,H1,I1,r1,ty,q1⟩=>?_);obtain⟨h1,h2⟩:=X0 I1 r1 ty;exact{T,id,pa,slot,hty,h1,h2,Mo rfl (PySem.evalArgs_none (hm π s1 σ H1 x [] v [] Q I1 r1 .nil q1))}
def kR(pa:PlainAttrs T)(slot:Slot T name id)(hty:typeOf (.builtin id)=pure (.type "method_descriptor"))(hm:wR X id r)(ho:PE X o to)(ha:PA X (e::es) t)
  (hbase:attributeBase o name X.env (eval o X.env)=eval o X.env:=by rfl)
  (hfew:((backTo cpos (starEach (e::es) X.env)).all (λx=>!x.1)&&(backToKw cpos (keywordEach [] X.env)).all (λx=>x.1.isSome)
   && decide ((e::es).length+([]:List Keyword).length+(if([]:List Keyword).isEmpty then 0 else 1)<30))=true:=by rfl)
  (hline:(apos.endLine==cpos.line)=true:=by rfl) (hs:starEach (e::es) X.env=(false,eval e X.env)::starEach es X.env:=by rfl) (hplain:(backTo cpos (starEach es X.env)).any (·.1)=false:=by rfl):
  PE X (.Call (.Attribute o name apos) (e::es) [] cpos) (Qx X.K T r to t):=by
 intro π s σ H Q I h;refine wpAny_Call_method_late hbase hfew hline rfl (aY (ho π s σ H _ I h) λv s1 ⟨x,H1,I1,r1,ty,q1⟩=>?_);obtain⟨h1,h2⟩:=X0 I1 r1 ty;exists T,id,pa,slot,hty,h1,h2;have hA:=ha cpos π s1 σ H1 _ I1 q1;rw[hs]at hA⊢;refine Mo (by show(false||(backTo cpos (starEach es X.env)).any (·.1))=false;rw[hplain]<;>rfl) (PQ ?_);exact aY hA λus s2 ⟨vs,H2,I2,r2,q2⟩=>hm π s2 σ H2 x vs v us Q I2 r1 r2 q2
end
def MtM(X:Cx)(id:String)(r:V->τ->Hp->VK->Prop):Prop:=
 ∀π s σ H (x:V) (xs:τ) (v:Value) (us:List Value) (Q:VK),Inv X π σ H s->RelV x v->Vals xs us->r x xs H Q->
  wpAny (model X.prog X.w) X.A (call (.builtin id) (v::us)) (EP X π σ Q) X.xe s
def Vals.one(h:Vals [x] us):∃u,us=[u]/\RelV x u:=by
 cases h with
 |cons r h=>cases h;exact{(),r}
def Vals.two(h:Vals [x,y] us):∃u v,us=[u,v]/\RelV x u/\RelV y v:=by
 cases h with
 |cons r h=>
  obtain⟨v,rfl,q⟩:=Vals.one h;exact{_,(),r,q}
theorem Vals.reverse{xs:τ}{us:List Value}(h:Vals xs us):Vals xs.reverse us.reverse:=by
 induction h with
 |nil=>exact .nil
 |cons r t ih=>rw[EN,EN];exact Vals.append ih (.cons r .nil)
theorem Vals.rep(h:Vals xs us):∀k:Nat,Vals (iy k xs).flatten (iy k us).flatten
 |0=>.nil
 |k+1=>by
  rw[zc,zc,Dq,Dq];exact Vals.append h (Vals.rep h k)
theorem foldl_rep(its:List Value):∀(k:Nat)(acc:List Value),
  ZW (λx1 x2=>x1++x2) acc.toArray (iy k its.toArray)=(acc++(iy k its).flatten).toArray
 |0,acc=>by simp
 |k+1,acc=>by
  have e:acc.toArray++its.toArray=(acc++its).toArray:=by simp
  have e2:(acc++its)++(iy k its).flatten=acc++(iy (k+1) its).flatten:=by
   rw[zc,Dq,E3]
  rw[<-e2,<-foldl_rep its k (acc++its),<-e,zc,RV]
section
variable {X:Cx}{π:List (Addr×Obj)}{σ:St}{H:Hp}{s:Shared}{l:Addr}{xs ys:τ}
def Inv.I0{its its':List Value}{n:Nat}{f:Array Value->Array Value}{t':Nat}(I:Inv X π σ H s)(hH:H l=ι (.lst xs))
  (e:s.heap.get? l=ι {cls:=.type "list",data:=.seq its.toArray n}) (hf:f its.toArray=its'.toArray) (hv:Vals ys its') (hz:ys.length<=sizeLine):
  Inv X π σ (upd H l (.lst ys)) {s with heap:=s.heap.update l (Az f),toks:=t'}:=by
 have q:=PySem.IsL.update e f;rw[hf]at q;refine I.write (x:=l) (e:=l) (by rw[hH];exact trivial) (.inl rfl) (λb' u hb hu=>(Heap.get?_update_other s.heap (Az f) (jB hb)).trans hu) {_,q} ?_;exact{hz,its',_,hv,q}
def Inv.QZ{its:List Value}{t':Nat}(I:Inv X π σ H s)(hv:Vals ys its)(hz:ys.length<=sizeLine):
  Inv X π σ (upd H s.heap.objs.size (.lst ys)) {s with heap:=s.heap.push {cls:=.type "list",data:=.seq its.toArray},toks:=t'}:=
 I.laid (λ_ _ q=>Heap.get?_push_of_some _ q) (aZ _) {hz,its,0,hv,Heap.get?_push_size _ rfl}
theorem Inv.fresh(I:Inv X π σ H s):H s.heap.objs.size=ν:=I.hok.fresh (aZ _)
def Inv.uP(I:Inv X π σ H s)(hH:H l=ι (.lst xs)):xs.length<=sizeLine/\∃(its:List Value) (n:Nat),Vals xs its/\xs.length=its.length/\s.heap.get? l=ι {cls:=.type "list",data:=.seq its.toArray n}:=by
 obtain⟨z,its,n,r,e⟩:=I.hok l _ hH;exact{z,its,n,r,r.length,(e)}
def B9(h:n<=sizeLine):Builtin.List.listTooLong n=false:=by
 unfold Builtin.List.listTooLong;exact decide_eq_false ⋯
end
inductive az3(x:V)(vs:τ)(H:Hp)(Q:VK):Prop|mk(l:Addr)(xs:τ)(y:V)(_:x=.ref l)(_:vs=[y])(_:H l=ι (.lst xs))(_:xs.length<sizeLine)(_:Q .non (upd H l (.lst (xs++[y]))))
def A1:V->τ->Hp->VK->Prop:=λx vs H Q=>az3 x vs H Q
def xb:MtM X "list.append" A1:=by
 intro π s σ H x vs v us Q I rx rv h;intros l xs y rfl rfl hH hz q h;cases rx;intros u rfl ru rv.one;obtain⟨z,its,n,r,hl,e⟩:=I.uP hH;refine call_meets F.slot_list_append {_,e,rfl} F.entry_list_append (F.args_list_append_2 _ _) (PySem.list_append l its.toArray n u (by rw[gC];lia)) {e,?_};refine{.non,_,I.I0 (its':=its++[u]) hH e (by simp) (r.append (.cons ru .nil)) ?_,rfl,q};rw[gk,Zb];lia
def P6:V->τ->Hp->VK->Prop:=λx vs H Q=>∃l b xs zs,x=.ref l/\vs=[.ref b]/\H l=ι (.lst xs)/\H b=ι (.lst zs)/\xs.length+zs.length<=sizeLine/\Q .non (upd H l (.lst (xs++zs)))
def aSD:MtM X "list.extend" P6:=by
 intro π s σ H x vs v us Q I rx rv h;intros l b xs zs rfl rfl hH hB hz q h;cases rx;intros u rfl ru rv.one;cases ru;obtain⟨z,its,n,r,hl,e⟩:=I.uP hH;obtain⟨z2,its2,n2,r2,hl2,e2⟩:=I.uP hB;have hsz:its.toArray.size+its2.toArray.size<=sizeLine:=by rw[gC,gC];lia
 have mB:¬(!its.toArray.isEmpty&&Builtin.List.listTooLong (its.toArray.size+its2.toArray.size))=true:=by
  rw[B9 hsz,Bool.and_false];exact gQ
 refine call_meets F.slot_list_extend {_,e,rfl} F.entry_list_extend (F.args_list_extend_2 _ _)
  (AutoSeq1.list_extend_list_list_0 l its.toArray n b its2.toArray n2 mB (by rw[gC];lia) ⋯) {e,e2,?_}
 refine{.non,_,I.I0 (its':=its++its2) hH e (by simp) (r.append r2) ?_,rfl,q};rw[gk];lia
def aC9:R2:=λx y H Q=>∃l b xs zs,x=.ref l/\y=.ref b/\H l=ι (.lst xs)/\H b=ι (.lst zs)/\xs.length+zs.length<=sizeLine/\∀p,H p=ν->Q (.ref p) (upd H p (.lst (xs++zs)))
def aRe:cQ X (binaryOp .Add) aC9:=by
 intro π s σ H x y v u Q I rx ry h;intros l b xs zs rfl rfl hH hB hz q h;cases rx;cases ry;obtain⟨z,its,n,r,hl,e⟩:=I.uP hH;obtain⟨z2,its2,n2,r2,hl2,e2⟩:=I.uP hB;refine PySem.P.add_list e e2 ?_ (by rw[gC,gC];lia);have ea:its.toArray++its2.toArray=(its++its2).toArray:=by simp
 rw[ea];exact{.ref _,_,I.QZ (t':=s.toks) (r.append r2) (by rw[gk];lia),rfl,q _ I.fresh}
def aGo:R2:=λx y H Q=>∃l k xs,x=.ref l/\y=.int k/\H l=ι (.lst xs)/\-(2^63)<=k/\k<2^63/\xs.length*k.toNat<=sizeLine/\
 ∀p,H p=ν->Q (.ref p) (upd H p (.lst (iy k.toNat xs).flatten))
def len_rep{α:Type}(xs:List α)(k:Nat):(iy k xs).flatten.length=k*xs.length:=by
 induction k with
 |zero=>simp
 |succ k ih=>rw[zc,Dq,gk,ih,uI,oQ]
def aL0:cQ X (binaryOp .Mult) aGo:=by
 intro π s σ H x y v u Q I rx ry h;intros l k xs rfl rfl hH h1 h2 hz q h;cases rx;intros t rfl ry;obtain⟨z,its,n,r,hl,e⟩:=I.uP hH;have hlen:its.toArray.size*k.toNat<=sizeLine:=by rw[gC,<-hl];exact hz
 have hcap:¬its.toArray.size*k.toNat>(2^63-1)/8:=by
  have:(sizeLine:Nat)<=(2^63-1)/8:=∅;lia
 have hfit:¬(!Builtin.List.listFitsIndex k)=true:=by
  rw[fitsIndex_both h1 h2];exact gQ
 have mB:¬Builtin.List.listTooLong (its.toArray.size*k.toNat)=true:=by
  rw[B9 hlen];exact gQ
 have hnew:ZW (λx1 x2=>x1++x2) #[] (iy (if its.toArray.isEmpty=true then 0 else k.toNat) its.toArray)=(iy k.toNat its).flatten.toArray:=by
  have f0:∀m:Nat,ZW (λx1 x2=>x1++x2) #[] (iy m its.toArray)=(iy m its).flatten.toArray:=λm=>by
   have:=foldl_rep its m [];rw[Jb]at this;exact this
  rw[f0];cases its with
  |nil=>simp
  |cons a r'=>rw[if_neg (by simp)]
 refine wpAny_binaryOp_repeat_ref (T:="list") (U:="int") ∅ {_,e,rfl} (λs'=>typeIs_int s' k t) noFill_list_mul HU RE repeat_list Ya.lookup
  (call_meets RE (typeIs_int s k t) F.entry_int_rmul (F.args_int_rmul_2 _ _) (int___rmul___int_list k t l its.toArray n)
   {e,rfl,{_,e,rfl},call_meets F.slot_list_mul {_,e,rfl} F.entry_list_mul (F.args_list_mul_2 _ _) (AutoListH.list___mul___list_int_3 l its.toArray n k t hfit hcap mB) {e,?_}})
 rw[hnew];exact{.ref _,_,I.QZ (t':=s.toks) (r.rep k.toNat) (by rw[len_rep,yH];exact hz),rfl,q _ I.fresh}
section
variable {κ:Type}[DecidableEq κ]
section
variable {p:κ×V}{r kvs:List (κ×V)}{k:κ}{vs:List (κ×Value)}
def eG(kvs:List (κ×V))(k:κ):Option V:=(kvs.find? λkv=>decide (kv.1=k)).map (·.2)
def putK(kvs:List (κ×V))(k:κ)(v:V):List (κ×V):=
 if(kvs.any λkv=>decide (kv.1=k))=true then kvs.map (λkv=>if kv.1=k then(kv.1,v)else kv)else kvs++[(k,v)]
def tM(e:p.1=k):eG (p::r) k=ι p.2:=by simp[eG,List.find?_cons,e]
def sS(e:¬p.1=k):eG (p::r) k=eG r k:=by simp[eG,List.find?_cons,e]
theorem MV(k:κ):∀kvs:List (κ×V),(kvs.any λkv=>decide (kv.1=k))=(eG kvs k).isSome
 |[]=>rfl
 |p::r=>by
  rw[MG];by_cases e:p.1=k
  .simp only[tM e,decide_eq_true e,Bool.true_or,Option.isSome_some]
  .rw[sS e,decide_eq_false e,Bool.false_or];exact MV k r
theorem ZE(k j:κ)(y:V):∀kvs:List (κ×V),eG (kvs.map λkv=>if kv.1=k then(kv.1,y)else kv) j=(eG kvs j).map λx=>if j=k then y else x
 |[]=>rfl
 |p::r=>by
  have ih:=ZE k j y r;rw[ji];by_cases h:p.1=k
  .rw[if_pos h];by_cases e:p.1=j
   .rw[tM (p:=(p.1,y)) e,tM e,Lp,if_pos (e.symm.trans h)]
   .rw[sS (p:=(p.1,y)) e,sS e,ih]
  .rw[if_neg h];by_cases e:p.1=j
   .rw[tM (p:=p) e,tM e,Lp,if_neg (λz=>h (e.trans z))]
   .rw[sS (p:=p) e,sS e,ih]
theorem SE(k j:κ)(y:V):∀kvs:List (κ×V),eG kvs k=ν->eG (kvs++[(k,y)]) j=if j=k then ι y else eG kvs j
 |[],_=>by
  by_cases e:k=j
  .rw[if_pos e.symm];exact tM (p:=(k,y)) e
  .rw[if_neg (λz=>e z.symm)];exact sS (p:=(k,y)) e
 |p::r,hn=>by
  rw[Vw];have hk:¬p.1=k:=λz=>by rw[tM z]at hn;cases hn
  rw[sS hk]at hn;have ih:=SE k j y r hn;by_cases e:p.1=j
  .rw[tM e,tM e,if_neg (λz=>hk (e.trans z))]
  .rw[sS e,sS e,ih]
def Zg(kvs:List (κ×V))(k j:κ)(y:V):eG (putK kvs k y) j=if j=k then ι y else eG kvs j:=by
 unfold putK;by_cases a:(kvs.any λkv=>decide (kv.1=k))=true
 .rw[if_pos a,ZE];rw[MV]at a;by_cases e:j=k
  .obtain⟨x,hx⟩:=Ff.mp a;rw[if_pos e,e,hx,Lp,if_pos rfl]
  .rw[if_neg e];cases eG kvs j with
   |none=>rfl
   |some x=>rw[Lp,if_neg e]
 .rw[if_neg a];refine SE k j y kvs ?_;rw[MV]at a;cases q:eG kvs k with
  |none=>rfl
  |some x=>rw[q]at a;exact(a rfl).elim
def Yk(kvs:List (κ×V))(k:κ)(v:V):(putK kvs k v).length<=kvs.length+1:=by
 unfold putK;split
 .rw[aB];lia
 .rw[gk,j8,xN];lia
def aTk(v:V)(h:eG kvs k=ν):putK kvs k v=kvs++[(k,v)]:=by
 unfold putK;rw[MV,h];exact if_neg ∅
def lE.pS(r:lE o u):o.isSome=u.isSome:=by
 cases o with
 |none=>cases u with
  |none=>rfl
  |some _=>exact(show False from r).elim
 |some _=>cases u with
  |none=>exact(show False from r).elim
  |some _=>rfl
def KV.val(r:KV kvs vs)(k:κ):lE (eG kvs k) (valueAt vs k):=by
 unfold KV at r;induction r with
 |nil=>exact True.intro
 |@cons p q ps qs h t ih=>
  intros h1 h2 h;by_cases e:p.1=k
  .have e':q.1=k:=h1.symm.trans e;have b:valueAt (q::qs) k=ι q.2:=by simp[valueAt,List.find?_cons,e']
   rw[tM e,b];exact h2
  .have e':¬q.1=k:=λz=>e (h1.trans z);have b:valueAt (q::qs) k=valueAt qs k:=by simp[valueAt,List.find?_cons,e']
   rw[sS e,b];exact ih
theorem KV.any{kvs:List (κ×V)}{vs:List (κ×Value)}(r:KV kvs vs)(k:κ):(kvs.any λkv=>decide (kv.1=k))=vs.any λkv=>decide (kv.1=k):=by
 unfold KV at r;induction r with
 |nil=>rfl
 |cons h t ih=>rw[MG,MG,ih,h.1]
def KV.repl(r:KV kvs vs)(k:κ){y:V}{u:Value}(ry:RelV y u):
  KV (kvs.map λkv=>if kv.1=k then(kv.1,y)else kv) (vs.map λkv=>if kv.1=k then(kv.1,u)else kv):=by
 unfold KV at r⊢;induction r with
 |nil=>exact .nil
 |@cons p q ps qs h t ih=>
  rw[ji,ji];refine .cons ?_ ih;intros h1 h2 h;by_cases e:p.1=k
  .rw[if_pos e,if_pos (h1.symm.trans e)];exact{h1,(ry)}
  .rw[if_neg e,if_neg (λz=>e (h1.trans z))];exact{h1,(h2)}
def KV.put(r:KV kvs vs)(k:κ){y:V}{u:Value}(ry:RelV y u):KV (putK kvs k y) (stored vs k u):=by
 unfold putK stored;rw[r.any k];by_cases e:(vs.any λkv=>decide (kv.1=k))=true
 .rw[if_pos e,if_pos e];exact r.repl k ry
 .rw[if_neg e,if_neg e];exact Paired.snoc r {rfl,(ry)}
theorem KV.length{kvs:List (κ×V)}{vs:List (κ×Value)}(r:KV kvs vs):kvs.length=vs.length:=Paired.length r
end
end
section
variable {H:Hp}
def Rk(r:RelV (kV k) u):(kZ P w).is k u=true:=by
 cases k with
 |inl i=>obtain⟨t,e⟩:=(show ∃t,u=Value.int i t from r);subst e;exact aDN P w i t
 |inr x=>obtain⟨t,e⟩:=(show ∃t,u=Value.str x t from r);subst e;exact MH P w x t
theorem EX:∀{ks:List Key} {us:List Value},Vals (ks.map kV) us->ItemsAre (kZ P w) ks us
 |[],_,r=>by rw[Jy]at r;cases r;exact .nil
 |k::ks,_,r=>by
  rw[ji]at r;cases r with
  |cons h t=>exact .cons (Rk h) (EX t)
abbrev KT(H:Hp):List (List Key×V)->List (List Key×Addr×Value)->Prop:=Paired λp q=>p.1=q.1/\H q.2.1=ι (.tup (p.1.map kV))/\RelV p.2 q.2.2
def KT.val(r:KT H kvs xs)(k:List Key):lE (eG kvs k) ((atKey xs k).map (·.2)):=by
 induction r with
 |nil=>exact True.intro
 |@cons p q ps qs h t ih=>
  intros h1 _ h2 h;by_cases e:p.1=k
  .have e':q.1=k:=h1.symm.trans e;have b:atKey (q::qs) k=ι q.2:=by simp[atKey,List.find?_cons,e']
   rw[tM e,b];exact h2
  .have e':¬q.1=k:=λz=>e (h1.trans z);have b:atKey (q::qs) k=atKey qs k:=by simp[atKey,List.find?_cons,e']
   rw[sS e,b];exact ih
def KT.repl(r:KT H kvs xs)(k:List Key)(ry:RelV y u):
  KT H (kvs.map λkv=>if kv.1=k then(kv.1,y)else kv) (xs.map (putAt k u)):=by
 induction r with
 |nil=>exact .nil
 |@cons p q ps qs h t ih=>
  rw[ji,ji];refine .cons ?_ ih;intros h1 h2 h3 h;unfold putAt;by_cases e:p.1=k
  .rw[if_pos e,if_pos (h1.symm.trans e)];exact{h1,h2,(ry)}
  .rw[if_neg e,if_neg (λz=>e (h1.trans z))];exact{h1,h2,(h3)}
def KT.put(r:KT H kvs xs)(k:List Key)(hb:H b=ι (.tup (k.map kV)))(ry:RelV y u):
  KT H (putK kvs k y) (storedH xs k b u):=by
 have e:(kvs.any λkv=>decide (kv.1=k))=(atKey xs k).isSome:=by
  rw[MV,(r.val k).pS,xF]
 unfold putK storedH;rw[e];by_cases q:(atKey xs k).isSome=true
 .rw[if_pos q,if_pos q];exact r.repl k ry
 .rw[if_neg q,if_neg q];exact Paired.snoc r {rfl,hb,(ry)}
def KT.keeps(r:KT H kvs xs)(ht:∀b ys,H b=ι (.tup ys)->H' b=ι (.tup ys)):KT H' kvs xs:=
 Paired.GC r λ_ _ z=>{z.1,ht _ _ z.2.1,z.2.2}
end
def FC(ok:fP P w H h)(e:Rd H a u):fB P w H h a u:=e.ok ok
def N8(ok:fP P w H h)(e:Rd H a (.dK kvs)):kvs.length<=sizeLine/\(a==sysModules)=false/\∃vs,KV kvs vs/\h.DictOf (kZ P w) a vs:=
 show fB P w H h a (.dK kvs)from FC ok e
def azA(ok:fP P w H h)(e:H a=ι (.dK kvs)):kvs.length<=sizeLine/\(a==sysModules)=false/\∃vs,KV kvs vs/\h.DictOf (kZ P w) a vs:=N8 ok (.inl e)
def PB(ok:fP P w H h)(e:H a=ι (.tup (ks.map kV))):(tupleKind (kZ P w)).is h ks a:=by
 obtain⟨_,its,r,o,h1,h2,n,h3⟩:=(show fB P w H h a (.tup (ks.map kV))from ok a _ e);exact{o,its.toArray,n,h1,h2,h3,by simpa using EX r}
def Ol(ok:fP P w H h)(e:Rd H a (.dT kvs)):kvs.length<=sizeLine/\(a==sysModules)=false/\
  ∃xs,KT H kvs xs/\h.DictOfH (tupleKind (kZ P w)) a xs:=by
 obtain⟨z,y,xs,r,o,es,ep,h1,h2,h3,h4,h5⟩:=(show fB P w H h a (.dT kvs)from FC ok e);refine{z,y,xs,r,o,es,ep,h1,h2,h3,h4,λx hx=>?_,h5};have all:∀{l:List (List Key×V)} {m:List (List Key×Addr×Value)},KT H l m->∀x∈m,(tupleKind (kZ P w)).is h x.1 x.2.1:=by
  intro l m q;induction q with
  |nil=>intro x hx;exact nomatch hx
  |@cons p q ps qs hq t ih=>
   intro x hx;rcases c7.mp hx with e|hx
   .subst e;exact PB ok (by rw[<-hq.1];exact hq.2.1)
   .exact ih x hx
 exact all r x hx
def yl(ok:fP P w H h)(e:H a=ι (.dT kvs)):kvs.length<=sizeLine/\(a==sysModules)=false/\
  ∃xs,KT H kvs xs/\h.DictOfH (tupleKind (kZ P w)) a xs:=Ol ok (.inl e)
def oZ(H:Hp)(a:Addr)(y:V)(r:Option V):Prop:=
 (∃kvs k,Rd H a (.dK kvs)/\y=kV k/\r=eG kvs k)∨∃kvs k b,Rd H a (.dT kvs)/\y=.ref b/\H b=ι (.tup (k.map kV))/\r=eG kvs k
def uH(H:Hp)(a:Addr)(y v:V)(H':Hp):Prop:=
 (∃kvs k,H a=ι (.dK kvs)/\y=kV k/\kvs.length<sizeLine/\H'=upd H a (.dK (putK kvs k v)))∨
 ∃kvs k b,H a=ι (.dT kvs)/\y=.ref b/\H b=ι (.tup (k.map kV))/\kvs.length<sizeLine/\H'=upd H a (.dT (putK kvs k v))
theorem oZ.k{H:Hp}{a:Addr}{kvs:List (Key×V)}{k:Key}(e:H a=ι (.dK kvs)):oZ H a (kV k) (eG kvs k):=.inl {kvs,k,.inl e,rfl,rfl}
def oZ.t{H:Hp}{a b:Addr}{kvs:List (List Key×V)}{k:List Key}(e:H a=ι (.dT kvs))(eb:H b=ι (.tup (k.map kV))):oZ H a (.ref b) (eG kvs k):=.inr {kvs,k,b,.inl e,rfl,eb,rfl}
theorem uH.k{H:Hp}{a:Addr}{kvs:List (Key×V)}{k:Key}{v:V}(e:H a=ι (.dK kvs))(hl:kvs.length<sizeLine):uH H a (kV k) v (upd H a (.dK (putK kvs k v))):=.inl {kvs,k,e,rfl,hl,(rfl)}
def uH.t{H:Hp}{a b:Addr}{kvs:List (List Key×V)}{k:List Key}{v:V}(e:H a=ι (.dT kvs))(eb:H b=ι (.tup (k.map kV)))(hl:kvs.length<sizeLine):
  uH H a (.ref b) v (upd H a (.dT (putK kvs k v))):=.inr {kvs,k,b,e,rfl,eb,hl,(rfl)}
def Inv.big(I:Inv X π σ H s):sysModules<s.heap.objs.size:=by
 have h:mainGlobals<s.heap.objs.size:=(I.mod.glob.keeps I.bk).lt;exact p7 ∅ h
def aO4(hu:A.units+1<cLine)(I:Inv X π σ H s)(g:oZ H a y (ι v))(ry:RelV y u)(h:∀w' s',Inv X π σ H s'->RelV v w'->Q w' s'):
  wpAny (model X.prog X.w) A (getItem (.ref a) u) Q E s:=by
 rcases g with⟨kvs,k,e,ey,l⟩|⟨kvs,k,b,e,ey,eb,l⟩
 .subst ey;obtain⟨z,hd,vs,rel,dd⟩:=N8 I.hok e;obtain⟨w',hw,wC⟩:=lE.some_of (v:=v) (o:=valueAt vs k) (by rw[l];exact rel.val k);exact wpAny_getItem_of (Rk ry) dd.mapOf hw (h w' _ (I.tok _) wC)
 .subst ey;cases (show u=Value.ref b from ry);obtain⟨z,hd,xs,rel,dd⟩:=Ol I.hok e;obtain⟨w',hw,wC⟩:=lE.some_of (v:=v) (o:=(atKey xs k).map (·.2)) (by rw[l];exact rel.val k);obtain⟨p,hp,hp2⟩:=Option.map_eq_some_iff.mp hw;refine wpAny_getItem_heap (tupleKind_room_in1 hu) (PB I.hok eb) dd hp ?_;rw[hp2];exact h w' _ (I.tok _) wC
def azS(hu:A.units+1<cLine)(I:Inv X π σ H s)(g:oZ H a y o)(ry:RelV y u)(h:∀s',Inv X π σ H s'->Q (.bool (!o.isSome)) s'):
  wpAny (model X.prog X.w) A (compareOp .NotIn u (.ref a)) Q E s:=by
 rcases g with⟨kvs,k,e,ey,l⟩|⟨kvs,k,b,e,ey,eb,l⟩
 .subst ey;obtain⟨z,hd,vs,rel,dd⟩:=N8 I.hok e;refine wpAny_notIn_of (Rk ry) hd dd.mapOf ?_;rw[<-(rel.val k).pS,<-l];exact h _ (I.tok _)
 .subst ey;cases (show u=Value.ref b from ry);obtain⟨z,hd,xs,rel,dd⟩:=Ol I.hok e;refine wpAny_notIn_heap (tupleKind_room_in1 hu) (PB I.hok eb) hd dd ?_;have q:=(rel.val k).pS;rw[xF]at q;rw[<-q,<-l];exact h _ (I.tok _)
def xS(I:Inv X π σ H s)(mu:HN (H a))(hs:Ig a s.heap h')(he:∃q,h'.get? a=ι q)(new:fB X.prog X.w (upd H a ob) h' a ob):
  Inv X π σ (upd H a ob) {s with heap:=h',toks:=t'}:=
 I.write (x:=a) (e:=a) mu (.inl rfl) (λb q hb z=>(hs.2 b hb).trans z) he new
def axD(z:kvs.length<=sizeLine)(hd:(a==sysModules)=false)(rel:KV kvs vs)(dd:h'.DictOf (kZ P w) a vs):
  fB P w H' h' a (.dK kvs):={z,hd,vs,rel,(dd)}
def aGM(hu:A.units+1<cLine)(I:Inv X π σ H s)(g:uH H a y v H')(ry:RelV y u)(rv:RelV v r)(h:∀s',Inv X π σ H' s'->Q () s'):
  wpAny (model X.prog X.w) A (setItem (.ref a) u r) Q E s:=by
 rcases g with⟨kvs,k,e,ey,l,eH⟩|⟨kvs,k,b,e,ey,eb,l,eH⟩
 .subst ey eH;obtain⟨z,hd,vs,rel,dd⟩:=azA I.hok e;have hz:vs.length<=sizeLine:=by rw[<-rel.length];exact z
  have hl:(putK kvs k v).length<=sizeLine:=by have:=Yk kvs k v;lia
  refine wpAny_setItem_pairs (hsz:=hz) (Rk ry) dd λh' v7 hs=>h _ ?_;have he:∃q,h'.get? a=ι q:=let⟨q,_,_,hq,_⟩:=v7;{q,(hq)};exact xS I (by rw[e];exact True.intro) hs he (axD hl hd (rel.put k rv) v7)
 .subst ey eH;cases (show u=Value.ref b from ry);obtain⟨z,hd,xs,rel,dd⟩:=yl I.hok e;have hz:xs.length<=sizeLine:=by rw[<-Paired.length rel];exact z
  have hl:(putK kvs k v).length<=sizeLine:=by have:=Yk kvs k v;lia
  refine wpAny_setItem_heap (hsz:=hz) (tupleKind_room_in1 hu) (PB I.hok eb) dd λh' v7 hs=>h _ ?_;intros q es ep hq h2 h3 h4 _ h5 v7;refine xS I (by rw[e];exact True.intro) hs {q,(hq)} {hl,hd,_,(rel.put k eb rv).keeps λc ys ec=>?_,q,es,ep,hq,h2,h3,h4,h5};rw[cH (uR ec e (λz=>nomatch z))];exact ec
def MR(i:Expr):Prop:=∀ov iv,subscripted i false ov iv=operate [ov,iv] (getItem ov iv)
def kP{prog:Program}{w:World}{A:Around}{E:χ}{s:Shared}{env:Env}{value slice:Expr}{pos:Pos}{T id:String}{Q:χ}
  (hl:typeLookup (.type T) "__getitem__" = pure (ι (.builtin id))) (hs:MR slice)
  (h:wpAny (model prog w) A (eval value env) (λo s₁=>wpAny (model prog w) A (eval slice env) (λi s₂=>s₂.TypeIs o T/\wpAny (model prog w) A (getItem o i) Q E s₂) E s₁) E s):
  wpAny (model prog w) A (eval (.Subscript value slice pos) env) Q E s:=by
 refine Subscript_ (wpAny_mono h (λo s₁ h₁=>wpAny_mono h₁ (λi s₂ h₂=>?_) λ_ _ x=>x) λ_ _ x=>x);intros hT h₂ h₂;unfold subscriptTail;refine wpAny_bind ?_;rw[getitemInPython_of_ne hT.not_modules];refine wpAny_bind (wpAny_specialOf hT hl ?_);have fin:wpAny (model prog w) A (subscripted slice false o i) (λr s₃=>wpAny (model prog w) A (letTemporaryGo value o r>>=λ_=>pure r) Q E s₃) E s₂:=by
  rw[hs o i];exact wpAny_operating (wpAny_mono h₂ (λr s₃ h₃=>wpAny_bind (wpAny_letTemporaryGo (wpAny_pure h₃))) λ_ _ x=>x)
 first
  |exact wpAny_pure (wpAny_bind fin)
  |exact wpAny_bind (wpAny_pure (wpAny_bind fin))
  |exact wpAny_bind fin
def aOs(I:Inv X π σ H s)(g:oZ H a y o):s.TypeIs (.ref a) "dict" := by
 rcases g with⟨kvs,k,e,_,_⟩|⟨kvs,k,b,e,_,_,_⟩
 .obtain⟨_,_,vs,_,dd⟩:=N8 I.hok e;exact dd.typeIs
 .obtain⟨_,_,xs,_,dd⟩:=Ol I.hok e;exact dd.typeIs
inductive aQJ(x y:V)(H:Hp)(Q:VK):Prop|mk(a:Addr)(v:V)(_:x=.ref a)(_:oZ H a y (ι v))(_:Q v H)
def aFX(td ty:TE):TE:=λσ H Q=>td σ H λx H1=>ty σ H1 λy H2=>aQJ x y H2 Q
def aKG(ty td:TE):TE:=λσ H Q=>ty σ H λy H1=>td σ H1 λx H2=>∃a o,x=.ref a/\oZ H2 a y o/\Q (.bl (!o.isSome)) H2
inductive aGz(x y v:V)(σ:St)(H:Hp)(Q:St->Hp->Prop):Prop|mk(a:Addr)(H4:Hp)(_:x=.ref a)(_:uH H a y v H4)(_:Q σ H4)
def aTl(td ty tv:TE):TS:=λD σ H=>tv σ H λv H1=>td σ H1 λx H2=>ty σ H2 λy H3=>aGz x y v σ H3 D.nx
def uf(hu:X.A.units+1<cLine)(ho:PE X o td)(hi:PE X i ty)(hs:MR i):PE X (.Subscript o i pos) (aFX td ty):=by
 intro π s σ H Q I h;refine kP Vk.lookup hs (aY (ho π s σ H _ I h) λu s1 ⟨x,H1,I1,rx,q1⟩=>aY (hi π s1 σ H1 _ I1 q1) λiv s2 ⟨y,H2,I2,ry,a,v,ex,g,q2⟩=>?_);subst ex;obtain rfl:u=Value.ref a:=rx;exact{aOs I2 g,aO4 hu I2 g ry λw' s3 I3 wC=>{v,H2,I3,wC,(q2)}}
def YU(hu:X.A.units+1<cLine)(hi:PE X i ty)(ho:PE X o td):PC X .NotIn i o (aKG ty td):=by
 intro π s σ H Q I h;refine aY (hi π s σ H _ I h) λiv s1 ⟨y,H1,I1,ry,q1⟩=>aY (ho π s1 σ H1 _ I1 q1) λu s2 ⟨x,H2,I2,rx,a,ov,ex,g,q2⟩=>?_;subst ex;obtain rfl:u=Value.ref a:=rx;exact azS hu I2 g ry λs3 I3=>{.bl (!ov.isSome),H2,I3,rfl,q2}
def DF(hu:X.A.units+1<cLine)(ho:PE X o td)(hi:PE X i ty)(hv:PE X value tv)(hs:swapsWith value (ι (.Subscript o i pos')) pos.line X.env=pure false):
  PS X (.Assign [.Subscript o i pos'] value pos) (aTl td ty tv):=by
 intro π s σ H D I h;refine wpAny_Assign_Subscript (aY (hv π s σ H _ I h) λr s1 ⟨v,H1,I1,rv,q1⟩=>aY (ho π s1 σ H1 _ I1 q1) λu s2 ⟨x,H2,I2,rx,q2⟩=>aY (hi π s2 σ H2 _ I2 q2) λiv s3 ⟨y,H3,I3,ry,a,H4,ex,g,q3⟩=>?_) hs;subst ex;obtain rfl:u=Value.ref a:=rx;exact aGM hu I3 g ry rv λs4 I4=>{σ,H4,I4,(q3)}
def aEg(h:Heap)(hb:sysModules<h.objs.size):fB P w H (h.push {cls:=.type "dict",data:=.dict #[]}) h.objs.size (.dK []):=
 {cZ _,beq_eq_false_iff_ne.mpr (jB (jr hb)),[],.nil,Heap.DictOf.new h}
def aBP(h:Heap)(hb:sysModules<h.objs.size):fB P w H (h.push {cls:=.type "dict",data:=.dict #[]}) h.objs.size (.dT []):=
 {cZ _,beq_eq_false_iff_ne.mpr (jB (jr hb)),[],.nil,_,#[],0,Heap.get?_push_size _ rfl,{rfl,rfl,(rfl)},rfl,rfl,List.nodup_nil}
def aLo:TE:=λ_ H Q=>∀p,H p=ν->Q (.ref p) (upd H p (.dK []))
def azE:TE:=λ_ H Q=>∀p,H p=ν->Q (.ref p) (upd H p (.dT []))
def PU:PE X (.Dict [] [] pos) aLo:=λπ s σ H Q I h=>
 wpAny_Dict_empty {.ref s.heap.objs.size,_,I.laid (a:=s.heap.objs.size) (o:=.dK []) (t':=s.toks) (λ_ _ q=>Heap.get?_push_of_some _ q) (aZ _) (aEg s.heap I.big),rfl,h _ (I.hok.fresh (aZ _))}
def aPp:PE X (.Dict [] [] pos) azE:=λπ s σ H Q I h=>
 wpAny_Dict_empty {.ref s.heap.objs.size,_,I.laid (a:=s.heap.objs.size) (o:=.dT []) (t':=s.toks) (λ_ _ q=>Heap.get?_push_of_some _ q) (aZ _) (aBP s.heap I.big),rfl,h _ (I.hok.fresh (aZ _))}
end L2
namespace O3
open PySem PySem.W PySem.Calls PyProof.Rows
def ayo:∀(ns:ζ)(vs:List Value),WellAll P h vs (ns.map WData.int)->IntsAre vs ns:=by
 intro ns;induction ns with
 |nil=>
  intro vs w;rw[Jy]at w;cases w;exact .nil
 |cons n ns ih=>
  intro vs w;rw[ji]at w;cases w with
  |cons a b=>
   cases a;exact .cons _ _ (ih _ b)
def aFF{l:OpenLaw}{n:Nat}(hn:l.most=ι n){h:Heap}
  (hpre:l.row.toRowW.claim.pre args=true)(hwl:WellAll P h vals args):
  ∃a vs ns,vals=[Value.ref a]/\args=[WData.list (ns.map WData.int)]/\h.get? a=ι {cls:=.type "list",data:=.seq vs.toArray}/\IntsAre vs ns/\ns.length<=n:=by
 have hsh:WShape.hasAll [] args [.list .int]=true:=(pre_splitW hpre).1;have hc:l.pre.holds [] {args:=args}=true:=(pre_splitW hpre).2;obtain⟨d,r,rfl,h1,h2⟩:=hasAllW_cons hsh;obtain rfl:=hasAllW_nil h2;obtain⟨xs,rfl,h3⟩:=hasW_list h1;obtain⟨ns,rfl⟩:=items_int h3;have hlen:ns.length<=n:=by
  unfold OpenLaw.pre at hc;have h4:(WTm.not (.lt (.lit (.int (n:Int))) (.len (.arg 0)))).holds [] {args:=[.list (ns.map .int)]}=true:=by
   have h4:=(holds_andW hc).1;rw[hn]at h4;exact h4
  have h5:=condW_of h4 (w_not (w_lt w_lit (w_len_list (w_arg rfl))));rw[aB]at h5;refine RH λq=>?_;have q':(n:Int)<((ns.length:Nat):Int):=⋯;first
   |(rw[decide_eq_true q']at h5;exact absurd h5 ∅)
   |(simp at h5;lia)
 cases hwl with
 |cons w1 w2=>
  cases w2;cases w1 with
  |list ho hall=>exact{_,_,ns,rfl,rfl,ho,ayo ns _ hall,hlen}
def aRH(l:OpenLaw)(args:List WData):l.row.toRowW.claim.post args (.bool true) args=true:=
 postW_of (r:=l.row.toRowW) (X:=(true==true))
  (show WShape.has [] (.bool true) .bool=true by first|rfl|decide|simp[WShape.has,WShape.arms,WShape.armsAll])
  (show(WTm.eq .res (.lit (.bool true))).value [] {args:=args,res:=ι (.bool true),after:=args}=ι (.bool (true==true))from w_eq_bool (w_res rfl) w_lit) rfl
end O3
namespace L2
open PySem PySem.Spec PyProof.Rows
def aIX(h:IntsAre vs ns):Vals (ns.map V.int) vs:=by
 induction h with
 |nil=>exact .nil
 |cons n t h ih=>exact .cons {t,(rfl)} ih
def Only(H:Hp):Prop:=∀b,H b=ν∨∃o xs,H b=ι (.gP o (.lst xs))
def aLL{P:Program}{K:aD}{mg mb:μ}{k:Nat}{s₁:Shared}{vs:List Value}{ns:ζ}
  (KX:K.In s₁.heap)(hns:s₁.heap.Ns mainGlobals mg)(hb:s₁.heap.Ns builtinsNs mb)(hbb:∀x:Str,x≠ "__name__" -> mb x=bootBuiltins x)(hlim:s₁.heap.NoLimit)(hdig:s₁.heap.NoDigits)(hse:s₁.heap.NoSeer)(htr:P.given.tree=ν)(hg:s₁.gens=#[])
  (ha:s₁.heap.get? a=ι {cls:=.type "list",data:=.seq vs.toArray})(hi:IntsAre vs ns)(hl:ns.length<=sizeLine)(hr:cX k callerA)
  (F:∀base:Heap,K.In base->base.Ns mainGlobals mg->kj P w K mg base CX k fa fd [x] sp)(hbind:∀(s:Shared)(u:Value),BindsTo s fd {[u],([])} [(x,u)])
  (hsp:∀H:Hp,Only H->ak K H a (ns.map V.int)->sp [.ref a] H (λv _=>v=.bl true) λ_ _ _=>False)
  (hCX:∀H e s',CX [] H s₁ (λ_ _ _=>False) e s'->False):
  codeAny (model P w) callerA (.call (.ref fa) {[.ref a],[]}) (λr s'=>r=.ok (.ret (.bool true))/\OldK s₁.heap s'.heap/\s'.os=s₁.os/\AllBare s'.gens) s₁:=by
 have rv:=aIX hi;have lenV:=hi.length;have core:∀H:Hp,Only H->ak K H a (ns.map V.int)->fP P w H s₁.heap->(∀b,H b≠ν->b=a)->(H a≠ν->K.lookup a=ν)->
   codeAny (model P w) callerA (.call (.ref fa) {[.ref a],[]}) (λr s'=>r=.ok (.ret (.bool true))/\OldK s₁.heap s'.heap/\s'.os=s₁.os/\AllBare s'.gens) s₁:=by
  intro H hO hS hok hA hK;have kq:∀{b:Addr} {o:Obj},s₁.heap.get? b=ι o->H b=ν->(wB s₁.heap H).get? b=ι o:=λe n=>aBl e n;have J1:∀{b:Addr} {o:Obj} {es:Array DictEntry} {ep:Nat},s₁.heap.get? b=ι o->o.data=.dict es ep->H b=ν:=λ{b o es ep} e d=>by
   cases q:H b with
   |none=>rfl
   |some u=>
    have e':b=a:=hA b (by rw[q];simp);subst e';rw[ha]at e;cases e;have d':Data.seq vs.toArray _=Data.dict es ep:=d;cases d'
  have noC:∀{b:Addr} {o:Obj},s₁.heap.get? b=ι o->o.cls=.type "module" -> H b=ν:=λ{b o} e d=>by
   cases q:H b with
   |none=>rfl
   |some u=>
    have e':b=a:=hA b (by rw[q];simp);subst e';rw[ha]at e;cases e;exact absurd (show Value.type "list" = Value.type "module" from d) ∅
  have wG:∀{b:Addr} {m:μ},s₁.heap.Ns b m->(wB s₁.heap H).Ns b m:=λ{b m} ⟨o,es,ep,e,d,r⟩=>{o,es,ep,kq e (J1 e d),d,r};have hKb:K.In (wB s₁.heap H):=λb o e=>kq (KX b o e) (by
   cases q:H b with
   |none=>rfl
   |some u=>
    have e':b=a:=hA b (by rw[q];simp);subst e';rw[hK (by rw[q];simp)]at e;cases e)
  have hM:Mod K mg (wB s₁.heap H):={hKb,wG hns,{mb,wG hb,hbb},let⟨mc,h1,h2⟩:=hlim;{mc,wG h1,h2},let⟨mc,h1,h2⟩:=hdig;{mc,wG h1,h2},let⟨⟨mc,a1,a2⟩,⟨mm,b1,b2⟩,⟨mb,c1,c2⟩,m,bm,ob,d1,d2,d3,d4,d5⟩:=hse;{{mc,wG a1,a2},{mm,wG b1,b2},{mb,wG c1,c2},m,bm,ob,wG d1,d2,kq d3 (noC d3 d4),d4,d5}};have e0:zN P w K mg (wB s₁.heap H) callerA [] s₁ H:={rfl,hM,λb o e=>aMl e,MX (aS5 _ _),trivial,λb hb=>absurd (show b∈([]:List Addr)from hb) (by simp),hok,.of_eq hg,htr};refine codeAny_mono ((F _ hKb (wG hns)).run callerA [] s₁ H {[.ref a],[]} [.ref a] [.ref a] _ _ hr e0 (hbind s₁ (.ref a)) (.cons rfl .nil) (hsp H hO hS)) λr s' h=>?_;cases r with
  |error e=>exact(hCX H e s' h).elim
  |ok fl=>
   cases fl with
   |next=>exact False.elim h
   |brk=>exact False.elim h
   |cont=>exact False.elim h
   |ret u=>
    intros v H' os bare un hok' r' q h;have q':v=.bl true:=q;subst q';obtain rfl:u=Value.bool true:=r';refine{rfl,OldK.of_keep λb o e=>?_,os,bare};cases q:H b with
    |none=>exact un.keep b o e q (by intro z;exact absurd (show b∈([]:List Addr)from z) (by simp)) (by simp)
    |some u=>
     rcases hO b with z|⟨ob,xs,z⟩
     .rw[q]at z;cases z
     .have z2:=un.kO b ob _ z;obtain⟨e1,_⟩:=hok b _ z;obtain⟨e2,_⟩:=hok' b _ z2;rw[e]at e1;cases e1;exact e2
 cases hk:K.lookup a with
 |some o=>
  have e:=KX a o hk;rw[ha]at e;cases e;refine core (λ_=>ν) (λ_=>.inl rfl) (.inr {_,vs.toArray,_,hk,rfl,rfl,rfl,by rw[gC,lenV];exact hl,by simpa using rv}) (λb u z=>by have z':(ν:Option HO)=ι u:=z;cases z') (λb z=>absurd rfl z) λz=>absurd rfl z
 |none=>
  refine core (λb=>if b=a then ι (.gP {cls:=.type "list",data:=.seq vs.toArray} (.lst (ns.map V.int)))else ν) (λb=>?_) (.inl (.inr {{cls:=.type "list",data:=.seq vs.toArray},if_pos rfl})) (λb u z=>?_) (λb z=>?_) λ_=>hk
  .by_cases hb:b=a
   .exact .inr {_,_,if_pos hb}
   .exact .inl (if_neg hb)
  .by_cases hb:b=a
   .have z':=(if_pos hb).symm.trans z;cases z';subst hb;exact{ha,by rw[aB];exact hl,vs,_,rv,ha}
   .have z':=(if_neg hb).symm.trans z;cases z'
  .by_cases hb:b=a
   .exact hb
   .exact absurd (if_neg hb) z
abbrev E0:XK:=λ_ _ _=>False
structure vf(K:aD)(x qual:Str)(st:Stmt)(f:Addr)(fd:FuncData):Prop where
 ex:∃(oc:Value)(od:Option Addr)(kV doc pm:Value)(an:Option Addr)(cdv ct:Value)(osl:Array (Option Value)),
  fd=qD x qual (mz st) (iZ st) (aG st) .none kV doc pm an cdv ct/\K.lookup f=ι {oc,od,.func fd,osl}/\ED K cdv qual=true
 kp:oR K (.ref f)=true
section
variable {K:aD}
def vf.binds{x qual:Str}{st:Stmt}{f:Addr}{fd:FuncData}{ps:List Str}(F:vf K x qual st f fd)
  (h:∀(kV doc pm:Value)(an:Option Addr)(cdv ct:Value)(us:List Value),us.length=ps.length->bindArgs (qD x qual (mz st) (iZ st) (aG st) .none kV doc pm an cdv ct) {us,([])}=pure (ps.zip us)):Binds K fd ps []:=by
 intros oc od kV doc pm an cdv ct osl rfl lk hcd F.ex;exact .all (h kV doc pm an cdv ct)
def kF{x qual:Str}{st:Stmt}{f:Addr}{oc:Value}{od an:Option Addr}{osl:Array (Option Value)}{kV doc pm cdv ct:Value}(l:K.lookup f=ι {oc,od,.func (qD x qual (mz st) (iZ st) (aG st) .none kV doc pm an cdv ct),osl})
  (c:ED K cdv qual=true) (k:oR K (.ref f)=true):vf K x qual st f (qD x qual (mz st) (iZ st) (aG st) .none kV doc pm an cdv ct):={{oc,od,kV,doc,pm,an,cdv,ct,osl,rfl,l,(c)},k}
end
def fJ(h:n<=1000):n<sizeLine:=qU h ∅
def pv(i:Nat)(hN:X.N[i]?=ι x:=by rfl)(hv:Pk X.env.scope x:=by first|exact jj rfl|exact fX (jj rfl)|exact fX (fX rfl))(hd:(x==("__debug__":Str))=false:=by decide)
  (hcd:(x==("__classdict__":Str))=false:=by decide):PE X (.Name x pos) (DR i):=av7 hN hv hd hcd
def bK{A B:Prop}(h:B):if false=true then A else B:=by
 rw[if_neg gQ];exact h
def eO{A B:Prop}(h:A):if true=true then A else B:=by
 rw[if_pos rfl];exact h
def cu{c A B:Prop}[Decidable c](h1:c->A)(h2:¬c->B):if c then A else B:=by
 by_cases h:c
 .rw[if_pos h];exact h1 h
 .rw[if_neg h];exact h2 h
def Zh{c A B:Prop}[Decidable c](hc:c)(h:B):if(!decide c)=true then A else B:=by
 rw[decide_eq_true hc];exact bK h
def Same(H H':Hp):Prop:=∀b o,H b=ι o->H' b=ι o
def Same.refl(H:Hp):Same H H:=λ_ _ h=>h
def Same.trans(a:Same H H1)(b:Same H1 H2):Same H H2:=λc o h=>b c o (a c o h)
def Same.free(e:Same H H')(h:H' l=YN):H l=YN:=by
 cases q:H l with
 |none=>rfl
 |some o=>
  rw[e l o q]at h;cases h
def Same.seq{K:aD}{H H':Hp}{a:Addr}{xs:τ}(e:Same H H')(h:ak K H a xs):ak K H' a xs:=by
 rcases h with(h|⟨o,h⟩)|h
 .exact .inl (.inl (e _ _ h))
 .exact .inl (.inr {o,e _ _ h})
 .exact .inr h
section
variable {κ:Type}[DecidableEq κ]
end
section
variable {us:List Value}
def us0(h:us.length=0):us=[]:=u5 h
def Ik{n:Nat}(h:us.length=n+1):∃a r,us=a::r/\r.length=n:=by
 cases us with
 |nil=>cases h
 |cons a r=>exact{a,r,rfl,Nat.succ.inj h}
def us1(h:us.length=1):∃a,us=[a]:=by
 obtain⟨a,r,rfl,k⟩:=Ik h;obtain rfl:=us0 k;exact{a,(rfl)}
def us2(h:us.length=2):∃a b,us=[a,b]:=by
 obtain⟨a,r,rfl,k⟩:=Ik h;obtain⟨b,rfl⟩:=us1 k;exact{a,b,(rfl)}
def us3(h:us.length=3):∃a b c,us=[a,b,c]:=by
 obtain⟨a,r,rfl,k⟩:=Ik h;obtain⟨b,c,rfl⟩:=us2 k;exact{a,b,c,(rfl)}
def us4(h:us.length=4):∃a b c d,us=[a,b,c,d]:=by
 obtain⟨a,r,rfl,k⟩:=Ik h;obtain⟨b,c,d,rfl⟩:=us3 k;exact{a,b,c,d,(rfl)}
def us5(h:us.length=5):∃a b c d e,us=[a,b,c,d,e]:=by
 obtain⟨a,r,rfl,k⟩:=Ik h;obtain⟨b,c,d,e,rfl⟩:=us4 k;exact{a,b,c,d,e,(rfl)}
def K2(h:Heap)(e:Addr):Prop:=∃oe vs,h.get? e=ι oe/\oe.data=.fields vs/\vs[2]?=ι .none
end
def JE
  (fr:A.frames=ι (env::outer))(ff:s.heap.FunFrames base (env::outer))(el:env.frame=ι L)(ge:s.heap.get? e=ι oe)(kb:base.StaysIn s.heap)(nb:base.get? e=ν)(df:oe.data=.fields vs)(v1:1<vs.size)(v0:vs[0]?=ι a0)(v2:vs[2]?=ι .none)
  (q:∀h',Heap.HeldW base (env::outer) e oe.cls a0 L h'->s.heap.UpToSlots h'->K2 h' e->Q () {s with heap:=h'}):
  wpAny M A (do let a<-frameOf env;let pl<-entryPlaceOf L nx;let t<-EntryCells.newEntry hd0 a .none (rawInt L) .none pl;setField (.ref e) 1 t) Q E s:=by
 have ns:∀b o,s.heap.get? b=ι o->(∀us,o.data≠ .fields us)->b≠e:=λb o g1 g2 z=>by
  rw[z,ge]at g1;cases g1;exact g2 vs df
 have ne:e∉(env::outer).filterMap (·.frame):=λz=>by
  obtain⟨_,o,g1,g2⟩:=ff.mem z;exact ns e o g1 g2 rfl
 refine wpAny_bind (wpAny_frameOf_fun fr ff el λh₁ k₁=>wpAny_bind (wpAny_entryPlaceOf λpl hp=>?_));unfold EntryCells.newEntry newFields;refine wpAny_bind (wpAny_newObj_type ?_ (hp.sizeOk5 _ _ _ _ _));generalize et:({cls:=.type "traceback",dict:=ν,data:=.fields ([hd0,.ref L,.none,rawInt L,.none]++(if pl.isEmpty then iy 6 Value.none else pl)).toArray}:Obj)=tb;have g₁:h₁.get? e=ι oe:=(k₁.2.1 e ne).trans ge;have b₁:base.StaysIn h₁:=λb o g=>(k₁.2.1 b λz=>by rw[(ff.mem z).1]at g;cases g).trans (kb b o g);have g₂:=Heap.get?_push_of_some (h:=h₁) tb g₁;have gt:(h₁.push tb).get? h₁.objs.size=ι tb:=Heap.get?_push_size h₁ (by rw[<-et];rfl);have nt:h₁.objs.size≠e:=FX (dz g₁);refine wpAny_setField g₂ df v1 (q _ ?_ (λb o g1 g2=>?_) ?_)
 .have stay:∀b o,b≠e->h₁.get? b=ι o->((h₁.push tb).update e (yr (·.setIfInBounds 1 (Value.ref h₁.objs.size)))).get? b=ι o:=λb o hb g=>(Heap.get?_update_other _ _ (jB hb)).trans (Heap.get?_push_of_some _ g);refine{λb o g=>stay b o (λz=>by rw[z,nb]at g;cases g) (b₁ b o g),nb,ff.of_keeps λb o g1 g2=>?_,?_}
  .obtain⟨sl,g⟩:=k₁.2.2 b o g1;exact{_,stay b _ (ns b o g1 g2) g,rfl}
  .have d₃:=Kz df (·.setIfInBounds 1 (Value.ref h₁.objs.size));exact{_,_,h₁.objs.size,tb,_,Heap.get?_update_self _ g₂ (SY d₃),{VA _ _,(Array.getElem?_setIfInBounds_ne ∅).trans v0},d₃,by simp[v1],b₁.fresh,nt,(Heap.get?_update_other _ _ (jB nt)).trans gt,by rw[<-et],by simp}
 .obtain⟨sl,g⟩:=k₁.2.2 b o g1;exact{sl,(Heap.get?_update_other _ _ (jB (ns b o g1 g2))).trans (Heap.get?_push_of_some _ g)}
 .have d₃:=Kz df (·.setIfInBounds 1 (Value.ref h₁.objs.size));exact{_,_,Heap.get?_update_self _ g₂ (SY d₃),d₃,(Array.getElem?_setIfInBounds_ne ∅).trans v2}
def Qb(kb:base.StaysIn h)(ff:h.FunFrames base l)(t:h.TracedAtW base e cls a0 fl)(k:K2 h e):∃oe vs T oT ts,h.get? e=ι oe/\oe.cls=cls/\oe.data=.fields vs/\vs[0]?=ι a0/\vs[1]?=ι (.ref T)/\vs[2]?=ι .none/\h.get? T=ι oT/\oT.data=.fields ts/\ts[3]?=ι fl/\
  ∀v,base.StaysIn (h.update T (yr (·.setIfInBounds 3 v)))/\(h.update T (yr (·.setIfInBounds 3 v))).FunFrames base l/\(h.update T (yr (·.setIfInBounds 3 v))).TracedAtW base e cls a0 v/\h.UpToSlots (h.update T (yr (·.setIfInBounds 3 v)))/\(h.update T (yr (·.setIfInBounds 3 v))).get? e=h.get? e:=by
 obtain⟨oe,vs,T,oT,ts,ge,⟨ec,v0⟩,df,v1,nT,Te,gT,dT,t3⟩:=t;intros oe' vs' ge' df' v2 k;rw[ge]at ge';cases ge';rw[df]at df';cases df';refine{oe,vs,T,oT,ts,ge,ec,df,v0,v1,v2,gT,dT,t3,λv=>?_};have oth:∀b,b≠T->(h.update T (yr (·.setIfInBounds 3 v))).get? b=h.get? b:=λb hb=>Heap.get?_update_other _ _ (jB hb);have ns:∀b o,h.get? b=ι o->(∀us,o.data≠ .fields us)->b≠T:=λb o g1 g2 z=>by
  rw[z,gT]at g1;cases g1;exact g2 ts dT
 have z3:3<ts.size:=(Array.getElem?_eq_some_iff.mp t3).1;exact{λb o g=>(oth b λz=>by rw[z,nT]at g;cases g).trans (kb b o g),ff.of_keeps λb o g1 g2=>{o,(oth b (ns b o g1 g2)).trans g1,rfl},
  {oe,vs,T,_,_,(oth e (jB Te)).trans ge,{ec,(v0)},df,v1,nT,Te,Heap.get?_update_self _ gT (SY (Kz dT _)),Kz dT _,by simp[z3]},
  λb o g1 g2=>{o.slots,(oth b (ns b o g1 g2)).trans g1},oth e (jB Te)}
def K2.at(k:K2 h e)(g:h'.get? e=h.get? e):K2 h' e:=by
 intros oe vs g1 r k;exact{oe,vs,g.trans g1,r}
def PZ(kb:base.StaysIn s.heap)(nb:base.get? e=ν)(ff:s.heap.FunFrames base l)(t:s.heap.TracedAtW base e cls a0 fl)(k:K2 s.heap e)
  (q:∀h',Gs base l e cls a0 h'->s.heap.UpToSlots h'->K2 h' e->Q () {s with heap:=h'}):wpAny M A (setFlight (.ref e) ν) Q E s:=by
 obtain⟨oe,vs,T,oT,ts,ge,ec,df,v0,v1,v2,gT,dT,t3,st⟩:=Qb kb ff t k;obtain⟨s1,s2,s3,s4,s5⟩:=st .none;unfold setFlight;refine wpAny_bind (wpAny_field ge df v1 ?_);rw[if_pos (show(Value.ref T != Value.none)=true from rfl)];exact wpAny_setField gT dT (Array.getElem?_eq_some_iff.mp t3).1 (q _ {s1,nb,s2,(s3)} s4 (k.at s5))
def Pt(fr:A.frames=ι (env::outer))(ff:s.heap.FunFrames base (env::outer))(el:env.frame=ι L)(t:s.heap.TracedAtW base e cls a0 fl)(kb:base.StaysIn s.heap)(nb:base.get? e=ν)(k:K2 s.heap e)
  (q:∀h',Heap.HeldW base (env::outer) e cls a0 L h'->s.heap.UpToSlots h'->K2 h' e->Q () {s with heap:=h'}):wpAny M A (noteFrame (.ref e) env) Q E s:=by
 by_cases c:fl=rawInt L
 .subst c;exact wpAny_noteFrame_againW el t (q s.heap {kb,nb,ff,(t)} (azw _) k)
 .obtain⟨oe,vs,T,oT,ts,ge,ec,df,v0,v1,v2,gT,dT,t3,st⟩:=Qb kb ff t k;obtain⟨s1,s2,s3,s4,s5⟩:=st .none;subst ec;unfold noteFrame;simp only[el];refine wpAny_bind (wpAny_field ge df v1 ?_);rw[if_pos (show(Value.ref T != Value.none)=true from rfl)];refine wpAny_bind (wpAny_field gT dT t3 ?_);rw[if_neg (show ¬((fl==rawInt L)=true)fromλz=>c (eq_of_beq z))];refine wpAny_bind (wpAny_setField gT dT (Array.getElem?_eq_some_iff.mp t3).1 ?_);exact JE fr s2 el (s5.trans ge) s1 nb df (Array.getElem?_eq_some_iff.mp v1).1 v0 v2 λh' hH u' k'=>q h' hH (s4.trans u') k'
def axk(fr:A.frames=ι (env::outer))(ff:s.heap.FunFrames base (env::outer))(el:env.frame=ι L)(t:s.heap.TracedAtW base e cls a0 fl)(kb:base.StaysIn s.heap)(nb:base.get? e=ν)(k:K2 s.heap e)
  (q:∀h',Gs base outer e cls a0 h'->s.heap.UpToSlots h'->K2 h' e->Q () {s with heap:=h'}):wpAny M A (leaving env (.ref e)) Q E s:=by
 unfold leaving;refine wpAny_bind (Pt fr ff el t kb nb k λh1 ⟨x1,x2,x3,x4⟩ u1 k1=>?_);exact PZ (s:={s with heap:=h1}) x1 x2 x3 x4 k1 λh2 ⟨y1,y2,⟨_,_,y3⟩,y4⟩ u2 k2=>q h2 {y1,y2,y3,(y4)} (u1.trans u2) k2
def aOA(fr:A.frames=ι (env::outer))(el:env.frame=ι L)(kb:base.StaysIn h)(ff:h.FunFrames base (env::outer))(hx:Of h s.heap e cls args)
  (q:∀h' t,Gs base outer e cls (.ref t) h'->s.heap.UpToSlots h'->K2 h' e->Q () {s with heap:=h'}):wpAny M A (leaving env (.ref e)) Q E s:=by
 intros t ge tn ht hx.there;have nb:base.get? e=ν:=by
  cases z:base.get? e with
  |none=>rfl
  |some o'=>have:=kb e o' z;rw[hx.new]at this;cases this
 unfold leaving noteFrame;simp only[el];refine wpAny_bind (wpAny_bind (wpAny_field (x:=.none) ge rfl rfl ?_));rw[if_neg ∅];refine JE (a0:=.ref t) fr (ff.of_keeps λb o g _=>{o,hx.keeps b o g,rfl}) el ge (λb o g=>hx.keeps b o (kb b o g)) nb rfl (by show 1<6;decide) rfl rfl λh1 ⟨x1,x2,x3,x4⟩ u1 k1=>?_;exact PZ (s:={s with heap:=h1}) x1 x2 x3 x4 k1 λh2 ⟨y1,y2,⟨_,_,y3⟩,y4⟩ u2 k2=>q h2 t {y1,y2,y3,(y4)} (u1.trans u2) k2
structure jX(P:Program)(w:World)(outer:List Env)(H:Hp)(s:Shared)(E:XK)(e:Value)(s':Shared):Prop where
 ex:∃(ea C:Addr)(a0:Value)(B:Heap)(H':Hp),e=.ref ea/\s'.os=s.os/\AllBare s'.gens/\Gs B outer ea (.ref C) a0 s'.heap/\fP P w H' B/\Un (frs outer) [] H H' s.heap s'.heap/\
  (∀b o,s.heap.get? b=ι o->b∈frs outer∨∃o',B.get? b=ι o')/\E (.ref C) ν H'
 k2:∃ea,e=.ref ea/\K2 s'.heap ea
def W2(h:jX P w outer H s E0 e s'):False:=by
 intros _ _ _ _ _ _ _ _ _ _ _ _ q h.ex;exact q
def XE:Passes (jX X.prog X.w) X E0:=λ_ _ _ _ _ _ _ h=>(W2 h).elim
section
variable {X:Cx}{π:List (Addr×Obj)}{σ:St}{H:Hp}{s:Shared}
def Inv.kN(I:Inv X π σ H s){b:Addr}{o:Obj}(e:X.s₀.heap.get? b=ι o)(hb:b∉X.fs):b∉frs X.stack:=λz=>by
 rcases c7.mp (I.Tg b z)with q|q
 .exact absurd (gJ (dz e) I.ok.above) (by rw[<-q];exact n6 _)
 .exact hb q
def Oe(I:Inv X π σ H s)(e:s.heap.get? b=ι o)(hb:b∉frs X.stack):(R9 s.heap (frs X.stack)).get? b=ι o:=W.hideAll_get _ e hb
def Inv.aH4(I:Inv X π σ H s):fP X.prog X.w H (R9 s.heap (frs X.stack)):=λb o e=>
 (I.hok b o e).stay (λc u hc q=>Oe I q λz=>by
  have n:=I.sQ c z;rcases hc with rfl|hc
  .rw[n]at e;cases e
  .rw[n]at hc;cases hc) (λ_ q=>q) λ_ _ q=>q
def Inv.QE(I:Inv X π σ H s)(hex:X.ex=[]){H':Hp}{h':Heap}(keep:∀b o,s.heap.get? b=ι o->H b=ν->b∉frs X.stack->h'.get? b=ι o)
  (slot:∀b o,s.heap.get? b=ι o->H b=ν->b∈X.fs->∃sl,h'.get? b=ι {o with slots:=sl}) (free:∀b o,s.heap.get? b=ι o->H b=ν->H' b=ν) (there:∀b o,s.heap.get? b=ι o->∃o',h'.get? b=ι o')
  (tups:∀b xs,H b=ι (.tup xs)->H' b=ι (.tup xs)) (kO:∀b o u,H b=ι (.gP o u)->H' b=ι (.gP o u)) (oE:∀b ps,H b=ι (.uK ps)->∃more,H' b=ι (.uK (ps++more))):
  Un (frs X.outer) [] X.H₀ H' X.s₀.heap h':=by
 have nx:∀b:Addr,b∉X.ex:=λb=>by rw[hex];simp
 refine{λb o e n hb _=>?_,λb o e n hb _=>?_,λb o e n _=>?_,λb o e _=>?_,λb xs e=>tups b xs (I.base.tups b xs e),λb o u e=>kO b o u (I.base.kO b o u e),λb ps e=>?_}
 .exact keep b o (I.base.keep b o e n hb (nx b)) (I.base.free b o e n (nx b)) (I.kN e hb)
 .obtain⟨sl,e1⟩:=I.base.slot b o e n hb (nx b);obtain⟨sl',e2⟩:=slot b _ e1 (I.base.free b o e n (nx b)) hb;exact{sl',(e2)}
 .obtain⟨o',e1⟩:=I.base.there b o e (nx b);exact free b o' e1 (I.base.free b o e n (nx b))
 .obtain⟨o',e1⟩:=I.base.there b o e (nx b);exact there b o' e1
 .obtain⟨m1,e1⟩:=I.base.oE b ps e;obtain⟨m2,e2⟩:=oE b _ e1;exact{m1++m2,by rw[e2,sx]}
end
abbrev dY(P:Program)(w:World)(K:aD)(mg:μ)(base:Heap)(N:List Str)(qual:Str)(scope:Scope)(f:Addr)(cdv:Value)(A:Around)(outer:List Env)(s:Shared)(H:Hp)(E:XK):Cx:=
 CG (jX P w) P w K mg base N qual scope f cdv A outer s H E
section
variable {P:Program}{w:World}{K:aD}{mg:μ}{base:Heap}{N:List Str}{qual:Str}{scope:Scope}{f:Addr}{cdv:Value}{A:Around}{outer:List Env}{s₀:Shared}{H₀:Hp}{E:XK}
def aRy{π:List (Addr×Obj)}{σ:St}{H:Hp}{s:Shared}{h1:Heap}{e C:Addr}{vs:List Value}(I:Inv (dY P w K mg base N qual scope f cdv A outer s₀ H₀ E) π σ H s)(hx:Of s.heap h1 e (.ref C) vs)(q:E (.ref C) ν H):
  (dY P w K mg base N qual scope f cdv A outer s₀ H₀ E).xe (.ref e) {s with heap:=h1}:=by
 have hin:∀env∈envOfC qual scope s₀.heap.objs.size f cdv::outer,∀a,env.frame=ι a->a∈frs (envOfC qual scope s₀.heap.objs.size f cdv::outer):=λenv he a ha=>Z1.mpr {env,he,(ha)};refine aOA (base:=R9 s.heap (frs (envOfC qual scope s₀.heap.objs.size f cdv::outer))) (h:=s.heap) (L:=s₀.heap.objs.size) I.ok.frames rfl (λb o q=>W.of_hideAll _ q) (W.funFrames_hide I.stack hin) hx λh' t x1 x4 kk=>?_;have up:∀b o,s.heap.get? b=ι o->b∈frs (envOfC qual scope s₀.heap.objs.size f cdv::outer)->∃sl,h'.get? b=ι {o with slots:=sl}:=λb o e hb=>by
  obtain⟨_,o',ho',hd⟩:=I.stack.mem hb;rw[e]at ho';cases ho';exact x4 b o (hx.keeps b o e) hd
 refine{{e,C,.ref t,_,H,rfl,I.os,I.bare,x1,I.aH4,I.QE rfl (λb o e _ hb=>x1.1 b o (Oe I e hb)) (λb o e _ hb=>up b o e (fM _ hb)) (λ_ _ _ n=>n) (λb o e=>?_) (λ_ _ z=>z) (λ_ _ _ z=>z) (λb ps z=>{#[],by rw[z];simp}),λb o e=>?_,q},e,rfl,kk}
 .by_cases hb:b∈frs (envOfC qual scope s₀.heap.objs.size f cdv::outer)
  .obtain⟨sl,z⟩:=up b o e hb;exact{_,z}
  .exact{o,x1.1 b o (Oe I e hb)}
 .by_cases hb:b∈frs outer
  .exact .inl hb
  .obtain⟨o',e1⟩:=I.base.there b o e (by intro z;cases z);exact .inr {o',Oe I e1 (I.kN e hb)}
def xj:Passes (jX P w) (dY P w K mg base N qual scope f cdv A outer s₀ H₀ E) E:=by
 intro π σ H s e s' I h;intros ea C a0 B H' rfl os bare fl hok un old q h.ex;intros ea' ee kk h.k2;cases ee;refine axk (L:=s₀.heap.objs.size) I.ok.frames fl.2.2.1 rfl fl.2.2.2 fl.1 fl.2.1 kk λh' x1 x2 k'=>?_;have inB:∀b o,s.heap.get? b=ι o->b∉frs (envOfC qual scope s₀.heap.objs.size f cdv::outer)->∃o',B.get? b=ι o'/\s'.heap.get? b=ι o':=λb o e hb=>by
  rcases old b o e with z|⟨o',z⟩
  .exact absurd z hb
  .exact{o',z,fl.1 b o' z}
 have up:∀b o,s'.heap.get? b=ι o->b∈frs (envOfC qual scope s₀.heap.objs.size f cdv::outer)->∃sl,h'.get? b=ι {o with slots:=sl}:=λb o e hb=>by
  obtain⟨_,o',ho',hd⟩:=fl.2.2.1.mem hb;rw[e]at ho';cases ho';exact x2 b o e hd
 refine{{ea,C,a0,B,H',rfl,os.trans I.os,bare,x1,hok,I.QE rfl (λb o e n hb=>?_) (λb o e n hb=>?_) (λb o e n=>un.free b o e n (by simp)) (λb o e=>?_) un.tups un.kO un.oE,λb o e=>?_,q},ea,rfl,k'}
 .obtain⟨o',e1,e2⟩:=inB b o e hb;have e3:=un.keep b o e n hb (by simp);rw[e2]at e3;cases e3;exact x1.1 b _ e1
 .obtain⟨sl,e1⟩:=un.slot b o e n (fM _ hb) (by simp);obtain⟨sl',e2⟩:=up b _ e1 (fM _ hb);exact{sl',(e2)}
 .by_cases hb:b∈frs (envOfC qual scope s₀.heap.objs.size f cdv::outer)
  .obtain⟨o',e1⟩:=un.there b o e (by simp);obtain⟨sl,e2⟩:=up b o' e1 hb;exact{_,e2}
  .obtain⟨o',e1,_⟩:=inB b o e hb;exact{o',x1.1 b o' e1}
 .by_cases hb:b∈frs outer
  .exact .inl hb
  .obtain⟨o',e1⟩:=I.base.there b o e (by intro z;cases z);obtain⟨o2,e2,_⟩:=inB b o' e1 (I.kN e hb);exact .inr {o2,(e2)}
end
section
variable {P:Program}{w:World}{K:aD}{mg:μ}{base:Heap}{N ps:List Str}{qual x:Str}{f:Addr}{st:Stmt}{fd:FuncData}{k:Nat}{sp:Sp}
def av0(C:Addr)(E:XK)(t:TA):TS:=λ_ σ H=>t σ H λvs H1=>vs.length<=sizeLine/\E (.ref C) ν H1
structure Ae(mg:μ)(base:Heap)(x:Str)(C:Addr):Prop where
 ex:∃bm newId,OwnCls x C bm newId mg base/\∃(Bn inN:String)(bmN:List Value)(B nid initId:String),ExcBaseFacts Bn newId inN bmN/\bm.contains (.type Bn)=true/\ExcBaseFacts B nid initId bm
def uF{scope:Scope}{cdv:Value}{A:Around}{outer:List Env}{s₀:Shared}{H₀:Hp}{E:XK}
  {x:Str} {C:Addr} {np cpos pos:Pos} {e:Expr} {es:List Expr} {t:TA} (O:Ae mg base x C) (hg:Gl (dY P w K mg base N qual scope f cdv A outer s₀ H₀ E) x) (ha:PA (dY P w K mg base N qual scope f cdv A outer s₀ H₀ E) (e::es) t)
  (hdb:(x==("__debug__":Str))=false:=by decide)
  (he:starEach (e::es) (dY P w K mg base N qual scope f cdv A outer s₀ H₀ E).env=(false,eval e (dY P w K mg base N qual scope f cdv A outer s₀ H₀ E).env)::starEach es (dY P w K mg base N qual scope f cdv A outer s₀ H₀ E).env:=by rfl)
  (hpl:(backTo cpos (starEach es (dY P w K mg base N qual scope f cdv A outer s₀ H₀ E).env)).any (·.1)=false:=by rfl):
  PS (dY P w K mg base N qual scope f cdv A outer s₀ H₀ E) (.Raise (ι (.Call (.Name x np) (e::es) [] cpos)) ν pos) (av0 C E t):=by
 intro π s σ H D I h;intros bm newId O Bn inN bmN B nid initId Fn hBn FB O.ex;intros tl Nn nm q bs hdct sn sub ab col dd k0 k1 k2 k3 k5 mN hC hN hni T O.obj;refine wpAny_Raise_call_subU (C:=C) (nm:=nm) (q:=q) (N:=Nn) (bs:=bs) (bm:=tl) (hdct:=hdct) (sn:=sn) (sub:=sub) (ab:=ab) (col:=col) (dd:=dd) (k0:=k0) (k1:=k1) (k2:=k2) (k3:=k3) (k5:=k5)
  Fn hBn FB (mN:=mN) (T.hasType FB.hasBase) (I.ok.hd rfl) (by rw[he];show(false||(backTo cpos (starEach es (dY P w K mg base N qual scope f cdv A outer s₀ H₀ E).env)).any (·.1))=false;rw[hpl];rfl) hni (qP I hg O.bound {rfl,?_} hdb)
 have h2:=ha cpos π s σ H _ I h;rw[he]at h2⊢;refine PQ (wpAny_mono h2 (λus s2 ⟨vs,H2,I2,r,z,q⟩=>{rfl,by rw[<-r.length];exact z,I2.bk _ _ hC,hN.keeps I2.bk,T.keeps I2.bk,λh' e hm=>aRy I2 hm q}) λ_ _ y=>y)
def vf.okF(F:vf K x qual st f fd)(S:aL N ps (aG st))(len:∀vs H Q E,sp vs H Q E->vs.length=ps.length)
  (hbody:∀(cdv:Value)(A:Around)(outer:List Env)(s:Shared)(H:Hp)(vs:τ)(Q:VK)(E:XK),cX k (A.deeper (envOfC qual (aG st) s.heap.objs.size f cdv))->sp vs H Q E->
   ∃t,jN (dY P w K mg base N qual (aG st) f cdv A outer s H E) (iZ st) t/\t {nx:=λ_ H'=>Q .non H',rt:=Q} (start N vs) H):kj P w K mg base (jX P w) (k+1) f fd ps sp:=by
 intros oc od kV doc pm an cdv ct osl rfl lk hcd F.ex;exact aAx lk hcd S len λA outer s H vs Q E hr hsp=>hbody cdv A outer s H vs Q E hr hsp
def vf.okN(F:vf K x qual st f fd)(S:aL N ps (aG st))(len:∀vs H Q E,sp vs H Q E->vs.length=ps.length)
  (hbody:∀(cdv:Value)(A:Around)(outer:List Env)(s:Shared)(H:Hp)(vs:τ)(Q:VK)(E:XK),cX k (A.deeper (envOfC qual (aG st) s.heap.objs.size f cdv))->sp vs H Q E->
   ∃t,jN (dY P w K mg base N qual (aG st) f cdv A outer s H E).sW (iZ st) t/\t {nx:=λ_ H'=>Q .non H',rt:=Q} (start N vs) H):kj P w K mg base (jX P w) (k+1) f fd ps sp:=
 F.okF S len λcdv A outer s H vs Q E hr h=>let⟨t,a,b⟩:=hbody cdv A outer s H vs Q E hr h;{t,a.sW,(b)}
end
section
variable {X:Cx}
section
variable {r:R2}{x:Str}{pos p:Pos}{k k':Nat}{sp:Sp}{t:String}{w:World}{K:aD}{A:Around}{s:Shared}
def cQ.imp(h:cQ X f r)(i:∀x y H Q,r' x y H Q->r x y H Q):cQ X f r':=λπ s σ H x y v u Q I rx ry q=>h π s σ H x y v u Q I rx ry (i _ _ _ _ q)
def oH.imp(h:oH X r)(i:∀x y H Q,r' x y H Q->r x y H Q):oH X r':=λvalue slice π s σ H x y v u Q I rx ry q hs=>h value slice π s σ H x y v u Q I rx ry (i _ _ _ _ q) hs
def rC(hg:Gl X x)(hm:∃t,X.mg x=ι (.int i t))(hd:(x==("__debug__":Str))=false:=by decide):PE X (.Name x pos) (tC (.int i)):=by
 intros t e hm;exact rq hg e {t,(rfl)} hd
def yg(hg:Gl X x)(hm:X.mg x=ν)(hv:bootBuiltins x=ι (.type n))(hn:x≠ "__name__" := by decide)(hd:(x==("__debug__":Str))=false:=by decide):PE X (.Name x pos) (tC (.ty n)):=
 aDO hg hm hv (v:=.ty n) rfl hn hd
structure rM(P:Program)(w:World)(K:aD)(mg:μ)(base:Heap)(x:Str)(k:Nat)(ps:List Str)(sp:Sp):Prop where
 ex:∃(g:Addr)(gd:FuncData),mg x=ι (.ref g)/\oR K (.ref g)=true/\Binds K gd ps []/\kj P w K mg base (jX P w) k g gd ps sp
def aEh{t:TA}(C:rM X.prog X.w X.K X.mg X.base x k ps sp)(hr:cX k' X.A)(hg:Gl X x)(ha:PA X (e::es) t)
  (hk:k<=k':=by decide)(hd:(x==("__debug__":Str))=false:=by decide)
  (he:starEach (e::es) X.env=(false,eval e X.env)::starEach es X.env:=by rfl)(hpl:(backTo pos (starEach es X.env)).any (·.1)=false:=by rfl):PE X (.Call (.Name x p) (e::es) [] pos) (Ep sp [] E0 t):=by
 intros g gd hm hkp hb F C.ex;exact Tu F (hr.mono hk) hg hm hkp hb .nil XE ha hd he hpl
def aPO(C:rM X.prog X.w X.K X.mg X.base x k [] sp)(hr:cX k' X.A)(hg:Gl X x)
  (hk:k<=k':=by decide)(hd:(x==("__debug__":Str))=false:=by decide):PE X (.Call (.Name x p) [] [] pos) (Ep sp [] E0 uD):=by
 intros g gd hm hkp hb F C.ex;exact aAW F (hr.mono hk) hg hm hkp hb .nil XE hd
def gj{P:Program}{mg:μ}{base:Heap}{N:List Str}{qual:Str}{scope:Scope}{f:Addr}{cdv:Value}{outer:List Env}{s₀:Shared}{H₀:Hp}{E:XK}
  {x:Str} {k k':Nat} {ps:List Str} {sp:Sp} {p pos:Pos} {e:Expr} {es:List Expr} {t:TA} (C:rM P w K mg base x k ps sp) (hr:cX k' (dY P w K mg base N qual scope f cdv A outer s₀ H₀ E).A) (hg:Gl (dY P w K mg base N qual scope f cdv A outer s₀ H₀ E) x)
  (ha:PA (dY P w K mg base N qual scope f cdv A outer s₀ H₀ E) (e::es) t) (hk:k<=k':=by decide) (hd:(x==("__debug__":Str))=false:=by decide)
  (he:starEach (e::es) (dY P w K mg base N qual scope f cdv A outer s₀ H₀ E).env=(false,eval e (dY P w K mg base N qual scope f cdv A outer s₀ H₀ E).env)::starEach es (dY P w K mg base N qual scope f cdv A outer s₀ H₀ E).env:=by rfl)
  (hpl:(backTo pos (starEach es (dY P w K mg base N qual scope f cdv A outer s₀ H₀ E).env)).any (·.1)=false:=by rfl):
  PE (dY P w K mg base N qual scope f cdv A outer s₀ H₀ E) (.Call (.Name x p) (e::es) [] pos) (Ep sp [] E t):=by
 intros g gd hm hkp hb F C.ex;exact Tu (X:=dY P w K mg base N qual scope f cdv A outer s₀ H₀ E) F (hr.mono hk) hg hm hkp hb .nil xj ha hd he hpl
def aK1{E:χ}{t:Addr}{vs ws:List Value}{Q:χ}(ht:IsTup s.heap t vs.toArray)(hb:IsTup s.heap b ws.toArray)(hv:vs=[])
  (h1:Q (.ref b) s):wpAny (model prog w) A (binaryOp .Add (.ref t) (.ref b)) Q E s:=by
 obtain⟨⟨cls,dd,data,sl⟩,ho,hc,n,hd⟩:=id ht;obtain⟨⟨cls2,dd2,data2,sl2⟩,ho2,hc2,n2,hd2⟩:=id hb;simp only at hc hd hc2 hd2;subst hc hd hc2 hd2;exact concat_meets {_,ho,rfl} {_,ho2,rfl} noFill_tuple_add seq_tuple_add oz sM (XQ _ _)
   (tuple_addW0 t b vs.toArray ws.toArray n n2 dd dd2 sl sl2 (by simp[hv])) {ho,ho2,(h1)}
def aTh(K:aD):R2:=λx y H Q=>∃a b ys,x=.ref a/\y=.ref b/\ao K H a []/\ao K H b ys/\Q (.ref b) H
def aBk:cQ X (binaryOp .Add) (aTh X.K):=by
 intro π s σ H x y v u Q I rx ry h;intros a b ys rfl rfl ha hb q h;cases rx;cases ry;obtain⟨its,r1,p1,_⟩:=I.tuple ha;obtain⟨its2,r2,p2,_⟩:=I.tuple hb;exact aK1 p1 p2 (r1.Qh.mpr rfl) {.ref b,H,I,rfl,q}
inductive axy(a b:Addr)(H:Hp)(Q:VK):Prop|mk(xs ys:τ)(h1:H a=ι (.lst xs))(h2:H b=ι (.lst ys))(_:xs.length+ys.length<=sizeLine)(_:∀z,H z=ν->Q (.ref z) (upd H z (.lst (xs++ys))))
def Dw(K:aD):R2:=λx y H Q=>match x,y with
 |.int i,.int j=>Q (.int (i+j)) H
 |.str i,.str j=>i.length+j.length<=sizeLine/\Q (.str (i++j)) H
 |.ref a,.ref b=>axy a b H Q∨
   (∃xs ys,ao K H a xs/\ao K H b ys/\xs.length+ys.length<=sizeLine/\(xs=[]->Q (.ref b) H)/\(xs≠[]->ys=[]->Q (.ref a) H)/\(xs≠[]->ys≠[]->∀p,H p=ν->Q (.ref p) (upd H p (.tup (xs++ys)))))
 |_,_=>False
def v_add:cQ X (binaryOp .Add) (Dw X.K):=by
 refine((avY.or aFL).or (aRe.or (axn.or aBk))).imp λx y H Q h=>?_;unfold Dw at h;split at h
 .exact .inl (.inl {"",h})
 .exact .inl (.inr {"",h})
 .rcases h with⟨xs,ys,h1,h2,h3,h4⟩|⟨xs,ys,h1,h2,h3,h4,h5,h6⟩
  .exact .inr (.inl {_,_,xs,ys,rfl,rfl,h1,h2,h3,h4})
  .by_cases hx:xs=[]
   .subst hx;exact .inr (.inr (.inr {_,_,ys,rfl,rfl,h1,h2,h4 rfl}))
   .exact .inr (.inr (.inl {_,_,xs,ys,rfl,rfl,h1,h2,hx,h3,h5 hx,h6 hx}))
 .exact h.elim
inductive ayf(i j:Int)(H:Hp)(Q:VK):Prop|mk(_:IntMulOk i j)(_:Q (.int (i*j)) H)
inductive awm(l:Addr)(k:Int)(H:Hp)(Q:VK):Prop|mk(xs:τ)(_:H l=ι (.lst xs))(h1:-(2^63)<=k)(h2:k<2^63)(_:xs.length*k.toNat<=sizeLine)(_:∀z,H z=ν->Q (.ref z) (upd H z (.lst (iy k.toNat xs).flatten)))
def P2:R2:=λx y H Q=>match x,y with
 |.int i,.int j=>ayf i j H Q
 |.ref l,.int k=>awm l k H Q
 |_,_=>False
def aOd:cQ X (binaryOp .Mult) (rI IntMulOk λi j=>.int (i*j)):=Bj λ_ _ _ _ _ _ _ hc q=>mul_int q hc
def v_mul:cQ X (binaryOp .Mult) P2:=by
 refine(aOd.or aL0).imp λx y H Q h=>?_;unfold P2 at h;split at h
 .intros h1 h2 h;exact .inl {"",h1,h2}
 .intros xs h1 h2 h3 h4 h5 h;exact .inr {_,_,xs,rfl,rfl,h1,h2,h3,h4,h5}
 .exact h.elim
inductive SIx(K:aD)(p:Addr)(i:Int)(H:Hp)(Q:VK):Prop|mk(xs:τ)(v:V)(_:ak K H p xs∨ao K H p xs)(_:je xs i=ι v)(_:Q v H)
def OJ(K:aD):R2:=λx y H Q=>match x,y with
 |.ref p,.int i=>SIx K p i H Q
 |.str z,.int i=>∃c,z.length<=sizeLine/\je z.cps.toList i=ι c/\Q (.str {(#[c])}) H
 |_,_=>False
def aFW:oH X (OJ X.K):=by
 refine aIE.imp λx y H Q h=>?_;unfold OJ at h;split at h
 .obtain⟨xs,v,h1|h1,h2,h3⟩:=h
  .exact .inl {_,xs,_,v,rfl,rfl,h1,h2,h3}
  .exact .inr (.inl {_,xs,_,v,rfl,rfl,h1,h2,h3})
 .intros c h1 h2 h3 h;exact .inr (.inr {_,_,c,rfl,rfl,h1,h2,h3})
 .exact h.elim
def LZ(H:Hp):V->Option String
 |.non=>ι "NoneType"
 |.bl _=>ι "bool"
 |.int _=>ι "int"
 |.str _=>ι "str"
 |.ref a=>match H a with
  |some (.lst _)=>ι "list"
  |some (.gP _ (.lst _))=>ι "list"
  |some (.tup _)=>ι "tuple"
  |some (.dK _)=>ι "dict"
  |_=>ν
 |_=>ν
def subB(t c:String):Bool:=t==c||(t== "bool" && c== "int")
def aHR{c:String}(ht:t∈["NoneType","bool","int","str","list","tuple","dict"])(hc:c∈["int","bool","tuple","list","str","dict"]):bB K (.type t) (.type c)=ι (subB t c):=by
 simp only[c7,Ej,or_false]at ht hc;rcases ht with rfl|rfl|rfl|rfl|rfl|rfl|rfl<;>rcases hc with rfl|rfl|rfl|rfl|rfl|rfl<;>kernel_rfl
def aCh{H:Hp}{x:V}(h:LZ H x=ι t):pY K H x (.type t)/\t∈["NoneType","bool","int","str","list","tuple","dict"]:=by
 unfold LZ at h;split at h
 .cases h;exact{.non,by simp}
 .cases h;exact{.bl _,by simp}
 .cases h;exact{.int _,by simp}
 .cases h;exact{.str _,by simp}
 .split at h
  .rename_i e;cases h;exact{.lst e,by simp}
  .rename_i e;cases h;exact{.gP e,by simp}
  .rename_i e;cases h;exact{.tup e,by simp}
  .rename_i e;cases h;exact{.dK e,by simp}
  .cases h
 .cases h
def Bw:iM X (.builtin "isinstance") (λxs H Q=>∃x c t,xs=[x,.ty c]/\LZ H x=ι t/\c∈["int","bool","tuple","list","str","dict"]/\Q (.bl (subB t c)) H):=by
 intro π s σ H xs us Q I r h;intros x c t rfl ht hc q h;intros u v rfl ru rv r.two;cases rv;obtain⟨ty,hm⟩:=aCh (K:=X.K) ht;exact aNT I ru ty (aHR hm hc) λtk=>{.bl _,H,I.tok tk,rfl,q}
theorem di:∀{bs:List Bool} {us:List Value},Vals (bs.map V.bl) us->us=bs.map Value.bool
 |[],_,.nil=>rfl
 |b::bs,_,.cons r t=>by
  have e:=di (bs:=bs) t;cases (show _=Value.bool b from r);rw[e];rfl
def By{h':Heap}(hk:∀b x,b∉[s.heap.objs.size]->(s.heap.push o).get? b=ι x->h'.get? b=ι x):∀b x,s.heap.get? b=ι x->h'.get? b=ι x:=
 λb x e=>hk b x (λhm=>by rw[eN.mp hm]at e;exact n6 _ (dz e)) (Heap.get?_push_of_some _ e)
def v_all(hc:X.calm=true):iM X (.builtin "all") (λxs H Q=>∃(l:Addr) (bs:List Bool),xs=[.ref l]/\ak X.K H l (bs.map V.bl)/\Q (.bl (bs.all id)) H):=by
 intro π s σ H xs us Q I r h;intros l bs rfl hl q h;intros u rfl ru r.one;cases ru;obtain⟨its,rv,pl,hz⟩:=I.list hl;have eb:=di rv;subst eb;have hl':=pl.isList;have hlt:l<s.heap.objs.size:=by intros _ e _ hl';exact dz e
 refine call_all_walk (wpAny_pyIter_list hl' ?_);refine{s.heap.objs.size,[s.heap.objs.size,l],[s.heap.objs.size],(bs.map Value.bool).toArray.size,_,_,λi=>(bs[i]?).getD true,rfl,Walks.list (A:=X.A.in1) (I.ok.hd hc) _ l (jr hlt) (bs.map Value.bool).toArray,
  {{_,Heap.get?_push_size _ rfl,rfl,rfl},hl'.push _},λi v s' Q' E' hP hQ=>?_,λh' tk hk=>?_}
 .have hP':(bs.map Value.bool)[i]?=ι v:=by simpa using hP
  rw[List.getElem?_map]at hP';cases e:bs[i]? with
  |none=>rw[e]at hP';cases hP'
  |some b=>
   rw[e]at hP';cases hP';dsimp only at hQ;rw[e]at hQ;exact wpAny_truthy_bool hQ
 .have e2:((gq (bs.map Value.bool).toArray.size).all λi=>(bs[i]?).getD true)=bs.all id:=by
   rw[gC,aB];rw[EV,mY,mY];constructor
   .intro hh x hx;obtain⟨i,hi,e⟩:=ug.mp hx;have:=hh i (gZ.mpr hi);rw[List.getElem?_eq_getElem hi,e]at this;exact this
   .intro hh i hi;have hi':=gZ.mp hi;rw[List.getElem?_eq_getElem hi'];exact hh _ (sE hi')
  have fin:EP X π σ Q (.bool (bs.all id)) {s with heap:=h',toks:=tk}:={.bl _,H,I.kept (By hk),rfl,q};first|(rw[e2];exact fin)|(simpa[e2]using fin)
def v_sum(hc:X.calm=true):iM X (.builtin "sum") (λxs H Q=>∃(l:Addr) (ns:ζ),xs=[.ref l]/\ak X.K H l (ns.map V.int)/\Q (.int ns.sum) H):=by
 intro π s σ H xs us Q I r h;intros l ns rfl hl q h;intros u rfl ru r.one;cases ru;obtain⟨its,rv,pl,hz⟩:=I.list hl;have hi:=intsAre_of rv;intros xs hx hi.allInts.items;have hl':s.heap.IsList l (intItems xs):=hx▸pl.isList;refine sum_intListG (I.ok.hd hc) hl' λh' tk t' hk=>?_;have e1:ns=xs.toList.map (·.1):=by
  rw[<-nums_intItems,<-hx];exact(show numsOf its.toArray.toList=ns from hi.numsOf).symm
 have e2:preSum (numAt xs) xs.size=ns.sum:=by
  rw[preSum_eq,oA (by simp),e1]
 rw[e2];exact{.int _,H,I.kept hk,{()},q}
inductive Iy(P:Prop)(R:It->Hp->Prop)(J:It)(H:Hp):Prop|mk(_:P)(_:R J H)
inductive SSq(z:aD)(a:Addr)(H:Hp)(R:It->Hp->Prop):Prop
 |inl (h:Iy (∃xs,ak z H a xs) R (rm z a) H)
 |inr (h:Iy (∃xs,ao z H a xs) R (La z a) H)
inductive oI(K:aD)(x:V)(H:Hp)(R:It->Hp->Prop):Prop|mk(a:Addr)(_:x=.ref a)(_:SSq K a H R)
def Q3(K:aD)(tl:TE):TI:=λσ H R=>tl σ H λx H1=>oI K x H1 R
def ayg(hl:PE X l tl):PI X tg l (Q3 X.K tl):=by
 intro π s σ H R I h;refine aY (hl π s σ H _ I h) λv s1 ⟨x,H1,I1,r1,a,e,q⟩=>?_;subst e;cases r1;rcases q with⟨⟨xs,hq⟩,q⟩|⟨⟨xs,hq⟩,q⟩
 .have hh:PI X tg l (aTP X.K λσ' H' Q=>Q (.ref a) H')->True:=λ_=>trivial;obtain⟨its,rv,p,hz⟩:=I1.list hq;refine wpAny_pyIter_list p.isList ?_;refine{s1.heap.objs.size,[s1.heap.objs.size],_,_,H1,rfl,I1.kept (t':=s1.toks) λb o e=>Heap.get?_push_of_some _ e,Oo a _,{_,Heap.get?_push_size _ rfl,rfl,rfl},λb hb=>?_,q};have e:b=s1.heap.objs.size:=by simpa using hb
  subst e;exact I1.sZ (aZ _) (I1.hok.fresh (aZ _))
 .obtain⟨its,rv,p,hz⟩:=I1.tuple hq;refine wpAny_pyIter_tuple (show s1.heap.IsTuple a its.toArray from p) ?_;refine{s1.heap.objs.size,[s1.heap.objs.size],_,_,H1,rfl,I1.kept (t':=s1.toks) λb o e=>Heap.get?_push_of_some _ e,aFS a _,{_,Heap.get?_push_size _ rfl,rfl,rfl},λb hb=>?_,q};have e:b=s1.heap.objs.size:=by simpa using hb
  subst e;exact I1.sZ (aZ _) (I1.hok.fresh (aZ _))
end
end
section
variable {env:Env}{scope sc:Scope}{X:Cx}{elt iter tg:Expr}{ifs:List Expr}{pos py spos:Pos}{cm:Cx->Prop}{wx:List (Str×Addr)->Addr->Shared->Hp->List Addr->Value->Shared->Prop}{wi:TI}{g:TG}{tc:TT}{te:TE}{N:List Str}{ix:List (Option Nat)}{i:Nat}{y:Str}
theorem Zz{env:Env}:∀(names:List (Str×NameKind))(acc:List (Str×Addr)),(∀y∈names,y.2=.free->∃c,env.cells.lookup y.1=ι c)->(∀p∈acc,env.cells.lookup p.1=ι p.2)->
 ∃cl,(forIn names acc λ(y:Str×NameKind)(cs:List (Str×Addr))=>match y with|(name,kind)=>if(kind== .free)=true then do let a<-cellOf env name;pure (ForInStep.yield ((name,a)::cs))else pure (ForInStep.yield cs))=(pure cl:Sem _)/\(∀p∈cl,env.cells.lookup p.1=ι p.2)/\(∀p∈acc,p∈cl)/\∀y∈names,y.2=.free->∃c,(y.1,c)∈cl
 |[],acc,_,ha=>{acc,rfl,ha,λ_ h=>h,λ_ h=>nomatch h}
 |(n,k)::r,acc,hf,ha=>by
  have hr:∀y∈r,y.2=.free->∃c,env.cells.lookup y.1=ι c:=λy hy=>hf y (fM _ hy);by_cases hk:k=.free
  .subst hk;obtain⟨c,hc⟩:=hf (n,.free) iY rfl;obtain⟨cl,e,h1,h2,h3⟩:=Zz r ((n,c)::acc) hr (λp hp=>by
    rcases c7.mp hp with rfl|hp
    .exact hc
    .exact ha p hp)
   refine{cl,?_,h1,λp hp=>h2 p (fM _ hp),λy hy hyf=>?_}
   .rw[i0];simp only[beq_self_eq_true,if_true,cellOf,hc,pure_bind];exact e
   .rcases c7.mp hy with rfl|hy
    .exact{c,h2 _ iY}
    .exact h3 y hy hyf
  .have hb:(k==NameKind.free)=false:=by simpa using hk
   obtain⟨cl,e,h1,h2,h3⟩:=Zz r acc hr ha;refine{cl,?_,h1,h2,λy hy hyf=>?_}
   .rw[i0];simp only[hb,px,if_false,pure_bind];exact e
   .rcases c7.mp hy with rfl|hy
    .exact absurd hyf hk
    .exact h3 y hy hyf
def aOq(hf:∀y∈scope.names,y.2=.free->∃c,env.cells.lookup y.1=ι c):
  ∃cl,closureFor scope env=pure cl/\(∀x c,cl.lookup x=ι c->env.cells.lookup x=ι c)/\∀y∈scope.names,y.2=.free->∃c,cl.lookup y.1=ι c:=by
 obtain⟨cl,e,h1,_,h3⟩:=Zz (env:=env) scope.names [] hf (λ_ h=>nomatch h);refine{cl,?_,λx c h=>h1 (x,c) (yD h),λy hy hyf=>?_}
 .unfold closureFor;simp only[bind_pure_comp]at e⊢;rw[e];rfl
 .obtain⟨c,hc⟩:=h3 y hy hyf;cases q:cl.lookup y.1 with
  |some d=>exact{d,(rfl)}
  |none=>
   have z:=List.lookup_eq_none_iff.mp q (y.1,c) hc;simp at z
def Mq(sc:Scope)(cl:List (Str×Addr))(C:Addr)(env:Env):Env:=
 {scope:=sc,locals:=C,globals:=env.globals,cells:=cl,qual:=env.qual,func:=ν,code:=env.code,frame:=env.frame,builtins:=env.builtins}
def fQ(X:Cx)(sc:Scope)(N:List Str)(cl:List (Str×Addr))(C:Addr)(s₀:Shared)(H₀:Hp)(ex:List Addr):Cx:=
 {X with env:=Mq sc cl C X.env,N:=N,s₀:=s₀,H₀:=H₀,outer:=X.stack,ex:=ex,fn:=λ_=>false,pn:=[],xe:=λ_ _=>False}
def cst(ix:List (Option Nat))(σ:St):St:=ix.map λo=>match o with
 |none=>ν
 |some i=>match σ[i]? with
  |some v=>v
  |none=>ν
def yS(X:Cx)(ifs:List Expr)(t:TT):Prop:=
 ∀π s σ H (Q:Bool->Hp->Prop),Inv X π σ H s->t σ H Q->
  wpAny (model X.prog X.w) X.A (forIn ifs true λc r=>if r=true then do let ok<-isTrue c X.env (eval c X.env);pure (ForInStep.yield ok)else pure (ForInStep.yield r)) (TP X π σ Q) X.xe s
def mQ:TT:=λ_ H Q=>Q true H
def dg:yS X [] mQ:=λ_ _ _ H _ I h=>wpAny_tests_nil {H,I,(h)}
def Tt(h:PT X c t):yS X [c] t:=λπ s σ H Q I q=>wpAny_tests_one (h π s σ H Q I q)
def aAv(I:Nat->Shared->Prop)
  (turn:∀n s,I n s->wpAny (model prog w) A (pyNext it) (λr s₁=>match r with
   |none=>R (.ok .next) s₁
   |some v=>wpAny (model prog w) A (letOwnedTupleGo target it v) (λ_ s₀=>wpAny (model prog w) A (assign target env v) (λ_ s₂=>
     wpAny (model prog w) A (forIn ifs true λc r=>if r=true then do let ok<-isTrue c env (eval c env);pure (ForInStep.yield ok)else pure (ForInStep.yield r)) (λok s₃=>
      if ok=true then wpAny (model prog w) A (eval elt env) (λx s₄=>
       wpAny (model prog w) A (call (.builtin "list.append") [acc,x]) (λ_ s₅=>∃m,m<n/\I m s₅) (λ_ _=>False) s₄) (notedBy (model prog w) A env λx s'=>R (.error x) s') s₃
      else ∃m,m<n/\I m s₃) (λ_ _=>False) s₂) (λ_ _=>False) s₀) (λ_ _=>False) s₁) (λ_ _=>False) s)
  (n:Nat)(h:I n s):
  codeAny (model prog w) A (.compLoop (.ListComp elt [{target,iter,ifs,(0)}] scope pos) 0 it acc env) R s:=by
 refine codeAny_loop rfl I (λn s hI=>?_) n h;show wpAny _ A ((compTurn (.ListComp elt [{target,iter,ifs,(0)}] scope pos) 0 it acc env).onRaise (λx=>do noteFrame x env;theTreesLotGoes x)) _ _ s
 refine wpAny_noted ?_;rw[compTurn_list];refine wpAny_bind (wpAny_standAt (wpAny_bind (wpAny_mono (turn n s hI) (λr s₁ h₁=>?_) λ_ _ h'=>h'.elim)));cases r with
 |none=>exact wpAny_pure h₁
 |some v=>
  refine wpAny_bind (wpAny_mono h₁ (λ_ s₀ h₀=>?_) λ_ _ h'=>h'.elim);refine wpAny_bind (wpAny_mono h₀ (λ_ s₂ h₂=>wpAny_bind (wpAny_mono h₂ (λok s₃ h₃=>?_) λ_ _ h'=>h'.elim)) λ_ _ h'=>h'.elim);cases ok with
  |false=>exact wpAny_pure {rfl,(h₃)}
  |true=>
   exact wpAny_bind (wpAny_bind (wpAny_mono h₃ (λx s₄ h₄=>wpAny_bind (wpAny_mono h₄ (λ_ s₅ h₅=>wpAny_pure (wpAny_pure {rfl,(h₅)})) λ_ _ h'=>h'.elim)) λ_ _ h'=>h'))
structure jV(ix:List (Option Nat))(g:TG)(tc:TT)(te:TE)(σ:St)(Q:VK)(J:It)(H1:Hp):Prop where
 go:∀D,H1 D=ν->∃W:Nat->Nat->St->Hp->Prop,(∃m,W 0 m (cst ix σ) (upd H1 D (.lst [])))/\
  ∀i m σ' H',W i m σ' H'->(J.stop i H'/\Q (.ref D) H')∨(J.go i H'/\∀x H2,J.m5 i H' x H2->g x σ' H2 λσ3 H3=>tc σ3 H3 λb H4=>
   if b=true then te σ3 H4 λy H5=>∃ys,H5 D=ι (.lst ys)/\ys.length<sizeLine/\∃m',m'<m/\W (i+1) m' σ3 (upd H5 D (.lst (ys++[y])))
   else ∃m',m'<m/\W (i+1) m' σ3 H4)
def Nh(ix:List (Option Nat))(wi:TI)(g:TG)(tc:TT)(te:TE):TE:=λσ H Q=>wi σ H λJ H1=>jV ix g tc te σ Q J H1
structure Ft(X:Cx)(scope sc:Scope)(N:List Str)(ix:List (Option Nat)):Prop where
 rel:relabel scope X.env=sc
 kind:scope.kind=.function
 cell:∀y∈scope.names,y.2≠ .cell
 names:∀x∈scope.names,x.2=.local->scope.names.lookup x.1=ι .local
 free:∀y∈scope.names,y.2=.free->X.env.kindOf y.1=ι .cell∨X.env.kindOf y.1=ι .free
 len:N.length=ix.length
 ix:∀(j:Nat)(x:Str)(i:Nat),N[j]?=ι x->ix[j]?=ι (ι i)->X.N[i]?=ι x/\(x,NameKind.free)∈scope.names/\(sc.names.lookup x=ι .cell∨sc.names.lookup x=ι .free)
 has:∀x,(sc.names.lookup x=ι .cell∨sc.names.lookup x=ι .free)->(x,NameKind.free)∈scope.names
def zz(O:Ft X scope sc N ix)(hc:cm X)(hcm:∀{π:List (Addr×Obj)} {σ:St} {H:Hp} {s:Shared} (cl:List (Str×Addr)) (C:Addr) (fp:List Addr),Inv X π σ H s->cm (fQ X sc N cl C s H fp))(hi:KL cm X tg iter wi)
  (hb:∀cl C s₀ H₀ ex,cm (fQ X sc N cl C s₀ H₀ ex)->PG (fQ X sc N cl C s₀ H₀ ex) tg g/\yS (fQ X sc N cl C s₀ H₀ ex) ifs tc/\PE ((fQ X sc N cl C s₀ H₀ ex).wish (wx cl C s₀ H₀ ex)) elt te)(hs:∀x,foldedSetIterable iter X.env x=pure x){use:Option (Value->Sem Unit)}{QQ:χ}(I:Inv X π σ H s)(h:Nh ix wi g tc te σ H Q)
  (W7:∀cl D C s₀ H₀ ex x s',wx cl C s₀ H₀ ex x s'->(∀{Er σ' H' s1},Inv (fQ X sc N cl C s₀ H₀ ex) Er σ' H' s1->Inv X π σ H' s1/\qX X π H' C)->notedBy (model X.prog X.w) X.A (Mq sc cl C X.env) (λx s'=>compPost (model X.prog X.w) X.A X.xe use QQ (.ref D) C (.error x) s') x s')
  (fin:∀(D C:Addr)(s6:Shared)(H5:Hp)(m:μ),Inv X π σ H5 s6->s6.heap.Ns C m->qX X π H5 C->Q (.ref D) H5->compPost (model X.prog X.w) X.A X.xe use QQ (.ref D) C (.ok .next) s6):
  wpAny (model X.prog X.w) X.A (comprehension (.ListComp elt [{tg,iter,ifs,(0)}] scope pos) scope X.env ip (newList []) false (eval iter X.env) use) QQ X.xe s:=by
 have hcl:∃cl,closureFor scope X.env=pure cl/\(∀x c,cl.lookup x=ι c->X.env.cells.lookup x=ι c)/\∀y∈scope.names,y.2=.free->∃c,cl.lookup y.1=ι c:=
  aOq λy hy hf=>I.ok.has y.1 (O.free y hy hf)
 intros cl ecl BZ A6 hcl;refine wpAny_comprehension_free (use:=use) rfl hs ecl O.kind O.names (aY (hi π s σ H _ I h) λv s1 h1=>aY h1 λitv s2 h2=>?_);intros it fp tn J H2 e I2 T st2 f2 q2 h2;subst e;obtain⟨W,⟨m0,w0⟩,turn⟩:=q2.go s2.heap.objs.size I2.fresh;refine wpAny_newObj_type ?_;have I3:=I2.QZ (its:=[]) (t':=s2.toks) (ys:=[]) .nil (cZ _);generalize eH3:upd H2 s2.heap.objs.size (.lst [])=H3 at I3 w0;have eD:H3 s2.heap.objs.size=ι (.lst []):=by rw[<-eH3];exact aq
 have aPE:∀b∈fp,b≠s2.heap.objs.size:=λb hb z=>by
  obtain⟨o,ho,_⟩:=T.obj _ _ st2 b hb;exact absurd (dz ho) (by rw[z];exact n6 _)
 have st3:tn 0 (s2.heap.push {cls:=.type "list",dict:=ν,data:=.seq ([]:List Value).toArray}):=T.keep _ _ _ st2 λb _ o e=>Heap.get?_push_of_some _ e;have f3:∀b∈fp,qX X π H3 b:=λb hb=>{by rw[<-eH3,cH (aPE b hb)];exact(f2 b hb).1,(f2 b hb).2};generalize es3:({s2 with heap:=s2.heap.push {cls:=.type "list",dict:=ν,data:=.seq ([]:List Value).toArray},toks:=s2.toks}:Shared)=s3 at I3;have XB:tn 0 s3.heap:=by rw[<-es3];exact st3
 refine wpAny_newFunctionEnv O.cell (λy hy=>nomatch hy) (λh4 ayB aB1=>?_) O.kind;have ow:∀b o,s3.heap.get? b=ι o->h4.get? b=ι o:=λb o e=>(aB1.2 b (jr (dz e))).trans (Heap.get?_push_of_some _ e);have I4:Inv X π σ H3 {s3 with heap:=h4,toks:=s3.toks+([]:List (Str×Value)).length}:=I3.kept ow;have avv:({newEnv scope s3.heap.objs.size X.env.globals cl X.env.qual ν .none (ι X.env) builtinsNs with scope:=relabel scope X.env}:Env)=Mq sc cl s3.heap.objs.size X.env:=by rw[O.rel];rfl
 rw[avv];show codeAny _ _ _ (compPost (model X.prog X.w) X.A X.xe use QQ (.ref s2.heap.objs.size) s3.heap.objs.size) _;generalize eC:s3.heap.objs.size=C;generalize es4:({s3 with heap:=h4,toks:=s3.toks+([]:List (Str×Value)).length}:Shared)=s4 at I4;have WW:s4.heap=h4:=by rw[<-es4]
 have o4s:s4.os=s3.os:=by rw[<-es4]
 have fC:∀b∈fp,b≠C:=λb hb z=>by
  obtain⟨o,ho,_⟩:=T.obj _ _ XB b hb;exact absurd (dz ho) (by rw[z,eC];exact n6 _)
 have okC:(fQ X sc N cl C s3 H3 fp).Ok:=by
  refine{I3.ok.mod,?_,I3.ok.glob,I3.ok.blt,MX eC,λx y c h1 h2=>I3.ok.inj x y c (BZ x c h1) (BZ y c h2),λx hx=>?_,λx c z _=>(nomatch z),I3.ok.hd,I3.ok.frames,.inl rfl,λb hb=>{fC b hb,λx c e=>(f3 b hb).2.2.2.2.1 x c (BZ x c e)},
   I3.bs,cM I3.ok.uM I3.sz,λb o e hb=>?_,λb hb z=>?_,I3.stack,I3.sQ,I3.ok.tree,I3.ok.top}
  .show sc.kind=.function;rw[<-O.rel];exact O.kind
  .exact A6 (x,.free) (O.has x hx) rfl
  .rcases(f3 b hb).2.2.2.1 with z|z
   .exact I3.ok.Ck b o e z
   .exact absurd (gJ (dz e) (cM I3.ok.uM z)) (n6 _)
  .rcases c7.mp (I3.Tg b z)with z|z
   .exact(f3 b hb).2.1 z
   .exact(f3 b hb).2.2.1 z
 have IC:Inv (fQ X sc N cl C s3 H3 fp) [] (cst ix σ) H3 s4:=by
  refine{okC,o4s,I4.bare,?_,?_,λx c e=>I4.cell x c (BZ x c e),?_,λx c e=>I4.oO x c (BZ x c e),λp hp=>(nomatch hp),I4.hok,?_}
  .rw[WW];exact Un.kept ow
  .refine{_,by rw[WW,<-eC];exact ayB,λj x v e1 e2 e3=>?_};have e2':(cst ix σ)[j]?=ι (ι v):=e2;unfold cst at e2';rw[List.getElem?_map]at e2';cases q:ix[j]? with
   |none=>rw[q]at e2';cases e2'
   |some o=>
    rw[q]at e2';cases o with
    |none=>cases e2'
    |some i=>
     obtain⟨hx,hm,hsc⟩:=O.ix j x i e1 q;cases q2:σ[i]? with
     |none=>simp[q2]at e2'
     |some w'=>
      simp[q2]at e2';subst e2';intros m hn hl I4.loc;have kf:=O.free (x,.free) hm rfl;have vis:Pk X.env.scope x:=by
       rcases kf with k|k
       .exact .inr (.inl k)
       .exact .inr (.inr k)
      obtain⟨u,r,l⟩:=hl i x v hx q2 vis;exists u,r;rcases l with⟨k,_⟩|⟨_,c,e,z⟩
      .rcases kf with k'|k'
       .rw[k]at k';cases k'
       .rw[k]at k';cases k'
      .obtain⟨c',e'⟩:=A6 (x,.free) hm rfl;have:=BZ x c' e';rw[e]at this;cases this;exact .inr {hsc,c,e',(z)}
  .rw[<-eC];exact I3.fresh
  .show(cst ix σ).length=N.length;rw[O.len];simp[cst]
 have st4:tn 0 s4.heap:=T.keep _ _ _ XB λb _ o e=>by rw[WW];exact ow b o e
 have stat:∀{H':Hp},(∀b∈fp,H' b=ν)->∀b∈fp,qX (fQ X sc N cl C s3 H3 fp) [] H' b:=λhn b hb=>
  {hn b hb,fC b hb,okC.Ei b hb,.inl hb,λx c e=>(f3 b hb).2.2.2.2.1 x c (BZ x c e),λp hp=>(nomatch hp)}
 have hc':cm (fQ X sc N cl C s3 H3 fp):=hcm cl C fp I3;obtain⟨hg,ht,he⟩:=hb cl C s3 H3 fp hc';have loop:codeAny (model X.prog X.w) X.A (.compLoop (.ListComp elt [{tg,iter,ifs,(0)}] scope pos) 0 (.ref it) (.ref s2.heap.objs.size) (Mq sc cl C X.env))
   (compPost (model X.prog X.w) X.A X.xe use QQ (.ref s2.heap.objs.size) C) s4:=by
  refine aAv (λn s'=>∃i σ' H',Inv (fQ X sc N cl C s3 H3 fp) [] σ' H' s'/\tn i s'.heap/\(∀b∈fp,H' b=ν)/\W i n σ' H') ?_ m0 {0,cst ix σ,H3,IC,st4,λb hb=>(f3 b hb).1,w0};rintro n s5 ⟨i,σ5,H5,I5,Fd,Qj,w5⟩;rcases turn i n σ5 H5 w5 with⟨stop,qn⟩|⟨go,step⟩
  .refine aY (T.done (fQ X sc N cl C s3 H3 fp) rfl rfl rfl hc' i [] s5 σ5 H5 (λ_ _=>False) I5 (stat Qj) Fd stop) λr s6 ⟨hr,I6⟩=>?_;subst hr;obtain⟨m,hn,_⟩:=id I6.loc;have I7:Inv X π σ H5 s6:=I3.ky (ch:=fp) I6.os I6.base I6.hok I6.bare λb hb=>{(f3 b hb).2.2.2.1,(f3 b hb).2.1,(f3 b hb).2.2.2.2.1,(f3 b hb).2.2.2.2.2};exact fin _ C s6 H5 m I7 hn (I3.sZ (MX eC) I6.free) qn
  .refine aY (T.item (fQ X sc N cl C s3 H3 fp) rfl rfl rfl hc' i [] s5 σ5 H5 (λ_ _=>False) I5 (stat Qj) Fd go) λr s6 ⟨u,hr,h6⟩=>?_;subst hr;refine aY h6 λ_ s7 ⟨x,H7,I7,r7,y7,st7,fr7⟩=>?_;have I7':=I7.pinned (stat fr7) (T.obj _ _ st7);have again:∀{σ9:St} {H9:Hp} {s9:Shared} {m':Nat},Inv (fQ X sc N cl C s3 H3 fp) ([]++Km fp s7.heap) σ9 H9 s9->m'<n->W (i+1) m' σ9 H9->
     ∃m,m<n/\∃i σ' H',Inv (fQ X sc N cl C s3 H3 fp) [] σ' H' s9/\tn i s9.heap/\(∀b∈fp,H' b=ν)/\W i m σ' H':=λ{σ9 H9 s9 m'} I9 hm w9=>by
    refine{m',hm,i+1,σ9,H9,I9.Ly,T.keep _ _ _ st7 λb hb o e=>(I9.pin (b,o) (qe _ (qe _ (Jk hb e)))).1,λb hb=>?_,w9};obtain⟨o,e,d⟩:=T.obj _ _ st7 b hb;exact(I9.pin (b,o) (qe _ (qe _ (Jk hb e)))).2.1
   refine aY (hg _ s7 σ5 H7 x u _ I7' r7 (step x H7 y7)) λ_ s8 ⟨σ8,H8,I8,q8⟩=>?_;refine aY (ht _ s8 σ8 H8 _ I8 q8) λb s9 ⟨H9,I9,q9⟩=>?_;cases b with
   |false=>
    rw[if_neg gQ]at q9;intros m' hm w9 q9;rw[if_neg gQ];exact again I9 hm w9
   |true=>
    rw[if_pos rfl]at q9;rw[if_pos rfl];refine wpAny_mono (he _ s9 σ8 H9 _ (I9.wish _) q9) (λy uZ ⟨yv,nH,aEw,r10,ys,e10,R8,m',hm,w10⟩=>?_) (λx uZ hx=>W7 cl _ C s3 H3 fp x uZ hx λI6=>{I3.ky (ch:=fp) I6.os I6.base I6.hok I6.bare λb hb=>{(f3 b hb).2.2.2.1,(f3 b hb).2.1,(f3 b hb).2.2.2.2.1,(f3 b hb).2.2.2.2.2},I3.sZ (MX eC) I6.free});have wK:=Inv.qW aEw;refine aY (xb _ uZ σ8 nH (.ref s2.heap.objs.size) [yv] (.ref s2.heap.objs.size) [y] (λ_ H'=>W (i+1) m' σ8 H') wK rfl (.cons r10 .nil) {_,ys,yv,rfl,rfl,e10,R8,w10}) λ_ s11 ⟨_,H11,I11,_,w11⟩=>?_;exact again I11 hm w11
 exact codeAny_compStart_list loop (T.self _ _ _ _ _ st4 loop)
def fu(O:Ft X scope sc N ix)(hc:X.calm=true)(hi:PI X tg iter wi)
  (hb:∀cl C s₀ H₀ ex,PG (fQ X sc N cl C s₀ H₀ ex) tg g/\yS (fQ X sc N cl C s₀ H₀ ex) ifs tc/\PE (fQ X sc N cl C s₀ H₀ ex) elt te)
  (hs:∀x,foldedSetIterable iter X.env x=pure x:=by intro _;rfl):PE X (.ListComp elt [{tg,iter,ifs,(0)}] scope pos) (Nh ix wi g tc te):=by
 intro π s σ H Q I h;rw[eval_ListComp];exact zz (cm:=λX=>X.calm=true) (wx:=λ_ _ _ _ _ _ _=>False) (use:=ν) (QQ:=EP X π σ Q) O hc (λ_ _ _ _=>hc) hi (λcl C s₀ H₀ ex _=>hb cl C s₀ H₀ ex) hs I h (λ_ _ _ _ _ _ _ _ z=>z.elim) λD C s6 H5 m I7 hn f q=>{m,hn,λh' hs'=>{.ref D,H5,I7.turned (it:=C) (t':=s6.toks) (λb o hb e=>(hs'.2 b hb).trans e) f.1 f.2.1 f.2.2.2.1 f.2.2.2.2.1 f.2.2.2.2.2,rfl,q}}
def TZ(hN:X.N.Nodup)(hi':X.N[i]?=ι y)(hx:Loc X.env.scope y)
  (O:Ft X scope sc N ix)(hc:cm X)(hcm:∀{π:List (Addr×Obj)} {σ:St} {H:Hp} {s:Shared} (cl:List (Str×Addr)) (C:Addr) (fp:List Addr),Inv X π σ H s->cm (fQ X sc N cl C s H fp))(hi:KL cm X tg iter wi)
  (hb:∀cl C s₀ H₀ ex,cm (fQ X sc N cl C s₀ H₀ ex)->PG (fQ X sc N cl C s₀ H₀ ex) tg g/\yS (fQ X sc N cl C s₀ H₀ ex) ifs tc/\PE ((fQ X sc N cl C s₀ H₀ ex).wish (wx cl C s₀ H₀ ex)) elt te)
  (W7:∀{π:List (Addr×Obj)} {σ:St} {use:Option (Value->Sem Unit)} {QQ:χ} cl D C s₀ H₀ ex x s',wx cl C s₀ H₀ ex x s'->(∀{Er σ' H' s1},Inv (fQ X sc N cl C s₀ H₀ ex) Er σ' H' s1->Inv X π σ H' s1/\qX X π H' C)->notedBy (model X.prog X.w) X.A (Mq sc cl C X.env) (λx s'=>compPost (model X.prog X.w) X.A X.xe use QQ (.ref D) C (.error x) s') x s')
  (hs:∀x,foldedSetIterable iter X.env x=pure x:=by intro _;rfl)(hsw:swapsWith (.ListComp elt [{tg,iter,ifs,(0)}] scope pos) (ι (.Name y py)) spos.line X.env=pure true:=by rfl)
  (hf:X.fn y=true∨X.env.scope.names.lookup y=ι .local:=by trivial):
  PS X (.Assign [.Name y py] (.ListComp elt [{tg,iter,ifs,(0)}] scope pos) spos) (Ey (Nh ix wi g tc te) (gU i)):=by
 intro π s σ H D I h;rw[exec_Assign_Name_used _ _ _ _ hsw];refine wpAny_bind (wpAny_standAt (wpAny_bind ?_));show wpAny _ X.A (do let _<-comprehension (.ListComp elt [{tg,iter,ifs,(0)}] scope pos) scope X.env _ (newList []) false (eval iter X.env) (ι (assign (.Name y py) X.env))) _ _ s
 refine wpAny_bind (wpAny_mono (zz (use:=ι (assign (.Name y py) X.env)) (QQ:=λ_ s'=>∃σ' H',Inv X π σ' H' s'/\D.nx σ' H') O hc hcm hi hb hs I h W7 λD1 C s6 H5 m I7 hn f q=>?_) (λ_ s' ⟨σ',H',I',q'⟩=>wpAny_pure (wpAny_pure {σ',H',I',(q')})) λ_ _ e=>e);obtain⟨o,es,ep,ho,hc1,hc2⟩:=id hn;have I8:=I7.pinned (fp:=[C]) (λb hb=>by
  have e:b=C:=by simpa using hb
  subst e;exact f) (λb hb=>by
  have e:b=C:=by simpa using hb
  subst e;exact{o,ho,λv z=>by first|(rw[hc1.2]at z;cases z)|(rw[hc2.1]at z;cases z)|(rw[hc1]at z;cases z)|(simp_all)})
 show wpAny _ X.A (assign (.Name y py) X.env (.ref D1)) _ _ _;refine wpAny_assign_Name (Gx I8 hN hi' hx (v:=.ref D1) rfl (λs7 I9=>?_) hf);have hC:=(I9.pin (C,o) (qe _ (qe _ (Jk (by simp) ho)))).1;refine{m,{o,es,ep,hC,hc1,(hc2)},λh' hs'=>{_,H5,I9.Ly.turned (it:=C) (t':=s7.toks) (λb o hb e=>(hs'.2 b hb).trans e) f.1 f.2.1 f.2.2.2.1 f.2.2.2.2.1 f.2.2.2.2.2,q}}
def nU(hN:X.N.Nodup)(hi':X.N[i]?=ι y)(hx:Loc X.env.scope y)
  (O:Ft X scope sc N ix) (hc:X.calm=true) (hi:PI X tg iter wi)
  (hb:∀cl C s₀ H₀ ex,PG (fQ X sc N cl C s₀ H₀ ex) tg g/\yS (fQ X sc N cl C s₀ H₀ ex) ifs tc/\PE (fQ X sc N cl C s₀ H₀ ex) elt te)
  (hs:∀x,foldedSetIterable iter X.env x=pure x:=by intro _;rfl) (hsw:swapsWith (.ListComp elt [{tg,iter,ifs,(0)}] scope pos) (ι (.Name y py)) spos.line X.env=pure true:=by rfl)
  (hf:X.fn y=true∨X.env.scope.names.lookup y=ι .local:=by trivial):
  PS X (.Assign [.Name y py] (.ListComp elt [{tg,iter,ifs,(0)}] scope pos) spos) (Ey (Nh ix wi g tc te) (gU i)):=
 TZ (cm:=λX=>X.calm=true) (wx:=λ_ _ _ _ _ _ _=>False) hN hi' hx O hc (λ_ _ _ _=>hc) hi (λcl C s₀ H₀ ex _=>hb cl C s₀ H₀ ex) (λ_ _ _ _ _ _ _ _ z=>z.elim) hs hsw hf
end
mutual
inductive pJ(K:aD)(H:Hp):V->PyData->Prop
 |non:pJ K H .non .none
 |bl (b:Bool):pJ K H (.bl b) (.bool b)
 |int (i:Int):pJ K H (.int i) (.int i)
 |str (x:Str):pJ K H (.str x) (.str x)
 |lst {a:Addr} {xs:τ} {ds:List PyData}:ak K H a xs->qg K H xs ds->pJ K H (.ref a) (.list ds)
 |tup {a:Addr} {xs:τ} {ds:List PyData}:ao K H a xs->qg K H xs ds->pJ K H (.ref a) (.tuple ds)
inductive qg(K:aD)(H:Hp):τ->List PyData->Prop
 |nil:qg K H [] []
 |cons {x:V} {d:PyData} {xs:τ} {ds:List PyData}:pJ K H x d->qg K H xs ds->qg K H (x::xs) (d::ds)
end
section
variable {X:Cx}{π:List (Addr×Obj)}{σ:St}{H:Hp}{s:Shared}
mutual
theorem Inv.reads(I:Inv X π σ H s):∀{x:V} {d:PyData} {u:Value},pJ X.K H x d->RelV x u->∃as,Reads s.heap u d as
 |_,_,_,.non,r=>by cases r;exact{_,.none}
 |_,_,_,.bl b,r=>by cases r;exact{_,.bool b}
 |_,_,_,.int i,r=>by intros t rfl r;exact{_,.int i t}
 |_,_,_,.str x,r=>by intros t rfl r;exact{_,.str x t}
 |_,_,_,.lst hq hs,r=>by
  cases r;obtain⟨its,rv,pl,_⟩:=I.list hq;obtain⟨as,ra⟩:=Inv.readsAll I hs rv;intros o ho hc n hd pl.isList;exact{_,.list ho hc hd (by simpa using ra)}
 |_,_,_,.tup hq hs,r=>by
  cases r;obtain⟨its,rv,pl,_⟩:=I.tuple hq;obtain⟨as,ra⟩:=Inv.readsAll I hs rv;intros o ho hc n hd pl;exact{_,.tuple ho hc hd (by simpa using ra)}
theorem Inv.readsAll(I:Inv X π σ H s):∀{xs:τ} {ds:List PyData} {us:List Value},qg X.K H xs ds->Vals xs us->∃as,ReadsAll s.heap us ds as
 |_,_,_,.nil,.nil=>{_,.nil}
 |_,_,_,.cons h1 h2,.cons r1 r2=>by
  obtain⟨as,a⟩:=Inv.reads I h1 r1;obtain⟨bs,b⟩:=Inv.readsAll I h2 r2;exact{_,.cons a b}
end
theorem qg.ints{K:aD}{H:Hp}:∀ns:ζ,qg K H (ns.map V.int) (ns.map W3)
 |[]=>.nil
 |n::r=>.cons (.int n) (qg.ints r)
def uG(kb:List (Key×V)):List (Key×V)->Bool
 |[]=>true
 |(k,v)::r=>match eG kb k with
  |none=>false
  |some y=>ux v y&&uG kb r
theorem WK{A:Around}{kb:List (Key×V)}{vb:List (Key×Value)}(hb:KV kb vb)(fb:kb.all (λp=>mU p.2)=true):∀{ka:List (Key×V)} {va:List (Key×Value)},KV ka va->ka.all (λp=>mU p.2)=true->
  W.KeqHits A s vb va (uG kb ka)
 |[],_,.nil,_=>.nil
 |(k,v)::r,(k',v')::r',.cons {e,(rv)} t,f=>by
  cases (show k=k' from e);rw[Xx,oN]at f;have hv:=KV.val hb k;cases q:eG kb k with
  |none=>
   have hn:valueAt vb k=ν:=lE.none_of (by rw[q]at hv;exact hv);have e2:uG kb ((k,v)::r)=false:=by simp[uG,q]
   rw[e2];exact .miss hn
  |some y=>
   rw[q]at hv;obtain⟨u,hu,ru⟩:=lE.some_of hv;have fy:mU y=true:=by
    unfold eG at q;cases q2:kb.find? (λkv=>decide (kv.1=k))with
    |none=>rw[q2]at q;cases q
    |some p=>
     rw[q2]at q;cases q;exact mY.mp fb p (List.mem_of_find?_eq_some q2)
   have e2:uG kb ((k,v)::r)=(ux v y&&uG kb r):=by simp[uG,q]
   rw[e2];exact .hit hu (G2 rv ru f.1 fy) (WK hb fb t f.2)
end
def pC(K:aD)(g:Bool->Bool):R2:=λx y H Q=>match x,y with
 |.int i,.int j=>Q (.bl (g (decide (i=j)))) H
 |.bl i,.bl j=>Q (.bl (g (decide (i=j)))) H
 |.str i,.str j=>Q (.bl (g (decide (i=j)))) H
 |.non,.non=>Q (.bl (g true)) H
 |.ref a,.ref b=>(∃d e,pJ K H (.ref a) d/\pJ K H (.ref b) e/\SeqAt.shaped d=true/\SeqAt.shaped e=true/\Q (.bl (g (wj d e))) H)∨
   (∃ka kb,H a=ι (.dK ka)/\H b=ι (.dK kb)/\ka.all (λp=>mU p.2)=true/\kb.all (λp=>mU p.2)=true/\Q (.bl (g (ka.length==kb.length&&uG kb ka))) H)
 |.non,.ref _=>False
 |.ref _,.non=>False
 |x,y=>eM x y=true/\Q (.bl (g (decide (x=y)))) H
def aEx(hr:cX k X.A):cQ X (compareOp .Eq) (λx y H Q=>∃d e,pJ X.K H x d/\pJ X.K H y e/\SeqAt.shaped d=true/\SeqAt.shaped e=true/\Q (.bl (wj d e)) H):=by
 intro π s σ H x y v u Q I rx ry h;intros d e h1 h2 h3 h4 q h;obtain⟨as,ra⟩:=I.reads h1 rx;obtain⟨bs,rb⟩:=I.reads h2 ry;exact eq_dataH ra rb h3 h4 hr.units {.bl _,H,I,rfl,q}
def aCM(hr:cX k X.A):cQ X (compareOp .NotEq) (λx y H Q=>∃d e,pJ X.K H x d/\pJ X.K H y e/\SeqAt.shaped d=true/\SeqAt.shaped e=true/\Q (.bl (!wj d e)) H):=by
 intro π s σ H x y v u Q I rx ry h;intros d e h1 h2 h3 h4 q h;obtain⟨as,ra⟩:=I.reads h1 rx;obtain⟨bs,rb⟩:=I.reads h2 ry;exact ne_dataH ra rb h3 h4 hr.units {.bl _,H,I,rfl,q}
def aHP(hr:cX k X.A):cQ X (compareOp .Eq) (λx y H Q=>∃a b ka kb,x=.ref a/\y=.ref b/\H a=ι (.dK ka)/\H b=ι (.dK kb)/\ka.all (λp=>mU p.2)=true/\kb.all (λp=>mU p.2)=true/\Q (.bl (ka.length==kb.length&&uG kb ka)) H):=by
 intro π s σ H x y v u Q I rx ry h;intros a b ka kb rfl rfl h1 h2 h3 h4 q h;cases rx;cases ry;obtain⟨_,ea,va,ra,da⟩:ka.length<=sizeLine/\(a==sysModules)=false/\∃vs,KV ka vs/\s.heap.DictOf (kZ X.prog X.w) a vs:=I.hok a _ h1;obtain⟨_,eb,vb,rb,db⟩:kb.length<=sizeLine/\(b==sysModules)=false/\∃vs,KV kb vs/\s.heap.DictOf (kZ X.prog X.w) b vs:=I.hok b _ h2;refine W.keq_eq ea eb da db hr.NI (λ_=>WK rb h4 ra h3) {.bl _,H,I,?_,q};show _=Value.bool _;rw[Paired.length ra,Paired.length rb]
def aJG(hr:cX k X.A):cQ X (compareOp .NotEq) (λx y H Q=>∃a b ka kb,x=.ref a/\y=.ref b/\H a=ι (.dK ka)/\H b=ι (.dK kb)/\ka.all (λp=>mU p.2)=true/\kb.all (λp=>mU p.2)=true/\Q (.bl (!(ka.length==kb.length&&uG kb ka))) H):=by
 intro π s σ H x y v u Q I rx ry h;intros a b ka kb rfl rfl h1 h2 h3 h4 q h;cases rx;cases ry;obtain⟨_,ea,va,ra,da⟩:ka.length<=sizeLine/\(a==sysModules)=false/\∃vs,KV ka vs/\s.heap.DictOf (kZ X.prog X.w) a vs:=I.hok a _ h1;obtain⟨_,eb,vb,rb,db⟩:kb.length<=sizeLine/\(b==sysModules)=false/\∃vs,KV kb vs/\s.heap.DictOf (kZ X.prog X.w) b vs:=I.hok b _ h2;refine W.keq_ne ea eb da db hr.NI (λ_=>WK rb h4 ra h3) {.bl _,H,I,?_,q};show _=Value.bool _;rw[Paired.length ra,Paired.length rb]
def KU:decide (V.int i=V.int j)=decide (i=j):=by simp
def AN:decide (V.bl i=V.bl j)=decide (i=j):=by simp
def Q4:decide (V.str i=V.str j)=decide (i=j):=by simp
def v_eq(hr:cX k X.A):cQ X (compareOp .Eq) (pC X.K id):=by
 refine(aOJ.or ((aEx hr).or (aHP hr))).imp λx y H Q h=>?_;unfold pC at h;split at h
 .exact .inl {rfl,by rw[KU];exact h}
 .exact .inl {rfl,by rw[AN];exact h}
 .exact .inl {rfl,by rw[Q4];exact h}
 .exact .inl {rfl,by rw[decide_eq_true rfl];exact h}
 .rcases h with⟨d,e,h⟩|⟨ka,kb,h⟩
  .exact .inr (.inl {d,e,(h)})
  .exact .inr (.inr {_,_,ka,kb,rfl,rfl,h})
 .exact h.elim
 .exact h.elim
 .exact .inl h
def awo(hr:cX k X.A):cQ X (compareOp .NotEq) (pC X.K not):=by
 refine(YI.or ((aCM hr).or (aJG hr))).imp λx y H Q h=>?_;unfold pC at h;split at h
 .exact .inl {rfl,by rw[KU];exact h}
 .exact .inl {rfl,by rw[AN];exact h}
 .exact .inl {rfl,by rw[Q4];exact h}
 .exact .inl {rfl,by rw[decide_eq_true rfl];exact h}
 .rcases h with⟨d,e,h⟩|⟨ka,kb,h⟩
  .exact .inr (.inl {d,e,(h)})
  .exact .inr (.inr {_,_,ka,kb,rfl,rfl,h})
 .exact h.elim
 .exact h.elim
 .exact .inl h
end L2
namespace PySem.SeqAt
open AutoSeq1 (wpAny_loadPart')
open MeetsSeq MeetsSeq2 MeetsSeq3 SeqRoads2
end PySem.SeqAt
namespace L2
open PySem PySem.Spec PyProof.Rows
section
variable {P:Program}{w:World}{K:aD}{mg:μ}{base h:Heap}{x:Str}{st:Stmt}{N ps:List Str}{k:Nat}{sp:Sp}{H H1:Hp}{a:Addr}{xs:τ}{i:Int}{X:Cx}{ix:List (Option Nat)}{J:It}{σ:St}{Q:VK}{t:TE}
def boot_isinstance:bootBuiltins "isinstance"=ι (.builtin "isinstance"):=by decide +kernel
def boot_abs:bootBuiltins "abs"=ι (.builtin "abs"):=by decide +kernel
def boot_sum:bootBuiltins "sum"=ι (.builtin "sum"):=by decide +kernel
def boot_max:bootBuiltins "max"=ι (.builtin "max"):=by decide +kernel
def boot_int:bootBuiltins "int"=ι (.type "int"):=by decide +kernel
def boot_bool:bootBuiltins "bool"=ι (.type "bool"):=by decide +kernel
def boot_tuple:bootBuiltins "tuple"=ι (.type "tuple"):=by decide +kernel
def boot_list:bootBuiltins "list"=ι (.type "list"):=by decide +kernel
structure Fn(K:aD)(mg:μ)(x:Str)(st:Stmt)(ps:List Str):Prop where
 ex:∃(f:Addr)(fd:FuncData),vf K x x st f fd/\mg x=ι (.ref f)/\Binds K fd ps []
def Fn.cal(F:Fn K mg x st ps)(S:aL N ps (aG st))
  (hbody:∀{f:Addr} {cdv:Value} {A:Around} {outer:List Env} {s:Shared} {vs:τ} (H:Hp) (Q:VK) (E:XK),cX k (A.deeper (envOfC x (aG st) s.heap.objs.size f cdv))->sp vs H Q E->
   ∃t,jN (dY P w K mg base N x (aG st) f cdv A outer s H E).sW (iZ st) t/\t {nx:=λ_ H'=>Q .non H',rt:=Q} (start N vs) H) (len:∀vs H Q E,sp vs H Q E->vs.length=ps.length:=by intro _ _ _ _ h;cases h;subst_vars;rfl):rM P w K mg base x (k+1) ps sp:=by
 intros f fd F m b F.ex;exact{f,fd,m,F.kp,b,F.okN S len λcdv A outer s H vs Q E hr h=>hbody H Q E hr h}
def Fn.gh(F:Fn K mg x st ps)(S:aL N ps (aG st))
  (hbody:∀{f:Addr} {cdv:Value} {A:Around} {outer:List Env} {s:Shared} {vs:τ} (H:Hp) (Q:VK) (E:XK),cX k (A.deeper (envOfC x (aG st) s.heap.objs.size f cdv))->sp vs H Q E->
   ∃t,jN (dY P w K mg base N x (aG st) f cdv A outer s H E) (iZ st) t/\t {nx:=λ_ H'=>Q .non H',rt:=Q} (start N vs) H) (len:∀vs H Q E,sp vs H Q E->vs.length=ps.length:=by intro _ _ _ _ h;cases h;subst_vars;rfl):rM P w K mg base x (k+1) ps sp:=by
 intros f fd F m b F.ex;exact{f,fd,m,F.kp,b,F.okF S len λcdv A outer s H vs Q E hr h=>hbody H Q E hr h}
def Same.new{p:Addr}(h:H p=ν)(o:HO):Same H (upd H p o):=λb u q=>by rw[cH (jz q h)];exact q
theorem Same.upd{H H':Hp}{p:Addr}(g:Same H H')(h:H p=ν)(o:HO):Same H (L2.upd H' p o):=λb u q=>by rw[cH (jz q h)];exact g b u q
def Same.Rz{H':Hp}(e:Same H H')(h:ao K H a xs):ao K H' a xs:=by
 rcases h with(h|⟨o,h⟩)|h
 .exact .inl (.inl (e _ _ h))
 .exact .inl (.inr {o,e _ _ h})
 .exact .inr h
def mulL(h1:-(2^64)<i)(h2:i<2^64):IntMulOk i j:=.of_left (intBits_le_64 h1 h2)
def mulR(h1:-(2^64)<j)(h2:j<2^64):IntMulOk i j:=.of_right (intBits_le_64 h1 h2)
def cR(h:decide N.Nodup=true:=by kernel_rfl):N.Nodup:=of_decide_eq_true h
abbrev cU(l:List (Str×NameKind)):Scope:={kind:=.function,names:=l,isGenerator:=false,isCoroutine:=false}
abbrev ψ(x:Str)(g c:List Str):Scope:=cU ((".0",.local)::(x,.local)::(g.map (·,.globalImplicit)++c.map (·,.cell)))
def cV(sc':relabel scope X.env=sc:=by kernel_rfl)(kind:scope.kind=.function:=by kernel_rfl)(cell:scope.names.all (λy=>y.2 != .cell)=true:=by kernel_rfl)
  (names:scope.names.all (λx=>x.2 != .local||scope.names.lookup x.1==ι .local)=true:=by kernel_rfl)
  (free:scope.names.all (λy=>y.2 != .free||(X.env.scope.names.lookup y.1==ι .cell||X.env.scope.names.lookup y.1==ι .free))=true:=by kernel_rfl)
  (len:N.length=ix.length:=by kernel_rfl)
  (hix:(N.zip ix).all (λp=>match p.2 with
   |none=>true
   |some i=>X.N[i]?==ι p.1&&scope.names.any (λy=>y.1==p.1&&y.2== .free)&&(sc.names.lookup p.1==ι .cell||sc.names.lookup p.1==ι .free))=true:=by kernel_rfl)
  (has:sc.names.all (λy=>(y.2 != .cell&&y.2 != .free)||scope.names.any (λz=>z.1==y.1&&z.2== .free))=true:=by kernel_rfl):Ft X scope sc N ix:=by
 have mem:∀x:Str,scope.names.any (λy=>y.1==x&&y.2== .free)=true->(x,NameKind.free)∈scope.names:=λx h=>by
  obtain⟨y,hy,e⟩:=Pg.mp h;rw[oN]at e;intros a b y;have e1:a=x:=eq_of_beq e.1;have e2:b=.free:=eq_of_beq e.2;subst e1;subst e2;exact hy
 refine{sc',kind,λy hy e=>?_,λx hx e=>?_,λy hy e=>?_,len,λj x i h1 h2=>?_,λx hx=>?_}
 .have:=mY.mp cell y hy;rw[e]at this;cases this
 .have:=mY.mp names x hx;rw[e]at this;simpa using this
 .have:=mY.mp free y hy;rw[e]at this;simpa[Env.kindOf]using this
 .have hm:(x,ι i)∈N.zip ix:=by
   have:(N.zip ix)[j]?=ι (x,ι i):=by
    rw[List.getElem?_zip_eq_some];exact{h1,(h2)}
   exact List.mem_of_getElem? this
  have:=mY.mp hix _ hm;simp only[oN]at this;obtain⟨⟨a1,a2⟩,a3⟩:=this;exists eq_of_beq a1,mem x a2;rw[Cj]at a3;rcases a3 with z|z
  .exact .inl (eq_of_beq z)
  .exact .inr (eq_of_beq z)
 .have hm:∃k,(x,k)∈sc.names/\(k=.cell∨k=.free):=by
   rcases hx with z|z
   .exact{_,yD z,.inl rfl}
   .exact{_,yD z,.inr rfl}
  intros k hk e hm;have:=mY.mp has _ hk;rw[Cj]at this;rcases this with z|z
  .rcases e with e|e<;>(subst e;simp at z)
  .exact mem x z
structure aM(K:aD)(x:Str)(st:Stmt):Prop where
 ex:∃(f:Addr)(oc:Value)(od:Option Addr)(kV doc pm:Value)(an:Option Addr)(cdv ct:Value)(sl:Array (Option Value)),bJ K mainGlobals x=ι (ι (.ref f))/\
  K.lookup f=ι {oc,od,.func (qD x x (mz st) (iZ st) (aG st) .none kV doc pm an cdv ct),sl}/\ED K cdv x=true/\oR K (.ref f)=true
def aKu{f:Addr}{oc:Value}{od:Option Addr}{kV doc pm:Value}{an:Option Addr}{cdv ct:Value}{sl:Array (Option Value)}(a:bJ K mainGlobals x=ι (ι (.ref f)))
  (l:K.lookup f=ι {oc,od,.func (qD x x (mz st) (iZ st) (aG st) .none kV doc pm an cdv ct),sl}) (c:ED K cdv x=true) (k:oR K (.ref f)=true):aM K x st:=
 {f,oc,od,kV,doc,pm,an,cdv,ct,sl,a,l,c,(k)}
def aM.fn(F:aM K x st)(X:K.In h)(G:h.Ns mainGlobals mg)
  (hb:∀(kV doc pm:Value)(an:Option Addr)(cdv ct:Value)(us:List Value),us.length=ps.length->bindArgs (qD x x (mz st) (iZ st) (aG st) .none kV doc pm an cdv ct) {us,([])}=pure (ps.zip us)):Fn K mg x st ps:=by
 intros f oc od kV doc pm an cdv ct sl a l c k F.ex;have FF:=kF (st:=st) l c k;exact{f,_,FF,fZ X G a,FF.binds hb}
def aM.aO(F:aM K x st)(X:K.In h)(G:h.Ns mainGlobals mg)
  (hb:∀(kV doc pm:Value)(an:Option Addr)(cdv ct:Value)(us:List Value),us.length=ps.length->bindArgs (qD x x (mz st) (iZ st) (aG st) .none kV doc pm an cdv ct) {us,([])}=pure (ps.zip us):=by
   intro _ _ _ _ _ _ us hl;first
    |(obtain⟨_,rfl⟩:=L2.us1 hl;rfl)
    |(obtain⟨_,_,rfl⟩:=L2.us2 hl;rfl)
    |(obtain⟨_,_,_,rfl⟩:=L2.us3 hl;rfl)
    |(obtain⟨_,_,_,_,rfl⟩:=L2.us4 hl;rfl)
    |(obtain rfl:=L2.us0 hl;rfl)
    |(obtain⟨_,_,_,_,_,rfl⟩:=L2.us5 hl;rfl)
    |(obtain⟨_,_,_,_,_,_,rfl⟩:=L2.us6 hl;rfl)):Fn K mg x st ps:=F.fn X G hb
def aN{P:List Str}(kind:sc.kind=.function:=by rfl)(co:sc.isCoroutine=false:=by rfl)(gen:sc.isGenerator=false:=by rfl)(nd:N.Nodup:=by decide +kernel)(pre:N.take P.length=P:=by rfl)
  (par:∀x∈P,sc.names.lookup x=ι .local∨sc.names.lookup x=ι .cell:=by decide +kernel)(Yl:∀y∈sc.names,y.2≠ .free:=by decide +kernel):aL N P sc:={kind,co,gen,nd,pre,par,(Yl)}
structure qC(J:It)(xs:τ)(H1:Hp):Prop where
 go:∀i H',Same H1 H'->i<xs.length->J.go i H'
 m5:∀i H' x H2,Same H1 H'->J.m5 i H' x H2->H2=H'/\(i<xs.length->xs[i]?=ι x)
 stop:∀i H',Same H1 H'->xs.length<=i->J.stop i H'
def ou(hq:ak K H1 a xs):qC (rm K a) xs H1:=
 {λi H' g h=>{xs,xs[i],g.seq hq,by simp[h]},λi H' x H2 g y=>{y.1,λ_=>y.2 xs (g.seq hq)},λi H' g h=>{xs,g.seq hq,h}}
def xG(hq:ao K H1 a xs):qC (La K a) xs H1:=
 {λi H' g h=>{xs,xs[i],g.Rz hq,by simp[h]},λi H' x H2 g y=>{y.1,λ_=>y.2 xs (g.Rz hq)},λi H' g h=>{xs,g.Rz hq,h}}
def BF{lo:Int}{n:Nat}:qC (qK lo n) ((gq n).map λi=>V.int (lo+(i:Nat))) H1:=
 {λi H' g h=>show i<n by simpa using h,λi H' x H2 g y=>{y.1,λh=>by
  have h':i<n:=by simpa using h
  rw[List.getElem?_map,List.getElem?_range h',y.2];rfl},λi H' g h=>show n<=i by simpa using h}
def pI{tc:TT}{te:TE}(I:qC J xs H1)(hz:xs.length<=sizeLine){rest:St}(hst:cst ix σ=ν::rest)(p:V->Bool)(F:V->V)
  (ht:∀H' x,Same H1 H'->x∈xs->∀k:Bool->Hp->Prop,k (p x) H'->tc (ι x::rest) H' k)
  (he:∀H' x,Same H1 H'->x∈xs->p x=true->∀k:VK,k (F x) H'->te (ι x::rest) H' k)
  (hQ:∀D,H1 D=ν->Q (.ref D) (upd H1 D (.lst ((xs.filter p).map F)))):
  jV ix (gU 0) tc te σ Q J H1:=by
 constructor;intro D hD;refine{λi m σ' H'=>m=xs.length-i/\i<=xs.length/\(∃o,σ'=o::rest)/\H'=upd H1 D (.lst (((xs.take i).filter p).map F)),{xs.length,by simp,cZ _,{ν,(hst)},by simp},?_};rintro i m σ' H' ⟨rfl,hi,⟨o,rfl⟩,rfl⟩;have g:Same H1 (upd H1 D (.lst (((xs.take i).filter p).map F))):=Same.new hD _;by_cases hlt:i<xs.length
 .refine .inr {I.go i _ g hlt,λx H2 y=>?_};obtain⟨rfl,hx⟩:=I.m5 i _ x H2 g y;have hx:=hx hlt;have hm:x∈xs:=List.mem_of_getElem? hx;have et:xs.take (i+1)=xs.take i++[x]:=by
   rw[D8,hx];rfl
  show tc (ι x::rest) _ _;refine ht _ x g hm _ ?_;cases hp:p x with
  |true=>
   rw[if_pos rfl];refine he _ x g hm hp _ {_,aq,?_,xs.length-(i+1),⋯,rfl,hlt,{()},?_}
   .have h1:(((xs.take i).filter p).map F).length<=i:=by
     rw[aB];exact cM (ZR _ _) (by rw[m9];lia)
    lia
   .rw[aTp,et,Rq,fH];simp[hp]
  |false=>
   rw[if_neg gQ];exists xs.length-(i+1),⋯,rfl,hlt,{()};rw[et,Rq];simp[hp]
 .have e:i=xs.length:=⋯;subst e;refine .inl {I.stop _ _ g (aZ _),?_};rw[tX];exact hQ D hD
def yA{g:TG}{tb:TS}{D:Ends}(I:qC J xs H)(Pv:Nat->St->Hp->Prop)(h0:Pv 0 σ H)(hsame:∀i σ' H',Pv i σ' H'->Same H H')
  (hs:∀i x σ' H',xs[i]?=ι x->Pv i σ' H'->g x σ' H' λσ2 H2=>tb {D with nx:=Pv (i+1),ct:=Pv (i+1),bk:=D.nx} σ2 H2) (hd:∀σ' H',Pv xs.length σ' H'->D.nx σ' H'):
  ∃W:Nat->Nat->St->Hp->Prop,(∃m,W 0 m σ H)/\∀i m σ H,W i m σ H->
   (J.stop i H/\D.nx σ H)∨(J.go i H/\∃N:St->Hp->Prop,(∀σ' H',N σ' H'->∃m',m'<m/\W (i+1) m' σ' H')/\∀x H',J.m5 i H x H'->g x σ H' λσ2 H2=>tb {D with nx:=N,ct:=N,bk:=D.nx} σ2 H2):=by
 refine{λi m σ' H'=>m=xs.length-i/\i<=xs.length/\Pv i σ' H',{xs.length,by simp,cZ _,h0},?_};rintro i m σ' H' ⟨rfl,hi,p⟩;have gs:=hsame i σ' H' p;by_cases hlt:i<xs.length
 .refine .inr {I.go i _ gs hlt,Pv (i+1),λσ2 H2 p'=>{xs.length-(i+1),⋯,rfl,hlt,p'},λx H2 y=>?_};obtain⟨rfl,hx⟩:=I.m5 i _ x H2 gs y;exact hs i x σ' _ (hx hlt) p
 .have e:i=xs.length:=⋯;subst e;exact .inl {I.stop _ _ gs (aZ _),hd σ' H' p}
structure Bar(t:TE)(σ:St)(H:Hp)(Q:VK):Prop where
 go:t σ H Q
def aAZ(t:TE):TE:=λσ H Q=>Bar t σ H Q
def Bar.by(R:V->Hp->Prop)(h:∀k:VK,(∀v H1,R v H1->k v H1)->t σ H k)(q:∀v H1,R v H1->Q v H1):Bar t σ H Q:={h Q q}
def SD(h:PE X e t):PE X e (aAZ t):=λπ s σ H Q I q=>h π s σ H Q I q.go
structure lW(t:TS)(D:Ends)(σ:St)(H:Hp):Prop where
 go:t D σ H
def aL3(t:TS):TS:=λD σ H=>lW t D σ H
def mX{t:TS}(h:PS X st t):PS X st (aL3 t):=λπ s σ H D I q=>h π s σ H D I q.go
theorem lW.by{t:TS}{σ:St}{H:Hp}(R:St->Hp->Prop)(h:∀N:St->Hp->Prop,(∀σ' H',R σ' H'->N σ' H')->t {D with nx:=N} σ H)(q:∀σ' H',R σ' H'->D.nx σ' H'):lW t D σ H:=by
 constructor;exact h D.nx q
end
end L2
namespace HT
open PySem PyProof.Rows
section
variable {prog:Program}{w:World}{A:Around}{E:χ}{s:Shared}
def aAi{t sl:Addr}{items:Array Value}{vl vu:Value}{lo hi:Option Int}{Q:χ}(ht:IsTup s.heap t items)(hs:s.heap.IsSliceOf sl vl vu .none)(pl:IsPart vl lo)(pu:IsPart vu hi)
  (hw:bN items.size 0 lo=0/\bN items.size items.size hi=items.size) (h:Q (.ref t) s):wpAny (model prog w) A (getItem (.ref t) (.ref sl)) Q E s:=by
 obtain⟨os,hos,hcs,hds⟩:=id hs;have hTs:s.TypeIs (.ref sl) "slice" := {os,hos,(hcs)};unfold getItem;try with_reducible refine wpAny_holding ?_
 first|refine wpAny_bind (wpAny_pure ?_)|skip
 refine wpAny_bind (wpAny_sequenceKey ht.typeIs ∅ ?_);refine wpAny_bind (wpAny_callSpecial?_slot (name:=Str.ofString "__getitem__") ht.typeIs EW
  (wpAny_call_entry EW ht.typeIs entry_tuple_getitem ?_ (args_tuple_getitem _ _)))
 show wpAny _ _ (Builtin.Tuple.tupleItemsOf (.ref t)>>=_) _ _ s;refine wpAny_bind (tupleItemsOf_ ht ?_);refine wpAny_bind (wpAny_typeOf hTs ?_);rw[if_pos ∅];refine wpAny_bind (LP hs pl pu ?_);have hyes:(((bN items.size 0 lo:Nat):Int)==0&&(1:Int)==1&&(bN items.size items.size hi-bN items.size 0 lo)==items.size)=true:=by
  rw[hw.1,hw.2];simp
 show wpAny _ _ (if(((bN items.size 0 lo:Nat):Int)==0&&(1:Int)==1&&(bN items.size items.size hi-bN items.size 0 lo)==items.size)=true then _ else _) _ _ s;rw[if_pos hyes];unfold Builtin.Tuple.tupleIsExact;refine wpAny_bind (wpAny_bind (wpAny_typeOf ht.typeIs (wpAny_pure ?_)));rw[if_pos ∅];exact wpAny_bind (wpAny_rule (wpAny_pure {(),wpAny_pure h}))
end
end HT
namespace L2
open PySem PySem.Spec PyProof.Rows
def ays:qJ X (λx lo hi H Q=>∃a xs,x=.ref a/\ao X.K H a xs/\(HT.bN xs.length 0 lo=0/\HT.bN xs.length xs.length hi=xs.length)/\Q (.ref a) H):=by
 intro π s σ H x v vl vu lo hi sl Q I rx hs pl pu h;intros a xs rfl hx hw q h;cases rx;obtain⟨its,r,ht,hz⟩:=I.tuple hx;have hlen:its.toArray.size=xs.length:=by rw[gC];exact r.length.symm
 exists "tuple",_,EW.lookup,ht.typeIs;exact HT.aAi ht hs pl pu (by rw[hlen];exact hw) {.ref a,H,I,rfl,q}
def boot_all:bootBuiltins "all"=ι (.builtin "all"):=by decide +kernel
def boot_str:bootBuiltins "str"=ι (.type "str"):=by decide +kernel
section
variable {X:Cx}(K:aD)
def qJ.imp(h:qJ X r)(i:∀x lo hi H Q,r' x lo hi H Q->r x lo hi H Q):qJ X r':=λπ s σ H x v vl vu lo hi sl Q I rx hs pl pu q=>h π s σ H x v vl vu lo hi sl Q I rx hs pl pu (i _ _ _ _ _ q)
def aPJ(hK:X.K=K:=by rfl):cQ X (binaryOp .Add) (Dw K):=by subst hK;exact v_add
def xix(hK:X.K=K:=by rfl):oH X (OJ K):=by subst hK;exact aFW
def wD{k:Nat}(hr:cX k X.A)(hK:X.K=K:=by rfl):cQ X (compareOp .Eq) (pC K id):=by subst hK;exact v_eq hr
def xne{k:Nat}(hr:cX k X.A)(hK:X.K=K:=by rfl):cQ X (compareOp .NotEq) (pC K not):=by subst hK;exact awo hr
def aRB(hK:X.K=K:=by rfl):iM X (.builtin "len") (dA K):=by subst hK;exact aP8
def YJ(hc:X.calm=true)(hK:X.K=K:=by rfl):iM X (.builtin "all") (λxs H Q=>∃(l:Addr) (bs:List Bool),xs=[.ref l]/\ak K H l (bs.map V.bl)/\Q (.bl (bs.all id)) H):=by subst hK;exact v_all hc
def nz(hc:X.calm=true)(hK:X.K=K:=by rfl):iM X (.builtin "sum") (λxs H Q=>∃(l:Addr) (ns:ζ),xs=[.ref l]/\ak K H l (ns.map V.int)/\Q (.int ns.sum) H):=by subst hK;exact v_sum hc
def xlist(hK:X.K=K:=by rfl):iM X (.type "list") (λxs H Q=>∃p ys,xs=[.ref p]/\(ak K H p ys∨ao K H p ys)/\∀l,H l=ν->Q (.ref l) (upd H l (.lst ys))):=by subst hK;exact aPS
def mV(hK:X.K=K:=by rfl):iM X (.type "tuple") (λxs H Q=>∃p ys,xs=[.ref p]/\((ak K H p ys/\∀l,H l=ν->Q (.ref l) (upd H l (.tup ys)))∨(ao K H p ys/\Q (.ref p) H))):=by subst hK;exact aPP
def GU(K:aD):V->Option Int->Option Int->Hp->VK->Prop:=λx lo hi H Q=>match x with
 |.ref a=>(∃xs,ak K H a xs/\∀p,H p=ν->Q (.ref p) (upd H p (.lst (fO xs lo hi))))∨
   (∃xs,ao K H a xs/\¬(HT.bN xs.length 0 lo=0/\HT.bN xs.length xs.length hi=xs.length)/\∀p,H p=ν->Q (.ref p) (upd H p (.tup (fO xs lo hi))))∨
   (∃xs,ao K H a xs/\(HT.bN xs.length 0 lo=0/\HT.bN xs.length xs.length hi=xs.length)/\Q (.ref a) H)
 |_=>False
def m6(hK:X.K=K:=by rfl):qJ X (GU K):=by
 subst hK;refine(aGn.or (aNg.or ays)).imp λx lo hi H Q h=>?_;unfold GU at h;split at h
 .rcases h with⟨xs,h⟩|⟨xs,h⟩|⟨xs,h⟩
  .exact .inl {_,xs,rfl,h}
  .exact .inr (.inl {_,xs,rfl,h})
  .exact .inr (.inr {_,xs,rfl,h})
 .exact h.elim
def d7{tg l:Expr}{tl:TE}(hl:PE X l tl)(hK:X.K=K:=by rfl):PI X tg l (Q3 K tl):=by subst hK;exact ayg hl
def aNY{es:List Expr}{k:Nat}{t:uJ}{n:Nat}{pos:Pos}(hc:X.calm=true)(h:Av X es t)(hK:X.K=K:=by rfl)
  (hn:(assignEach es X.env).length=n:=by rfl) (hst:(assignEach es X.env).findIdx? (·.1)=ν:=by rfl):PG X (.Tuple es k pos) (Pj K n t):=by subst hK;exact ax4 hc h hn hst
def nq{o e:Expr}{to:TE}{te:TE}{apos cpos:Pos}(ho:PE X o to)(he:PE X e te)(hK:X.K=K:=by rfl)
  (hbase:attributeBase o "append" X.env (eval o X.env)=eval o X.env:=by rfl)
  (hfew:((backTo cpos (starEach [e] X.env)).all (λx=>!x.1)&&(backToKw cpos (keywordEach [] X.env)).all (λx=>x.1.isSome)
   && decide ([e].length+([]:List Keyword).length+(if([]:List Keyword).isEmpty then 0 else 1)<30))=true:=by rfl)
  (hline:(apos.endLine==cpos.line)=true:=by rfl) (hs:starEach [e] X.env=(false,eval e X.env)::starEach [] X.env:=by rfl):
  PE X (.Call (.Attribute o "append" apos) [e] [] cpos) (Qx K "list" A1 to (uq te uD)):=by
 subst hK;exact kR RB PySem.F.slot_list_append PySem.F.type_list_append xb ho (xV he iW hs) hbase hfew hline hs rfl
def PX{o e:Expr}{to:TE}{te:TE}{apos cpos:Pos}(ho:PE X o to)(he:PE X e te)(hK:X.K=K:=by rfl)
  (hbase:attributeBase o "extend" X.env (eval o X.env)=eval o X.env:=by rfl)
  (hfew:((backTo cpos (starEach [e] X.env)).all (λx=>!x.1)&&(backToKw cpos (keywordEach [] X.env)).all (λx=>x.1.isSome)
   && decide ([e].length+([]:List Keyword).length+(if([]:List Keyword).isEmpty then 0 else 1)<30))=true:=by rfl)
  (hline:(apos.endLine==cpos.line)=true:=by rfl) (hs:starEach [e] X.env=(false,eval e X.env)::starEach [] X.env:=by rfl):
  PE X (.Call (.Attribute o "extend" apos) [e] [] cpos) (Qx K "list" P6 to (uq te uD)):=by
 subst hK;exact kR RB PySem.F.slot_list_extend PySem.F.type_list_extend aSD ho (xV he iW hs) hbase hfew hline hs rfl
end
def Qc{j}(h:PE X (.Constant c j p) te)(hr:PA X es t):PA X ((.Constant c j p)::es) (uq te t):=xV h hr rfl
def yy(h:PE X (.Name x p) te)(hr:PA X es t):PA X ((.Name x p)::es) (uq te t):=xV h hr rfl
def xJ(a C:Addr):HO:=.ext λh=>∃o vs,h.get? a=ι o/\o.cls=.ref C/\o.data=.fields vs
def G6(ob:Obj):Prop:=∃vs,ob.data=.fields vs/\vs[2]?=ι .none
def aJI(e:h.get? a=ι o)(hc:o.cls=.ref C)(hd:o.data=.fields vs):fB P w H h a (xJ a C):=
 {{o,vs,e,hc,(hd)},{o,(e)},λ_ _ ⟨o,vs,e,r⟩ k=>{o,vs,k o e,r}}
def fB.there(x:fB P w H h a o):∃u,h.get? a=ι u:=by
 cases o with
 |lst xs=>intros _ _ _ _ e x;exact{_,e}
 |tup xs=>intros _ _ _ o e _ x;exact{_,e}
 |dK kvs=>intros _ _ _ _ o _ _ e _ x;exact{_,e}
 |dT kvs=>intros _ _ _ _ o _ _ e _ x;exact{_,e}
 |set S n=>intros o _ _ _ e _ x;exact{_,e}
 |ins C dx fs=>intros _ _ _ e _ x;exact{_,e}
 |own y=>exact x
 |xd fs=>obtain⟨_,⟨_,_,_,e,_⟩,_⟩:=x;exact{_,e}
 |rng lo hi=>intros _ _ _ e x;exact{_,e}
 |gP ob u=>intros e _ x;exact{_,e}
 |uK ps=>exact{_,(show h.get? a=ι _ from x)}
 |met f y=>exact{_,(show h.get? a=ι _ from x)}
 |ext φ=>exact x.2.1
inductive ClA(h:Heap)(z:Addr):Prop|mk{a b c d e f g i j k l m n o p q r}(_:h.get? z=ι (excClassObj a b z c d e f g i j k l m n o p q r))(_:e.contains (.type "BaseException")=true)
inductive zK(h:Heap)(C R:Addr):Prop|mk{a b c d e f g i j k l m n o p q r}(_:h.get? C=ι (excClassObj a b C c d e f g i j k l m n o p q r))(_:(Value.ref C::e).contains (.ref R)=true)(_:ClA h R)
def ctn(h:l.contains a=true):(b::l).contains (a:Value)=true:=by rw[List.contains_cons,h,Bool.or_true]
def aTj{M:Model}{A:Around}{E:χ}{h:Heap}{g:Array GenState}{d:Drawn}{t:Nat}{os:OsState}{e C R:Addr}{oe:Obj}{Q:Bool->Shared->Prop}{base:Heap}(S:zK base C R)(kb:∀b o,base.get? b=ι o->h.get? b=ι o)
  (he:h.get? e=ι oe) (hcls:oe.cls=.ref C) (hq:Q true {h,g,d,t,(os)}):wpAny M A (excMatches (.ref e) (.ref R)) Q E {h,g,d,t,(os)}:=by
 intros hC hs hR hB S;have hC:=kb _ _ hC;have hR:=kb _ _ hR;have hcB:=ctn (b:=.ref R) hB
 have f:=tc_notTuple;unfold excMatches
 repeat (first|(with_reducible refine wpAny_loadPart_at he ?_;rw[hcls])|with_reducible refine wpAny_loadPart_at hR ?_|(with_reducible refine wpAny_isSubtype_exc hR ?_;rw[hcB])|(with_reducible refine wpAny_isSubtype_exc hC ?_;rw[hs])|wp_step)
 exact hq
def Inv.track(I:Inv X π σ H s)(hn:H a=ν)(h0:∀u,X.s₀.heap.get? a≠ι u)(hL:a≠X.env.locals)(hc:∀x c,X.env.cells.lookup x=ι c->c≠a)(hp:∀p∈X.pn++π,p.1≠a)
  (new:fB X.prog X.w (upd H a o) s.heap a o):Inv X π σ (upd H a o) s:=by
 have ne:∀b u,H b=ι u->b≠a:=λb u e=>jz e hn;refine{I.ok,I.os,I.bare,{I.base.keep,I.base.slot,λb u e n hx=>?_,I.base.there,λb xs e=>?_,λb u xs e=>?_,λb ps e=>?_},I.loc,I.cell,?_,λx c e=>?_,λp q=>?_,λb u e=>?_,I.len}
 .rw[cH (λz=>h0 u (by rw[<-z];exact e))];exact I.base.free b u e n hx
 .have:=I.base.tups b xs e;rw[cH (ne b _ this)];exact this
 .have:=I.base.kO b u xs e;rw[cH (ne b _ this)];exact this
 .obtain⟨m,this⟩:=I.base.oE b ps e;exact{m,by rw[cH (ne b _ this)];exact this}
 .rw[cH (jB hL)];exact I.free
 .rw[cH (hc x c e)];exact I.oO x c e
 .obtain⟨e1,e2,e3⟩:=I.pin p q;exact{e1,by rw[cH (hp p q)];exact e2,e3}
 .by_cases hb:b=a
  .subst hb;rw[aq]at e;cases e;exact new
  .rw[cH hb]at e;exact(I.hok b u e).stay (λ_ _ _ q=>q) (λc q=>by rw[cH (ne c _ q)];exact q) λc xs q=>by rw[cH (ne c _ q)];exact q
def Inv.unset(I:Inv X π σ H s)(hN:X.N.Nodup)(hj:X.N[j]?=ι n)(hm:s.heap.Ns X.env.locals m)
  (hn:h'.Ns X.env.locals λy=>if y=n then v else m y)(hs:Ig X.env.locals s.heap h'):Inv X π (σ.set j ν) H {s with heap:=h',toks:=t'}:=by
 obtain⟨m2,hn2,hl⟩:=id I.loc;obtain⟨oL,_,_,hoL,_⟩:=id hm;have em:m2=m:=by
  intros o1 es1 ep1 ho1 hd1 hk1 hf1 hn2;intros o2 es2 ep2 ho2 hd2 hk2 hf2 hm;rw[ho1]at ho2;cases ho2;rw[hd1]at hd2;cases hd2
  funext y;rw[<-hf1 y,<-hf2 y]
 subst em;refine{I.ok,I.os,I.bare,{λb o e nn hb hx=>?_,λb o e nn hb hx=>?_,I.base.free,λb o e hx=>?_,I.base.tups,I.base.kO,I.base.oE},{_,hn,λi y u e1 e2 e3=>?_},λy c e=>?_,I.free,I.oO,λp hp=>?_,λb u e=>?_,by simpa using I.len}
 .exact(hs.2 b (jr (gJ (dz e) I.ok.above))).trans (I.base.keep b o e nn hb hx)
 .obtain⟨sl,e1⟩:=I.base.slot b o e nn hb hx;exact{sl,(hs.2 b (jr (gJ (dz e) I.ok.above))).trans e1}
 .obtain⟨o',e1⟩:=I.base.there b o e hx;exact{o',(hs.2 b (jr (gJ (dz e) I.ok.above))).trans e1}
 .by_cases hji:i=j
  .subst hji;by_cases hlt:i < σ.length
   .rw[List.getElem?_set_self hlt]at e2;cases e2
   .rw[List.getElem?_eq_none (by simp;lia)]at e2;cases e2
  .rw[List.getElem?_set_ne (jB hji)]at e2;obtain⟨u',r',q⟩:=hl i y u e1 e2 e3;exists u',r';rcases q with⟨k,e⟩|⟨k,c,e,z⟩
   .refine .inl {k,?_};have:y≠n:=λz=>hji (ZM hN e1 (z▸hj));simp[this,e]
   .exact .inr {k,c,e,z.sameBut hs (I.xW y c e)}
 .obtain⟨w',z⟩:=I.cell y c e;exact{w',z.sameBut hs (I.xW y c e)}
 .obtain⟨e,nn,ne,nf,d⟩:=I.pin p hp;exact{(hs.2 p.1 ne).trans e,nn,ne,nf,d}
 .refine(I.hok b u e).stay (λc w' hc q=>(hs.2 c ?_).trans q) (λ_ q=>q) λ_ _ q=>q;rintro rfl;rcases hc with z|hc
  .rw[<-z,I.free]at e;cases e
  .rw[I.free]at hc;cases hc
section
variable {X:Cx}{π:List (Addr×Obj)}{σ:St}{H:Hp}{s:Shared}
def vA(X:Cx)(a:Addr):Cx:={X with A:=X.A.mark (ι (.ref a)),calm:=false,xe:=λ_ _=>False}
def Inv.suite(I:Inv X π σ H s)(a:Addr):Inv (vA X a) π σ H s:=
 {{I.ok.mod,I.ok.kind,I.ok.glob,I.ok.blt,I.ok.above,I.ok.inj,I.ok.has,I.ok.cab,(λz=>by cases z),I.ok.frames,I.ok.stk,I.ok.Yh,I.ok.bs,I.ok.uM,I.ok.Ck,I.ok.Ei,I.ok.qd,I.ok.zX,I.ok.tree,I.ok.top},
  I.os,I.bare,I.base,I.loc,I.cell,I.free,I.oO,I.pin,I.hok,I.len}
def Inv.aN0(ok:X.Ok)(I:Inv (vA X a) π σ H s):Inv X π σ H s:=
 {ok,I.os,I.bare,I.base,I.loc,I.cell,I.free,I.oO,I.pin,I.hok,(I.len)}
abbrev TT2:=St->Hp->VK->XK->Prop
def PT2(X:Cx)(c:Expr)(t:TT2):Prop:=∀π s σ H (Q:VK) (E:XK),Inv X π σ H s->t σ H Q E->wpAny (model X.prog X.w) X.A (eval c X.env) (λu s2=>∃s1 H1,Inv X π σ H1 s1/\CE X.stack X.prog X.w H1 s1 Q u s2) (λev s2=>∃s1 H1,Inv X π σ H1 s1/\jX X.prog X.w X.stack H1 s1 E ev s2) s
def Cs(F:kj X.prog X.w X.K X.mg X.base (jX X.prog X.w) k f fd ps sp)(hr:cX k X.A)(hb:Binds X.K fd ps [])
  (I1:Inv X π σ H1 s1)(r:Vals vs us)(q:sp vs H1 Q E):wpAny (model X.prog X.w) X.A (call (.ref f) us) (λu s2=>∃s1 H1,Inv X π σ H1 s1/\CE X.stack X.prog X.w H1 s1 Q u s2) (λev s2=>∃s1 H1,Inv X π σ H1 s1/\jX X.prog X.w X.stack H1 s1 E ev s2) s1:=by
 have hl:(us++[]).length=ps.length:=by
  rw[rJ,<-r.length];exact F.len _ _ _ _ q
 refine wpAny_call (codeAny_mono (F.run X.A X.stack s1 H1 {us,([])} (us++[]) vs _ _ hr I1.env0 (hb s1 us I1.dR hl) (by rw[rJ];exact r) q) λrs s2 hq=>?_);cases rs with
 |ok fl=>
  cases fl with
  |ret u=>exact{s1,H1,I1,(hq)}
  |next=>exact False.elim hq
  |brk=>exact False.elim hq
  |cont=>exact False.elim hq
 |error ev=>exact{s1,H1,I1,(hq)}
def aIf(C:rM X.prog X.w X.K X.mg X.base f k ps sp)(hr:cX k' X.A)(hg:Gl X f)(ha:PA X.sW (e::es) t)(hk:k<=k')
  (hdf:(f==("__debug__":Str))=false)(he:starEach (e::es) X.env=(false,eval e X.env)::starEach es X.env)(hpl:(backTo cpos (starEach es X.env)).any (·.1)=false):PT2 X (.Call (.Name f fp) (e::es) [] cpos) (λσ H Q E=>t σ H λvs H1=>sp vs H1 Q E):=by
 intro π s σ H Q E I h;intros gf gd hm hkp hb F C.ex;refine wpAny_Call_Name_kw (qP I hg hm ?_ hdf);refine Iv (h₀:=X.base) I.ok.mod.zF hkp (wpAny_mono (ha cpos π s σ H _ (I.wish _) h) (λus s1 ⟨vs,H1,I1',r,q⟩=>{I1'.dR,?_}) λ_ _ z=>z.elim) he hpl;exact Cs F (hr.mono hk) hb I1'.qW r q
def aPi(base:Heap)(R:Addr)(tc:TT2)(i j:Nat)(ts:Addr->TS):TS:=λD σ H=>tc σ H (λv H2=>D.nx (σ.set i (ι v)) H2)
 (λcls _ H2=>∃C,cls=.ref C/\zK base C R/\∀a ob,H2 a=ν->G6 ob->
  ts a {nx:=λσ' H'=>D.nx (σ'.set j ν) H',rt:=D.rt,bk:=λσ' H'=>D.bk (σ'.set j ν) H',ct:=λσ' H'=>D.ct (σ'.set j ν) H'} (σ.set j (ι (.ref a))) (upd H2 a (.gP ob (xJ a C))))
def RY
  (hc:PT2 X c tc)(W4:X.stack=X.env::X.outer)(hfr:X.env.frame=ι X.env.locals)(hex:X.ex=[])(hN:X.N.Nodup)(hi:X.N[i]?=ι v)(hv:Loc X.env.scope v)
  (hj:X.N[j]?=ι n)(hn:X.env.scope.names.lookup n=ι .local)(hx:Gl X x)(hR:X.mg x=ι (.ref R))(hs:∀a,jN (vA X a) (b₀::suite) (ts a))
  (hdx:(x==("__debug__":Str))=false:=by decide)
  (hsw:swapsWith c (ι (.Name v aix)) apos.line X.env=pure false:=by rfl)(hfv:X.fn v=true∨X.env.scope.names.lookup v=ι .local:=by trivial):
  PS X (.Try [.Assign [.Name v aix] c apos] [.ExceptHandler (ι (.Name x xp)) (ι n) (b₀::suite) hpos] [] [] pos) (aPi X.base R tc i j ts):=by
 intro π s σ H D I h;have nx:∀b:Addr,b∉X.ex:=λb=>by rw[hex];simp
 refine wpAny_Try_except ?_;refine wpAny_execs_cons (wpAny_Assign_Name (wpAny_mono (hc π s σ H _ _ I h) (λu s2 ⟨s1,H1,I1,hq⟩=>?_) λev s2 ⟨s1,H1,I1,hq⟩=>?_) hsw)
 .obtain⟨y,H2,I2,ry,q2⟩:=I1.after hq;refine Gx I2 hN hi hv ry (λs3 I3=>?_) hfv;exact wpAny_execs_nil (wpAny_execs_nil {_,H2,I3,q2})
 .obtain⟨ea,Cc,a0,B,H2,rfl,os,bare,fl,hok,un,old,C',eC,S,q2⟩:=jX.ex hq;obtain⟨ea',ee,kk⟩:=jX.k2 hq;cases ee;cases eC;rw[W4]at fl;have UL:frs X.stack=(X.env::X.outer).filterMap (·.frame):=by rw[W4];rfl
  have oe:=fl.first;have newE:∀u,s1.heap.get? ea≠ι u:=λu z=>by
   rcases old ea u z with hb|⟨o',hb⟩
   .rw[UL]at hb;obtain⟨_,o,ho,hd⟩:=fl.2.2.1.mem hb;intros o2 vs2 e1 _ e2 _ oe;rw[e1]at ho;cases ho;exact hd _ e2
   .rw[fl.2.1]at hb;cases hb
  have to:∀h6,Gs B (X.env::X.outer) ea (.ref Cc) a0 h6->s2.heap.UpToSlots h6->Inv X π σ H2 {s2 with heap:=h6}:=λh6 Cg up=>by
   refine I1.ky (ch:=[]) os {λb o e1 n1 hb _=>?_,λb o e1 n1 hb _=>?_,λb o e1 n1 _=>un.free b o e1 n1 (by simp),λb o e1 _=>?_,un.tups,un.kO,un.oE} (hok.kept Cg.1) bare (λ_ z=>nomatch z)
   .rcases old b o e1 with z|⟨o',z⟩
    .exact absurd z hb
    .have e2:=un.keep b o e1 n1 hb (by simp);have e3:=fl.1 b o' z;rw[e2]at e3;cases e3;exact Cg.1 b _ z
   .obtain⟨sl,e2⟩:=un.slot b o e1 n1 hb (by simp);rw[UL]at hb;obtain⟨_,o2,ho,hd⟩:=fl.2.2.1.mem hb;rw[e2]at ho;cases ho;obtain⟨sl',e3⟩:=up b _ e2 hd;exact{sl',(e3)}
   .rcases old b o e1 with z|⟨o',z⟩
    .rw[UL]at z;obtain⟨_,o2,ho,hd⟩:=fl.2.2.1.mem z;obtain⟨sl',e3⟩:=up b _ ho hd;exact{_,e3}
    .exact{o',Cg.1 b o' z}
  have aCg:X.A.frames=ι (X.env::X.outer):=by rw[I.ok.frames,W4]
  refine Pt aCg fl.2.2.1 hfr fl.2.2.2 fl.1 fl.2.1 kk λh4 Nq up4 kk4=>?_;refine PZ Nq.1 Nq.2.1 Nq.2.2.1 Nq.2.2.2 kk4 λh5 Fl up5 kk5=>?_;have I5:=to h5 Fl (up4.trans up5);intros ob hob hobc Fl.there;refine wpAny_handleBy_cons (codeAny_handlers_test (qP (X:=vA X ea) (I5.suite ea) hx hR ?_ hdx)) (by intro z;cases z);refine aTj S I5.bk hob hobc (codeAny_handlers_suite_as ?_);refine PZ Fl.1 Fl.2.1 Fl.2.2.1 Fl.2.2.2 kk5 λh6 Cg up6 kk6=>?_;have I6:=to h6 Cg ((up4.trans up5).trans up6);intros Xw vs6 e6 c6 d6 _ Cg.first;have cm:G6 Xw:=by
   intros o' v' g1 g2 g3 kk6;rw[e6]at g1;cases g1;exact{v',g2,(g3)}
  have hn2:H2 ea=ν:=by
   cases z:H2 ea with
   |none=>rfl
   |some u=>
    exfalso
    obtain⟨o',z'⟩:=(hok ea u z).there;rw[fl.2.1]at z';cases z'
  have I7:Inv X π σ (upd H2 ea (.gP Xw (xJ ea Cc))) {s2 with heap:=h6}:=by
   refine I6.track hn2 (λu z=>?_) (λz=>?_) (λy c e z=>?_) (λp hp z=>?_) {e6,aJI e6 c6 d6}
   .obtain⟨o',e1⟩:=I1.base.there ea u z (nx ea);exact newE o' e1
   .obtain⟨m,⟨o,_,_,ho,_⟩,_⟩:=I1.loc;exact newE o (by rw[z];exact ho)
   .obtain⟨v',o,ho,_⟩:=I1.cell y c e;exact newE o (by rw[<-z];exact ho)
   .exact newE p.2 (by rw[<-z];exact(I1.pin p hp).1)
  refine Gx (X:=vA X ea) (I7.suite ea) hN hj (.inl hn) (show RelV (.ref ea) (Value.ref ea)from rfl) (λs8 I8=>?_) (.inr hn);have q3:=q2 ea Xw hn2 cm;have gone:∀{σ9:St} {H9:Hp} {s9:Shared} {Q':Unit->Shared->Prop},Inv (vA X ea) π σ9 H9 s9->(∀uZ,Inv X π (σ9.set j ν) H9 uZ->Q' () uZ)->wpAny (model X.prog X.w) X.A (do bindName X.env n .none;unbindBehindTheSuite X.env n hpos) Q' X.xe s9:=
   λ{σ9 H9 s9 Q'} I9 k=>by
    have I9':Inv X π σ9 H9 s9:=I9.aN0 I.ok;obtain⟨m,hm9,_⟩:=id I9'.loc;exact wpAny_nameGoes_keeps hn hm9 (by rw[I.ok.kind];rfl) λh' v' n' sb=>k _ (I9'.unset hN hj hm9 n' sb)
  refine wpAny_mono (hs ea π s8 _ _ _ I8 q3) (λfl9 s9 q9=>?_) λ_ _ z=>z.elim;cases fl9 with
  |next=>
   intros σ9 H9 I9 q9 q9;exact gone I9 λuZ wK=>{_,H9,wK,q9}
  |brk=>
   intros σ9 H9 I9 q9 q9;exact gone I9 λuZ wK=>{_,H9,wK,q9}
  |cont=>
   intros σ9 H9 I9 q9 q9;exact gone I9 λuZ wK=>{_,H9,wK,q9}
  |ret u=>
   intros y σ9 H9 I9 r9 q9 q9;exact gone I9 λuZ wK=>{y,_,H9,wK,r9,q9}
structure qt(K:aD)(C:Addr):Prop where
 ga:gK K (.ref C) "__getattribute__"=ι (ι (.builtin "BaseException.__getattribute__"))
 gt:gK K (.ref C) "__getattr__"=ι ν
 cl:gK K (.ref C) "__class__"=ι (ι (.builtin "object.__class__"))
 mb:rP K C (.type "BaseException")=ι true
 mo:rP K C (.type "object")=ι true
 is:(BL K C).isSome=true
end
section
variable {prog:Program}{w:World}{A:Around}{E:χ}{h:Heap}{g:Array GenState}{d:Drawn}{t:Nat}{os:OsState}{a C:Addr}{o:Obj}{K:aD}
def aAw{R:Result->Shared->Prop}(S:qt K C)(X:K.In h)(hx:h.get? a=ι o)(hc:o.cls=.ref C)(hq:R (.ok (.ret (.ref C))) {h,g,d,t,(os)}):
  codeAny (model prog w) A (.call (.builtin "getset_descriptor.__get__") {[.builtin "object.__class__",.ref a,.ref C],[]}) R {h,g,d,t,(os)}:=by
 have hT5:({h,g,d,t,(os)}:Shared).TypeIs (.builtin "object.__class__") "getset_descriptor" := kg;have L1:=W.looks_mroIn (M:=model prog w) X S.mo;rw[<-F.owner_object_class]at L1;refine codeAny_call_builtin Vm.plain F.entry_gs_get (Vm.check _ _ _ _ _ _ _ _ hT5 (F.args_gs_get _ _ _) ?_)
 repeat (any_goals (first|assumption|(with_reducible refine wpAny_loadPart_at hx ?_;rw[hc])|with_reducible refine L1.at ?_|wp_step))
 refine{Code.quiet_builtin _ (by decide +kernel),codeAny_builtin F.entry_object_class ?_}
 repeat (any_goals (first|assumption|(with_reducible refine wpAny_loadPart_at hx ?_;rw[hc])|wp_step))
def aGw{tk:Tok}{Q:Fin->Shared->Prop}(S:qt K C)(X:K.In h)(hx:h.get? a=ι o)(hc:o.cls=.ref C)(hq:Q (.done (.ret (.ref C))) {h,g,d,t,(os)}):
  wpAny (model prog w) A (Builtin.«object.__getattribute__» {[.ref a,.str "__class__" tk],[]}) Q E {h,g,d,t,(os)}:=by
 have hT5:({h,g,d,t,(os)}:Shared).TypeIs (.builtin "object.__class__") "getset_descriptor" := kg;have L1:=TJ (M:=model prog w) X S.cl;have f5:=kg;have f6:=Vm.lookup;have f7:=F.slot_gs_set.lookup
 repeat (any_goals (first|assumption|(with_reducible refine wpAny_loadPart_at hx ?_;rw[hc])|with_reducible refine L1.at ?_|wp_step))
 refine aAw S X hx hc ?_
 repeat (any_goals (first|assumption|wp_step))
def aOm{nameV:Value}{Q:Unit->Shared->Prop}(S:qt K C)(X:K.In h)(hx:h.get? a=ι o)(hc:o.cls=.ref C)(hq:Q () {h,g,d,t,(os)}):
  wpAny (model prog w) A (checkBuiltinCall "BaseException.__getattribute__" {[.ref a,nameV],[]}) Q E {h,g,d,t,(os)}:=by
 have hk:builtinKind "BaseException.__getattribute__"=ι .slot:=by decide +kernel
 have hs:splitId "BaseException.__getattribute__"=ι ("BaseException","__getattribute__"):=by decide +kernel
 have L1:=W.looks_mroIn (M:=model prog w) X S.mb;have ha:=F.args_bexc_ga (.ref a) nameV;simp only[checkBuiltinCall,hk,hs];refine wpAny_bind ?_;unfold isInstance
 repeat (first|(with_reducible refine wpAny_loadPart_at hx ?_;rw[hc])|with_reducible refine L1.at ?_|wp_step)
 exact hq
def aO1{tk:Tok}{Q:χ}(S:qt K C)(X:K.In h)(hx:h.get? a=ι o)(hc:o.cls=.ref C)(hq:Q (.ref C) {h,g,d,t,(os)}):
  wpAny (model prog w) A (getAttrBy (.ref a) (.str "__class__" tk) false) Q E {h,g,d,t,(os)}:=by
 have f3:=TK.ga.bind (.ref a);have L1:=TJ (M:=model prog w) X S.ga;have L2:=TJ (M:=model prog w) X S.gt;have hx2:(Value.builtin "BaseException.__getattribute__" == Value.builtin "object.__getattribute__")=false:=by decide +kernel
 have hx1:(onTheHeap (Value.ref C)&&Value.builtin "BaseException.__getattribute__" == Value.builtin "object.__getattribute__")=false:=by rw[hx2];rfl
 repeat (any_goals (first|assumption|(with_reducible refine wpAny_loadPart_at hx ?_;rw[hc])|with_reducible refine L1.at ?_|with_reducible refine L2.at ?_|wp_step))
 refine codeAny_call_builtin TK.ga.plain F.entry_bexc_ga (aOm S X hx hc (aGw S X hx hc ?_))
 repeat (any_goals (first|assumption|wp_step))
def aK7{Q:Option Value->Shared->Prop}(S:qt K C)(X:K.In h)(hx:h.get? a=ι o)(hc:o.cls=.ref C)(hq:Q (ι (.ref C)) {h,g,d,t+1,(os)}):
  wpAny (model prog w) A (getAttr? (.ref a) "__class__") Q E {h,g,d,t,(os)}:=by
 unfold getAttr? getAttrBy?
 repeat (any_goals (first|assumption|with_reducible apply aO1 S X hx hc|wp_step))
end
section
variable {K:aD}{C:Addr}{X:Cx}{h:Heap}
def c9{a:Addr}(S:qt K C):W.KitX K (.ref a) (.ref C) (λh=>∃o vs,h.get? a=ι o/\o.cls=.ref C/\o.data=.fields vs) where
 ty:=λM h _ p=>by
  intros o _ h1 h2 _ p;exact h2▸(W.Looks.ld h1).andThen .now
 it:=λ_ _ X _=>by
  have hi:=S.is;unfold BL at hi;split at hi
  .rename_i c' d' cd' sl' ho
   intro A' Q' E' s' k q;unfold isType loadHead;exact wpAny_bind (wpAny_loadPart (k _ _ (X _ _ ho)) (wpAny_pure q))
  .cases hi
 ne:=λh tp dd its n sl X htp=>by
  have hi:=S.is;refine SJ.mpr λq=>?_;have e:C=tp:=Value.ref.inj (beq_iff_eq.mp q);subst e;unfold BL at hi;split at hi
  .rename_i c' d' cd' sl' ho
   have z:=(X _ _ ho).symm.trans htp;cases z
  .cases hi
 ca:=λ{prog w A E Q s} X p k=>by
  intros o vs h1 h2 _ p;intros h0 g d t os s;exact aK7 S X h1 h2 k
theorem ZZ:∀{Ds:List Addr} {us:List Value},Vals (Ds.map V.ref) us->us=Ds.map Value.ref
 |[],_,.nil=>rfl
 |D::Ds,_,.cons r t=>by
  have e:=ZZ (Ds:=Ds) t;cases (show _=Value.ref D from r);rw[e];rfl
def XO(K:aD):τ->Hp->VK->Prop:=λxs H Q=>∃a C y b,xs=[.ref a,y]/\Rd H a (xJ a C)/\qt K C/\
 ((∃D,y=.ref D/\bB K (.ref C) (.ref D)=ι b)∨(∃T,y=.ty T/\bB K (.ref C) (.type T)=ι b)∨(∃(p:Addr)(Ds:List Addr),y=.ref p/\H p=ι (.tup (Ds.map V.ref))/\W.kitAny K (.ref C) (Ds.map Value.ref)=ι b))/\Q (.bl b) H
def aBs:iM X (.builtin "isinstance") (XO X.K):=by
 intro π s σ H xs us Q I r h;intros a C y b rfl ha S h1 q h;intros u v rfl ru rv r.two;cases ru;have p:∃o vs,s.heap.get? a=ι o/\o.cls=.ref C/\o.data=.fields vs:=by
  rcases ha with ha|⟨o,ha⟩
  .exact(I.hok a _ ha).1
  .exact(show fB X.prog X.w H s.heap a (.gP o (xJ a C))from I.hok a _ ha).2.1
 have fin:∀tk,EP X π σ Q (.bool b) {s with toks:=tk}:=λtk=>{.bl b,H,I.tok tk,rfl,q};rcases h1 with⟨D,rfl,e⟩|⟨T,rfl,e⟩|⟨tp,Ds,rfl,ht,e⟩
 .cases rv;exact pQ (c9 S) I.dR p e (λz=>nomatch z) fin
 .cases rv;exact pQ (c9 S) I.dR p e (λz=>nomatch z) fin
 .cases rv;obtain⟨its,r2,p2,_⟩:=I.tuple (ao.of ht);have ei:=ZZ r2;subst ei;obtain⟨⟨cls,dd,data,sl⟩,ho,hc,n,hd⟩:=id p2;simp only at hc hd;subst hc hd;exact W.kia_tup (c9 S) I.dR p ho e (λz=>nomatch z) fin
def w6(K:aD)(hK:X.K=K:=by rfl):iM X (.builtin "isinstance") (XO K):=by subst hK;exact aBs
def yC(hg:Gl X x)(hm:X.mg x=ι (.ref C))(hd:(x==("__debug__":Str))=false:=by decide):PE X (.Name x pos) (tC (.ref C)):=rq hg hm rfl hd
def x9(X:K.In h)(hC:h.get? C=ι o):K.lookup C=ν∨K.lookup C=ι o:=by
 cases e:K.lookup C with
 |none=>exact .inl rfl
 |some o'=>rw[<-hC,X _ _ e];exact .inr rfl
def sg(X:K.In h)(q:uQ K C "BaseException" = true):ClA h C:=by
 obtain⟨_,_,_,_,_,_,_,_,_,_,_,_,_,_,_,_,_,a,b,_⟩:=W.kts_cls X q;exact{a,(b)}
def KR{mg:μ}(X:K.In h)(G:h.Ns mainGlobals mg)(e:bJ K mainGlobals x=ι (ι (.ref C)))
  (q:A8 K C [.type "ValueError",.type "Exception",.type "BaseException",.type "object"] newId=true)(q2:uQ K C "BaseException" = true)(Fn:ExcBaseFacts Bn newId inN bmN)
  (hBn:[Value.type "ValueError",.type "Exception",.type "BaseException",.type "object"].contains (.type Bn)=true):Ae mg h x C:=by
 obtain@⟨_,_,ns,_,bm,_,_,_,_,_,_,_,_,_,_,_,n,hC,_⟩:=sg X q2;unfold A8 at q;rcases x9 X hC with z|z<;>rw[z]at q
 .cases q
 .have q:(C==C&&n==newId&&!false&&W.tailIn K _ bm&&W.nsOkIn K ns&&bJ K ns "__init__" == ι ν)=true:=q;simp only[oN,beq_iff_eq]at q;obtain⟨⟨⟨⟨⟨_,rfl⟩,_⟩,ht⟩,hok⟩,hni⟩:=q;exact{_,n,{fZ X G e,_,_,_,_,_,_,_,_,_,_,_,_,_,_,_,_,_,hC,.of_isNs (W.isNs_of_in X hok),W.nsMap_none_of_in X hok hni,W.tail_of_in X ht},Bn,inN,bmN,_,_,_,Fn,hBn,CB}
def DP(K:aD)(C R:Addr):Bool:=match K.lookup C with
 |some ⟨_,_,.cls cd,_⟩=>cd.mro.contains (.ref R)
 |_=>false
def Qw(X:K.In h)(q:DP K C R=true)(q2:uQ K C "BaseException" = true)(qr:uQ K R "BaseException" = true):zK h C R:=by
 obtain⟨hC,_⟩:=sg X q2;unfold DP at q;rcases x9 X hC with e|e<;>rw[e]at q
 .cases q
 .exact{hC,q,sg X qr}
def aJn:bootBuiltins "ValueError"=ι (.type "ValueError"):=by decide +kernel
end
end L2
namespace L2
open PySem
theorem Zk:∀ns:ζ,Ry (ns.map W3)=true
 |[]=>rfl
 |n::r=>by
  have:=Zk r;simp[Ry,MZ,this]
theorem fI:∀ns:ζ,GR (ns.map W3)<=1
 |[]=>by simp[GR]
 |n::r=>by
  have:=fI r;simp[GR,JV];lia
def SI(ns:ζ):SeqAt.shaped (.list (ns.map .int))=true:=by
 have h1:=Zk ns;have h2:=fI ns;simp only[SeqAt.shaped,MZ,JV,h1,Ow];exact decide_eq_true ⋯
def TH(ns:ζ):SeqAt.shaped (.tuple (ns.map .int))=true:=by
 have h1:=Zk ns;have h2:=fI ns;simp only[SeqAt.shaped,MZ,JV,h1,Ow];exact decide_eq_true ⋯
def aGL(ns ms:ζ):wj (.list (ns.map .int)) (.list (ms.map .int))=decide (ns=ms):=by
 rw[wj];exact W.ked_eqvAll ns ms
def aOv(ns ms:ζ):wj (.tuple (ns.map .int)) (.tuple (ms.map .int))=decide (ns=ms):=by
 rw[wj];exact W.ked_eqvAll ns ms
def zk{g:Bool->Bool}{ns ms:ζ}(ha:ak K H a (ns.map V.int))(hb:ak K H b (ms.map V.int))(q:Q (.bl (g (decide (ns=ms)))) H):pC K g (.ref a) (.ref b) H Q:=
 .inl {_,_,.lst ha (qg.ints ns),.lst hb (qg.ints ms),SI ns,SI ms,by rw[aGL];exact q}
def PV{g:Bool->Bool}{ns ms:ζ}(ha:ao K H a (ns.map V.int))(hb:ao K H b (ms.map V.int))(q:Q (.bl (g (decide (ns=ms)))) H):pC K g (.ref a) (.ref b) H Q:=
 .inl {_,_,.tup ha (qg.ints ns),.tup hb (qg.ints ms),TH ns,TH ms,by rw[aOv];exact q}
end L2
set_option maxHeartbeats 4000000
namespace L2
open PySem PySem.Spec PyProof.Rows
def E8(lo:Int)(n:Nat):It:={λi _=>i<n,λi H x H'=>H'=H/\x=.int (lo-i),λi _=>n<=i}
def aHt{P:Program}{w:World}{K:aD}{tg:Expr}(it:Addr)(lo:Int)(n:Nat):Turn P w K tg (E8 lo n) [it] it (λi h=>IsRangeIter h it (lo+(i:Nat)*(-1)) ((n:Int)-(i:Nat)) (-1)) where
 mem:=by simp
 obj:=λi h st b hb=>by
  have e:b=it:=by simpa using hb
  subst e;exact{_,st,λv z=>by
   have z':Data.fields _=Data.cell v:=z;cases z'}
 keep:=λi h h' st k=>k it (by simp) _ st
 item:=by
  intro X hP hw hK hc i π s σ H E I hf st hg;subst hP hw hK;obtain⟨f0,f1,f2,f3,f4,f5⟩:=hf it (by simp);have W:=Walks.range (prog:=X.prog) (w:=X.w) (I.ok.hd hc) it lo (-1) n;refine W.item i s _ _ hg st λv h' tk hv st' kk=>?_;intros t rfl hv;have I1:Inv X π σ H {s with heap:=h',toks:=tk}:=I.turned (λb o hb e=>kk b o (by simpa using hb) e) f0 f1 f3 f4 f5;refine{(),zZ (s:={s with heap:=h',toks:=tk}) (n:="range_iterator") st' rfl rfl ∅ {.int (lo-i),H,I1,{t,?_},{rfl,(rfl)},st',λb hb=>(hf b hb).1}};rw[Int.mul_neg_one];rfl
 done:=by
  intro X hP hw hK hc i π s σ H E I hf st hg;subst hP hw hK;obtain⟨f0,f1,f2,f3,f4,f5⟩:=hf it (by simp);exact wpAny_pyNext_range_end (I.ok.hd hc) st (by have:n<=i:=hg;lia) λh' eb=>{rfl,I.turned (t':=s.toks) (λb o hb e=>eb b o hb e) f0 f1 f3 f4 f5}
 self:=λ_ _ _ _ _ st h=>wpAny_pyIter_rangeiter st h
def rangeSize_down(a b:Int):Builtin.Range.rangeSize a b (-1)=if b<a then a-b else 0:=by
 unfold Builtin.Range.rangeSize;simp only[(∅:¬(-1:Int)>0),if_false,Int.neg_neg,NT];split<;>lia
def small_down(ha:-(2^62)<=a)(ha':a<2^62)(hb:-(2^62)<=b)(hb':b<2^62):Builtin.Range.small a b (-1)=true:=by
 unfold Builtin.Range.small;rw[rangeSize_down];simp only[Builtin.Range.rangeFitsLong,oN,Cj,decide_eq_true_eq,beq_iff_eq,(∅:¬(-1:Int)>0),if_false];split<;>lia
section
variable {X:Cx}
def axK{s:Shared}{R:It->Hp->Prop}{E:χ}{lo hi:Int}{tk:Nat}(I:Inv X π σ H s)(h1:-(2^62)<=lo)(h2:lo<2^62)(h3:-(2^62)<=hi)(h4:hi<2^62)
  (q:R (E8 lo (lo-hi).toNat) H):wpAny (model X.prog X.w) X.A (pyIter (.ref s.heap.objs.size)) (PIE X π σ tg R) E {s with heap:=s.heap.push {cls:=.type "range",data:=.fields #[.int lo t,.int hi u,.int (-1) v]},toks:=tk}:=by
 refine wpAny_pyIter_range (IsRange.new ..) (small_down h1 h2 h3 h4) ?_;have I1:Inv X π σ H {s with heap:=s.heap.push {cls:=.type "range",data:=.fields #[.int lo t,.int hi u,.int (-1) v]},toks:=tk}:=I.kept λb o e=>Heap.get?_push_of_some _ e;refine{(s.heap.push {cls:=.type "range",data:=.fields #[.int lo t,.int hi u,.int (-1) v]}).objs.size,[(s.heap.push {cls:=.type "range",data:=.fields #[.int lo t,.int hi u,.int (-1) v]}).objs.size],_,_,H,rfl,
  I1.kept (t':=tk) λb o e=>Heap.get?_push_of_some _ e,aHt _ lo (lo-hi).toNat,?_,λb hb=>?_,q}
 .have e1:lo+((0:Nat):Int)*(-1)=lo:=by simp
  have e2:(((lo-hi).toNat:Nat):Int)-((0:Nat):Int)=Builtin.Range.rangeSize lo hi (-1):=by rw[rangeSize_down];split<;>lia
  show IsRangeIter _ _ (lo+((0:Nat):Int)*(-1)) ((((lo-hi).toNat:Nat):Int)-((0:Nat):Int)) (-1);rw[e1,e2];exact Heap.get?_push_size _ rfl
 .have e:b=(s.heap.push {cls:=.type "range",data:=.fields #[.int lo t,.int hi u,.int (-1) v]}).objs.size:=by simpa using hb
  subst e;exact I1.sZ (aZ _) (I1.hok.fresh (aZ _))
def azK(ta:TA):TI:=λσ H R=>ta σ H λvs H1=>∃i j:Int,vs=[.int i,.int j,.int (-1)]/\(-(2^62)<=i/\i<2^62/\-(2^62)<=j/\j<2^62)/\R (E8 i (i-j).toNat) H1
def JU(hg:Gl X "range")(hm:X.mg "range"=ν)(ha:PA X [a,b,c] ta)(hs:starEach [a,b,c] X.env=(false,eval a X.env)::starEach [b,c] X.env:=by rfl)(hs2:(backTo pos (starEach [b,c] X.env)).any (·.1)=false:=by rfl):
  PI X tg (.Call (.Name "range" p) [a,b,c] [] pos) (azK ta):=by
 intro π s σ H R I h;refine Call_ (vX I hg hm boot_range (AW (aY (ha pos π s σ H _ I h) λus s1 ⟨vs,H1,I1,r1,q1⟩=>?_) hs hs2));obtain⟨i,j,e,⟨q1,q2,q3,q4⟩,q⟩:=q1;subst e;cases r1 with
 |cons r rr=>
  cases rr with
  |cons r' rr=>
   cases rr with
   |cons r'' rr=>
    cases rr;intros t rfl r;intros t' rfl r';intros t'' rfl r'';exact call_range_3 ∅ (axK (tk:=s1.toks) I1 q1 q2 q3 q4 q) (.inl (XX ⋯))
end
def Eg{lo:Int}{n:Nat}{g:TG}{tb:TS}{D:Ends}{σ:St}{H:Hp}(Pv:Nat->St->Hp->Prop)(h0:Pv 0 σ H)
  (hs:∀i σ H,i<n->Pv i σ H->g (.int (lo-i)) σ H λσ2 H2=>tb {D with nx:=Pv (i+1),ct:=Pv (i+1),bk:=D.nx} σ2 H2) (hd:∀σ H,Pv n σ H->D.nx σ H):
  ∃W:Nat->Nat->St->Hp->Prop,(∃m,W 0 m σ H)/\∀i m σ H,W i m σ H->
   ((E8 lo n).stop i H/\D.nx σ H)∨((E8 lo n).go i H/\∃N:St->Hp->Prop,(∀σ' H',N σ' H'->∃m',m'<m/\W (i+1) m' σ' H')/\∀x H',(E8 lo n).m5 i H x H'->g x σ H' λσ2 H2=>tb {D with nx:=N,ct:=N,bk:=D.nx} σ2 H2):=by
 refine{λi m σ H=>m=n-i/\i<=n/\Pv i σ H,{n,by simp,cZ _,h0},?_};rintro i m σ H ⟨rfl,hi,p⟩;by_cases hlt:i<n
 .refine .inr {hlt,Pv (i+1),λσ' H' p'=>{n-(i+1),⋯,rfl,hlt,p'},λx H' y=>?_};intros e y y;subst e y;exact hs i σ _ hlt p
 .have e:i=n:=⋯;subst e;exact .inl {aZ _,hd σ H p}
def DJ{J:It}{xs:τ}{ix:List (Option Nat)}{te:TE}{σ:St}{H1:Hp}{Q:VK}(I:qC J xs H1)(hz:xs.length<=sizeLine){rest:St}(hst:cst ix σ=ν::rest)(R:V->V->Hp->Prop)(hR:∀x y (H' H2:Hp),(∀b ts,H' b=ι (.tup ts)->H2 b=ι (.tup ts))->R x y H'->R x y H2)
  (he:∀(H':Hp)(x:V),Same H1 H'->x∈xs->∀k:VK,(∀y H2,Same H' H2->R x y H2->k y H2)->te (ι x::rest) H' k)
  (hQ:∀D H' ys,H1 D=ν->Same H1 H'->H' D=ι (.lst ys)->ys.length=xs.length->(∀y∈ys,∃x∈xs,R x y H')->Q (.ref D) H'):
  jV ix (gU 0) mQ te σ Q J H1:=by
 constructor;intro D hD;refine{λi m σ' H'=>m=xs.length-i/\i<=xs.length/\(∃o,σ'=o::rest)/\Same H1 H'/\∃ys,H' D=ι (.lst ys)/\ys.length=i/\∀y∈ys,∃x∈xs,R x y H',{xs.length,by simp,cZ _,{ν,(hst)},Same.new hD _,[],aq,rfl,λ_ h=>nomatch h},?_};rintro i m σ' H' ⟨rfl,hi,⟨o,rfl⟩,g,ys,hl,hn,hy⟩;by_cases hlt:i<xs.length
 .refine .inr {I.go i _ g hlt,λx H2 y=>?_};obtain⟨rfl,hx⟩:=I.m5 i _ x H2 g y;have hm:x∈xs:=List.mem_of_getElem? (hx hlt);change te (ι x::rest) H2 _;refine he H2 x g hm _ λy H3 g3 r3=>{ys,g3 _ _ hl,⋯,xs.length-(i+1),⋯,rfl,hlt,{()},Same.upd (g.trans g3) hD _,ys++[y],aq,by simp[hn],λz hz'=>?_};have up:∀x z,R x z H3->R x z (upd H3 D (.lst (ys++[y]))):=λx z r=>hR x z H3 _ (λb ts e=>by
   rw[cH λq=>by rw[q,g3 _ _ hl]at e;cases e];exact e) r
  rcases ig.mp hz' with h|h
  .obtain⟨x',hx',r'⟩:=hy z h;exact{x',hx',up _ _ (hR _ _ _ _ (λb ts e=>g3 _ _ e) r')}
  .rw[eN.mp h];exact{x,hm,up _ _ r3}
 .have e:i=xs.length:=⋯;exact .inl {I.stop _ _ g ⋯,hQ D H' ys hD g hl ⋯ hy}
def vv:cQ X (binaryOp .FloorDiv) (rI (λ_ j=>j≠0/\j.natAbs.log2<9000) λi j=>.int (i.fdiv j)):=Bj λ_ _ _ _ _ _ _ hc q=>floordiv_int hc.1 q (.inl (PyProof.noPylong_of_log2 hc.2))
end L2
namespace O3
open PySem PySem.W PySem.Calls PyProof.Rows
def aJ0{ns:ζ}(h:WData.layableAll [WData.list (ns.map WData.int)]=true):∀x∈ns,Builtin.Int.intBits x<=1048576:=by
 intro x hx;obtain⟨h1,_,h3⟩:=layableW_iff.mp (layW_cons h).1;simp only[WData.canLay]at h1;simp only[WData.weight]at h3;have hm:WData.int x∈ns.map WData.int:=bO.mpr {x,hx,(rfl)};have hc:WData.canLayAll (ns.map WData.int)=true:=by simpa using h1
 obtain⟨_,_,c⟩:=items_part hm hc;have e:WData.weight (.int x)=Builtin.Int.intBits x:=rfl;rw[e]at c;have:(2:Nat)^20=1048576:=∅;lia
def aOX{l:OpenLaw}{n:Nat}{XP:(μ)->Heap->Prop}{YP:World->Heap->Prop}{d:DefRec}
  (hn:l.most=ι n)(hdf:d.params.defaults=[])
  (call:∀(w:World)(s₀ s₁:Shared)(mg mb:μ)(fa:Addr)(o:Obj)(pm cd doc:Value)(a:Addr)(vs:List Value)(ns:ζ),
   Ground q loose [] XP w s₀ mg mb s₁.heap->YP w s₁.heap->
   s₁.heap.get? fa=ι o->o.data=.func (docDef d.name d.params d.body d.scope pm cd doc)->s₁.heap.CodeRec cd d.name->mg d.name=ι (.ref fa)->
   s₁.heap.get? a=ι {cls:=.type "list",data:=.seq vs.toArray}->IntsAre vs ns->ns.length<=n->(∀x∈ns,Builtin.Int.intBits x<=1048576)->s₁.gens=#[]->
   codeAny (model l.prog w) callerA (.call (.ref fa) {[.ref a],[]}) (λr s'=>r=.ok (.ret (.bool true))/\OldK s₁.heap s'.heap/\s'.os=s₁.os/\AllBare s'.gens) s₁):
  WalkO q loose XP YP l.row.toRowW d [] (λf vs=>VI f vs):=by
 intro w s₀ s₁ mg mb G Y fa o pm cd doc dV kV ho hd hcd hD hmg hg args vals as hpre hlay hrd hwl hlo;obtain rfl:dV=.none:=Dflts.none hD hdf;obtain rfl:kV=.none:=Dflts.noKw hD;obtain⟨a,vs,ns,rfl,rfl,hobj,hints,hlen⟩:=aFF hn hpre hwl;refine enter_call (codeAny_mono (call w s₀ s₁ mg mb fa o pm cd doc a vs ns G Y ho (fd_plain hd) hcd hmg hobj hints hlen (aJ0 hlay) hg) λr s' hq=>?_);intros rfl h2 h3 h4 hq;exact{.inl {.bool true,.bool true,[],rfl,λ_=>rfl,.bool true,aRH l _,λ_=>{aL8,λ_ hm=>(nomatch hm)}},h2,h3,h4}
end O3
namespace L2
open PySem PySem.Spec PyProof.Rows
def aS1{l:W.OpenLaw}{n k:Nat}{XP:(μ)->Heap->Prop}{YP:World->Heap->Prop}{d:DefRec}{K:Params->aD}{CX:World->tK}{sp:World->Sp}
  (hn:l.most=ι n)(hn2:n<=sizeLine)(hdf:d.params.defaults=[])(hr:cX k callerA)(hIm:importsNone q=true)(htr:l.prog.given.tree=ν)
  (hY:∀(w:World)(h:Heap),YP w h->(K w.params).In h)
  (F:∀(w:World)(mg:μ)(fa:Addr)(h:Heap),(K w.params).In h->h.Ns mainGlobals mg->mg d.name=ι (.ref fa)->
   ∃fd:FuncData,(∀(s:Shared)(u:Value),BindsTo s fd {[u],([])} [(x,u)])/\
    ∀base:Heap,(K w.params).In base->base.Ns mainGlobals mg->kj l.prog w (K w.params) mg base (CX w) k fa fd [x] (sp w))
  (hsp:∀(w:World)(H:Hp)(a:Addr)(ns:ζ),ns.length<=n->(∀x∈ns,Builtin.Int.intBits x<=1048576)->Only H->ak (K w.params) H a (ns.map V.int)->sp w [.ref a] H (λv _=>v=.bl true) λ_ _ _=>False)
  (hCX:∀(w:World)(H:Hp)(s:Shared)(e:Value)(s':Shared),CX w [] H s (λ_ _ _=>False) e s'->False):
  W.WalkO q loose XP YP l.row.toRowW d [] (λf vs=>VI f vs):=by
 refine O3.aOX hn hdf λw s₀ s₁ mg mb fa o pm cd doc a vs ns G Y ho hd hcd hmg hobj hints hlen aOO hg=>?_;have KX:=hY w _ Y;obtain⟨fd,hb,hF⟩:=F w mg fa _ KX G.T.g hmg;exact aLL KX G.T.g G.T.b G.T.builtins G.T.nolimit G.T.nodigits (G.T.seer hIm) htr hg hobj hints (cM hlen hn2) hr hF hb (λH hO hS=>hsp w H a ns hlen aOO hO hS) λH e s'=>hCX w H s₁ e s'
def AQ:V->τ->Hp->VK->Prop:=λx vs H Q=>∃n:Int,x=.int n/\vs=[]/\Q (.int (Builtin.Int.intBits n:Nat)) H
def axa:wR X "int.bit_length" AQ:=by
 intro π s σ H x vs v us Q I rx rv h;intros n rfl rfl q h;intros t rfl rx;cases rv;exact call_gives F.slot_int_bit_length (typeIs_int s n t) F.entry_int_bit_length (F.args_int_bit_length_1 _) (AutoIntG2.int_bit_length_int_0 n t) {.int _,H,I.tok _,{()},q}
def aBr(K:aD)(ho:PE X o to)(hK:X.K=K:=by rfl)(hbase:attributeBase o "bit_length" X.env (eval o X.env)=eval o X.env:=by rfl)(hline:(apos.endLine==cpos.line)=true:=by rfl):
  PE X (.Call (.Attribute o "bit_length" apos) [] [] cpos) (SH K "int" AQ to):=by
 subst hK;exact avL PySem.F.plainAttrs_int PySem.F.slot_int_bit_length PySem.F.type_int_bit_length axa ho hbase hline
def CV(hc:X.calm=true):iM X (.type "str") (λxs H Q=>∃i:Int,xs=[.int i]/\i.natAbs<10^4300/\Q (.str (toString i)) H):=by
 intro π s σ H xs us Q I r h;intros i rfl hz q h;obtain⟨u,rfl,t,rfl⟩:=vals1 r;exact str_of_int_or (I.ok.hd hc) (I.ok.mod.digits.keeps I.bk) (λ_=>{.str _,H,I.tok _,{()},q}) (λh=>absurd hz (Nat.not_lt.mpr h))
def Tj(hc:X.calm=true):iM X (.type "str") (λxs H Q=>(∃i:Int,xs=[.int i]/\i.natAbs<10^4300/\Q (.str (toString i)) H)∨(xs=[.non]/\Q (.str "None") H)):=by
 intro π s σ H xs us Q I r h;rcases h with h|⟨rfl,q⟩
 .exact CV hc _ _ _ _ _ _ _ I r h
 .obtain⟨u,rfl,t⟩:=vals1 r;cases t;exact PySem.P.str_of_none {.str _,H,I.tok _,{()},q}
def boot_any:bootBuiltins "any"=ι (.builtin "any"):=by decide +kernel
def v_any(hc:X.calm=true):iM X (.builtin "any") (λxs H Q=>∃(l:Addr) (bs:List Bool),xs=[.ref l]/\ak X.K H l (bs.map V.bl)/\Q (.bl (bs.any id)) H):=by
 intro π s σ H xs us Q I r h;intros l bs rfl hl q h;intros u rfl ru r.one;cases ru;obtain⟨its,rv,pl,hz⟩:=I.list hl;have eb:=di rv;subst eb;have hl':=pl.isList;have hlt:l<s.heap.objs.size:=by intros _ e _ hl';exact dz e
 refine call_any_walk (wpAny_pyIter_list hl' ?_);refine{s.heap.objs.size,[s.heap.objs.size,l],[s.heap.objs.size],(bs.map Value.bool).toArray.size,_,_,λi=>(bs[i]?).getD false,rfl,Walks.list (A:=X.A.in1) (I.ok.hd hc) _ l (jr hlt) (bs.map Value.bool).toArray,
  {{_,Heap.get?_push_size _ rfl,rfl,rfl},hl'.push _},λi v s' Q' E' hP hQ=>?_,λh' tk hk=>?_}
 .have hP':(bs.map Value.bool)[i]?=ι v:=by simpa using hP
  rw[List.getElem?_map]at hP';cases e:bs[i]? with
  |none=>rw[e]at hP';cases hP'
  |some b=>
   rw[e]at hP';cases hP';dsimp only at hQ;rw[e]at hQ;exact wpAny_truthy_bool hQ
 .have e2:((gq (bs.map Value.bool).toArray.size).any λi=>(bs[i]?).getD false)=bs.any id:=by
   rw[gC,aB];rw[EV,Pg,Pg];constructor
   .rintro⟨i,hi,e⟩;have hi':=gZ.mp hi;rw[List.getElem?_eq_getElem hi']at e;exact{_,sE hi',e}
   .rintro⟨x,hx,e⟩;obtain⟨i,hi,e'⟩:=ug.mp hx;exact{i,gZ.mpr hi,by rw[List.getElem?_eq_getElem hi,e'];exact e}
  have fin:EP X π σ Q (.bool (bs.any id)) {s with heap:=h',toks:=tk}:={.bl _,H,I.kept (By hk),rfl,q};first|(rw[e2];exact fin)|(simpa[e2]using fin)
def Wb(K:aD)(hc:X.calm=true)(hK:X.K=K:=by rfl):iM X (.builtin "any") (λxs H Q=>∃(l:Addr) (bs:List Bool),xs=[.ref l]/\ak K H l (bs.map V.bl)/\Q (.bl (bs.any id)) H):=by subst hK;exact v_any hc
def aTv:typeLookup (.type "list_reverseiterator") "__len__" = pure ν:=by rw[typeLookup_type,builtinLookup_eq_fast];kernel_rfl
def aIM:typeLookup (.type "list_reverseiterator") "__length_hint__" = pure (ι (.builtin "list_reverseiterator.__length_hint__")):=by rw[typeLookup_type,builtinLookup_eq_fast];kernel_rfl
def XZ:bootBuiltins "reversed"=ι (.type "reversed"):=by decide +kernel
def Inv.ax2(I:Inv X π σ H s)(f:qX X π H p)(new:fB X.prog X.w (upd H p o) s.heap p o):Inv X π σ (upd H p o) s:=by
 intros f0 f1 _ f3 f4 f5 f;refine I.step (g':=s.gens) (d':=s.drawn) (t':=s.toks) (h':=s.heap) (ch:=[p]) (λb hb=>?_) (λb o _ _ hc e _=>e) (λb o _ _ hc e _=>{o.slots,(e)}) (λb _ hc _ n=>?_)
  (λb o hc e=>{o,(e)}) (λb xs e=>?_) (λb xs _ e=>?_) (λb ps e=>{#[],?_}) (λm hm=>hm) (λb u e=>?_) I.bare
 .have e:b=p:=by simpa using hb
  subst e;exact{f3,f1,f4,(f5)}
 .rw[cH λz=>hc (by simp[z])];exact n
 .rw[cH (jz e f0)];exact e
 .rw[cH (jz e f0)];exact e
 .rw[cH (jz e f0),e];simp
 .by_cases hb:b=p
  .subst hb;rw[aq]at e;cases e;exact new
  .rw[cH hb]at e;exact(I.hok b u e).stay (λc v _ q=>q) (λc q=>by rw[cH (jz q f0)];exact q) λc xs q=>by rw[cH (jz q f0)];exact q
def yV(n i:Nat):Int:=if i<n then((n-1-i:Nat):Int)else -1
def Vp(K:aD)(a:Addr)(n:Nat):It:=
 {λi H=>∃xs x,ak K H a xs/\i<n/\xs[n-1-i]?=ι x,λi H x H'=>H'=H/\∀xs,ak K H a xs->xs[n-1-i]?=ι x,λi _=>n<=i}
def aBx{P:Program}{w:World}{K:aD}{tg:Expr}(a it:Addr)(n:Nat):Turn P w K tg (Vp K a n) [it] it (λi h=>h.IsRevIter it a (yV n i)) where
 mem:=by simp
 obj:=λi h st b hb=>by
  have e:b=it:=by simpa using hb
  subst e;intros o e c d st;exact{o,e,λv z=>by rw[d]at z;cases z}
 keep:=λi h h' st k=>st.at λo e=>k it (by simp) o e
 item:=by
  intro X hP hw hK hc i π s σ H E I hf st hg;subst hP hw hK;intros xs x hq hi hx hg;obtain⟨its,rv,p,hz⟩:=I.list hq;obtain⟨u,hu,ru⟩:=rv.get hx;obtain⟨f0,f1,f2,f3,f4,f5⟩:=hf it (by simp);have e:yV n i=((n-1-i:Nat):Int):=if_pos hi;rw[e]at st;refine wpAny_pyNext_rev_item st p.isList (x:=u) (by simpa using hu) λh' st' sb=>?_;have e2:((n-1-i:Nat):Int)-1=yV n (i+1):=by unfold yV;split<;>lia
  rw[e2]at st';have I1:Inv X π σ H {s with heap:=h'}:=I.turned (t':=s.toks) (λb o hb e=>(sb.2 b hb).trans e) f0 f1 f3 f4 f5;obtain⟨o,e,c,d⟩:=id st';exact{u,rfl,zZ (s:={s with heap:=h'}) e c d ∅ {x,H,I1,ru,{rfl,λys hy=>by rw[I.WG hy hq];exact hx},st',λb hb=>(hf b hb).1}}
 done:=by
  intro X hP hw hK hc i π s σ H E I hf st hg;subst hP hw hK;have hg:n<=i:=hg;obtain⟨f0,f1,f2,f3,f4,f5⟩:=hf it (by simp);have e:yV n i=-1:=if_neg ⋯;rw[e]at st;exact wpAny_pyNext_rev_end (I.ok.hd hc) st λh' eb=>{rfl,I.turned (t':=s.toks) (λb o hb e=>eb b o hb e) f0 f1 f3 f4 f5}
 self:=λ_ _ _ _ _ st h=>wpAny_pyIter_revIter st h
def axx(K:aD)(ta:TA):TI:=λσ H R=>ta σ H λvs H1=>∃a xs,vs=[.ref a]/\ak K H1 a xs/\R (Vp K a xs.length) H1
def aMe(K:aD)(hg:Gl X "reversed")(hm:X.mg "reversed"=ν)(ha:PA X [e1] ta)(hK:X.K=K:=by rfl)
  (hs:starEach [e1] X.env=[(false,eval e1 X.env)]:=by rfl):PI X tg (.Call (.Name "reversed" p) [e1] [] pos) (axx K ta):=by
 subst hK;intro π s σ H R I h;refine Call_ (vX I hg hm XZ (AW (aY (ha pos π s σ H _ I h) λus s1 ⟨vs,H1,I1,r1,q1⟩=>?_) hs rfl));intros a xs e hq q q1;subst e;cases r1 with
 |cons r rr=>
  cases rr;cases r;obtain⟨its,rv,p1,_⟩:=I1.list hq;have hl:=rv.length;refine call_reversed_list p1.isList ?_;have st:(s1.heap.push (revObj a ((its.toArray.size:Int)-1))).IsRevIter s1.heap.objs.size a (yV xs.length 0):={_,Heap.get?_push_size _ rfl,rfl,by
   show Data.fields #[.ref a,rawInt ((its.toArray.size:Int)-1)]=_;have e:(its.toArray.size:Int)-1=yV xs.length 0:=by unfold yV;simp;split<;>lia
   rw[e]}
  have I2:Inv X π σ H1 {s1 with heap:=s1.heap.push (revObj a ((its.toArray.size:Int)-1))}:=I1.kept (t':=s1.toks) λb o e=>Heap.get?_push_of_some _ e;refine wpAny_pyIter_revIter (s:={s1 with heap:=s1.heap.push (revObj a ((its.toArray.size:Int)-1))}) st {_,[s1.heap.objs.size],_,_,H1,rfl,I2,aBx a _ _,st,λc hc=>?_,q};have e:c=s1.heap.objs.size:=by simpa using hc
  subst e;exact I1.sZ (aZ _) (I1.hok.fresh (aZ _))
def aQc{K:aD}{a:Addr}{xs:τ}{H1:Hp}(h:ak K H1 a xs):qC (Vp K a xs.length) xs.reverse H1:=by
 refine{λi H' g hi=>?_,λi H' x H2 g y=>{y.1,λhi=>?_},λi H' g hi=>?_}
 .rw[Ax]at hi;exact{xs,xs[xs.length-1-i]'⋯,g.seq h,hi,List.getElem?_eq_getElem ⋯}
 .rw[Ax]at hi;rw[List.getElem?_reverse hi];exact y.2 xs (g.seq h)
 .rw[Ax]at hi;exact hi
section
variable {A:Around}{E:χ}{s:Shared}{G:Array GenState->Array GenState->Prop}{n:Nat}{P:Nat->Value->Prop}{St:Nat->Shared->Prop}{R:Result->Shared->Prop}
def aIb(W:WalksS prog w A.in1 I fp wr G n P St)(hT:∀i s,St i s->s.TypeIs (.ref I) "list_reverseiterator")(S:Addr)(c0:Nat)(hst:St 0 s)(hSf:S∉fp)(hI:I∈fp)
  (hS:s.heap.get? S=ι {cls:=.type "list",data:=.seq #[] c0})
  (hR:∀s' acc' c',Moved (S::wr) G s s'->s'.heap.get? S=ι {cls:=.type "list",dict:=ν,data:=.seq acc' c',slots:=#[]}->ItemsOf P acc' n->R (.ok (.ret .none)) s')(hn:n<=sizeLine):
  wpAny (model prog w) A.in1 (Builtin.List.listExtendWith (.ref S) (.ref I) .none)
   (λfin s'=>match fin with|.done f=>R (.ok f) s'|.again c'=>c'.quiet=true/\codeAny (model prog w) A c' R s') (λe s'=>R (.error e) s') s:=by
 have hSI:S≠I:=λe=>hSf (e▸hI);have h1:Builtin.List.listSameRef (.ref S) (.ref I)=false:=by simp[Builtin.List.listSameRef,hSI]
 unfold Builtin.List.listExtendWith;refine wpAny_bind (wpAny_typeOf (hT 0 _ hst) ?_);rw[if_neg (by rw[h1];decide)];refine wpAny_bind (W.self 0 _ _ _ hst ?_);refine wpAny_bind (wpAny_holding ?_);unfold Builtin.List.listLengthHint;refine wpAny_bind (wpAny_specialOf (hT 0 _ hst) aTv ?_);show wpAny _ A.in1 (specialOf (Value.ref I) (Str.ofString "__length_hint__")>>=_) _ _ _;refine wpAny_bind (wpAny_specialOf (hT 0 _ hst) aIM ?_)
 (generalize hid:("list_reverseiterator.__length_hint__" : String)=id0;(fail_if_success (clear hid id0));wp_delta;rw[show splitId id0=ι ("list_reverseiterator","__length_hint__")from by subst hid;decide +kernel];subst hid)
 refine wpAny_bind (wpAny_isInstance (b:=true) (hT 0 _ hst) (by rw[isSubtype_type];kernel_rfl) ?_);refine wpAny_pure ?_;rw[if_neg ∅];exact wpAny_pure {plainId_quiet F.plain_extend_loop _,codeAny_extend_loopS W hn _ hSf _ n 0 _ _ _ rfl (cZ _) hst hS (ItemsOf.nil P) λs' acc' c' hm hS' hacc=>hR s' acc' c' hm hS' hacc}
def aAG(W:WalksS prog w A.in1 I fp wr G n P St)(hT:∀i s,St i s->s.TypeIs (.ref I) "list_reverseiterator")(S:Addr)(hst:St 0 s)(hSf:S∉fp)(hI:I∈fp)
  (hS:s.heap.get? S=ι {cls:=.type "list",data:=.seq #[]})
  (hR:∀s' acc' c',Moved (S::wr) G s s'->s'.heap.get? S=ι {cls:=.type "list",dict:=ν,data:=.seq acc' c',slots:=#[]}->ItemsOf P acc' n->R (.ok (.ret .none)) s')(hn:n<=sizeLine):
  wpAny (model prog w) A.in1 (Builtin.«list.__init__» {[.ref S,.ref I],[]})
   (λfin s'=>match fin with|.done f=>R (.ok f) s'|.again c'=>c'.quiet=true/\codeAny (model prog w) A c' R s') (λe s'=>R (.error e) s') s:=by
 show wpAny _ A.in1 (Builtin.List.listItems (.ref S)>>=λold=>Builtin.List.listUpdate (.ref S) (λ_=>#[])>>=λ_=>letGo old.toList.reverse>>=λ_=>Builtin.List.listExtendWith (.ref S) (.ref I) .none) _ _ s;refine wpAny_bind ?_;unfold Builtin.List.listItems;refine wpAny_bind (wpAny_seqItems hS rfl (wpAny_pure ?_));refine wpAny_bind (wpAny_updateSeq hS rfl ?_);have hS2:=Heap.get?_update_self (Az (λ_=>(#[]:Array Value))) hS rfl;have oth:∀b o,b≠S->s.heap.get? b=ι o->(s.heap.update S (Az (λ_=>(#[]:Array Value)))).get? b=ι o:=
  λb o hb e=>(Heap.get?_update_other _ _ (jB hb)).trans e
 refine wpAny_bind (wpAny_letGo ?_);refine aIb W hT S _ (W.frame 0 s _ s.toks hst (aZ _) λb hb o e=>oth b o (λh=>hSf (h▸hb)) e) hSf hI hS2 (λs' acc' c' hm hS' hacc=>?_) hn;exact hR s' acc' c' (Moved.trans W.gtrans ((Moved.refl W.grefl).then_heap (aZ _) λb o hb e=>oth b o (λh=>hb (h▸iY)) e) hm) hS' hacc
def aIz{Q:χ}(W:WalksS prog w A.in1.in1 I fp wr G n P St)(hT:∀i s,St i s->s.TypeIs (.ref I) "list_reverseiterator")(hst:St 0 s)(hfp:∀b∈fp,b<s.heap.objs.size)(hI:I∈fp)
  (hQ:∀s' acc' c',Moved (s.heap.objs.size::wr) G {s with heap:=s.heap.push {cls:=.type "list",data:=.seq #[]}} s'->
   s'.heap.get? s.heap.objs.size=ι {cls:=.type "list",dict:=ν,data:=.seq acc' c',slots:=#[]}->ItemsOf P acc' n->Q (.ref s.heap.objs.size) s')(hn:n<=sizeLine):
  wpAny (model prog w) A (call (.type "list") [.ref I]) Q E s:=by
 have hSf:s.heap.objs.size∉fp:=λhm=>n6 _ (hfp _ hm);refine callType_codes (Q₁:=λobj s₁=>obj=.ref s.heap.objs.size/\s₁={s with heap:=s.heap.push {cls:=.type "list",data:=.seq #[]}}) F.called_list (F.typeCall_list_1 _) F.entry_list_init
  (code_list_new _ {rfl,(rfl)}) λobj s₁ h₁=>?_
 intros rfl rfl h₁;have hS:(s.heap.push {cls:=.type "list",data:=.seq #[]}).get? s.heap.objs.size=ι {cls:=.type "list",data:=.seq #[]}:=Heap.get?_push_size _ rfl;refine{{_,hS,rfl},F.args_list_init_2 _ _,aAG W hT _ (W.frame 0 s _ s.toks hst (aZ _) λb _ o e=>Heap.get?_push_of_some _ e) hSf hI hS (λs' acc' c' hm hS' hacc=>?_) hn};exact{rfl,hQ s' acc' c' hm hS' hacc}
end
def aQP(te:TA):TE:=λσ H Q=>te σ H λvs H1=>∃(l:Addr)(xs:τ),vs=[.ref l]/\H1 l=ι (.lst xs)/\∀l',H1 l'=ν->Q (.ref l') (upd H1 l' (.lst xs.reverse))
def aKP(hc:X.calm=true)(hg:Gl X "list")(hm:X.mg "list"=ν)(hg2:Gl X "reversed")(hm2:X.mg "reversed"=ν)(ha:PA X [a] ta)
  (hs2:starEach [a] X.env=[(false,eval a X.env)]:=by rfl)
  (hs:starEach [.Call (.Name "reversed" p2) [a] [] pos2] X.env=[(false,eval (.Call (.Name "reversed" p2) [a] [] pos2) X.env)]:=by rfl):
  PE X (.Call (.Name "list" p) [.Call (.Name "reversed" p2) [a] [] pos2] [] pos) (aQP ta):=by
 intro π s σ H Q I h;refine wpAny_Call_Name_kw (vX I hg hm boot_list ?_ ∅ ∅);refine AW ?_ hs rfl;rw[hs];show wpAny _ _ (spliced ((false,eval (.Call (.Name "reversed" p2) [a] [] pos2) X.env)::backTo pos [])) _ _ s;refine FH ?_;refine Call_ (vX I hg2 hm2 XZ (AW (aY (ha pos2 π s σ H _ I h) λus s1 ⟨vs,H1,I1,r1,q1⟩=>?_) hs2 rfl));intros l xs e hl q q1;subst e;cases r1 with
 |cons r rr=>
  cases rr;cases r;obtain⟨z,its,nn,rv,hlen,eo⟩:=I1.uP hl;have hil:s1.heap.IsList l its.toArray:={_,eo,rfl,()};refine call_reversed_list hil ?_;refine JI ?_;have TV:l≠s1.heap.objs.size:=λe=>absurd (dz eo) (by rw[e];exact n6 _);have hh:=I1.ok.hd hc;have hle:its.toArray.size=xs.length:=by have:=rv.length;simp;lia
  have key:(s1.heap.push (revObj l ((its.toArray.size:Int)-1))).IsRevIter s1.heap.objs.size l ((its.toArray.size:Int)-1-((0:Nat):Int)):={_,Heap.get?_push_size _ rfl,rfl,by simp[revObj]};have W:=(Walks.listRev (prog:=X.prog) (w:=X.w) (A:=X.A.in1.in1) hh s1.heap.objs.size l TV its.toArray).toS;have hsz2:(s1.heap.push (revObj l ((its.toArray.size:Int)-1))).objs.size=s1.heap.objs.size+1:=by simp[Heap.push]
  refine aIz (s:={s1 with heap:=s1.heap.push (revObj l ((its.toArray.size:Int)-1))}) W (λi s' st=>st.2.1.typeIs) {cZ _,key,hil.push _} (λb hb=>?_) (by simp) (λs' acc' c' hm' hS' hacc=>?_) (by rw[hle];exact z)
  .have hb':b=s1.heap.objs.size∨b=l:=by simpa using hb
   have:=dz eo;show b<(s1.heap.push (revObj l ((its.toArray.size:Int)-1))).objs.size;rcases hb' with z|z
   .rw[z,hsz2];exact iq _
   .rw[z,hsz2];exact Nat.lt_succ_of_lt this
  .have I3:Inv X π σ H1 {s1 with heap:=s1.heap.push (revObj l ((its.toArray.size:Int)-1))}:=I1.kept (t':=s1.toks) λb o e=>Heap.get?_push_of_some _ e;obtain⟨f0,f1,f2,f3,f4,f5⟩:=I1.sZ (H':=H1) (aZ _) I1.fresh;have hfree:H1 (s1.heap.push (revObj l ((its.toArray.size:Int)-1))).objs.size=ν:=I3.hok.fresh (aZ _);have hfp:=I3.sZ (H':=H1) (aZ _) hfree;have hv:Vals xs.reverse acc'.toList:=by
    have e:acc'.toList=its.reverse:=by
     intros h1 h2 hacc;refine List.ext_getElem? λj=>?_;have hs1:acc'.toList.length=its.length:=by simpa using h1
     by_cases hj:j<its.length
     .have a1:acc'[j]?=ι (acc'[j]'(by simpa using(hs1▸hj:j<acc'.toList.length))):=Array.getElem?_eq_getElem _;have a2:=h2 j _ a1;rw[List.getElem?_reverse hj,Array.getElem?_toList,a1,<-a2];simp
     .rw[List.getElem?_eq_none ⋯,List.getElem?_eq_none (by rw[Ax];lia)]
    rw[e];exact rv.reverse
   intros hp' g' d' t'' o' s';have eg:g'=s1.gens:=hm'.gens;have ed:d'=s1.drawn:=hm'.drawn;have eo':o'=s1.os:=hm'.os;subst eg ed eo';have I5:=I3.turned (h':=hp') (it:=s1.heap.objs.size) (t':=t'') (λb o hb e=>hm'.heap b o (by
    have hlt:=dz e;have:b≠(s1.heap.push (revObj l ((its.toArray.size:Int)-1))).objs.size:=jr hlt;simp only[c7,Ej,or_false,not_or];exact{this,(hb)}) (Heap.get?_push_of_some _ e)) f0 f1 f3 f4 f5
   refine{.ref _,_,I5.ax2 (o:=.lst xs.reverse) hfp ?_,rfl,q _ hfree};exact{by rw[Ax];exact z,acc'.toList,c',hv,by simpa using hS'}
section
variable {X:Cx}
theorem RK:∀{xs:List Str} {its:List Value},Vals (xs.map V.str) its->∃l:List (Str×Tok),its=strValues l/\l.map (·.1)=xs
 |[],_,h=>by cases h;exact{[],rfl,(rfl)}
 |x::xs,_,h=>by
  cases h with
  |cons r t=>
   intros tk rfl r;obtain⟨l,rfl,e⟩:=RK t;exact{(x,tk)::l,rfl,by rw[ji,e]}
theorem zh:∀(l:List (Str×Tok)),Vals ((l.map (·.1)).map V.str) (strValues l)
 |[]=>.nil
 |p::l=>.cons {p.2,(rfl)} (zh l)
theorem Vz:∀(l:List (Str×Tok)),StrsAre (strValues l) (l.map (·.1))
 |[]=>.nil
 |p::l=>.cons p.1 p.2 (Vz l)
def aOK(z y:Str):(Txt.split z y).length<=z.length+2/\(Builtin.Str.partsBetween z (Builtin.Str.occurrences z y 0 z.length (z.length+1)) y.length).length<=z.length+2:=by
 have hn:=StrLaws.occ_length_le z y 0 z.length (z.length+1);have h2:(Builtin.Str.partsBetween z (Builtin.Str.occurrences z y 0 z.length (z.length+1)) y.length).length<=z.length+2:=by
  rw[length_partsBetween];lia
 refine{?_,h2};unfold Txt.split;split
 .simp
 .split
  .simp
  .exact h2
def aCP:V->τ->Hp->VK->Prop:=λx vs H Q=>∃z y,x=.str z/\vs=[.str y]/\(y.length==0)=false/\z.length<=100000/\∀p,H p=ν->Q (.ref p) (upd H p (.lst ((Txt.split z y).map V.str)))
def FG:wR X "str.split" aCP:=by
 intro π s σ H x vs v us Q I rx rv h;intros z y rfl rfl hy hz q h;intros t rfl rx;intros u rfl ru rv.one;intros t' rfl ru;have h100:(200000:Nat)<=sizeLine:=∅;have hsz:z.length<=sizeLine:=⋯;obtain⟨f1,f2⟩:=aOK z y;have fin:∀(l:List (Str×Tok)) (k:Nat),l.map (·.1)=Txt.split z y->EP X π σ Q (.ref s.heap.objs.size) {s with heap:=s.heap.push {cls:=.type "list",data:=.seq (strValues l).toArray},toks:=k}:=λl k e=>
  {.ref s.heap.objs.size,_,I.QZ (t':=k) (ys:=(Txt.split z y).map V.str) (by rw[<-e];exact zh l) (by rw[aB];lia),rfl,q _ I.fresh}
 cases h1:(decide (z.length<y.length)||decide (Builtin.Str.strKind z<Builtin.Str.strKind y))
 .cases hf:(Builtin.Str.occurrences z y 0 z.length (z.length+1)).isEmpty
  .refine call_meets Xy (typeIs_str _ _ _) bj (ie _ _) (meets_str_split_sep z y t t' h1 hy hf hsz ⋯) ?_;show wants _ _ _ {s with toks:=_,heap:=s.heap.push {cls:=.type "list",data:=.seq (strsFrom s.toks (Builtin.Str.partsBetween z (Builtin.Str.occurrences z y 0 z.length (z.length+1)) y.length)).toArray}};rw[strsFrom_eq];exact fin (numbered s.toks _) _ ((numbered_texts _ _).trans ((if_neg (ne_true_of_eq_false h1)).trans (if_neg (ne_true_of_eq_false hf))).symm)
  .exact call_meets Xy (typeIs_str _ _ _) bj (ie _ _) (meets_str_split_not_found z y t t' h1 hy hf)
    (fin [(z,t)] s.toks ((if_neg (ne_true_of_eq_false h1)).trans (if_pos hf)).symm)
 .exact call_meets Xy (typeIs_str _ _ _) bj (ie _ _) (meets_str_split_cannot_occur z y t t' h1)
   (fin [(z,t)] s.toks (if_pos h1).symm)
def rJoin:V->τ->Hp->VK->Prop:=λx vs H Q=>∃(sep:Str)(l:Addr)(xs:List Str),x=.str sep/\vs=[.ref l]/\H l=ι (.lst (xs.map V.str))/\JoinOk sep xs=true/\Q (.str (Str.join sep xs)) H
def za:wR X "str.join" rJoin:=by
 intro π s σ H x vs v us Q I rx rv h;intros sep l xs rfl rfl hH hok q h;intros t rfl rx;intros u rfl ru rv.one;cases ru;obtain⟨z,its,n,r,hl,e⟩:=I.uP hH;obtain⟨l',rfl,e'⟩:=RK r;rw[<-StrLaws.glued_eq_join]at q;exact SC.join {_,e,rfl,()} e' hok λt' k=>{.str _,H,I.tok k,{()},q}
def aAX:V->τ->Hp->VK->Prop:=λx vs H Q=>∃z y,x=.str z/\vs=[.str y]/\Q (.bl (Txt.startswith z y)) H
def IF:wR X "str.startswith" aAX:=by
 intro π s σ H x vs v us Q I rx rv h;intros z y rfl rfl q h;intros t rfl rx;intros u rfl ru rv.one;intros t' rfl ru;exact SC.startswith {.bl _,H,I,rfl,q}
def ayV:V->τ->Hp->VK->Prop:=λx vs H Q=>∃(l:Addr)(xs:List Str)(y:Str),x=.ref l/\vs=[.str y]/\H l=ι (.lst (xs.map V.str))/\Q (.int (xs.count y:Nat)) H
theorem S0(x:Str):∀l:List Str,countIn (.str x) (l.map PyData.str)=((l.count x:Nat):Int)
 |[]=>rfl
 |a::r=>by
  rw[countIn_strs_sum,ji,mx,<-countIn_strs_sum,S0 x r,List.count_cons];split<;>simp<;>lia
def aSo:wR X "list.count" ayV:=by
 intro π s σ H x vs v us Q I rx rv h;intros l xs y rfl rfl hH q h;cases rx;intros u rfl ru rv.one;intros t' rfl ru;obtain⟨z,its,n,r,hl,e⟩:=I.uP hH;obtain⟨l',rfl,e'⟩:=RK r;refine count_list_strs {_,e,rfl,()} (Vz l') {.int _,H,I.tok _,{()},?_};rw[e',S0];exact q
def aOZ:V->τ->Hp->VK->Prop:=λx vs H Q=>∃(l:Addr)(xs:List Str)(y:Str)(j:Nat),x=.ref l/\vs=[.str y]/\H l=ι (.lst (xs.map V.str))/\xs[j]?=ι y/\(∀m,m<j->xs[m]?≠ι y)/\Q (.int (j:Int)) H
def Pf(l:List (Str×Tok))(h:m<(strValues l).toArray.size)(y:Str):U2 y (strValues l).toArray[m]=decide ((l.map (·.1))[m]?=ι y):=by
 have hm:m<l.length:=by simpa[strValues]using h
 have e:(strValues l).toArray[m]=.str l[m].1 l[m].2:=by simp[strValues]
 rw[e,List.getElem?_map,List.getElem?_eq_getElem hm];show(l[m].1==y)=_;by_cases c:l[m].1=y
 .simp[c]
 .simp[c]
def awk:wR X "list.index" aOZ:=by
 intro π s σ H x vs v us Q I rx rv h;intros l xs y j rfl rfl hH hj hno q h;cases rx;intros u rfl ru rv.one;intros t rfl ru;obtain⟨z,its,nn,r,hl,e⟩:=I.uP hH;obtain⟨l',rfl,e'⟩:=RK r;subst e';have hjl:j<l'.length:=by
  have:=(List.getElem?_eq_some_iff.mp hj).1;simpa using this
 have hs:(strValues l').toArray.size=l'.length:=by simp[strValues]
 have hsl:l'.length<=sizeLine:=by simpa using z
 have aUA:sizeLine<2^62:=∅;refine call_meets F.slot_list_index {_,e,rfl} F.entry_list_index (F.args_list_index_2 _ _) (SeqAt.list_indexAt l (strValues l').toArray nn ν #[] (.str y t) (U2 y) j ⋯ ⋯ (by rw[Pf];exact decide_eq_true hj) (λm hm h2=>by rw[Pf];exact decide_eq_false (hno m h2))) {e,λw hw=>?_,?_}
 .exact(eq_isStrOf y t (Vz l') w (by simpa using hw)).at _ _
 .exact{.int _,H,I.tok _,{()},q}
def GL(hg:Gl X x)(hm:∃t,X.mg x=ι (.str i t))(hd:(x==("__debug__":Str))=false:=by decide):PE X (.Name x pos) (tC (.str i)):=by
 intros t e hm;exact rq hg e {t,(rfl)} hd
def vw:cQ X (binaryOp .Pow) (rI (λi j=>0<=j/\(vW i:Int)*j<=2^27) λi j=>.int (i^j.toNat)):=Bj λ_ _ _ _ _ _ _ hc q=>pow_int hc.1 hc.2 q
def azF:iM X (.type "int") (λxs H Q=>∃z n,xs=[.str z]/\intText? z=ι n/\z.length<=640/\Q (.int n) H):=by
 intro π s σ H xs us Q I r h;intros z n rfl hn hl q h;obtain⟨u,rfl,t,rfl⟩:=vals1 r;exact W.KIN.call_text hn hl {.int _,H,I.tok _,{()},q}
def aBb:V->Option Int->Option Int->Hp->VK->Prop:=λx lo hi H Q=>∃z,x=.str z/\z.length<=sizeLine/\Q (.str (Txt.slice z lo hi)) H
def R0:qJ X aBb:=by
 intro π s σ H x v vl vu lo hi sl Q I rx hs pl pu h;intros z rfl hz q h;intros t rfl rx;exists "str",_,F.slot_str_getitem.lookup,typeIs_str _ _ _;have fin:∀t' k,EP X π σ Q (.str (Txt.slice z lo hi) t') {s with toks:=k}:=λt' k=>{.str _,H,I.tok k,{()},q};cases pl with
 |none=>cases pu with
  |none=>exact wpAny_getItem_str_slice (l:=ν) (u:=ν) (st:=ν) hs rfl (post_val_or_str {cM (Txt.slice_le z _ _) hz,fin})
  |int j tj=>exact wpAny_getItem_str_slice (l:=ν) (u:=ι (j,tj)) (st:=ν) hs rfl (post_val_or_str {cM (Txt.slice_le z _ _) hz,fin})
 |int i ti=>cases pu with
  |none=>exact wpAny_getItem_str_slice (l:=ι (i,ti)) (u:=ν) (st:=ν) hs rfl (post_val_or_str {cM (Txt.slice_le z _ _) hz,fin})
  |int j tj=>exact wpAny_getItem_str_slice (l:=ι (i,ti)) (u:=ι (j,tj)) (st:=ν) hs rfl (post_val_or_str {cM (Txt.slice_le z _ _) hz,fin})
def Its(z:Str):It:={λi _=>i<z.length,λi H x H'=>H'=H/\∃c,z.cps.toList[i]?=ι c/\x=.str {(#[c])},λi _=>z.length<=i}
def OW:qC (Its z) (z.cps.toList.map λc=>V.str {(#[c])}) H1:=by
 have hl:z.cps.toList.length=z.length:=by simp[Str.length]
 refine{λi H' g h=>?_,λi H' x H2 g y=>{y.1,λh=>?_},λi H' g h=>?_}
 .rw[aB,hl]at h;exact h
 .intros _ c e rfl y;rw[List.getElem?_map,e];rfl
 .rw[aB,hl]at h;exact h
def aAm{P:Program}{w:World}{K:aD}{tg:Expr}(z:Str)(t:Tok)(it:Addr):Turn P w K tg (Its z) [it] it (λi h=>h.IsStrIter it (strIterType z) z t i) where
 mem:=by simp
 obj:=λi h st b hb=>by
  have e:b=it:=by simpa using hb
  subst e;intros o e c d st;exact{o,e,λv z=>by rw[d]at z;cases z}
 keep:=λi h h' st k=>by
  intros o e c d st;exact{o,k it (by simp) o e,c,d}
 item:=by
  intro X hP hw hK hc i π s σ H E I hf st hg;subst hP hw hK;obtain⟨f0,f1,f2,f3,f4,f5⟩:=hf it (by simp);have hl:z.cps.toList.length=z.length:=by simp[Str.length]
  have hi:i<z.length:=hg;obtain⟨c,hc'⟩:∃c,z.cps.toList[i]?=ι c:={_,List.getElem?_eq_getElem ⋯};have hc2:z.cps[i]?=ι c:=by simpa using hc'
  cases ha:z.cps.all (· < 128)
  .have et:strIterType z = "str_iterator" := by unfold strIterType;rw[ha];rfl
   rw[et]at st;refine wpAny_pyNext_wide_item st hc2 λh' st' sb=>?_;have I1:Inv X π σ H {s with heap:=h',toks:=s.toks+1}:=I.turned (t':=s.toks+1) (λb o hb e=>(sb.2 b hb).trans e) f0 f1 f3 f4 f5;obtain⟨o,e,c',d⟩:=id st';exact{.str {(#[c])} s.toks,rfl,zZ (s:={s with heap:=h',toks:=s.toks+1}) e c' d ∅ {.str {(#[c])},H,I1,{()},{rfl,c,hc',(rfl)},by rw[et];exact st',λb hb=>(hf b hb).1}}
  .have et:strIterType z = "str_ascii_iterator" := by unfold strIterType;rw[ha];rfl
   rw[et]at st;refine wpAny_pyNext_ascii_item st hc2 λh' st' sb=>?_;have I1:Inv X π σ H {s with heap:=h',toks:=s.toks+1}:=I.turned (t':=s.toks+1) (λb o hb e=>(sb.2 b hb).trans e) f0 f1 f3 f4 f5;obtain⟨o,e,c',d⟩:=id st';exact{.str {(#[c])} s.toks,rfl,zZ (s:={s with heap:=h',toks:=s.toks+1}) e c' d ∅ {.str {(#[c])},H,I1,{()},{rfl,c,hc',(rfl)},by rw[et];exact st',λb hb=>(hf b hb).1}}
 done:=by
  intro X hP hw hK hc i π s σ H E I hf st hg;subst hP hw hK;obtain⟨f0,f1,f2,f3,f4,f5⟩:=hf it (by simp);have hi:z.length<=i:=hg;have hc2:z.cps[i]?=ν:=Array.getElem?_eq_none hi;cases ha:z.cps.all (· < 128)
  .have et:strIterType z = "str_iterator" := by unfold strIterType;rw[ha];rfl
   rw[et]at st;exact wpAny_pyNext_wide_end (I.ok.hd hc) st hc2 λh' eb=>{rfl,I.turned (t':=s.toks) (λb o hb e=>eb b o hb e) f0 f1 f3 f4 f5}
  .have et:strIterType z = "str_ascii_iterator" := by unfold strIterType;rw[ha];rfl
   rw[et]at st;exact wpAny_pyNext_ascii_end (I.ok.hd hc) st hc2 λh' eb=>{rfl,I.turned (t':=s.toks) (λb o hb e=>eb b o hb e) f0 f1 f3 f4 f5}
 self:=λ_ _ _ _ _ st h=>by
  revert st;unfold strIterType;split
  .exactλst=>wpAny_pyIter_striter_ascii st h
  .exactλst=>wpAny_pyIter_striter_wide st h
def aBz(tl:TE):TI:=λσ H R=>tl σ H λx H1=>∃z,x=.str z/\R (Its z) H1
def Nl(hl:PE X l tl):PI X tg l (aBz tl):=by
 intro π s σ H R I h;refine aY (hl π s σ H _ I h) λv s1 ⟨x,H1,I1,r1,q1⟩=>?_;intros z rfl q q1;intros t rfl r1;refine wpAny_pyIter_strU ?_;refine{s1.heap.objs.size,[s1.heap.objs.size],_,_,H1,rfl,I1.kept (t':=s1.toks) λb o e=>Heap.get?_push_of_some _ e,aAm z t _,{_,Heap.get?_push_size _ rfl,rfl,rfl},λb hb=>?_,q};have e:b=s1.heap.objs.size:=by simpa using hb
 subst e;exact I1.sZ (aZ _) (I1.hok.fresh (aZ _))
section
variable (K:aD)
def oX{T id:String}{r:V->τ->Hp->VK->Prop}{name:Str}{o e:Expr}{to:TE}{te:TE}{apos cpos:Pos}(pa:PlainAttrs T)(slot:Slot T name id)(hty:typeOf (.builtin id)=pure (.type "method_descriptor"))(hm:wR X id r)(ho:PE X o to)(he:PE X e te)(hK:X.K=K:=by rfl)
  (hbase:attributeBase o name X.env (eval o X.env)=eval o X.env:=by rfl)
  (hfew:((backTo cpos (starEach [e] X.env)).all (λx=>!x.1)&&(backToKw cpos (keywordEach [] X.env)).all (λx=>x.1.isSome)
   && decide ([e].length+([]:List Keyword).length+(if([]:List Keyword).isEmpty then 0 else 1)<30))=true:=by rfl)
  (hline:(apos.endLine==cpos.line)=true:=by rfl) (hs:starEach [e] X.env=(false,eval e X.env)::starEach [] X.env:=by rfl):
  PE X (.Call (.Attribute o name apos) [e] [] cpos) (Qx K T r to (uq te uD)):=by
 subst hK;exact kR pa slot hty hm ho (xV he iW hs) hbase hfew hline hs rfl
end
end
def cX.hu{k:Nat}{A:Around}(r:cX k A):A.units+1<cLine:=by have:=r.un;lia
def aRb(hd:(d==sysModules)=false):
  MeetsIn prog w (Builtin.«dict.__len__» {[.ref d],[]}) (λ_ R s=>∃n o es ep,s.heap.get? d=ι o/\o.data=.dict es ep/\es.size=n/\R (.ok (.ret (.int n s.toks))) {s with toks:=s.toks+1}):=
 .of_wp λA R s ⟨n,o,es,ep,ho,hdat,hn,h⟩=>by
  show wpAny _ _ (dictSize d>>=_) _ _ s;unfold dictSize;refine wpAny_bind (wpAny_bind (wpAny_dictEntries ho hdat (wpAny_pure ?_)));show wpAny _ _ (Builtin.Dict.pendingCount d>>=_) _ _ s;refine wpAny_bind (wpAny_pendingCount_other hd ?_);refine wpAny_ret_mkInt ?_;rw[Yj,hn];exact h
def aLz{E:χ}{s:Shared}{n:Nat}{o:Obj}{es:Array DictEntry}{ep:Nat}{Q:χ}(hd:(d==sysModules)=false)(hty:s.TypeIs (.ref d) "dict")
  (ho:s.heap.get? d=ι o)(hdat:o.data=.dict es ep)(hn:es.size=n)(hfit:(n:Int)<2^63)
  (h:Q (.int n (s.toks+1)) {s with toks:=s.toks+1+1}):wpAny (model prog w) A (Builtin.«len» {[.ref d],[]}) (λfin s'=>∃r,fin=.done (.ret r)/\Q r s') E s:=by
 unfold Builtin.«len»;refine wpAny_bind (m:=oneArg "len" _) (wpAny_pure ?_);refine wpAny_bind (m:=callSpecial? (.ref d) (Str.ofString "__len__")) (wpAny_callSpecial?_slot (name:=Str.ofString "__len__") hty Zl
  (call_meetsIn Zl hty PySem.F.entry_dict_len (PySem.F.args_dict_len_1 _) (aRb hd) {n,o,es,ep,ho,hdat,hn,?_}))
 show wpAny _ _ _ _ _ {s with toks:=s.toks+1};refine wpAny_bind (wpAny_holding (wpAny_pure ?_));refine wpAny_bind (wpAny_letGo ?_);show wpAny _ _ (if((n:Nat):Int)<0 then _ else _) _ _ _;rw[if_neg ⋯];show wpAny _ _ (if((n:Nat):Int)≥2^63 then _ else _) _ _ _;rw[if_neg ⋯];exact wpAny_bind (wpAny_mkInt (wpAny_pure {(),h}))
def Nc:iM X (.builtin "len") (λxs H Q=>∃a kvs,xs=[V.ref a]/\H a=ι (.dT kvs)/\Q (.int kvs.length) H):=by
 intro π s σ H xs us Q I r h;intros a kvs rfl ha q h;obtain⟨u,rfl,ru⟩:=vals1 r;cases ru;obtain⟨z,hd,xs,rel,dd⟩:=yl I.hok ha;have ty:=dd.typeIs;obtain⟨o,es,ep,ho,hc,hdat,he,_⟩:=id dd;have e1:es.size=kvs.length:=by
  rw[size_of_entries he];exact rel.length.symm
 refine PySem.Calls.call_function_entry PySem.kind_len PySem.plain_len PySem.entry_len (PySem.args_len1 _) (aLz hd ty ho hdat e1 (by rw[sizeLine_eq]at z;lia) ?_);exact{.int kvs.length,H,I.tok _,{()},q}
end L2
namespace PySem.SeqAt
open AutoSeq1 (wpAny_loadPart')
open MeetsSeq MeetsSeq2 MeetsSeq3 SeqRoads2
end PySem.SeqAt
namespace L2
open PySem PySem.Spec PyProof.Rows
section
open Classical
def aUc(H:Hp)(c:ζ):Value->Bool:=λv=>match v with
 |.ref t=>decide (H t=ι (.lst (c.map V.int)))
 |_=>false
end
def av8(K:aD)(hK:X.K=K:=by rfl):cQ X (compareOp .In) (rIn K false):=by subst hK;exact aB9
def aKO:entryFor table "proto.unchain"=ι Builtin.«proto.unchain»:=entryFor_of_tree (by kernel_rfl)
structure Quiet(A:Around)(h:Heap):Prop where
 ex:∃x ox vx,A.handled=ι (.ref x)/\h.get? x=ι ox/\ox.data=.fields vx/\vx[2]?=ι .none
def aHd(hh:A.handled=ι (.ref x))(hx:s.heap.get? x=ι ox)(dx:ox.data=.fields vx)(kx:vx[2]?=ι .none)
  (ha:s.heap.get? a=ι oa)(da:oa.data=.fields va)(sa:2<va.size)(ne:x≠a)(q:E (.ref a) {s with heap:=s.heap.update a (yr (·.setIfInBounds 2 (.ref x)))}):wpAny (model prog w) A (raiseNew (.ref a):Sem α) Q E s:=by
 unfold raiseNew;refine wpAny_bind (wpAny_handled ?_);rw[hh];have e:(Value.ref x != Value.ref a)=true:=by simpa using ne
 show wpAny _ _ (if(Value.ref x != Value.ref a)=true then _ else _) _ _ _;rw[if_pos e];refine wpAny_bind (wpAny_holding (runValue_entry aKO ?_));show wpAny _ _ (field (.ref x) 2>>=_) _ _ s;refine wpAny_bind (wpAny_field hx dx kx ?_);refine wpAny_pure {(),?_};unfold updateField;refine wpAny_bind (wpAny_bind (wpAny_load ha ?_));rw[da];show wpAny _ _ (if 2<va.size then _ else _) _ _ _;rw[if_pos sa];exact wpAny_update ha (wpAny_throw q)
def Rc(hq:Quiet A s.heap)(q:∀(n:Addr) (h':Heap),(∀b o,s.heap.get? b=ι o->h'.get? b=ι o)->(∃oe,h'.get? n=ι oe/\oe.cls=.type "StopIteration")->E (.ref n) {s with heap:=h'}):
  wpAny (model prog w) A (newExc (.type "StopIteration") []>>=λe=>(raiseNew e:Sem α)) Q E s:=by
 intros x ox vx hh hx dx kx hq.ex;refine wpAny_bind ?_;simp only[newTuple,newExc];refine wpAny_bind (wpAny_newObj_type ?_ (by size_fits));refine wpAny_bind (m:=firstArgMember _ _) (wpAny_of_eq (a:=Value.none) rfl (wpAny_newObj_type ?_ (by size_fits)));generalize eo:({cls:=.type "StopIteration",dict:=ν,data:=.fields _}:Obj)=oe;generalize et:({cls:=.type "tuple",dict:=ν,data:=_}:Obj)=ot;have ge:=Heap.get?_push_size (s.heap.push ot) (o:=oe) (by rw[<-eo];rfl);have keep:∀b o,s.heap.get? b=ι o->((s.heap.push ot).push oe).get? b=ι o:=λb o e=>Heap.get?_push_of_some _ (Heap.get?_push_of_some _ e);have ne:x≠(s.heap.push ot).objs.size:=λz=>by
  have:=dz (Heap.get?_push_of_some ot hx);rw[z]at this;exact n6 _ this
 refine aHd hh (keep x ox hx) dx kx ge (by rw[<-eo]) (by show 2<6;decide) ne (q _ _ (λb o e=>?_) ?_)
 .have hb:(s.heap.push ot).objs.size≠b:=λz=>by
   have:=dz (Heap.get?_push_of_some ot e);rw[<-z]at this;exact n6 _ this
  exact(Heap.get?_update_other _ _ hb).trans (keep b o e)
 .exact{_,Heap.get?_update_self _ ge (SY (Kz (by rw[<-eo]) _)),(VA ..).trans (by rw[<-eo])}
def aMZ(hq:Quiet A s.heap)(ni:∀x,A.handled=ι (.ref x)->x≠it)(hit:s.heap.IsListIter it l i)(hl:s.heap.IsList l items)(z0:items[i]?=ν)
  (q:∀h',uv it s.heap h'->Q ν {s with heap:=h'}):wpAny (model prog w) A (pyNext (.ref it)) Q E s:=by
 obtain⟨u1,u2,u3,u4⟩:=id hit;intros y1 y2 _ y3 y4 hl;unfold pyNext;refine wpAny_bind (wpAny_attempt (wpAny_callSpecial?_slot (name:=Str.ofString "__next__") hit.typeIs slot_listiter_next (wpAny_call_entry slot_listiter_next hit.typeIs entry_listiter_next ?_ (args_listiter_next _))));refine wpAny_bind (m:=field (.ref it) 0) (wpAny_field u2 u4 (x:=.ref l) rfl ?_);refine wpAny_bind (m:=field (.ref it) 1) (wpAny_field u2 u4 (x:=.int i 0) rfl ?_);refine wpAny_bind (m:=seqItems? (.ref l)) (wpAny_seqItems y2 y4 ?_);simp only[z0,dB];refine wpAny_bind (wpAny_rule (wpAny_bind (wpAny_setField u2 u4 (by simp) ?_)));refine Rc (A:=A.in1) ?_ λn h' keep ⟨oe,ge,ce⟩=>?_
 .intros x ox vx hh hx dx kx hq.ex;exact{x,ox,vx,hh,(Heap.get?_update_other _ _ (jB (ni x hh))).trans hx,dx,kx}
 .refine wpAny_bind (wpAny_isInstance (T:="StopIteration") (b:=true) {oe,ge,(ce)} isSubtype_stop ?_);exact wpAny_pure (q h' λb o hb e=>keep b o ((Heap.get?_update_other _ _ (jB hb)).trans e))
def aAM(hq:Quiet A s.heap)(ni:∀x,A.handled=ι (.ref x)->x≠it)(hit:IsTupIter s.heap it t i)(ht:IsTup s.heap t items)(z0:items[i]?=ν)
  (q:∀h',uv it s.heap h'->Q ν {s with heap:=h'}):wpAny (model prog w) A (pyNext (.ref it)) Q E s:=by
 obtain⟨u1,u2,u3,u4⟩:=id hit;intros y1 y2 _ y3 y4 ht;unfold pyNext;refine wpAny_bind (wpAny_attempt (wpAny_callSpecial?_slot (name:=Str.ofString "__next__") hit.typeIs slot_tupleiter_next (wpAny_call_entry slot_tupleiter_next hit.typeIs entry_tupleiter_next ?_ (args_tupleiter_next _))));refine wpAny_bind (m:=field (.ref it) 0) (wpAny_field u2 u4 (x:=.ref t) rfl ?_);refine wpAny_bind (m:=field (.ref it) 1) (wpAny_field u2 u4 (x:=.int i 0) rfl ?_);refine wpAny_bind (m:=seqItems? (.ref t)) (wpAny_seqItems y2 y4 ?_);simp only[z0,dB];refine wpAny_bind (wpAny_rule (wpAny_bind (wpAny_setField u2 u4 (by simp) ?_)));refine Rc (A:=A.in1) ?_ λn h' keep ⟨oe,ge,ce⟩=>?_
 .intros x ox vx hh hx dx kx hq.ex;exact{x,ox,vx,hh,(Heap.get?_update_other _ _ (jB (ni x hh))).trans hx,dx,kx}
 .refine wpAny_bind (wpAny_isInstance (T:="StopIteration") (b:=true) {oe,ge,(ce)} isSubtype_stop ?_);exact wpAny_pure (q h' λb o hb e=>keep b o ((Heap.get?_update_other _ _ (jB hb)).trans e))
def aSG{x1}(hq:Quiet A s.heap)(ht:IsTup s.heap t items)(hn:(assignEach elts env).length=items.size)(hstar:(assignEach elts env).findIdx? (·.1)=ν)
  (h:∀h',uv s.heap.objs.size s.heap h'->wpAny (model prog w) A (assignInOrder ((assignEach elts env).map (·.2)) items.toList) Q E {s with heap:=h'}):wpAny (model prog w) A (assign (.Tuple elts x1 pos) env (.ref t)) Q E s:=by
 have hlt:t≠s.heap.objs.size:=by intros o ho _ ht;exact jr (dz ho)
 rw[assign_Tuple];refine wpAny_bind (wpAny_standAt ?_);unfold unpack;rw[hn,hstar];refine wpAny_bind (wpAny_holding ?_);unfold unpackItems notIterableAtAll;refine wpAny_bind (wpAny_bind (wpAny_specialOf ht.typeIs slot_tuple_iter.lookup (wpAny_pure ?_)));simp only[if_false,px];refine wpAny_bind (wpAny_holding (iter_tuple ht (wpAny_bind (wpAny_holding (draw_tuple hlt items.size 0 _ _ {_,Heap.get?_push_size _ rfl,rfl,rfl} (ht.push _) ⋯ λh₁ hit₁ hs₁=>?_)))));rw[show wI items.size (List.drop 0 items.toList)=items.toList by rw[K4];exact oA (by simp),if_neg (by simp)];have keep:∀b o,b≠s.heap.objs.size->s.heap.get? b=ι o->h₁.get? b=ι o:=λb o hb e=>hs₁.extBut b o hb (Heap.get?_push_of_some _ e);intros x ox vx hh hx dx kx hq.ex;have nx:x≠s.heap.objs.size:=jr (dz hx);refine wpAny_bind (wpAny_holding (aAM {x,ox,vx,hh,keep x ox nx hx,dx,kx} (λy hy=>by rw[hh]at hy;cases hy;exact nx) hit₁ ((ht.push _).extBut hs₁.extBut hlt) (by simp) λh₂ he₂=>?_));simp only[if_false,px,Option.isSome_none];exact wpAny_pure (h h₂ λb o hb e=>he₂ b o hb (keep b o hb e))
def QX(X:Cx):Prop:=∃x ob u,X.A.handled=ι (.ref x)/\X.H₀ x=ι (.gP ob u)/\G6 ob
def QX.now(q:QX X)(I:Inv X π σ H s):Quiet X.A s.heap/\∀x,X.A.handled=ι (.ref x)->H x≠ν:=by
 intros x ob u hh hx vs d k q;have h1:=I.base.kO x ob u hx;refine{{x,ob,vs,hh,(show fB X.prog X.w H s.heap x (.gP ob u)from I.hok x _ h1).1,d,k},λy hy=>?_};rw[hh]at hy;cases hy;rw[h1];exactλz=>nomatch z
def QX.up(q:QX X)(cl:List (Str×Addr))(C:Addr)(fp:List Addr)(I:Inv X π σ H s):QX (fQ X sc N cl C s H fp):=by
 intros x ob u hh hx c q;exact{x,ob,u,hh,I.base.kO x ob u hx,c}
section
variable {X:Cx}(K:aD)
def aDK{es:List Expr}{k:Nat}{t:uJ}{n:Nat}{pos:Pos}(hc:QX X)(h:Av X es t)(hK:X.K=K:=by rfl)
  (hn:(assignEach es X.env).length=n:=by rfl) (hst:(assignEach es X.env).findIdx? (·.1)=ν:=by rfl):PG X (.Tuple es k pos) (Pj K n t):=by
 subst hK;intro π s σ H v u Q I r hw;intros a xs e1 hq hl hw hw;subst e1;cases r;obtain⟨its,rv,ht,hz⟩:=I.tuple hq;refine aSG (hc.now I).1 ht (by simp[hn,<-hl,rv.length]) hst λh' hx=>?_;exact h π _ σ H xs _ Q (I.kept (t':=s.toks) λb o e=>hx b o (jr (dz e)) e) (by simpa using rv) hw
def aHy{P:Program}{w:World}{K:aD}{tg:Expr}(a it:Addr):Turn P w K tg (rm K a) [it] it (λi h=>h.IsListIter it a i) QX where
 mem:=by simp
 obj:=(Oo (P:=P) (w:=w) (K:=K) (tg:=tg) a it).obj
 keep:=(Oo (P:=P) (w:=w) (K:=K) (tg:=tg) a it).keep
 item:=by
  intro X e1 e2 e3 hc i π s σ H E I hf st ⟨xs,x,hq,hx⟩;subst e1 e2 e3;obtain⟨its,rv,p,hz⟩:=I.list hq;obtain⟨u,hu,ru⟩:=rv.get hx;obtain⟨f0,f1,f2,f3,f4,f5⟩:=hf it (by simp);refine wpAny_pyNext_list_item st p.isList (x:=u) (by simpa using hu) λh' st' sb=>?_;obtain⟨o,e,c,d⟩:=id st';exact{u,rfl,zZ (s:={s with heap:=h'}) e c d ∅ {x,H,I.turned (t':=s.toks) (λb o hb e=>(sb.2 b hb).trans e) f0 f1 f3 f4 f5,ru,{rfl,λys hy=>by rw[I.WG hy hq];exact hx},st',λb hb=>(hf b hb).1}}
 done:=by
  intro X e1 e2 e3 hc i π s σ H E I hf st ⟨xs,hq,hx⟩;subst e1 e2 e3;obtain⟨its,rv,p,hz⟩:=I.list hq;obtain⟨f0,f1,f2,f3,f4,f5⟩:=hf it (by simp);have hl:=rv.length;obtain⟨q1,q2⟩:=hc.now I;exact aMZ q1 (λy hy z=>q2 y hy (by rw[z];exact f0)) st p.isList (by simp;lia) λh' eb=>{rfl,I.turned (t':=s.toks) (λb o hb e=>eb b o hb e) f0 f1 f3 f4 f5}
 self:=(Oo (P:=P) (w:=w) (K:=K) (tg:=tg) a it).self
def aHv(K:aD)(tl:TE):TI:=λσ H R=>tl σ H λx H1=>∃a,x=.ref a/\(∃xs,ak K H1 a xs)/\R (rm K a) H1
def aHq{tg l:Expr}{tl:TE}(hl:PE X l tl)(hK:X.K=K:=by rfl):KL QX X tg l (aHv K tl):=by
 subst hK;intro π s σ H R I h;refine aY (hl π s σ H _ I h) λv s1 ⟨x,H1,I1,r1,a,e,⟨xs,hq⟩,q⟩=>?_;subst e;cases r1;obtain⟨its,rv,p,hz⟩:=I1.list hq;refine wpAny_pyIter_list p.isList ?_;refine{s1.heap.objs.size,[s1.heap.objs.size],_,_,H1,rfl,I1.kept (t':=s1.toks) λb o e=>Heap.get?_push_of_some _ e,aHy a _,{_,Heap.get?_push_size _ rfl,rfl,rfl},λb hb=>?_,q};obtain rfl:b=s1.heap.objs.size:=by simpa using hb
 exact I1.sZ (aZ _) (I1.hok.fresh (aZ _))
end
section
variable {N ps:List Str}{P:Program}{w:World}{K:aD}{mg:μ}{x:Str}{k:Nat}{sp:Sp}{a:Addr}
def aEL(hN:X.N.Nodup)(hi':X.N[i]?=ι y)(hx:Loc X.env.scope y)
  (O:Ft X scope sc N ix)(hc:QX X)(hi:KL QX X tg iter wi)
  (hb:∀cl C s₀ H₀ ex,QX (fQ X sc N cl C s₀ H₀ ex)->PG (fQ X sc N cl C s₀ H₀ ex) tg g/\yS (fQ X sc N cl C s₀ H₀ ex) ifs tc/\PE (fQ X sc N cl C s₀ H₀ ex) elt te)
  (hs:∀x,foldedSetIterable iter X.env x=pure x:=by intro _;rfl)(hsw:swapsWith (.ListComp elt [{tg,iter,ifs,(0)}] scope pos) (ι (.Name y py)) spos.line X.env=pure true:=by rfl)
  (hf:X.fn y=true∨X.env.scope.names.lookup y=ι .local:=by trivial):
  PS X (.Assign [.Name y py] (.ListComp elt [{tg,iter,ifs,(0)}] scope pos) spos) (Ey (Nh ix wi g tc te) (gU i)):=
 TZ (cm:=QX) (wx:=λ_ _ _ _ _ _ _=>False) hN hi' hx O hc (λcl C fp I=>hc.up cl C fp I) hi hb (λ_ _ _ _ _ _ _ _ z=>z.elim) hs hsw hf
structure ER(k:Nat)(A:Around)(x:Addr):Prop where
 hd:A.handled=ι (.ref x)
 dp:A.depth+3*k+105<recursionLimit
structure aQv(P:Program)(w:World)(K:aD)(mg:μ)(base:Heap)(k:Nat)(f:Addr)(fd:FuncData)(ps:List Str)(sp:Sp):Prop where
 len:∀vs H Q E,sp vs H Q E->vs.length=ps.length
 run:∀(A:Around)(outer:List Env)(s:Shared)(H:Hp)(args:Args)(us:List Value)(vs:τ)(Q:VK)(x:Addr)(ob:Obj)(u:HO),ER k A x->H x=ι (.gP ob u)->G6 ob->zN P w K mg base A outer s H->BindsTo s fd args (ps.zip us)->Vals vs us->sp vs H Q E0->
  codeAny (model P w) A (.call (.ref f) args) (CR (jX P w) outer P w H s Q E0) s
abbrev cxQ(P:Program)(w:World)(K:aD)(mg:μ)(base:Heap)(N:List Str)(qual:Str)(scope:Scope)(f:Addr)(cdv:Value)(A:Around)(outer:List Env)(s:Shared)(H:Hp):Cx:=Cx.sW {dY P w K mg base N qual scope f cdv A outer s H E0 with calm:=false}
structure mT(P:Program)(w:World)(K:aD)(mg:μ)(base:Heap)(x:Str)(k:Nat)(ps:List Str)(sp:Sp):Prop where
 ex:∃(g:Addr)(gd:FuncData),mg x=ι (.ref g)/\oR K (.ref g)=true/\Binds K gd ps []/\aQv P w K mg base k g gd ps sp
def Fn.aAR{base:Heap}{st:Stmt}(F:Fn K mg x st ps)(S:aL N ps (aG st))(len:∀vs H Q E,sp vs H Q E->vs.length=ps.length)
  (hbody:∀(f:Addr)(cdv:Value)(A:Around)(outer:List Env)(s:Shared)(H:Hp)(vs:τ)(Q:VK),QX (cxQ P w K mg base N x (aG st) f cdv A outer s H)->sp vs H Q E0->
   ∃t,jN (cxQ P w K mg base N x (aG st) f cdv A outer s H) (iZ st) t/\t {nx:=λ_ H'=>Q .non H',rt:=Q} (start N vs) H):mT P w K mg base x (k+1) ps sp:=by
 intros f fd F m b F.ex;have hkp:=F.kp;intros oc od kV doc pm an cdv ct osl rfl lk hcd F.ex;refine{f,_,m,hkp,b,len,λA outer s H args us vs Q x0 ob u hr hx hcm e0 hb r hsp=>?_};have keep:∀b o,base.get? b=ι o->s.heap.get? b=ι o:=λb o e=>(e0.bs b o e).1;have KX:K.In s.heap:=e0.mod.zF.keeps keep;have hkind:∀y∈ps.zip us,(aG st).names.lookup y.1=ι .local∨((aG st).names.lookup y.1=ι .cell/\((cellsFrom (s.heap.objs.size+1) (aG st).names []).lookup y.1).isSome=true):=λ⟨n,v⟩ hy=>
  (S.par n (Ri hy).1).imp id λz=>{z,ve _ _ _ (.inl z)}
 refine codeAny_call_function (by have:=hr.dp;lia) (KX _ _ lk) rfl S.co S.gen rfl (W.codeRec_of KX hcd) (hb _ _ _ _ (wpAny_newFunctionEnv_cells S.kind hkind λenv he s1 x1=>?_));subst he;refine{(e0.mod.nolimit.keeps keep).keeps x1.toInCall.keep,codeAny_func ?_};obtain⟨t,ht,hq⟩:=hbody f cdv A outer s H vs Q {x0,ob,u,hr.hd,hx,(hcm)} hsp;have I:=(ET (CX:=jX P w) (E:=E0) (cb:=false) S (λz=>nomatch z) e0 (len _ _ _ _ hsp) r x1).wish λ_ _=>False;refine wpAny_mono (ht [] s1 (start N vs) H _ I hq) (λfl s' hs=>?_) λe s' hs=>hs.elim;cases fl with
 |ret u=>
  intros v σ' H' J rv q hs;exact{v,H',J.os,J.bare,J.base,J.hok,rv,(q)}
 |next=>
  intros σ' H' J q hs;exact{.non,H',J.os,J.bare,J.base,J.hok,rfl,q}
 |brk=>intros _ _ _ q hs;exact False.elim q
 |cont=>intros _ _ _ q hs;exact False.elim q
def aRC(a:Addr)(sp:Sp)(t:TA):TE:=λσ H Q=>t σ H λvs H1=>∃ob u,H1 a=ι (.gP ob u)/\G6 ob/\sp vs H1 Q E0
def WS(C:mT X.prog X.w X.K X.mg X.base x k ps sp)(hr:cX k' X.A)(hg:Gl (vA X a) x)(ha:PA (vA X a) (e::es) t)
  (hk:k<=k':=by decide)(hd:(x==("__debug__":Str))=false:=by decide)
  (he:starEach (e::es) X.env=(false,eval e X.env)::starEach es X.env:=by rfl)(hpl:(backTo pos (starEach es X.env)).any (·.1)=false:=by rfl):PE (vA X a) (.Call (.Name x p) (e::es) [] pos) (aRC a sp t):=by
 intros g gd hm hkp hb F C.ex;intro π s σ H Q I h;refine wpAny_Call_Name_kw (qP I hg hm ?_ hd);refine Iv (h₀:=X.base) I.ok.mod.zF hkp (aY (ha pos π s σ H _ I h) λus s1 ⟨vs,H1,I1,r,ob,u,h1,h2,q⟩=>{I1.dR,?_}) he hpl;have hl:(us++[]).length=ps.length:=by rw[rJ,<-r.length];exact F.len _ _ _ _ q
 have hroom:ER k (vA X a).A a:={rfl,by have:=hr.dp;show X.A.depth+3*k+105<_;lia};refine wpAny_call (codeAny_mono (F.run _ X.stack s1 H1 {us,([])} (us++[]) vs Q a ob u hroom h1 h2 I1.env0 (hb s1 us I1.dR hl) (by rw[rJ];exact r) q) λrs s2 hq=>?_);cases rs with
 |ok fl=>
  cases fl with
  |ret u=>exact I1.after hq
  |next=>exact False.elim hq
  |brk=>exact False.elim hq
  |cont=>exact False.elim hq
 |error ev=>exact(W2 hq).elim
def wz:Value->Str|.str s _=>s|_=>Str.empty
def IL:Value->Nat|.str _ t=>t|_=>0
structure KD(w:World)(K:aD)(mg:μ)(x:Str)(a:Addr):Prop where
 ex:∃es ep,K.lookup a=ι {.type "dict",ν,.dict {(es)} ep,#[]}/\es.map (λe=>({Jf w.params (wz e.key),.str (wz e.key) (IL e.key),e.val}:DictEntry))=es
 ns:(a==sysModules)=false
 mg:mg x=ι (.ref a)
def K8(D:KD w K mg x a)(X:K.In h):∃f,Heap.MapOf (kZ P w) h a f/\∀s o,bJ K a s=ι o->f (.inr s)=o:=by
 intros es ep hl hk D.ex;refine{findBy uO {(es)},{_,_,_,X a _ hl,{rfl,rfl,(rfl)},rfl,λe he=>?_,λ_=>rfl},λs o ho=>?_}
 .have he':e∈es:=by simpa using he
  rw[<-hk]at he';obtain⟨e0,_,rfl⟩:=bO.mp he';exact{.inr (wz e0.key),IA _ (IL e0.key),rfl}
 .unfold bJ at ho;rw[hl]at ho;unfold findBy;rw[show(({(es)}:Array DictEntry).find? λe=>uO (.inr s) e.key)=es.find? λe=>uO (.inr s) e.key by simp];have ef:(es.find? λe=>uO (.inr s) e.key)=es.find? λe=>e.key.isStr s:=by
   congr 1
   funext e
   show Value.isStrOf s e.key=e.key.isStr s;cases e.key<;>rfl
  rw[ef];cases z:es.find? λe=>e.key.isStr s with
  |some e=>simp only[z]at ho;cases ho;rfl
  |none=>
   simp only[z]at ho;split at ho
   .cases ho
   .cases ho;rfl
end
section
variable {X:Cx}{i:Expr}{ty:TE}{p pos:Pos}{x:Str}{a:Addr}
def YO{K:aD}{mg:μ}(D:KD w K mg x a){s:Shared}(X:K.In s.heap):s.TypeIs (.ref a) "dict" := by
 obtain⟨f,m,_⟩:=K8 (P:=default) D X;exact m.typeIs
def IM(K:aD)(a:Addr)(ty:TE):TE:=λσ H Q=>ty σ H λy H1=>∃s v,y=.str s/\bJ K a s=ι (ι (.ref v))/\Q (.ref v) H1
def aJb{K:aD}(D:KD X.w X.K X.mg x a)(hg:Gl X x)(hi:PE X i ty)(hK:X.K=K)(hs:MR i)(hd:(x==("__debug__":Str))=false):PE X (.Subscript (.Name x p) i pos) (IM K a ty):=by
 subst hK;intro π s σ H Q I h;refine kP Vk.lookup hs (qP I hg D.mg (aY (hi π s σ H _ I h) λiv s2 ⟨y,H2,I2,ry,k,v,ey,hv,q⟩=>?_) hd);subst ey;obtain⟨t,rfl⟩:=(show ∃t,iv=Value.str k t from ry);obtain⟨f,m,hf⟩:=K8 (P:=X.prog) D I2.dR;exact{YO D I2.dR,wpAny_getItem_of (MH _ _ k t) m (hf k _ hv) {.ref v,H2,I2.tok _,rfl,q}}
def aEs(D:KD X.w X.K X.mg x a)(K:aD)(hg:Gl X x)(hi:PE X i ty)(hs:MR i)(hK:X.K=K:=by rfl)(hd:(x==("__debug__":Str))=false:=by decide):PE X (.Subscript (.Name x p) i pos) (IM K a ty):=aJb D hg hi hK hs hd
def UK(K:aD)(a:Addr)(g:Bool->Bool)(ty:TE):TE:=λσ H Q=>ty σ H λy H1=>∃s o,y=.str s/\bJ K a s=ι o/\Q (.bl (g o.isSome)) H1
def OY(D:KD X.w X.K X.mg x a)(K:aD)(hg:Gl X x)(hi:PE X i ty)(hK:X.K=K:=by rfl)(hd:(x==("__debug__":Str))=false:=by decide):PC X .In i (.Name x p) (UK K a id ty):=by
 subst hK;intro π s σ H Q I h;refine aY (hi π s σ H _ I h) λiv s1 ⟨y,H1,I1,ry,k,o,ey,ho,q⟩=>qP I1 hg D.mg ?_ hd;subst ey;obtain⟨t,rfl⟩:=(show ∃t,iv=Value.str k t from ry);obtain⟨f,m,hf⟩:=K8 (P:=X.prog) D I1.dR;refine wpAny_in_of (MH _ _ k t) D.ns m ?_;rw[hf k o ho];exact{.bl _,H1,I1.tok _,rfl,q}
def aAq(D:KD X.w X.K X.mg x a)(K:aD)(hg:Gl X x)(hi:PE X i ty)(hK:X.K=K:=by rfl)(hd:(x==("__debug__":Str))=false:=by decide):PC X .NotIn i (.Name x p) (UK K a not ty):=by
 subst hK;intro π s σ H Q I h;refine aY (hi π s σ H _ I h) λiv s1 ⟨y,H1,I1,ry,k,o,ey,ho,q⟩=>qP I1 hg D.mg ?_ hd;subst ey;obtain⟨t,rfl⟩:=(show ∃t,iv=Value.str k t from ry);obtain⟨f,m,hf⟩:=K8 (P:=X.prog) D I1.dR;refine wpAny_notIn_of (MH _ _ k t) D.ns m ?_;rw[hf k o ho];exact{.bl _,H1,I1.tok _,rfl,q}
end
def BE(P:Program)(w:World)(K:aD)(mg:μ)(base:Heap)(a:Addr)(k:Nat)(ps:List Str)(T:List (Str×Str))(sp:Str->Sp):Prop:=
 ∀s∈T.map (·.1),∃g gd,bJ K a s=ι (ι (.ref g))/\oR K (.ref g)=true/\Binds K gd ps []/\kj P w K mg base (jX P w) k g gd ps (sp s)
section
variable {P:Program}{w:World}{K:aD}{mg:μ}{base:Heap}{a:Addr}{k:Nat}{ps:List Str}{sp:Str->Sp}
structure QH(K:aD)(mg:μ)(a:Addr)(T:List (Str×Str)):Prop where
 at_:∀p∈T,∀g,mg p.2=ι (.ref g)->bJ K a p.1=ι (ι (.ref g))
 is_:∀s∈T.map (·.1),∃v,bJ K a s=ι (ι v)
def GA{h:Heap}(X:K.In h)(G:h.Ns mainGlobals mg){T:List (Str×Str)}(e:T.map (λp=>bJ K a p.1)=T.map λp=>bJ K mainGlobals p.2)(hs:(T.all λp=>match bJ K a p.1 with|some (ι _)=>true|_=>false)=true):QH K mg a T:=by
 have some_:∀p∈T,∃v,bJ K a p.1=ι (ι v):=λp hp=>by
  have h1:=mY.mp hs p hp;cases z:bJ K a p.1 with
  |none=>rw[z]at h1;cases h1
  |some o=>
   cases o with
   |none=>rw[z]at h1;cases h1
   |some v=>exact{v,(rfl)}
 refine{λp hp g hg=>?_,λs hs=>?_}
 .obtain⟨v,z⟩:=some_ p hp;have e1:bJ K a p.1=bJ K mainGlobals p.2:=List.map_inj_left.mp e p hp;have:=fZ X G (e1.symm.trans z);rw[this]at hg;cases hg;exact z
 .obtain⟨p,hp,rfl⟩:=bO.mp hs;exact some_ p hp
def jh(P:Program)(w:World)(K:aD)(mg:μ)(base:Heap)(k:Nat)(ps:List Str)(T:List (Str×Str))(sp:Str->Sp):Prop:=∀p∈T,∃j,j<=k/\rM P w K mg base p.2 j ps (sp p.1)
def jh.nil:jh P w K mg base k ps [] sp:=λ_ h=>nomatch h
def jh.cons{j:Nat}{s f:Str}{T:List (Str×Str)}(C:rM P w K mg base f j ps (sp s))(r:jh P w K mg base k ps T sp)(hk:j<=k:=by decide):jh P w K mg base k ps ((s,f)::T) sp:=λp hp=>by
 rcases c7.mp hp with rfl|hp
 .exact{j,hk,(C)}
 .exact r p hp
def jh.of{T:List (Str×Str)}(F:QH K mg a T)(C:jh P w K mg base k ps T sp):BE P w K mg base a k ps T sp:=λs hs=>by
 obtain⟨p,hp,rfl⟩:=bO.mp hs;obtain⟨j,hk,C⟩:=C p hp;intros g gd m c d e C.ex;exact{g,gd,F.at_ p hp g m,c,d,e.mono hk}
structure Pz(K:aD)(a:Addr)(l:List Str):Prop where
 at_:∀s∈l,bJ K a s=ι ν
def dq{l:List Str}(h:(l.all λs=>match bJ K a s with|some ν=>true|_=>false)=true):Pz K a l:={λs hs=>by
 have h1:=mY.mp h s hs;cases z:bJ K a s with
 |none=>rw[z]at h1;cases h1
 |some o=>
  cases o with
  |none=>rfl
  |some v=>rw[z]at h1;cases h1}
def yu:List Value->Option (List Str)
 |[]=>ι []
 |.str s _::r=>(yu r).map (s :: ·)
 |_=>ν
theorem Up:∀{l:List Value} {xs:List Str},yu l=ι xs->Vals (xs.map V.str) l
 |[],_,h=>by cases h;exact .nil
 |v::r,xs,h=>by
  cases v<;>first|cases h|skip
  rename_i s t
  cases z:yu r with
  |none=>rw[show yu (.str s t::r)=(yu r).map (s :: ·)from rfl,z]at h;cases h
  |some ys=>
   rw[show yu (.str s t::r)=(yu r).map (s :: ·)from rfl,z]at h;cases h;exact .cons {t,(rfl)} (Up z)
structure KDT(K:aD)(a:Addr)(T:List (Str×List Str)):Prop where
 at_:∀p∈T,∃t,bJ K a p.1=ι (ι (.ref t))/\∀H,ao K H t (p.2.map V.str)
def iA(K:aD)(a:Addr)(p:Str×List Str):Bool:=match bJ K a p.1 with
 |some (ι (.ref t))=>match K.lookup t with
  |some ⟨.type "tuple",_,.seq its _,_⟩=>decide (yu its.toList=ι p.2)&&decide (its.size<=1000)
  |_=>false
 |_=>false
def aGG{T:List (Str×List Str)}(h:T.all (iA K a)=true):KDT K a T:={λp hp=>by
 have h1:=mY.mp h p hp;unfold iA at h1;split at h1
 .rename_i t e
  split at h1
  .rename_i its n sl e2
   rw[oN,decide_eq_true_eq,decide_eq_true_eq]at h1;exact{t,e,λH=>.inr {_,its,_,e2,rfl,rfl,cM h1.2 (by rw[sizeLine_eq];decide),Up h1.1}}
  .cases h1
 .cases h1}
def aJc(T:List (Str×Str))(sp:Str->Sp)(E:XK)(ty:TE)(t:TA):TE:=λσ H Q=>ty σ H λy H1=>∃s,y=.str s/\s∈T.map (·.1)/\t σ H1 λvs H2=>sp s vs H2 Q E
def yb{N:List Str}{qual:Str}{scope:Scope}{f:Addr}{cdv:Value}{A:Around}{outer:List Env}{s₀:Shared}{H₀:Hp}{E:XK}{x:Str}{T:List (Str×Str)}{i e:Expr}{es:List Expr}{p p' pos:Pos}{ty:TE}{t:TA}
  (D:KD w K mg x a) (C:BE P w K mg base a k ps T sp) (hr:cX k (dY P w K mg base N qual scope f cdv A outer s₀ H₀ E).A) (hg:Gl (dY P w K mg base N qual scope f cdv A outer s₀ H₀ E) x) (hi:PE (dY P w K mg base N qual scope f cdv A outer s₀ H₀ E) i ty) (hs:MR i) (ha:PA (dY P w K mg base N qual scope f cdv A outer s₀ H₀ E) (e::es) t)
  (hd:(x==("__debug__":Str))=false:=by decide)
  (he:starEach (e::es) (dY P w K mg base N qual scope f cdv A outer s₀ H₀ E).env=(false,eval e (dY P w K mg base N qual scope f cdv A outer s₀ H₀ E).env)::starEach es (dY P w K mg base N qual scope f cdv A outer s₀ H₀ E).env:=by rfl) (hpl:(backTo pos (starEach es (dY P w K mg base N qual scope f cdv A outer s₀ H₀ E).env)).any (·.1)=false:=by rfl):
  PE (dY P w K mg base N qual scope f cdv A outer s₀ H₀ E) (.Call (.Subscript (.Name x p) i p') (e::es) [] pos) (aJc T sp E ty t):=by
 intro π s σ H Q I h;show wpAny _ _ (do
  let fv<-eval (.Subscript (.Name x p) i p') (dY P w K mg base N qual scope f cdv A outer s₀ H₀ E).env
  callWith pos fv [] (backTo pos (starEach (e::es) (dY P w K mg base N qual scope f cdv A outer s₀ H₀ E).env)) (backToKw pos (keywordEach [] (dY P w K mg base N qual scope f cdv A outer s₀ H₀ E).env))) _ _ s
 refine wpAny_bind (kP Vk.lookup hs (qP I hg D.mg (aY (hi π s σ H _ I h) λiv s2 ⟨y,H2,I2,ry,z,ey,hz,q⟩=>?_) hd));subst ey;obtain⟨u,rfl⟩:=(show ∃u,iv=Value.str z u from ry);obtain⟨g,gd,hv,hkp,hb,F⟩:=C z hz;obtain⟨m,hm,hf⟩:=K8 (P:=P) D I2.dR;refine{YO D I2.dR,wpAny_getItem_of (MH _ _ z u) hm (hf z _ hv) ?_};refine Iv (h₀:=base) I.ok.mod.zF hkp (aY (ha pos π _ σ H2 _ (I2.tok _) q) λus s3 ⟨vs,H3,I3,r,q3⟩=>{I3.dR,?_}) he hpl;refine kT F hr hb .nil xj I3 r ?_;rw[rJ];exact q3
end
structure vO(K:aD)(C:Addr)(m qual:Str)(st:Stmt)(ps:List Str):Prop where
 ex:∃(f:Addr)(fd:FuncData),vf K m qual st f fd/\Meth K C m f/\Binds K fd ps []
structure Fg(P:Program)(w:World)(K:aD)(mg:μ)(base:Heap)(C:Addr)(m:Str)(k:Nat)(ps:List Str)(sp:Sp):Prop where
 ex:∃(f:Addr)(fd:FuncData),Meth K C m f/\Binds K fd ps []/\kj P w K mg base (jX P w) k f fd ps sp
section
variable {P:Program}{w:World}{K:aD}{mg:μ}{base:Heap}{C:Addr}{m qual:Str}{st:Stmt}{ps:List Str}
def vO.gh{N:List Str}{k:Nat}{sp:Sp}(F:vO K C m qual st ps)(S:aL N ps (aG st))(len:∀vs H Q E,sp vs H Q E->vs.length=ps.length)
  (hbody:∀(f:Addr)(cdv:Value)(A:Around)(outer:List Env)(s:Shared)(H:Hp)(vs:τ)(Q:VK)(E:XK),cX k (A.deeper (envOfC qual (aG st) s.heap.objs.size f cdv))->sp vs H Q E->
   ∃t,jN (dY P w K mg base N qual (aG st) f cdv A outer s H E) (iZ st) t/\t {nx:=λ_ H'=>Q .non H',rt:=Q} (start N vs) H):Fg P w K mg base C m (k+1) ps sp:=by
 intros f fd F m b F.ex;exact{f,fd,m,b,F.okF S len λcdv A outer s H vs Q E hr h=>hbody f cdv A outer s H vs Q E hr h}
def vO.cal{N:List Str}{k:Nat}{sp:Sp}(F:vO K C m qual st ps)(S:aL N ps (aG st))(len:∀vs H Q E,sp vs H Q E->vs.length=ps.length)
  (hbody:∀(f:Addr)(cdv:Value)(A:Around)(outer:List Env)(s:Shared)(H:Hp)(vs:τ)(Q:VK)(E:XK),cX k (A.deeper (envOfC qual (aG st) s.heap.objs.size f cdv))->sp vs H Q E->
   ∃t,jN (dY P w K mg base N qual (aG st) f cdv A outer s H E).sW (iZ st) t/\t {nx:=λ_ H'=>Q .non H',rt:=Q} (start N vs) H):Fg P w K mg base C m (k+1) ps sp:=
 F.gh S len λf cdv A outer s H vs Q E hr h=>let⟨t,a,b⟩:=hbody f cdv A outer s H vs Q E hr h;{t,a.sW,(b)}
def aGD{f:Addr}{oc:Value}{od:Option Addr}{kV doc pm:Value}{an:Option Addr}{cdv ct:Value}{sl:Array (Option Value)}(a:gK K (.ref C) m=ι (ι (.ref f)))(i:W.isFn K (.ref f)=true)
  (l:K.lookup f=ι {oc,od,.func (qD m qual (mz st) (iZ st) (aG st) .none kV doc pm an cdv ct),sl}) (c:ED K cdv qual=true) (k:oR K (.ref f)=true)
  (hb:∀(us:List Value),us.length=ps.length->bindArgs (qD m qual (mz st) (iZ st) (aG st) .none kV doc pm an cdv ct) {us,([])}=pure (ps.zip us):=by
   intro us hl;first
    |(obtain⟨_,rfl⟩:=L2.us1 hl;rfl)
    |(obtain⟨_,_,rfl⟩:=L2.us2 hl;rfl)):vO K C m qual st ps:=
 {f,_,kF (st:=st) l c k,{a,i,(k)},.all hb}
structure ClM(K:aD)(mg:μ)(x:Str)(C:Addr):Prop where
 cl:Cls K C
 makes:TY K C=true
 kp:oR K (.ref C)=true
 mg:mg x=ι (.ref C)
end
def axt(M:ClM X.K X.mg x C)(I:Fg X.prog X.w X.K X.mg X.base C "__init__" k ["self"] sp)(hr:cX k' X.A)(hg:Gl X x)(hk:k+1<=k':=by decide)(hdb:(x==("__debug__":Str))=false:=by decide):PE X (.Call (.Name x p) [] [] pos) (WU C sp [] E0 uD):=by
 intros f fd m b F I.ex;exact az8 {M.makes,m.at_,m.fn,(M.kp)} F (hr.mono hk) hg M.mg b .nil XE hdb
def aDH(c:Cls X.K C)(M:Fg X.prog X.w X.K X.mg X.base C m k ps sp)(hr:cX k' X.A)(ho:PE X.sW o ta)(ha:PA X.sW (e::es) t)(hk:k<=k':=by decide)
  (hst:starEach (e::es) X.env=(false,eval e X.env)::starEach es X.env:=by rfl)(hpl:(backTo pos (starEach es X.env)).any (·.1)=false:=by rfl)
  (ht:eval (.Call (.Attribute o m apos) (e::es) [] pos) X.env=(do
   let ov<-eval o X.env
   standAt apos.atName
   let(f,first)<-holding [ov] (getMethod ov m pl)
   callWith pos f first (backTo pos (starEach (e::es) X.env)) (backToKw pos (keywordEach [] X.env))):=by rfl):
  PT2 X (.Call (.Attribute o m apos) (e::es) [] pos) (λσ H Q E=>ta σ H λx H1=>∃a dx fs,x=.ref a/\H1 a=ι (.ins C dx fs)/\fs.lookup m=ν/\t σ H1 λvs H2=>sp (x::vs) H2 Q E):=by
 intro π s σ H Q E I h;intros f fd hm b F M.ex;refine W.methodCall_KW (pl:=pl) (wpAny_mono (ho π s σ H _ (I.wish _) h) (λu s1 ⟨x,H1,I1,rx,a,dx,fs,ex,ea,l,q⟩=>?_) λ_ _ z=>z.elim) ht;subst ex;obtain rfl:u=Value.ref a:=rx;refine aMh I1.qW ea c hm l ?_;refine Iv (first:=[.ref a]) (h₀:=X.base) I.ok.mod.zF hm.kp (wpAny_mono (ha pos π s1 σ H1 _ I1 q) (λus s2 ⟨vs,H2,I2,r,q2⟩=>{I2.dR,?_}) λ_ _ z=>z.elim) hst hpl
 exact Cs (us:=.ref a::us) (vs:=.ref a::vs) F (hr.mono hk) b I2.qW (.cons rfl r) q2
def SS(K:aD)(he:PE X e ta)(hb:attributeBase e f X.env (eval e X.env)=eval e X.env)(hK:X.K=K:=by rfl):PE X (.Attribute e f pos) (BG K ta f):=by subst hK;exact aSj he hb
def aRF:cQ X (binaryOp .Mult) (λx y H Q=>∃(i:Str)(k:Nat),x=.int (k:Int)/\y=.str i/\2<=k/\k<=1000/\1<=i.length/\i.length<=1000/\Q (.str {(iy k i.cps).foldl (·++·) #[]}) H):=by
 intro π s σ H x y v u Q I rx ry h;intros i k rfl rfl h1 h2 h3 h4 q h;obtain⟨t,rfl⟩:=(show ∃t,v=Value.int (k:Int) t from rx);obtain⟨t',rfl⟩:=(show ∃t,u=Value.str i t from ry);have hm:i.length*k<=1000*1000:=vq h4 h2;have e:((k:Int)==1||i.length==0)=false:=by
  rw[Bool.or_eq_false_iff,beq_eq_false_iff_ne,beq_eq_false_iff_ne];exact{⋯,⋯}
 refine lm_binaryOp_repeat_right (T:="str") (U:="int") ∅ (λs'=>typeIs_int s' _ t) (typeIs_str s i t') HU noFill_str_mul Ll lm_noRepeat_int repeat_str Ya.lookup
  (call_gives Ll (typeIs_int s _ t) F.entry_int_mul (F.args_int_mul_2 _ _) (AutoIntG3.int___mul___int_str_0 _ t i t')
   {rfl,typeIs_str s i t',call_gives F.slot_str_mul (typeIs_str s i t') F.entry_str_mul (F.args_str_mul_2 _ _) (gives_str_mul i (k:Int) t' t (by rw[decide_eq_false ⋯,decide_eq_false ⋯];rfl) (λ_ _=>?_) (λ_ _=>?_)) ?_})
 .have:(1000:Int)<=(2^63-1)/(k:Int):=(Int.le_ediv_iff_mul_le ⋯).mpr ⋯;lia
 .unfold az7 sizeLine;rw[dB];exact decide_eq_false ⋯
 .rw[if_neg ⋯,if_neg (by rw[e];exact gQ),dB];refine{?_,{.str _,H,I.tok _,{()},q}};show vY _<=sizeLine;have hz:∀(n:Nat)(a:Array Nat),((iy n i.cps).foldl (·++·) a).size=a.size+n*i.cps.size:=by
   intro n;induction n with
   |zero=>intro a;simp
   |succ n ih=>
    intro a;rw[zc,RV,ih,TU,uI];lia
  have e2:sizeLine=16777216:=∅;have:=hz k #[];show((iy k i.cps).foldl (·++·) #[]).size<=sizeLine;rw[this,e2,yH];have:i.cps.size=i.length:=rfl;rw[this];have e3:(#[]:Array Nat).size=0:=rfl;lia
end L2
namespace Rm
section
variable {b x y:Int}{ρ ς:ζ}{n m:Nat}
def tk(b n:Int):Int:=if b=0 then n else n%b
def dj(n:Int):tk 0 n=n:=if_pos rfl
def oB(h:b≠0)(n:Int):tk b n=n%b:=if_neg h
def rE(b n:Int):tk b (tk b n)=tk b n:=by
 unfold tk;split
 .rfl
 .exact uh _ (rR b)
def rO(b x y:Int):tk b (tk b x+y)=tk b (x+y):=by
 unfold tk;split
 .rfl
 .exact Int.emod_add_emod ..
def Gp(b x y:Int):tk b (x+tk b y)=tk b (x+y):=by
 rw[Ak,rO,Ak]
def vI(b x y:Int):tk b (x*tk b y)=tk b (x*y):=by
 unfold tk;split
 .rfl
 .rw[vd,uh _ (rR b),<-vd]
def yw(b x y:Int):tk b (tk b x*y)=tk b (x*y):=by
 rw[jt,vI,jt]
def uo(h:tk b x=tk b x')(h':tk b y=tk b y'):tk b (x+y)=tk b (x'+y'):=by
 rw[<-rO,<-Gp,h,h',Gp,rO]
def S(ρ:ζ)(f:Nat->Int)(n:Nat):Nat->Int
 |0=>0
 |m+1=>S ρ f n m+ρ.getD m 0*f (n-1-m)
theorem V4{ρ:ζ}{n:Nat}:∀{m:Nat},(∀k,k<m->f (n-1-k)=g (n-1-k))->S ρ f n m=S ρ g n m
 |0,_=>rfl
 |m+1,h=>by
  unfold S;rw[V4 λk hk=>h k ⋯,h m ⋯]
theorem cS{ρ:ζ}{n:Nat}:∀{m:Nat},m<=n->S ρ (λi=>f (d+i)) n m=S ρ f (d+n) m
 |0,_=>rfl
 |m+1,h=>by
  unfold S;rw[cS ⋯,(⋯:d+n-1-m=d+(n-1-m))]
theorem getD_map{f:Int->Int}(h0:f 0=0):∀(l:ζ)(k:Nat),(l.map f).getD k 0=f (l.getD k 0)
 |[],k=>by simp[h0]
 |x::r,0=>by simp
 |x::r,k+1=>by
  have:=getD_map h0 r k;simpa using this
def row(b:Int)(ρ ς:ζ):Nat->ζ
 |0=>[]
 |n+1=>row b ρ ς n++[if n<ς.length then ς.getD n 0 else tk b (S ρ (λi=>(row b ρ ς n).getD i 0) n ρ.length)]
theorem m7(b:Int)(ρ ς:ζ):∀n,(row b ρ ς n).length=n
 |0=>rfl
 |n+1=>by simp[row,m7 b ρ ς n]
def at_(b:Int)(ρ ς:ζ)(n:Nat):Int:=(row b ρ ς (n+1)).getD n 0
theorem bX(b:Int)(ρ ς:ζ):∀{n i:Nat},i<n->(row b ρ ς n).getD i 0=at_ b ρ ς i
 |n+1,i,h=>by
  by_cases e:i=n
  .subst e;rfl
  .have hi:i<n:=⋯;have hl:=m7 b ρ ς n;have:=bX b ρ ς (n:=n) (i:=i) hi;rw[<-this];show(row b ρ ς n++_).getD i 0=_;rw[List.getD_eq_getElem?_getD,List.getElem?_append_left ⋯,<-List.getD_eq_getElem?_getD]
def Np(b:Int)(ρ ς:ζ)(n:Nat):at_ b ρ ς n=if n<ς.length then ς.getD n 0 else tk b (S ρ (λi=>(row b ρ ς n).getD i 0) n ρ.length):=by
 unfold at_;have hl:=m7 b ρ ς n;show(row b ρ ς n++_).getD n 0=_;rw[List.getD_eq_getElem?_getD,List.getElem?_append_right ⋯,hl];simp
def Bo(h:n<ς.length):at_ b ρ ς n=ς.getD n 0:=by
 rw[Np,if_pos h]
def MP(hl:ρ.length=ς.length)(h:ς.length<=n):at_ b ρ ς n=tk b (S ρ (at_ b ρ ς) n ρ.length):=by
 rw[Np,if_neg ⋯];congr 1;refine V4 λk hk=>bX b ρ ς ⋯
theorem U3(b:Int)(ρ ς:ζ):∀n,row b ρ ς n=(gq n).map (at_ b ρ ς)
 |0=>rfl
 |n+1=>by
  rw[RZ,fH,<-U3 b ρ ς n];show _++[_]=_++[at_ b ρ ς n];rw[Np]
def aML(b:Int)(ρ ς:ζ)(n:Nat):row b ρ ς (n+1)=row b ρ ς n++[at_ b ρ ς n]:=by
 rw[Np];rfl
theorem S7{b:Int}{ρ ς:ζ}:∀{n:Nat},n<=ς.length->row b ρ ς n=ς.take n
 |0,_=>by simp[row]
 |n+1,h=>by
  rw[aML,S7 ⋯,Bo ⋯,D8,List.getD_eq_getElem?_getD,List.getElem?_eq_getElem ⋯];rfl
def Bd(n:Nat)(x:Int):Prop:=x.natAbs<2^n
def Bd.mono(h:Bd m x)(hmn:m<=n):Bd n x:=gJ h (ql ∅ hmn)
def Bd.mul(h:Bd m x)(h':Bd n y):Bd (m+n) (x*y):=by
 unfold Bd at *;rw[zB,Pq];exact Nat.mul_lt_mul'' h h'
def Bd.add(h:Bd n x)(h':Bd n y):Bd (n+1) (x+y):=by
 unfold Bd at *;have:=MO x y;rw[pD];lia
def Bd.zero(n:Nat):Bd n 0:=Nat.pow_pos ∅
def Bd.of(h1:-(2^n)<x)(h2:x<2^n):Bd n x:=by
 unfold Bd;have e:((2^n:Nat):Int)=(2:Int)^n:=by simp
 lia
def Bd.emod(hb:0<b)(h:Bd n b):Bd n (x%b):=by
 unfold Bd at *;have:=rK x (⋯:b≠0);have:=qT x hb;lia
theorem Bd.S{ρ:ζ}{f:Nat->Int}{n a c:Nat}(hr:∀k,Bd a (ρ.getD k 0)):∀m:Nat,(∀k,k<m->Bd c (f (n-1-k)))->Bd (a+c+m) (Rm.S ρ f n m)
 |0,_=>Bd.zero _
 |m+1,h=>by
  unfold Rm.S;refine Bd.add (n:=a+c+m) (Bd.S hr m λk hk=>h k ⋯) (((hr m).mul (h m ⋯)).mono ⋯)
def aM9(l:ζ)(k:Nat):l.getD k 0=0∨l.getD k 0∈l:=by
 by_cases h:k<l.length
 .right;rw[List.getD_eq_getElem?_getD,List.getElem?_eq_getElem h];exact sE h
 .left;rw[List.getD_eq_getElem?_getD,List.getElem?_eq_none ⋯];rfl
theorem Bd.getD{l:ζ}{n:Nat}(h:∀x∈l,Bd n x)(k:Nat):Bd n (l.getD k 0):=by
 rcases aM9 l k with e|e
 .rw[e];exact .zero n
 .exact h _ e
def yL(hb:0<=b)(hb':Bd n b)(h:Bd n x):Bd n (tk b x):=by
 unfold tk;split
 .exact h
 .exact Bd.emod ⋯ hb'
def PK(hl:ρ.length=ς.length)(hb:0<=b)(hb':Bd c b)(hr:∀x∈ρ,Bd a x)(hs:∀x∈ς,Bd c x):
  ∀n,Bd (c+n*(a+ρ.length)) (at_ b ρ ς n):=by
 intro n;induction n using CW with
 |ind n ih=>
  by_cases h:n<ς.length
  .rw[Bo h];exact(Bd.getD hs n).mono ⋯
  .rw[MP hl ⋯];by_cases h0:ρ.length=0
   .rw[h0];exact yL hb (hb'.mono ⋯) (.zero _)
   .have hn:0<n:=⋯;have q:=Bd.S (ρ:=ρ) (f:=at_ b ρ ς) (n:=n) (a:=a) (c:=c+(n-1)*(a+ρ.length)) (λk=>Bd.getD hr k) ρ.length λk hk=>by
     refine(ih (n-1-k) ⋯).mono ?_;have:(n-1-k)*(a+ρ.length)<=(n-1)*(a+ρ.length):=pO _ ⋯;lia
    have e:n*(a+ρ.length)=(n-1)*(a+ρ.length)+(a+ρ.length):=by
     obtain⟨m,rfl⟩:∃m,n=m+1:={n-1,⋯};rw[jY,uI]
    exact yL hb (hb'.mono ⋯) (q.mono ⋯)
def GI(hl:ρ.length=ς.length)(hb:0<b)(hs:∀x∈ς,0<=x/\x<b)(n:Nat):0<=at_ b ρ ς n/\at_ b ρ ς n<b:=by
 by_cases h:n<ς.length
 .rw[Bo h,List.getD_eq_getElem?_getD,List.getElem?_eq_getElem h];exact hs _ (sE h)
 .rw[MP hl ⋯,oB ⋯];exact{rK _ ⋯,qT _ hb}
end
end Rm
namespace Om
section
variable {p a power square:Int}{e left:Nat}
noncomputable def FW:List Nat:=[2,3,5,7,11,13,17,19,23,29,31,37,41,43,47,53,59,61,67,71,73,79,83,89,97,101,103,107,109,113,127,131,137,139,149,151,157,163,167,173,179,181,191,193,197,199,211,223,227,229,233,239,241,251,257,263,269,271,277,281,283,293,307,311,313,317,331,337,347,349,353,359,367,373,379,383,389,397,401,409,419,421,431,433,439,443,449,457,461,463,467,479,487,491,499,503,509,521,523,541,547,557,563,569,571,577,587,593,599,601,607,613,617,619,631,641,643,647,653,659,661,673,677,683,691,701,709,719,727,733,739,743,751,757,761,769,773,787,797,809,811,821,823,827,829,839,853,857,859,863,877,881,883,887,907,911,919,929,937,941,947,953,967,971,977,983,991,997]
def mod_mul{x y x' y':Int}(h:x%p=x'%p)(h':y%p=y'%p):(x*y)%p=(x'*y')%p:=by
 rw[vd,h,h',<-vd]
theorem sD{x x' p:Int}(h:x%p=x'%p):∀n:Nat,(x^n)%p=(x'^n)%p
 |0=>by simp
 |n+1=>by rw[pA,pA];exact mod_mul (sD h n) h
def Keeps(p a:Int)(e:Nat)(power square:Int)(left:Nat):Prop:=(power*square^left)%p=(a^e)%p
def aB4(p a:Int)(e:Nat):Keeps p a e 1 a e:=by unfold Keeps;rw[sY]
theorem qq(x:Int):∀n:Nat,(x*x)^n=x^(2*n)
 |0=>by simp
 |n+1=>by
  rw[pA,qq x n,(⋯:2*(n+1)=2*n+1+1),pA,pA,jx]
def aHm(h:Keeps p a e power square left)(ho:left%2=1):Keeps p a e (power*square%p) (square*square%p) (left/2):=by
 unfold Keeps at *;have h1:(power*square%p)%p=(power*square)%p:=uh _ (rR p);have h2:=sD (p:=p) (x:=square*square%p) (x':=square*square) (uh _ (rR p)) (left/2);rw[mod_mul h1 h2,<-h,qq,jx];have e2:left=2*(left/2)+1:=⋯
 conv=>rhs;rw[e2,pA]
 rw[jt square]
def aPd(h:Keeps p a e power square left)(ho:¬left%2=1):Keeps p a e power (square*square%p) (left/2):=by
 unfold Keeps at *;have h2:=sD (p:=p) (x:=square*square%p) (x':=square*square) (uh _ (rR p)) (left/2);rw[mod_mul rfl h2,<-h,qq];have e2:left=2*(left/2):=⋯
 conv=>rhs;rw[e2]
def aEz(h:Keeps p a e power square 0):power%p=a^e%p:=by
 unfold Keeps at h
 rwa [Bk,mH]at h
end
end Om
namespace Pm
open Rm
section
variable {f f' g g':Nat->Int}{n k i c:Nat}{b x:Int}{p q:ζ}
def sm:Nat->(Nat->Int)->Int
 |0,_=>0
 |n+1,f=>sm n f+f n
theorem jm{f g:Nat->Int}:∀{n:Nat},(∀k,k<n->f k=g k)->sm n f=sm n g
 |0,_=>rfl
 |n+1,h=>by rw[sm,sm,jm λk hk=>h k ⋯,h n ⋯]
theorem T6:∀n:Nat,sm n (λ_=>0)=0
 |0=>rfl
 |n+1=>by rw[sm,T6 n];rfl
def SV(h:∀k,k<n->f k=0):sm n f=0:=by rw[jm h,T6]
theorem Jj(f:Nat->Int):∀n:Nat,sm (n+1) f=f 0+sm n (λi=>f (i+1))
 |0=>by simp[sm]
 |n+1=>by
  rw[sm,Jj f n,sm,Xp]
theorem zJ(f g:Nat->Int):∀n:Nat,sm n (λk=>f k+g k)=sm n f+sm n g
 |0=>rfl
 |n+1=>by rw[sm,sm,sm,zJ f g n];lia
theorem wU(c:Int)(f:Nat->Int):∀n:Nat,sm n (λk=>c*f k)=c*sm n f
 |0=>by simp[sm]
 |n+1=>by rw[sm,sm,wU c f n,Cy]
theorem rN{f:Nat->Int}:∀{n:Nat},m<=n->(∀k,m<=k->k<n->f k=0)->sm n f=sm m f
 |0,h,_=>by rw[(⋯:m=0)]
 |n+1,h,h0=>by
  by_cases e:m=n+1
  .rw[e]
  .rw[sm,rN (n:=n) ⋯ (λk h1 h2=>h0 k h1 ⋯),h0 n ⋯ ⋯,fK]
def tk0(b:Int):tk b 0=0:=by unfold tk;split<;>simp
theorem rG{b:Int}{f g:Nat->Int}:∀{n:Nat},(∀k,k<n->tk b (f k)=tk b (g k))->tk b (sm n f)=tk b (sm n g)
 |0,_=>rfl
 |n+1,h=>by
  rw[sm,sm];exact uo (rG λk hk=>h k ⋯) (h n ⋯)
theorem Wk(f:Nat->Int):∀n:Nat,((gq n).map f).sum=sm n f
 |0=>rfl
 |n+1=>by rw[RZ,fH,EU,Wk f n];simp[sm]
def cv:(Nat->Int)->(Nat->Int)->Nat->Int
 |f,g,0=>f 0*g 0
 |f,g,k+1=>f 0*g (k+1)+cv (λi=>f (i+1)) g k
theorem iH:∀(f g:Nat->Int)(k:Nat),cv f g k=sm (k+1) (λj=>f j*g (k-j))
 |f,g,0=>by simp[cv,sm]
 |f,g,k+1=>by
  rw[cv,iH _ g k,Jj (λj=>f j*g (k+1-j))];refine congrArg (_ + ·) (jm λj hj=>?_);rw[(⋯:k+1-(j+1)=k-j)]
theorem JO:∀(f g:Nat->Int)(k:Nat),cv f g (k+1)=cv f (λi=>g (i+1)) k+f (k+1)*g 0
 |f,g,0=>rfl
 |f,g,k+1=>by
  rw[cv,JO (λi=>f (i+1)) g k,cv,Xp]
theorem mL:∀(f g:Nat->Int)(k:Nat),cv f g k=cv g f k
 |f,g,0=>jt _ _
 |f,g,k+1=>by
  rw[cv,JO,mL (λi=>f (i+1)) g k,Ak,jt]
def oK(h:∀i,i<=k->f i=f' i)(h':∀i,i<=k->g i=g' i):cv f g k=cv f' g' k:=by
 rw[iH,iH];exact jm λj hj=>by rw[h j ⋯,h' _ ⋯]
def Bg(h:∀i,i<=k->tk b (f i)=tk b (f' i))(h':∀i,i<=k->tk b (g i)=tk b (g' i)):tk b (cv f g k)=tk b (cv f' g' k):=by
 rw[iH,iH];exact rG λj hj=>by rw[<-yw,<-vI,h j ⋯,h' _ ⋯,vI,yw]
def nO(f f' g:Nat->Int)(k:Nat):cv (λi=>f i+f' i) g k=cv f g k+cv f' g k:=by
 rw[iH,iH,iH,<-zJ];exact jm λj _=>HM ..
def aI(f g g':Nat->Int)(k:Nat):cv f (λi=>g i+g' i) k=cv f g k+cv f g' k:=by
 rw[mL,nO,mL,mL g']
def nF(c:Int)(f g:Nat->Int)(k:Nat):cv (λi=>c*f i) g k=c*cv f g k:=by
 rw[iH,iH,<-wU];exact jm λj _=>jx ..
theorem mJ:∀(f g h:Nat->Int)(k:Nat),cv (cv f g) h k=cv f (cv g h) k
 |f,g,h,0=>by simp[cv,jx]
 |f,g,h,k+1=>by
  have e:(λi=>cv f g (i+1))=λi=>f 0*(λi=>g (i+1)) i+cv (λi=>f (i+1)) g i:=rfl;rw[cv,e,nO (λi=>f 0*(λi=>g (i+1)) i),nF,mJ (λi=>f (i+1)) g h k,cv,cv,cv];rw[Cy,jx];lia
def pF(h:∀i,i<=k->f i=0∨g (k-i)=0):cv f g k=0:=by
 rw[iH];exact SV λj hj=>by rcases h j ⋯ with e|e<;>rw[e]<;>simp
def co(p:ζ)(k:Nat):Int:=p.getD k 0
def gw(k:Nat):co [] k=0:=by simp[co]
def iQ(x:Int)(r:ζ):co (x::r) 0=x:=by simp[co]
def pB(x:Int)(r:ζ)(k:Nat):co (x::r) (k+1)=co r k:=by simp[co]
def bY(h:p.length<=k):co p k=0:=by
 rw[co,List.getD_eq_getElem?_getD,List.getElem?_eq_none h];rfl
def qN(h:k<p.length):co p k=p[k]:=by
 rw[co,List.getD_eq_getElem?_getD,List.getElem?_eq_getElem h];rfl
def Bf(h:k<p.length):co p k∈p:=by rw[qN h];exact sE h
def bf(n:Nat)(f:Nat->Int):ζ:=(gq n).map f
def dF(n:Nat)(f:Nat->Int):(bf n f).length=n:=by simp[bf]
def iU(n:Nat)(f:Nat->Int)(k:Nat):co (bf n f) k=if k<n then f k else 0:=by
 by_cases h:k<n
 .rw[if_pos h,co,bf,List.getD_eq_getElem?_getD,List.getElem?_map,List.getElem?_range h];rfl
 .rw[if_neg h,bY (by rw[dF];lia)]
def U9(n:Nat)(f:Nat->Int):bf (n+1) f=bf n f++[f n]:=by
 rw[bf,RZ,fH];rfl
def RA(p:ζ):bf p.length (co p)=p:=by
 apply So (by rw[dF]);intro i h1 h2;simp only[bf,WA,we];exact qN h2
def uL(hl:p.length=q.length)(h:∀k,co p k=co q k):p=q:=by
 rw[<-RA p,<-RA q,hl];exact kW λk _=>h k
def GJ(p:ζ)(i:Nat)(x:Int)(k:Nat)(hi:i<p.length):co (p.set i x) k=if k=i then x else co p k:=by
 unfold co;rw[List.getD_eq_getElem?_getD,List.getElem?_set,List.getD_eq_getElem?_getD];by_cases e:i=k
 .subst e;simp[hi]
 .rw[if_neg e,if_neg (λz=>e z.symm)]
def C7{f:Int->Int}(h:f 0=0)(p:ζ)(k:Nat):co (p.map f) k=f (co p k):=getD_map h p k
def DX(p q:ζ)(k:Nat):co (p++q) k=if k<p.length then co p k else co q (k-p.length):=by
 unfold co;by_cases h:k<p.length
 .rw[if_pos h,List.getD_eq_getElem?_getD,List.getElem?_append_left h,<-List.getD_eq_getElem?_getD]
 .rw[if_neg h,List.getD_eq_getElem?_getD,List.getElem?_append_right ⋯,<-List.getD_eq_getElem?_getD]
def trim:ζ->ζ
 |[]=>[]
 |x::r=>if x=0/\trim r=[]then[]else x::trim r
theorem uy:∀(p:ζ)(k:Nat),co (trim p) k=co p k
 |[],k=>rfl
 |x::r,k=>by
  rw[trim];have ih:=uy r;by_cases h:x=0/\trim r=[]
  .rw[if_pos h];rw[h.2]at ih;cases k with
   |zero=>rw[gw,iQ,h.1]
   |succ k=>rw[pB,<-ih k,gw,gw]
  .rw[if_neg h];cases k with
   |zero=>rw[iQ,iQ]
   |succ k=>rw[pB,pB,ih k]
def Qt:trim p=[]↔∀k,co p k=0:=by
 constructor
 .intro h k;rw[<-uy,h,gw]
 .intro h;induction p with
  |nil=>rfl
  |cons x r ih=>
   rw[trim,if_pos {by have:=h 0;rwa [iQ]at this,ih λk=>by have:=h (k+1);rwa [pB]at this}]
theorem Nb:∀{p q:ζ},(∀k,co p k=co q k)->trim p=trim q
 |[],q,h=>by rw[show trim q=[]from Qt.mpr λk=>by rw[<-h k,gw]];rfl
 |x::r,[],h=>by rw[show trim (x::r)=[]from Qt.mpr λk=>by rw[h k,gw]];rfl
 |x::r,y::s,h=>by
  have e1:=h 0;rw[iQ,iQ]at e1;have e2:trim r=trim s:=Nb λk=>by have:=h (k+1);rwa [pB,pB]at this
  rw[trim,trim,e1,e2]
def aFt(p:ζ):trim (trim p)=trim p:=Nb (uy p)
theorem BR:∀p:ζ,(trim p).length<=p.length
 |[]=>aZ _
 |x::r=>by
  have:=BR r;rw[trim];split
  .simp
  .simp;lia
theorem Ip:∀{p:ζ} {n:Nat},(∀k,n<=k->co p k=0)->(trim p).length<=n
 |[],n,_=>cZ _
 |x::r,0,h=>by rw[Qt.mpr λk=>h k (cZ _)];exact aZ 0
 |x::r,n+1,h=>by
  have:=Ip (p:=r) (n:=n) λk hk=>by have:=h (k+1) ⋯;rwa [pB]at this
  rw[trim];split
  .simp
  .simp;lia
def QI(p:ζ):trim (p++[0])=trim p:=Nb λk=>by
 rw[DX];by_cases h:k<p.length
 .rw[if_pos h]
 .rw[if_neg h,bY (p:=p) ⋯];cases k-p.length with
  |zero=>rfl
  |succ j=>rw[pB,gw]
theorem X4:∀(p:ζ){x:Int},x≠0->trim (p++[x])=p++[x]
 |[],x,h=>by simp[trim,h]
 |y::r,x,h=>by
  show trim (y::(r++[x]))=_;rw[trim,X4 r h,if_neg (by simp)];rfl
def Xg(h:x∈trim p):x∈p:=by
 induction p with
 |nil=>exact h
 |cons y r ih=>
  rw[trim]at h;split at h
  .cases h
  .rcases c7.mp h with rfl|h
   .exact iY
   .exact fM _ (ih h)
structure Py(b:Int)(p:ζ):Prop where
 tr:trim p=p
 nu:∀x∈p,tk b x=x
theorem Py.co{b:Int}{p:ζ}(h:Py b p)(k:Nat):tk b (co p k)=co p k:=by
 by_cases hk:k<p.length
 .exact h.nu _ (Bf hk)
 .rw[bY ⋯,tk0]
def Py.ext(h:Py b p)(h':Py b q)(e:∀k,tk b (Pm.co p k)=tk b (Pm.co q k)):p=q:=by
 rw[<-h.tr,<-h'.tr];exact Nb λk=>by rw[<-h.co k,<-h'.co k];exact e k
def Py.of(h:∀x∈p,tk b x=x):Py b (trim p):={aFt p,λx hx=>h x (Xg hx)}
def Py.nil(b:Int):Py b []:={rfl,λ_ h=>nomatch h}
def oV(h:x∈bf n f):∃k,k<n/\x=f k:=by
 obtain⟨k,hk,e⟩:=bO.mp h;exact{k,gZ.mp hk,e.symm}
theorem Py.bf(b:Int)(n:Nat)(f:Nat->Int):Py b (trim (Pm.bf n λk=>tk b (f k))):=Py.of λx hx=>by
 obtain⟨k,_,rfl⟩:=oV hx;exact rE ..
def add(b:Int)(p q:ζ):ζ:=trim (bf (max p.length q.length) λk=>tk b (co p k+co q k))
def mul(b:Int)(p q:ζ):ζ:=trim (bf (p.length+q.length) λk=>tk b (cv (co p) (co q) k))
def Tr(b:Int)(p q:ζ):Py b (add b p q):=Py.bf ..
def Sy(b:Int)(p q:ζ):Py b (mul b p q):=Py.bf ..
def B3(b:Int)(p q:ζ)(k:Nat):co (add b p q) k=tk b (co p k+co q k):=by
 rw[add,uy,iU];split
 .rfl
 .rw[bY (p:=p) ⋯,bY (p:=q) ⋯,fK,tk0]
def Di(b:Int)(p q:ζ)(k:Nat):co (mul b p q) k=tk b (cv (co p) (co q) k):=by
 rw[mul,uy,iU];split
 .rfl
 .rw[pF,tk0];intro i hi;by_cases h:i<p.length
  .exact .inr (bY ⋯)
  .exact .inl (bY ⋯)
theorem add_comm(b:Int)(p q:ζ):add b p q=add b q p:=(Tr ..).ext (Tr ..) λk=>by rw[B3,B3,Ak]
def nil_add(h:Py b p):add b [] p=p:=(Tr ..).ext h λk=>by
 rw[B3,gw,jL,rE]
def W(f g:Nat->Int)(i k c:Nat):Int:=sm i (λj=>if j<=c then f j*g (c-j)else 0)+(if i<=c/\c-i<k then f i*g (c-i)else 0)
def aLO(f g:Nat->Int)(c:Nat):W f g 0 0 c=0:=by simp[W,sm]
def aMm:W f g i (k+1) c=W f g i k c+(if c=i+k then f i*g k else 0):=by
 unfold W;by_cases h:c=i+k
 .rw[if_pos h,if_pos ⋯,if_neg ⋯,(⋯:c-i=k)];lia
 .rw[if_neg h];by_cases h2:i<=c/\c-i<k
  .rw[if_pos h2,if_pos ⋯];lia
  .rw[if_neg h2,if_neg ⋯];lia
def aA8(hg:∀k,n<=k->g k=0):W f g i n c=W f g (i+1) 0 c:=by
 unfold W;rw[sm,if_neg (⋯:¬(i+1<=c/\c-(i+1)<0))];by_cases h:i<=c
 .rw[if_pos h];by_cases h2:c-i<n
  .rw[if_pos {h,(h2)}];lia
  .rw[if_neg ⋯,hg _ ⋯,eV];lia
 .rw[if_neg ⋯,if_neg h];lia
def Z8(hf:∀k,m<=k->f k=0):W f g m 0 c=cv f g c:=by
 unfold W;rw[if_neg ⋯,fK,iH];by_cases h:m<=c+1
 .rw[rN (n:=c+1) h λk h1 _=>by rw[hf k h1,jH]];exact jm λj hj=>if_pos ⋯
 .rw[rN (m:=c+1) (n:=m) ⋯ λk h1 _=>if_neg ⋯];exact jm λj hj=>if_pos ⋯
end
end Pm
namespace Pm
open Rm
section
variable {b:Int}{c p:ζ}
theorem QU(F:Nat->Nat->Int)(m:Nat):∀n:Nat,sm m (λk=>sm n (λj=>F k j))=sm n (λj=>sm m (λk=>F k j))
 |0=>by simp only[sm];exact T6 m
 |n+1=>by
  simp only[sm];rw[zJ,QU F m n]
theorem EK(ρ:ζ)(f:Nat->Int)(n:Nat):∀m:Nat,S ρ f n m=sm m (λk=>co ρ k*f (n-1-k))
 |0=>rfl
 |m+1=>by rw[S,sm,EK ρ f n m];rfl
def ks(p:ζ)(a:Nat->Int)(n:Nat):Int:=sm p.length (λk=>co p k*a (n+k))
def bZ(b:Int)(c:ζ):ζ:=bf c.length (λk=>tk b (0-co c (c.length-1-k)))++[1]
def oY(b:Int)(p:ζ):ζ:=bf (p.length-1) (λk=>tk b (0-co p (p.length-1-1-k)))
def nG(b:Int)(c:ζ):(bZ b c).length=c.length+1:=by simp[bZ,dF]
def wd(b x:Int):tk b (0-tk b (0-x))=tk b x:=by
 have h:tk b (tk b (0-x)+(0-tk b (0-x)))=tk b ((0-x)+(0-tk b (0-x))):=rO ..;have e1:tk b (0-x)+(0-tk b (0-x))=0:=⋯;rw[e1]at h;have h2:tk b (tk b (0-tk b (0-x))+(0-x))=tk b 0:=by rw[rO,Ak];exact h.symm
 have h3:tk b (tk b (0-tk b (0-x)))=tk b x:=by
  have:=uo h2 (rfl:tk b x=tk b x);rw[(⋯:tk b (0-tk b (0-x))+(0-x)+x=tk b (0-tk b (0-x))),jL]at this;exact this
 rwa [rE]at h3
def aTK(h:∀x∈c,tk b x=x):oY b (bZ b c)=c:=by
 refine uL (by rw[oY,dF,nG];lia) λk=>?_;rw[oY,iU,nG];by_cases hk:k<c.length+1-1
 .rw[if_pos hk,bZ,DX,dF,if_pos ⋯,iU,if_pos ⋯,wd];rw[(⋯:c.length-1-(c.length+1-1-1-k)=k)];exact h _ (Bf ⋯)
 .rw[if_neg hk,bY ⋯]
def aAC(hl:ρ.length=ς.length):∀n,ρ.length<=n->tk b (at_ b ρ ς n)=tk b (S ρ (at_ b ρ ς) n ρ.length):=λn hn=>by
 rw[MP hl ⋯,rE]
theorem Gn{c:Nat}:∀n:Nat,(∀k,k<n->Bd c (f k))->Bd (c+n) (sm n f)
 |0,_=>Bd.zero _
 |n+1,h=>by
  rw[sm];exact Bd.add (n:=c+n) (Gn n λk hk=>h k ⋯) ((h n ⋯).mono ⋯)
def nY(h:∀x∈p,Bd u x)(k:Nat):Bd u (co p k):=Bd.getD h k
def aG7(h:∀x∈p,Bd u x)(h':∀x∈q,Bd v x)(k:Nat):Bd (u+v+p.length) (cv (co p) (co q) k):=by
 rw[<-Z8 (m:=p.length) λj hj=>bY hj,W,if_neg ⋯,fK];refine Gn _ λj _=>?_;split
 .exact(nY h j).mul (nY h' _)
 .exact Bd.zero _
def VY(hb:0<=b)(hb1:b<1000)(hu:10<=u)(h:∀x∈p,Bd u x)(h':∀x∈q,Bd v x):∀x∈mul b p q,Bd (u+v+p.length) x:=by
 intro x hx;obtain⟨k,_,rfl⟩:=oV (Xg hx);refine yL hb ?_ (aG7 h h' k);exact(Bd.of (n:=10) ⋯ ⋯).mono ⋯
def AR(hb:0<=b)(hb1:b<1000)(hu:10<=u)(h:∀x∈c,Bd u x):∀x∈bZ b c,Bd u x:=by
 intro x hx;rcases ig.mp hx with hx|hx
 .obtain⟨k,_,rfl⟩:=oV hx;refine yL hb ((Bd.of (n:=10) ⋯ ⋯).mono ⋯) ?_;have:=nY h (c.length-1-k);unfold Bd at this⊢;rw[GB,Nk];exact this
 .rw[eN.mp hx];exact(Bd.of (n:=10) ∅ ∅).mono hu
end
end Pm
namespace Pm
open Rm
section
variable {b:Int}{p m q r l o:ζ}{s:Nat}
theorem yx(x:Int)(j:Nat):∀n:Nat,sm n (λi=>if i=j then x else 0)=if j<n then x else 0
 |0=>by simp[sm]
 |n+1=>by
  rw[sm,yx x j n];by_cases h:n=j
  .rw[if_pos h,if_neg ⋯,if_pos ⋯];lia
  .rw[if_neg h];by_cases h2:j<n
   .rw[if_pos h2,if_pos ⋯];lia
   .rw[if_neg h2,if_neg ⋯];lia
def DG:tk b (x-y)=0↔tk b x=tk b y:=by
 constructor
 .intro h;have:=uo (b:=b) (x:=x-y) (x':=0) (y:=y) (y':=y) (by rw[h,tk0]) rfl
  rwa [(⋯:x-y+y=x),jL]at this
 .intro h;have:=uo (b:=b) (x:=x) (x':=y) (y:=-y) (y':=-y) h rfl;rw[(⋯:x + -y=x-y),(⋯:y + -y=0),tk0]at this;exact this
def yR(f:Int)(s:Nat)(g:Nat->Int)(k:Nat):cv (λi=>if i=s then f else 0) g k=if s<=k then f*g (k-s)else 0:=by
 rw[iH];have e:sm (k+1) (λj=>(if j=s then f else 0)*g (k-j))=sm (k+1) (λj=>if j=s then f*g (k-s)else 0):=jm λj _=>by
  by_cases h:j=s
  .rw[if_pos h,if_pos h,h]
  .rw[if_neg h,if_neg h,jH]
 rw[e,yx];by_cases h:s<=k
 .rw[if_pos h,if_pos ⋯]
 .rw[if_neg h,if_neg ⋯]
structure Mon(m:ζ):Prop where
 pos:0<m.length
 one:co m (m.length-1)=1
structure Div(b:Int)(p m q r:ζ):Prop where
 qy:Py b q
 ry:Py b r
 short:r.length<m.length
 eq:∀k,tk b (cv (co q) (co m) k+co r k)=tk b (co p k)
def Div.uniq(hm:Mon m)(h:Div b p m q r)(h':Div b p m q' r'):q=q'/\r=r':=by
 have hp:=hm.pos;have e1:∀k,tk b (cv (λi=>co q i-co q' i) (co m) k+(co r k-co r' k))=0:=by
  intro k;have e2:cv (λi=>co q i-co q' i) (co m) k=cv (co q) (co m) k-cv (co q') (co m) k:=by
   have:=nO (co q) (λi=>-1*co q' i) (co m) k;rw[nF]at this;have e3:(λi=>co q i + -1*co q' i)=λi=>co q i-co q' i:=by funext i;lia
   rw[e3]at this;lia
  rw[e2,(⋯:cv (co q) (co m) k-cv (co q') (co m) k+(co r k-co r' k)=(cv (co q) (co m) k+co r k)-(cv (co q') (co m) k+co r' k)),DG,h.eq,h'.eq]
 have e4:∀d j,q.length+q'.length<=j+d->tk b (co q j-co q' j)=0:=by
  intro d;induction d with
  |zero=>intro j hj;rw[bY ⋯,bY ⋯];exact tk0 b
  |succ d ih=>
   intro j hj;have e5:=e1 (j+(m.length-1));have hs:=h.short;have hs':=h'.short;rw[bY (p:=r) ⋯,bY (p:=r') ⋯,Ba,fK,iH]at e5;rw[<-e5];have e6:tk b (sm (j+(m.length-1)+1) λi=>(co q i-co q' i)*co m (j+(m.length-1)-i))=tk b (sm (j+(m.length-1)+1) λi=>if i=j then co q j-co q' j else 0):=rG λi hi=>by
    by_cases c:i=j
    .rw[if_pos c,c,(⋯:j+(m.length-1)-j=m.length-1),hm.one,mH]
    .rw[if_neg c];by_cases c2:i<j
     .rw[bY (p:=m) ⋯,eV]
     .rw[<-yw,ih i ⋯,jH]
   rw[e6,yx,if_pos ⋯]
 have eq:q=q':=h.qy.ext h'.qy λk=>DG.mp (e4 (q.length+q'.length) k ⋯);refine{eq,h.ry.ext h'.ry λk=>?_};have e7:=e1 k;rw[eq]at e7;have e8:(λi=>co q' i-co q' i)=λ_=>0:=by funext i;lia
 rw[e8,pF (λ_ _=>.inl rfl),jL]at e7;exact DG.mp e7
def Div.back(hp:Py b p)(h:Div b p m q r):add b (mul b q m) r=p:=(Tr ..).ext hp λk=>by
 rw[B3,Di,rE,rO];exact h.eq k
structure tG(b:Int)(p m:ζ)(s:Nat)(o l:ζ):Prop where
 eq:∀k,tk b (cv (co o) (co m) k+co l k)=tk b (co p k)
 zero:∀k,s+(m.length-1)<=k->co l k=0
 low:∀k,k<s->co o k=0
 ol:o.length=p.length-(m.length-1)
 ll:l.length=p.length
 on:∀k,tk b (co o k)=co o k
 ln:∀k,tk b (co l k)=co l k
def tG.start(hp:∀k,tk b (co p k)=co p k):tG b p m (p.length-(m.length-1)) (bf (p.length-(m.length-1)) λ_=>0) p:=by
 have z:∀k,co (bf (p.length-(m.length-1)) λ_=>0) k=0:=λk=>by rw[iU];split<;>rfl
 exact{λk=>by rw[pF λi _=>.inl (z i),jL],λk hk=>bY ⋯,λk _=>z k,dF _ _,rfl,λk=>by rw[z,tk0],hp}
def lf(b f:Int)(s t:Nat)(l m:ζ)(k:Nat):Int:=if s<=k/\k<s+t then tk b (co l k-f*co m (k-s))else co l k
def aLm(b f:Int)(s:Nat)(l m:ζ)(k:Nat):lf b f s 0 l m k=co l k:=if_neg ⋯
def aGu(b f:Int)(s t:Nat)(l m:ζ)(k:Nat):lf b f s (t+1) l m k=if k=s+t then tk b (lf b f s t l m k-f*co m t)else lf b f s t l m k:=by
 unfold lf;by_cases h:k=s+t
 .rw[if_pos h,if_pos ⋯,if_neg ⋯,(⋯:k-s=t)]
 .rw[if_neg h];by_cases h2:s<=k/\k<s+t
  .rw[if_pos h2,if_pos ⋯]
  .rw[if_neg h2,if_neg ⋯]
def aPF(hl:∀k,tk b (co l k)=co l k)(k:Nat):lf b f s m.length l m k=tk b (co l k-(if s<=k then f*co m (k-s)else 0)):=by
 unfold lf;by_cases h:s<=k
 .rw[if_pos h];by_cases h2:k<s+m.length
  .rw[if_pos {h,(h2)}]
  .rw[if_neg ⋯,bY (p:=m) ⋯,eV,Ba,hl]
 .rw[if_neg ⋯,if_neg h,Ba,hl]
def tG.step(hm:Mon m)(h:tG b p m (s+1) o l)(hs:s<p.length-(m.length-1))(hl:l'.length=l.length)(e:∀k,co l' k=lf b (co l (s+(m.length-1))) s m.length l m k):
  tG b p m s (o.set s (co l (s+(m.length-1)))) l':=by
 have hp:=hm.pos;have ho:=h.ol;have eo:co (o.set s (co l (s+(m.length-1))))=λk=>co o k+(if k=s then co l (s+(m.length-1))else 0):=by
  funext k
  rw[GJ _ _ _ _ ⋯];by_cases c:k=s
  .rw[if_pos c,if_pos c,c,h.low s ⋯,jL]
  .rw[if_neg c,if_neg c,fK]
 have el:∀k,co l' k=tk b (co l k-(if s<=k then co l (s+(m.length-1))*co m (k-s)else 0)):=λk=>by rw[e,aPF h.ln]
 refine{λk=>?_,λk hk=>?_,λk hk=>?_,by rw[oU,ho],by rw[hl,h.ll],λk=>?_,λk=>by rw[el,rE]}
 .rw[eo,nO (co o),yR,el,Gp,<-h.eq k];congr 1;lia
 .rw[el,if_pos ⋯];by_cases c:k=s+(m.length-1)
  .rw[c,(⋯:s+(m.length-1)-s=m.length-1),hm.one,mH,Fb,tk0]
  .rw[h.zero k ⋯,bY (p:=m) ⋯,eV,Ba,tk0]
 .rw[eo];simp only;rw[h.low k ⋯,if_neg ⋯,fK]
 .rw[GJ _ _ _ _ ⋯];split
  .exact h.ln _
  .exact h.on _
def tG.stop(hm:Mon m)(h:tG b p m 0 o l):Div b p m (trim o) (trim l):=by
 have hp:=hm.pos;have y:∀{x:ζ},(∀k,tk b (co x k)=co x k)->Py b (trim x):=λhx=>Py.of λz hz=>by
  obtain⟨k,hk,e⟩:=ug.mp hz;rw[<-e,<-qN hk];exact hx k
 refine{y h.on,y h.ln,?_,λk=>?_}
 .have:=Ip (p:=l) (n:=m.length-1) λk hk=>h.zero k ⋯;lia
 .rw[uy,<-h.eq k];congr 2;exact oK (λi _=>uy _ _) (λ_ _=>rfl)
end
end Pm
namespace Pm
open Rm
section
variable {b:Int}{p q x g m:ζ}{a:Nat->Int}
theorem QP(g:Nat->Int)(j:Nat):∀m:Nat,sm (j+m) (λk=>if j<=k then g (k-j)else 0)=sm m g
 |0=>by
  rw[Yj];exact SV λk hk=>if_neg ⋯
 |m+1=>by
  rw[<-CT,sm,sm,QP g j m,if_pos ⋯,MQ]
def Ai(p:ζ)(a:Nat->Int)(n:Nat)(h:p.length<=N):sm N (λk=>co p k*a (n+k))=ks p a n:=
 rN h λk h1 _=>by rw[bY h1,jH]
def Iq(h:∀k,tk b (co p k)=tk b (co q k))(n:Nat):tk b (ks p a n)=tk b (ks q a n):=by
 rw[<-Ai p a n (EO p.length q.length),<-Ai q a n (RF p.length q.length)];exact rG λk _=>by rw[<-yw,h k,yw]
def az4(p q:ζ)(a:Nat->Int)(n:Nat):tk b (ks (add b p q) a n)=tk b (ks p a n+ks q a n):=by
 have hl:(add b p q).length<=max p.length q.length:=by
  have:=BR (bf (max p.length q.length) λk=>tk b (co p k+co q k))
  rwa [dF]at this
 rw[<-Ai _ a n hl,<-Ai p a n (EO p.length q.length),<-Ai q a n (RF p.length q.length),<-zJ];exact rG λk _=>by rw[B3,yw,HM]
def OP(p q:ζ)(a:Nat->Int)(n:Nat):tk b (ks (mul b p q) a n)=tk b (ks p (ks q a) n):=by
 have hl:(mul b p q).length<=p.length+q.length:=by
  have:=BR (bf (p.length+q.length) λk=>tk b (cv (co p) (co q) k))
  rwa [dF]at this
 rw[<-Ai _ a n hl];have e1:tk b (sm (p.length+q.length) λk=>co (mul b p q) k*a (n+k))=tk b (sm (p.length+q.length) λk=>sm p.length λj=>co p j*(if j<=k then co q (k-j)*a (n+k)else 0)):=rG λk _=>by
  rw[Di,yw,<-Z8 (m:=p.length) λj hj=>bY hj,W,if_neg ⋯,fK,jt,<-wU];congr 1;refine jm λj _=>?_;by_cases h:j<=k
  .rw[if_pos h,if_pos h,jt,jx]
  .rw[if_neg h,if_neg h,eV,eV]
 rw[e1,QU];congr 1;refine jm λj hj=>?_;rw[wU];congr 1;have e2:(λk=>if j<=k then co q (k-j)*a (n+k)else 0)=λk=>if j<=k then(λi=>co q i*a (n+j+i)) (k-j)else 0:=by
  funext k
  by_cases h:j<=k
  .rw[if_pos h,if_pos h];show _=co q (k-j)*a (n+j+(k-j));rw[(⋯:n+j+(k-j)=n+k)]
  .rw[if_neg h,if_neg h]
 rw[e2,(⋯:p.length+q.length=j+(p.length-j+q.length))];refine(QP (λi=>co q i*a (n+j+i)) j _).trans ?_;exact Ai q a (n+j) ⋯
def avW(h:∀n,tk b (a n)=0)(n:Nat):tk b (ks p a n)=0:=by
 have:tk b (ks p a n)=tk b (sm p.length λ_=>0):=rG λk _=>by rw[<-vI,h,eV]
 rw[this,T6,tk0]
def Kp(b:Int)(p:ζ)(a:Nat->Int):Prop:=∀n,tk b (ks p a n)=0
def Kp.aDB(h:Kp b q a)(p:ζ):Kp b (mul b p q) a:=λn=>by rw[OP];exact avW h n
theorem Kp.bZ{b:Int}{ρ:ζ}{a:Nat->Int}(ha:∀n,ρ.length<=n->tk b (a n)=tk b (S ρ a n ρ.length)):Kp b (bZ b ρ) a:=λn=>by
 unfold ks;rw[nG,sm];have e1:co (Pm.bZ b ρ) ρ.length=1:=by
  rw[Pm.bZ,DX,dF,if_neg ⋯,Aj];rfl
 have e2:tk b (sm ρ.length λk=>co (Pm.bZ b ρ) k*a (n+k))=tk b (sm ρ.length λk=>-1*(co ρ (ρ.length-1-k)*a (n+k))):=rG λk hk=>by
  rw[Pm.bZ,DX,dF,if_pos hk,iU,if_pos hk,yw,GB,Fy,FV]
 have e3:S ρ a (n+ρ.length) ρ.length=sm ρ.length λk=>co ρ (ρ.length-1-k)*a (n+k):=by
  rw[EK];have rev:∀(m:Nat)(f:Nat->Int),sm m f=sm m λk=>f (m-1-k):=by
   intro m;induction m with
   |zero=>intro f;rfl
   |succ m ih=>
    intro f;rw[Jj,sm,ih λi=>f (i+1),Ak];have:m+1-1-m=0:=⋯;rw[this];congr 1;exact jm λk hk=>by rw[(⋯:m-1-k+1=m+1-1-k)]
  rw[rev];exact jm λk hk=>by rw[(⋯:n+ρ.length-1-(ρ.length-1-k)=n+k)]
 rw[e1,sY,<-rO,e2,rO,wU,<-e3,<-Gp,ha (n+ρ.length) ⋯,Gp,FV,Int.add_left_neg,tk0]
def dX(b:Int)(p q x:ζ):Prop:=∃u v,∀k,tk b (co x k)=tk b (cv (co u) (co p) k+cv (co v) (co q) k)
def awI(p q:ζ)(k:Nat):co (add 0 p q) k=co p k+co q k:=by rw[B3,dj]
def A5(p q:ζ)(k:Nat):co (mul 0 p q) k=cv (co p) (co q) k:=by rw[Di,dj]
def dX.left(b:Int)(p q:ζ):dX b p q p:={[1],[],λk=>by
 rw[pF (f:=co []) λi _=>.inl (gw _),fK,iH,rN (m:=1) ⋯ λj h1 _=>by rw[show co [1] j=0 from bY (by simpa using h1),jH]];simp[sm,iQ]}
def dX.swap(h:dX b p q x):dX b q p x:=by
 intros u v e h;exact{v,u,λk=>by rw[e,Ak]}
def dX.trans(hg:dX b p q g)(hs:dX b p q s)(h:dX b g s x):dX b p q x:=by
 intros a c eg hg;intros a' c' es hs;intros u v e h;refine{add 0 (mul 0 u a) (mul 0 v a'),add 0 (mul 0 u c) (mul 0 v c'),λk=>?_};have e1:tk b (cv (co u) (co g) k)=tk b (cv (co u) (λi=>cv (co a) (co p) i+cv (co c) (co q) i) k):=Bg (λ_ _=>rfl) λi _=>eg i;have e2:tk b (cv (co v) (co s) k)=tk b (cv (co v) (λi=>cv (co a') (co p) i+cv (co c') (co q) i) k):=Bg (λ_ _=>rfl) λi _=>es i;rw[e,uo e1 e2];congr 1;have f1:∀y z:ζ,co (add 0 (mul 0 u y) (mul 0 v z))=λi=>cv (co u) (co y) i+cv (co v) (co z) i:=λy z=>by
  funext i;rw[awI,A5,A5]
 rw[f1,f1,nO (cv (co u) (co a)),nO (cv (co u) (co c)),aI,aI,mJ,mJ,mJ,mJ];lia
def Div.in1(h:Div b p m q r):dX b m r p:=by
 refine{q,[1],λk=>?_};obtain⟨u,v,e⟩:=dX.left b r [];rw[<-h.eq k];have:cv (co [1]) (co r) k=co r k:=by
  rw[iH,rN (m:=1) ⋯ λj h1 _=>by rw[show co [1] j=0 from bY (by simpa using h1),jH]];simp[sm,iQ]
 rw[this]
def Div.in2(h:Div b p m q r):dX b p m r:=by
 refine{[1],q.map (-1 * ·),λk=>?_};have e1:cv (co [1]) (co p) k=co p k:=by
  rw[iH,rN (m:=1) ⋯ λj h1 _=>by rw[show co [1] j=0 from bY (by simpa using h1),jH]];simp[sm,iQ]
 have e2:co (q.map (-1 * ·))=λi=>-1*co q i:=by funext i;rw[C7 (by simp)]
 rw[e1,e2,nF];have:=uo (h.eq k) (rfl:tk b (-1*cv (co q) (co m) k)=tk b (-1*cv (co q) (co m) k));rw[<-this];congr 1;lia
structure Gcd(b:Int)(p q g:ζ):Prop where
 py:Py b g
 mon:Mon g
 sum:dX b p q g
 one:dX b g [] p
 two:dX b g [] q
def dX.dv(h:dX b g [] p):∃u,∀k,tk b (co p k)=tk b (cv (co u) (co g) k):=by
 intros u v e h;exact{u,λk=>by rw[e,pF (g:=co []) λi _=>.inr (gw _),fK]}
end
end Pm
namespace Pm
open Rm
section
variable {p q g s:ζ}{b:Int}
def x6(h:p≠[]):p=p.dropLast++[co p (p.length-1)]:=by
 have hp:0<p.length:=rQ.mpr h
 conv=>lhs;rw[<-ZN h]
 congr 2;rw[qN ⋯,List.getLast_eq_getElem]
def B1(h:p≠[])(h0:co p (p.length-1)≠0):trim p=p:=by
 have e:=x6 h;rw[e,X4 _ h0]
def Gb(h:p≠[])(ht:trim p=p):co p (p.length-1)≠0:=by
 intro z;have e:=x6 h;rw[z]at e;have e2:trim p=trim p.dropLast:=by
  conv=>lhs;rw[e]
  exact QI _
 have:=BR p.dropLast;rw[<-e2,ht,List.length_dropLast]at this;have hp:0<p.length:=rQ.mpr h;lia
structure zH(b:Int)(p m:ζ):Prop where
 py:Py b m
 len:m.length=p.length
 mon:p≠[]->Mon m
 to:∃c,∀k,tk b (co m k)=tk b (c*co p k)
 of:∃c,∀k,tk b (co p k)=tk b (c*co m k)
def dX.scale{b:Int}{p m:ζ}(h:∃c,∀k,tk b (co m k)=tk b (c*co p k))(q:ζ):dX b p q m:=by
 intros c e h;refine{[c],[],λk=>?_};rw[pF (f:=co []) λi _=>.inl (gw _),fK,e,iH,rN (m:=1) ⋯ λj h1 _=>by rw[show co [c] j=0 from bY (by simpa using h1),jH]];simp[sm,iQ]
theorem zH.nil(b:Int):zH b [] []:={Py.nil b,rfl,λh=>absurd rfl h,{0,λk=>by rw[gw,jH]},{0,λk=>by rw[gw,jH]}}
def wX(P:Nat)(p:ζ):ζ:=p.map λx=>x*(co p (p.length-1))^(P-2)%(P:Int)
structure wF(b:Int)(p q g s:ζ):Prop where
 gy:Py b g
 sy:Py b s
 gm:g≠[]->Mon g
 sm_:s≠[]->Mon s
 some:s=[]->g≠[]
 gi:dX b p q g
 si:dX b p q s
 pi:dX b g s p
 qi:dX b g s q
def wF.start(hg:zH b p g)(hs:zH b q s)(h:q=[]->p≠[]):wF b p q g s:=by
 have lg:=hg.len;have ls:=hs.len;have pn:g≠[]->p≠[]:=λz e=>z (u5 (by rw[lg,e];rfl));have qn:s≠[]->q≠[]:=λz e=>z (u5 (by rw[ls,e];rfl));refine{hg.py,hs.py,λz=>hg.mon (pn z),λz=>hs.mon (qn z),λz e=>?_,dX.scale hg.to q,(dX.scale hs.to p).swap,dX.scale hg.of s,(dX.scale hs.of g).swap};have q0:q=[]:=u5 (by rw[<-ls,z];rfl);exact h q0 (u5 (by rw[<-lg,e];rfl))
def wF.step(h:wF b p q g s)(hs:s≠[])(d:Div b g s o l)(hm:zH b l m):wF b p q s m:=by
 have lm:=hm.len;have ln:m≠[]->l≠[]:=λz e=>z (u5 (by rw[lm,e];rfl));have li:dX b p q l:=h.gi.trans h.si d.in2;have gs:dX b s m g:=(dX.left b s m).trans (dX.scale hm.of s).swap d.in1;refine{h.sy,hm.py,h.sm_,λz=>hm.mon (ln z),λ_=>hs,h.si,li.trans li (dX.scale hm.to l),?_,?_}
 .exact gs.trans (dX.left b s m) h.pi
 .exact gs.trans (dX.left b s m) h.qi
def wF.stop(h:wF b p q g s)(hs:s=[]):Gcd b p q g:=by
 subst hs;exact{h.gy,h.gm (h.some rfl),h.gi,h.pi,h.qi}
end
end Pm
namespace Pm
open Rm
def Jc(h:co p k≠0):k<p.length:=by
 by_cases c:k<p.length
 .exact c
 .exact absurd (bY ⋯) h
def zV(b:Int)(c:ζ):Mon (bZ b c):={by rw[nG];lia,by
 rw[nG,bZ,DX,dF,if_neg ⋯,(⋯:c.length+1-1-c.length=0)];rfl}
def Tp(b:Int)(p:ζ):(oY b p).length=p.length-1:=by rw[oY,dF]
def DS(hw:∀k,tk b (co w k)=co w k)(hm:Mon w):bZ b (oY b w)=w:=by
 have hp:=hm.pos;refine uL (by rw[nG,Tp];lia) λk=>?_;rw[bZ,DX,dF,Tp];by_cases h:k<w.length-1
 .rw[if_pos h,iU,if_pos h,oY,iU,if_pos ⋯,wd,(⋯:w.length-1-1-(w.length-1-1-k)=k),hw]
 .rw[if_neg h];by_cases c:k=w.length-1
  .rw[c,Aj,hm.one];rfl
  .rw[bY (p:=w) ⋯,bY];simp;lia
end Pm
namespace Om
def cT(p:Nat):Prop:=2<=p/\∀d,d∣p->d=1∨d=p
def cT.cop(h:cT p)(hx:¬p∣x):Nat.Coprime p x:=by
 rcases h.2 _ (Wd p x)with e|e
 .exact e
 .exact absurd (e▸yz p x) hx
def cT.dvd(h:cT p)(hd:p∣x*y):p∣x∨p∣y:=by
 by_cases c:p∣x
 .exact .inl c
 .exact .inr ((h.cop c).dvd_of_dvd_mul_left hd)
def ch:Nat->Nat->Nat
 |_,0=>1
 |0,_+1=>0
 |n+1,k+1=>ch n k+ch n (k+1)
def JC(n:Nat):ch n 0=1:=by cases n<;>rfl
theorem Em:∀(n k:Nat),n<k->ch n k=0
 |0,k+1,_=>rfl
 |n+1,k+1,h=>by rw[ch,Em n k ⋯,Em n (k+1) ⋯]
theorem Lo:∀n,ch n n=1
 |0=>rfl
 |n+1=>by rw[ch,Lo n,Em n (n+1) ⋯]
theorem SQ:∀n k:Nat,(k+1)*ch (n+1) (k+1)=(n+1)*ch n k
 |0,0=>rfl
 |0,k+1=>by
  have e:ch (0+1) (k+1+1)=ch 0 (k+1)+ch 0 (k+1+1):=rfl;rw[e,Em 0 (k+1) ⋯,Em 0 (k+1+1) ⋯];simp
 |n+1,0=>by
  have:=SQ n 0;have e:ch (n+1+1) (0+1)=ch (n+1) 0+ch (n+1) (0+1):=rfl;simp only[JC]at e⊢;rw[e];rw[JC]at this;lia
 |n+1,k+1=>by
  have h1:=SQ n k;have h2:=SQ n (k+1);rw[ch,Af];have e1:(k+1+1)*ch (n+1) (k+1)=(n+1)*ch n k+ch (n+1) (k+1):=by rw[uI,h1]
  rw[e1,h2];have e2:ch (n+1) (k+1)=ch n k+ch n (k+1):=rfl;rw[e2,uI (n+1),Af];lia
def cT.dch(h:cT p)(h0:0<k)(hk:k<p):p∣ch p k:=by
 obtain⟨n,rfl⟩:∃n,p=n+1:={p-1,by have:=h.1;lia};obtain⟨j,rfl⟩:∃j,k=j+1:={k-1,⋯};have e:=SQ n j;rcases h.dvd (x:=j+1) (y:=Om.ch (n+1) (j+1)) (by rw[e];exact WE ..)with d|d
 .exact absurd (xQ ⋯ d) ⋯
 .exact d
def sN(f:Nat->Nat):Nat->Nat
 |0=>0
 |n+1=>sN f n+f n
theorem Pe:∀{n:Nat},(∀k,k<n->f k=g k)->sN f n=sN g n
 |0,_=>rfl
 |n+1,h=>by rw[sN,sN,Pe λk hk=>h k ⋯,h n ⋯]
theorem Ct(f g:Nat->Nat):∀n,sN (λk=>f k+g k) n=sN f n+sN g n
 |0=>rfl
 |n+1=>by rw[sN,sN,sN,Ct f g n];lia
theorem Q2(c:Nat)(f:Nat->Nat):∀n,sN (λk=>c*f k) n=c*sN f n
 |0=>rfl
 |n+1=>by rw[sN,sN,Q2 c f n,Af]
theorem Ov(f:Nat->Nat):∀n,sN f (n+1)=f 0+sN (λk=>f (k+1)) n
 |0=>by rw[sN,sN,sN];lia
 |n+1=>by rw[sN,Ov f n,sN];lia
theorem yB:∀{n:Nat},(∀k,k<n->p∣f k)->p∣sN f n
 |0,_=>Nat.dvd_zero _
 |n+1,h=>Nat.dvd_add (yB λk hk=>h k ⋯) (h n ⋯)
theorem YE(a:Nat):∀n,(a+1)^n=sN (λk=>ch n k*a^k) (n+1)
 |0=>by simp[sN,ch]
 |n+1=>by
  rw[pD,YE a n,Ov (λk=>ch (n+1) k*a^k) (n+1)];have e1:sN (λk=>ch (n+1) (k+1)*a^(k+1)) (n+1)=sN (λk=>a*(ch n k*a^k)) (n+1)+sN (λk=>ch n (k+1)*a^(k+1)) (n+1):=by
   rw[<-Ct];refine Pe λk _=>?_;rw[ch,V2,pD];congr 1;rw[yH a,G1]
  have e2:sN (λk=>ch n k*a^k) (n+1)=1+sN (λk=>ch n (k+1)*a^(k+1)) (n+1):=by
   have e3:sN (λk=>ch n k*a^k) (n+1+1)=sN (λk=>ch n k*a^k) (n+1):=by rw[sN,Em n (n+1) ⋯,Sr,Yj]
   rw[<-e3,Ov];rw[JC,Gk]
  rw[e1,Q2,JC,Gk,Af,QY,yH];lia
theorem cT.pow(h:cT p):∀a:Nat,a^p%p=a%p
 |0=>by rw[Nat.zero_pow (by have:=h.1;lia)]
 |a+1=>by
  obtain⟨n,rfl⟩:∃n,p=n+1:={p-1,by have:=h.1;lia};have e:(a+1)^(n+1)=1+sN (λk=>ch (n+1) (k+1)*a^(k+1)) n+a^(n+1):=by
   rw[YE,sN,Ov,JC,Gk,Lo,Kf,Kf]
  obtain⟨c,hc⟩:(n+1)∣sN (λk=>ch (n+1) (k+1)*a^(k+1)) n:=yB λk hk=>Rv (h.dch ⋯ ⋯) (WE ..);rw[e,hc,(⋯:1+(n+1)*c+a^(n+1)=(a^(n+1)+1)+(n+1)*c),gI,Nat.add_mod,cT.pow h a,<-Nat.add_mod]
def cT.avo(h:cT p)(h0:a≠0)(ha:a<p):a^(p-1)%p=1:=by
 have hp:=h.1;have e:=h.pow a;obtain⟨n,rfl⟩:∃n,p=n+1:={p-1,⋯};rw[jY];have one:1<=a^n:=Nat.pow_pos ⋯;have d:(n+1)∣a*(a^n-1):=by
  have e2:a*(a^n-1)=a^(n+1)-a:=by rw[Nat.mul_sub,QY,pD,yH]
  rw[e2];exact Nat.dvd_of_mod_eq_zero (Nat.sub_mod_eq_zero_of_mod_eq e)
 rcases h.dvd d with d|⟨c,hc⟩
 .exact absurd (xQ ⋯ d) ⋯
 .rw[(⋯:a^n=1+(n+1)*c),gI];exact BD ⋯
end Om
namespace Pm
open Rm
section
variable {f g:Nat->Int}{m:ζ}{n:Nat}{b x:Int}
def Fs(f:Nat->Int)(n:Nat):Prop:=∀k,n<=k->f k=0
theorem Fs.co(p:ζ):Fs (co p) p.length:=λ_ h=>bY h
def Fs.mono{m:Nat}(h:Fs f m)(hmn:m<=n):Fs f n:=λk hk=>h k ⋯
def Fs.add(h:Fs f n)(h':Fs g n):Fs (λk=>f k+g k) n:=λk hk=>by show f k+g k=0;rw[h k hk,h' k hk];rfl
def Fs.mul(c:Int)(h:Fs f n):Fs (λk=>c*f k) n:=λk hk=>by show c*f k=0;rw[h k hk,eV]
def Fs.O4{m:Nat}(h:Fs f m)(h':Fs g n){k:Nat}(hk:m+n<=k+1):Pm.cv f g k=0:=pF λi _=>by
 by_cases c:m<=i
 .exact .inl (h i c)
 .exact .inr (h' _ ⋯)
theorem Fs.cv{f g:Nat->Int}{m n:Nat}(h:Fs f m)(h':Fs g n):Fs (Pm.cv f g) (m+n):=λk hk=>h.O4 h' ⋯
def Tv(h:Fs f (a+1))(h':Fs g (c+1)):Pm.cv f g (a+c)=f a*g c:=by
 rw[iH,jm (g:=λi=>if i=a then f a*g c else 0) λi _=>?_,yx,if_pos ⋯];by_cases e:i=a
 .rw[if_pos e,e,MQ]
 .rw[if_neg e];by_cases l:i<a
  .rw[h' _ ⋯,eV]
  .rw[h i ⋯,jH]
def UH(y:Int)(h:tk b x=0):tk b (y*x)=0:=by rw[<-vI,h,eV,tk0]
def fw(hm:Mon m){f:Nat->Int}{n:Nat}(hf:Fs f n)(h:∀k,m.length-1<=k->tk b (cv f (co m) k)=0):∀k,tk b (f k)=0:=by
 have q:∀d j,n<=j+d->tk b (f j)=0:=λd=>by
  induction d with
  |zero=>intro j hj;rw[hf j hj,tk0]
  |succ d ih=>
   intro j hj;have e:=h (j+(m.length-1)) ⋯;rw[iH]at e;have e2:tk b (sm (j+(m.length-1)+1) λi=>f i*co m (j+(m.length-1)-i))=tk b (sm (j+(m.length-1)+1) λi=>if i=j then f j else 0):=rG λi hi=>by
    by_cases c:i=j
    .rw[if_pos c,c,MQ,hm.one,mH]
    .rw[if_neg c,tk0];by_cases d2:i<j
     .rw[bY (by have:=hm.pos;lia),eV,tk0]
     .rw[jt];exact UH _ (ih i ⋯)
   rw[e2,yx,if_pos ⋯]at e;exact e
 exactλk=>q n k ⋯
def Dv(b:Int)(m:ζ)(f:Nat->Int):Prop:=∃s n,Fs s n/\∀k,tk b (f k)=tk b (cv s (co m) k)
def Dv.congr(e:∀k,tk b (f k)=tk b (g k))(h:Dv b m f):Dv b m g:=by
 intros s n hs h h;exact{s,n,hs,λk=>by rw[<-e,h]}
theorem Dv.add{b:Int}{m:ζ}{f g:Nat->Int}(h:Dv b m f)(h':Dv b m g):Dv b m λk=>f k+g k:=by
 intros s n hs h h;intros s' n' hs' h' h';exact{λk=>s k+s' k,n+n',(hs.mono ⋯).add (hs'.mono ⋯),λk=>by rw[nO];exact uo (h k) (h' k)}
def Dv.smul(c:Int)(h:Dv b m f):Dv b m λk=>c*f k:=by
 intros s n hs h h;exact{λk=>c*s k,n,hs.mul c,λk=>by rw[nF,<-vI,h,vI]}
def Dv.sub(h:Dv b m f)(h':Dv b m g):Dv b m λk=>f k-g k:=
 (h.add (h'.smul (-1))).congr λk=>by rw[(⋯:f k + -1*g k=f k-g k)]
def Dv.mul(hg:Fs g n)(h:Dv b m f):Dv b m (cv g f):=by
 intros s n' hs h h;exact{cv g s,n+n',hg.cv hs,λk=>by rw[mJ];exact Bg (λi _=>rfl) λi _=>h i}
def Dv.self(hg:Fs g n):Dv b m (cv g (co m)):={g,n,hg,λ_=>rfl}
def Dv.short(hm:Mon m){f:Nat->Int}(hf:Fs f (m.length-1))(h:Dv b m f):∀k,tk b (f k)=0:=by
 intros s n hs h h;have z:=fw (b:=b) hm hs λk hk=>by rw[<-h,hf k hk,tk0]
 intro k;rw[h,<-tk0 b,<-pF (f:=λ_=>(0:Int)) (g:=co m) (k:=k) λi _=>.inl rfl];exact Bg (λi _=>by rw[z,tk0]) λi _=>rfl
def nS(hm:Mon m)(hp:∀k,tk b (co p k)=co p k):∃q r,Div b p m q r:=by
 have go:∀d,d<=p.length-(m.length-1)->∃o l,tG b p m (p.length-(m.length-1)-d) o l:=λd=>by
  induction d with
  |zero=>intro _;exact{_,_,tG.start hp}
  |succ d ih=>
   intro hd;obtain⟨o,l,I⟩:=ih ⋯;obtain⟨s,hs⟩:∃s,p.length-(m.length-1)-d=s+1:={p.length-(m.length-1)-d-1,⋯};rw[hs]at I;refine{o.set s (co l (s+(m.length-1))),bf l.length λk=>lf b (co l (s+(m.length-1))) s m.length l m k,?_};rw[(⋯:p.length-(m.length-1)-(d+1)=s)];refine I.step hm ⋯ (dF ..) λk=>?_;rw[iU];by_cases c:k<l.length
   .rw[if_pos c]
   .rw[if_neg c];have hl:=I.ll;have hmp:=hm.pos;unfold lf;rw[if_neg ⋯,bY ⋯]
 obtain⟨o,l,I⟩:=go _ (aZ _);rw[Aj]at I;exact{_,_,I.stop hm}
theorem Dv.by{b:Int}{m:ζ}{f:Nat->Int}(h:Dv 0 m f):Dv b m f:=by
 intros s n hs h h;exact{s,n,hs,λk=>by have:=h k;rw[dj,dj]at this;rw[this]}
def Dv.len(h1:tk b 1=1){m:ζ}(hm:Mon m)(hp:Mon p)(h:Dv b m (co p)):m.length<=p.length:=by
 by_cases c:m.length<=p.length
 .exact c
 .exfalso
  have:=h.short hm ((Fs.co p).mono ⋯) (p.length-1);rw[hp.one,h1]at this;exact absurd this ∅
def UR(h1:tk b 1=1){g:ζ}(hP:Mon P)(hg:Mon g)(h:Dv b g (co P)):∃L:ζ,Mon L/\(∀k,tk b (co L k)=co L k)/\L.length+g.length=P.length+1/\∀k,tk b (co P k)=tk b (cv (co L) (co g) k):=by
 have hl:=h.len h1 hg hP;have hp:=hP.pos;have hgp:=hg.pos;intros s n hs h h;have key:∀d j,n<=j+d->P.length-g.length<j->tk b (s j)=0:=λd=>by
  induction d with
  |zero=>intro j hj _;rw[hs j hj,tk0]
  |succ d ih=>
   intro j hj hj2;have e:=h (j+(g.length-1));rw[bY ⋯,tk0,iH]at e;have e2:tk b (sm (j+(g.length-1)+1) λi=>s i*co g (j+(g.length-1)-i))=tk b (sm (j+(g.length-1)+1) λi=>if i=j then s j else 0):=rG λi hi=>by
    by_cases c:i=j
    .rw[if_pos c,c,MQ,hg.one,mH]
    .rw[if_neg c,tk0];by_cases d2:i<j
     .rw[bY ⋯,eV,tk0]
     .rw[jt];exact UH _ (ih i ⋯ ⋯)
   rw[e2,yx,if_pos ⋯]at e;exact e.symm
 have z:∀k,P.length-g.length<k->tk b (s k)=0:=λk hk=>key n k ⋯ hk;have t1:tk b (s (P.length-g.length))=1:=by
  have e:=h (P.length-1);rw[hP.one,h1,iH]at e;have e2:tk b (sm (P.length-1+1) λi=>s i*co g (P.length-1-i))=tk b (sm (P.length-1+1) λi=>if i=P.length-g.length then s (P.length-g.length)else 0):=rG λi hi=>by
   by_cases c:i=P.length-g.length
   .rw[if_pos c,c,(⋯:P.length-1-(P.length-g.length)=g.length-1),hg.one,mH]
   .rw[if_neg c,tk0];by_cases d2:i<P.length-g.length
    .rw[bY ⋯,eV,tk0]
    .rw[jt];exact UH _ (z i ⋯)
  rw[e2,yx,if_pos ⋯]at e;exact e.symm
 have hc:∀k,co (bf (P.length-g.length+1) λk=>tk b (s k)) k=tk b (s k):=λk=>by
  rw[iU];by_cases c:k<P.length-g.length+1
  .rw[if_pos c]
  .rw[if_neg c,z k ⋯]
 refine{bf (P.length-g.length+1) λk=>tk b (s k),{by rw[dF];lia,?_},λk=>?_,by rw[dF];lia,λk=>?_}
 .rw[dF,jY,hc,t1]
 .rw[hc,rE]
 .rw[h k];exact Bg (λi _=>by rw[hc,rE]) λi _=>rfl
def aMi(hm:Mon m){f g:Nat->Int}{n:Nat}(hf:Fs f n)(hg:Fs g n')(h:∀k,tk b (cv f (co m) k)=tk b (cv g (co m) k)):∀k,tk b (f k)=tk b (g k):=λk=>by
 refine DG.mp (fw (b:=b) hm (f:=λk=>f k-g k) (n:=n+n') (λk hk=>?_) (λk _=>?_) k)
 .show f k-g k=0;rw[hf k ⋯,hg k ⋯];rfl
 .have e:cv (λk=>f k-g k) (co m) k=cv f (co m) k + -1*cv g (co m) k:=by
   rw[<-nF,<-nO];exact oK (λi _=>⋯) λi _=>rfl
  rw[e,uo (h k) rfl,show ∀x:Int,x + -1*x=0 fromλx=>⋯,tk0]
def Yu(h:Fs f n):∃S:ζ,∀k,co S k=f k:={bf n f,λk=>by
 rw[iU];by_cases c:k<n
 .rw[if_pos c]
 .rw[if_neg c,h k ⋯]}
def pe(hL:Mon L)(hN:N≠0){f:Nat->Int}{n:Nat}(hf:Fs f n)(h:Dv 0 L λk=>N*f k):Dv 0 L f:=by
 obtain⟨p,hp⟩:=Yu hf;obtain⟨o,r,D⟩:=nS (b:=0) hL (p:=p) λk=>dj _;have e:∀k,f k=cv (co o) (co L) k+co r k:=λk=>by have:=D.eq k;rw[dj,dj]at this;rw[<-hp,this]
 have z:=(h.sub ((Dv.self (b:=0) (m:=L) (Fs.co o)).smul N)).short hL λk hk=>by
  have:=D.short;show N*f k-N*cv (co o) (co L) k=0;rw[e,bY (p:=r) ⋯,fK,Fb]
 refine{co o,o.length,Fs.co o,λk=>congrArg _ ?_};have:=z k;rw[dj,<-KP]at this;have:=(PL.mp this).resolve_left hN;lia
def Div.dv(h:Div b P M q r)(hM:Mon M):r=[]↔Dv b M (co P):=by
 constructor
 .rintro rfl;exact{co q,q.length,Fs.co q,λk=>by rw[<-h.eq k,gw,fK]}
 .intro d;have e:Dv b M (co r):=(d.sub (Dv.self (b:=b) (m:=M) (Fs.co q))).congr λk=>by
   have e1:tk b (co P k + -cv (co q) (co M) k)=tk b ((cv (co q) (co M) k+co r k) + -cv (co q) (co M) k):=uo (h.eq k).symm rfl;rw[(⋯:co P k-cv (co q) (co M) k=co P k + -cv (co q) (co M) k),e1];exact congrArg (tk b) ⋯
  have z:=e.short hM ((Fs.co r).mono (by have:=h.short;lia));rw[<-h.ry.tr];exact Qt.mpr λk=>by rw[<-h.ry.co k];exact z k
def wt(x:Int)(q:ζ)(f:Nat->Int)(k:Nat):cv (co (x::q)) f k=x*f k+(if k=0 then 0 else cv (co q) f (k-1)):=by
 cases k with
 |zero=>rw[cv,iQ,if_pos rfl,fK]
 |succ k=>
  rw[cv,iQ,if_neg ⋯,jY];congr 1
def ZI:tk b x=0↔b∣x:=by
 by_cases h:b=0
 .rw[h,dj,Int.zero_dvd]
 .rw[oB h];exact Int.dvd_iff_emod_eq_zero.symm
def tp(P:ζ)(a:Nat->Int)(k:Nat):Int:=sm (P.length-1-k) λi=>co P (k+1+i)*a i
end
end Pm
namespace Pm
open Rm
theorem i6:∀(B A:Nat)(f:Nat->Nat),(∀c,c<A->f c<B)->B<A->∃i j,i<j/\j<A/\f i=f j
 |0,A,f,h,hA=>absurd (h 0 hA) (uz _)
 |B+1,A,f,h,hA=>by
  by_cases e:∃c,c<A-1/\f c=f (A-1)
  .intros c h1 h2 e;exact{c,A-1,h1,⋯,h2}
  .have ne:∀c,c<A-1->f c≠f (A-1):=λc hc z=>e {c,hc,(z)};have hv:=h (A-1) ⋯;obtain⟨i,j,h1,h2,h3⟩:=i6 B (A-1) (λc=>if f (A-1)<f c then f c-1 else f c) (λc hc=>by
    have h1:=h c ⋯;have h2:=ne c hc;show(if f (A-1)<f c then f c-1 else f c)<B;split<;>lia) ⋯
   exists i,j,h1,⋯;have n1:=ne i ⋯;have n2:=ne j h2;change (if f (A-1)<f i then f i-1 else f i)=(if f (A-1)<f j then f j-1 else f j)at h3;split at h3<;>split at h3<;>lia
def dig(s j c:Nat):Nat:=c/2^(s*j)%2^s
theorem MU:∀{n c c':Nat},(∀j,j<n->dig s j c=dig s j c')->c%2^(s*n)=c'%2^(s*n)
 |0,c,c',_=>by rw[mw,Gk,Nat.mod_one,Nat.mod_one]
 |n+1,c,c',h=>by
  have h1:=MU (n:=n) λj hj=>h j ⋯;have h2:c/2^(s*n)%2^s=c'/2^(s*n)%2^s:=h n ⋯;rw[Fv,Pq,Nat.mod_mul,Nat.mod_mul,h1,h2]
def uY(R:Nat)(y:Nat->Nat):Nat->Nat
 |0=>0
 |n+1=>uY R y n*2^R+y n
theorem xn:∀{n:Nat},(∀i,i<n->y i<2^R)->uY R y n<2^(R*n)
 |0,_=>by rw[mw];exact Nat.one_pos
 |n+1,h=>by
  have h1:=pO (2^R) (xn (n:=n) λi hi=>h i ⋯);have h2:=h n ⋯;rw[Fv,Pq];rw[uI]at h1;show uY R y n*2^R+y n<_;lia
theorem ZT:∀{n:Nat},(∀i,i<n->y i<2^R)->(∀i,i<n->y' i<2^R)->uY R y n=uY R y' n->∀i,i<n->y i=y' i
 |0,_,_,_,i,hi=>absurd hi (uz _)
 |n+1,h,h',e,i,hi=>by
  have e':uY R y n*2^R+y n=uY R y' n*2^R+y' n:=e;have e1:=congrArg (· % 2^R) e';simp only[Nat.mul_add_mod_self_right,BD (h n ⋯),BD (h' n ⋯)]at e1;by_cases c:i=n
  .rw[c];exact e1
  .exact ZT (λi hi=>h i ⋯) (λi hi=>h' i ⋯) (Nat.eq_of_mul_eq_mul_right (Nat.two_pow_pos R) (⋯:uY R y n*2^R=uY R y' n*2^R)) i ⋯
theorem YA:∀n,sm n (λj=>f j-g j)=sm n f-sm n g
 |0=>rfl
 |n+1=>by show sm n _+(f n-g n)=sm n f+f n-(sm n g+g n);rw[YA n];lia
def aI8(A:Nat->Nat->Int)(s R:Nat)(hA:∀i,i<m->∀x:Nat->Nat,(∀j,x j<2^s)->Bd R (sm n λj=>A i j*(x j:Nat)))(h:(R+1)*m<s*n):
  ∃x:Nat->Int,(∃j,j<n/\x j≠0)/\(∀j,Bd s (x j))/\∀i,i<m->sm n (λj=>A i j*x j)=0:=by
 have dl:∀c j,dig s j c<2^s:=λc j=>uB _ (Nat.two_pow_pos _);have hb:=λc i hi=>hA i hi _ (dl c);have hy:∀c i,i<m->((sm n λj=>A i j*(dig s j c:Nat))+(2^R:Nat)).toNat<2^(R+1):=λc i hi=>by
  have:=hb c i hi;unfold Bd at this;rw[pD];lia
 obtain⟨a,b,h1,h2,h3⟩:=i6 (2^((R+1)*m)) (2^(s*n)) (λc=>uY (R+1) (λi=>((sm n λj=>A i j*(dig s j c:Nat))+(2^R:Nat)).toNat) m) (λc _=>xn λi hi=>hy c i hi) (Nat.pow_lt_pow_right ∅ h);refine{λj=>(dig s j a:Int)-(dig s j b:Int),?_,λj=>?_,λi hi=>?_}
 .apply xY;intro z;have e:=MU (n:=n) (s:=s) (c:=a) (c':=b) λj hj=>xY λw=>z {j,hj,(⋯:(dig s j a:Int)-(dig s j b:Int)≠0)};rw[BD ⋯,BD h2]at e;lia
 .have:=dl a j;have:=dl b j;show((dig s j a:Int)-(dig s j b:Int)).natAbs<2^s;lia
 .have k:=ZT (λi hi=>hy a i hi) (λi hi=>hy b i hi) h3 i hi;have b1:=hb a i hi;have b2:=hb b i hi;unfold Bd at b1 b2;rw[show(λj=>A i j*((dig s j a:Int)-(dig s j b:Int)))=λj=>A i j*(dig s j a:Int)-A i j*(dig s j b:Int)from funext λj=>KP ..,YA];lia
end Pm
namespace Pm
open Rm
section
variable {p:Nat}{f T:Nat->Int}{P g s:ζ}{N:Int}
def aRx:∀n:Nat,2<=n->∃p,Om.cT p/\p∣n:=λn=>by
 induction n using CW with
 |ind n ih=>
  intro hn;by_cases h:∀d,d∣n->d=1∨d=n
  .exact{n,{hn,(h)},IT n}
  .obtain⟨d,hd⟩:=Q5.mp h;obtain⟨hd,hn1⟩:=Classical.not_imp.mp hd;have h0:d≠0:=λe=>by rw[e]at hd;have:=yn hd;lia
   have hl:=xQ ⋯ hd;have h1:d≠1:=λe=>hn1 (.inl e);have h2:d≠n:=λe=>hn1 (.inr e);obtain⟨p,hp,hq⟩:=ih d ⋯ ⋯;exact{p,hp,Rv hq hd}
def least_of{Q:Nat->Prop}(h:∃n,Q n):∃n,Q n/\∀m,Q m->n<=m:=by
 intros n hn h;induction n using CW with
 |ind n ih=>
  by_cases c:∃m,m<n/\Q m
  .intros m h1 h2 c;exact ih m h1 h2
  .exact{n,hn,λm hm=>by
    by_cases d:m<n
    .exact absurd {m,d,(hm)} c
    .lia}
def M9{x:Int}:(p:Int)∣x↔p∣x.natAbs:=Int.ofNat_dvd_left
def tN(hp:Om.cT p)(h:(p:Int)∣x*y):(p:Int)∣x∨(p:Int)∣y:=by
 rw[M9,zB]at h;rcases hp.dvd h with h|h
 .exact .inl (M9.mpr h)
 .exact .inr (M9.mpr h)
theorem Hd{f:Nat->Int}:∀{n:Nat},(∀k,k<n->d∣f k)->d∣sm n f
 |0,_=>{0,by rw[eV];rfl}
 |n+1,h=>wO (Hd λk hk=>h k ⋯) (h n ⋯)
def aTf(hj:j<n)(h:d∣sm n f)(ho:∀k,k<n->k≠j->d∣f k):d∣f j:=by
 have e:sm n f=sm n (λk=>if k=j then f j else 0)+sm n (λk=>if k=j then 0 else f k):=by
  rw[<-zJ];refine jm λk _=>?_;by_cases c:k=j
  .rw[if_pos c,if_pos c,c,fK]
  .rw[if_neg c,if_neg c,jL]
 rw[yx,if_pos hj]at e;have h2:d∣sm n (λk=>if k=j then 0 else f k):=Hd λk hk=>by
  by_cases c:k=j
  .rw[if_pos c];exact{0,by rw[eV]}
  .rw[if_neg c];exact ho k hk c
 have:f j=sm n f-sm n (λk=>if k=j then 0 else f k):=⋯;rw[this];exact Int.dvd_sub h h2
def aEp(hp:Om.cT p){f g:Nat->Int}(h:∀k,(p:Int)∣cv f g k):(∀k,(p:Int)∣f k)∨∀k,(p:Int)∣g k:=by
 by_cases hf:∀k,(p:Int)∣f k
 .exact .inl hf
 by_cases hg:∀k,(p:Int)∣g k
 .exact .inr hg
 obtain⟨i,hi,hi'⟩:=least_of (Q5.mp hf);obtain⟨j,hj,hj'⟩:=least_of (Q5.mp hg);have e:=h (i+j);rw[iH]at e;have t:=aTf (j:=i) ⋯ e λk hk hne=>by
  by_cases c:k<i
  .have:(p:Int)∣f k:=xY λz=>by have:=hi' k z;lia
   exact Lg this (Lh ..)
  .have:(p:Int)∣g (i+j-k):=xY λz=>by have:=hj' _ z;lia
   exact Lg this (VO ..)
 rw[MQ]at t;rcases tN hp t with t|t
 .exact absurd t hi
 .exact absurd t hj
theorem Fs.top{f:Nat->Int}:∀{n:Nat},Fs f n->(∀k,f k=0)∨∃d,d<n/\f d≠0/\Fs f (d+1)
 |0,h=>.inl λk=>h k (cZ _)
 |n+1,h=>by
  by_cases c:f n=0
  .have h':Fs f n:=λk hk=>by
    by_cases e:k=n
    .rw[e];exact c
    .exact h k ⋯
   rcases Fs.top h' with z|⟨d,h1,h2,h3⟩
   .exact .inl z
   .exact .inr {d,⋯,h2,h3}
  .exact .inr {n,⋯,c,h}
def I2(P:ζ)(T f:Nat->Int):Prop:=∃(N:Int)(A B:Nat->Int)(n:Nat),N≠0/\Fs A n/\Fs B n/\∀k,N*f k=cv A (co P) k+cv B T k
def lI(f:Nat->Int)(k:Nat):cv (λk=>if k=0 then 1 else 0) f k=f k:=by rw[yR,if_pos (cZ _),sY,uT]
def vz(f:Nat->Int)(k:Nat):cv (λ_=>0) f k=0:=pF λ_ _=>.inl rfl
def ZG:Fs (λk=>if k=0 then 1 else 0) 1:=λk hk=>if_neg ⋯
def I2.left(P:ζ)(T:Nat->Int):I2 P T (co P):={1,_,λ_=>0,1,∅,ZG,λ_ _=>rfl,λk=>by rw[lI,vz,sY,fK]}
def I2.right(P:ζ)(T:Nat->Int):I2 P T T:={1,λ_=>0,_,1,∅,λ_ _=>rfl,ZG,λk=>by rw[lI,vz,sY,jL]}
def I2.div(hc:c≠0)(h:I2 P T λk=>c*f k):I2 P T f:=by
 intros N A B n hN hA hB e h;exact{N*c,A,B,n,Oj hN hc,hA,hB,λk=>by rw[jx,e]}
def I2.step(c:Int)(hG:Fs G m)(hq:I2 P T q)(hf:I2 P T f):I2 P T λk=>c*q k+cv G f k:=by
 intros N A B n hN hA hB e hq;intros N' A' B' n' hN' hA' hB' e' hf;refine{N*N',λk=>c*N'*A k+N*cv G A' k,λk=>c*N'*B k+N*cv G B' k,n+(m+n'),Oj hN hN',((hA.mul _).mono ⋯).add (((hG.cv hA').mul _).mono ⋯),((hB.mul _).mono ⋯).add (((hG.cv hB').mul _).mono ⋯),λk=>?_};have e2:N'*cv G f k=cv G (cv A' (co P)) k+cv G (cv B' T) k:=by
  rw[<-aI,mL G f,<-nF,mL];exact oK (λ_ _=>rfl) λi _=>e' i
 rw[nO,nO,nF,nF,nF,nF,mJ,mJ,Cy,show N*N'*(c*q k)=c*N'*(N*q k)by ac_rfl,e k,jx N,e2,Cy,Cy];lia
structure Lk(P:ζ)(T:Nat->Int)(d:Nat)(f:Nat->Int):Prop where
 fs:Fs f (d+1)
 ne:f d≠0
 kf:I2 P T f
def MI(hf:Lk P T d f)(hd:∀e g,Lk P T e g->d<=e):∀(n:Nat)(q:Nat->Int),Fs q n->I2 P T q->∃(m:Int)(G:Nat->Int)(N:Nat),m≠0/\Fs G N/\∀k,m*q k=cv G f k:=λn=>by
 induction n using CW with
 |ind n ih=>
  intro q hq hk;rcases hq.top with z|⟨e,hen,hne,hfe⟩
  .exact{1,λ_=>0,0,∅,λ_ _=>rfl,λk=>by rw[z k,vz];rfl}
  .have hde:=hd e q {hfe,hne,(hk)};have kl:=I2.step (G:=λi=>if i=e-d then -(q e)else 0) (m:=e-d+1) (f d) (λk h=>if_neg ⋯) hk hf.kf;have fl:Fs (λk=>f d*q k+cv (λi=>if i=e-d then -(q e)else 0) f k) e:=λk hk=>by
    show f d*q k+cv (λi=>if i=e-d then -(q e)else 0) f k=0;rw[yR,if_pos ⋯];by_cases c:k=e
    .rw[c,(⋯:e-(e-d)=d),Fy,jt (q e),Int.add_right_neg]
    .rw[hfe k ⋯,hf.fs (k-(e-d)) ⋯,eV,eV];rfl
   obtain⟨m,G,N,hm,hG,hE⟩:=ih e hen _ fl kl;refine{m*f d,λk=>G k+m*(if k=e-d then q e else 0),N+(e-d+1),Oj hm hf.ne,λk hk=>?_,λk=>?_}
   .show G k+m*(if k=e-d then q e else 0)=0;rw[hG k ⋯,if_neg ⋯,eV];rfl
   .rw[nO,nF,<-hE k,yR,yR,jx,<-Cy];refine congrArg (m * ·) ?_;split
    .rw[Fy,Int.neg_add_cancel_right]
    .rw[fK,fK]
def aOG(hP:Mon P)(hT:Fs T nT):∃g,Mon g/\I2 P T (co g)/\Dv 0 g (co P)/\Dv 0 g T:=by
 have hp:=hP.pos;have p0:Lk P T (P.length-1) (co P):={by rw[(⋯:P.length-1+1=P.length)];exact Fs.co P,by rw[hP.one];decide,I2.left P T};obtain⟨d,⟨f0,hf0⟩,hd⟩:=least_of (Q:=λd=>∃f,Lk P T d f) {_,_,p0};have hd':∀e g,Lk P T e g->d<=e:=λe g h=>hd e {g,(h)};obtain⟨c,⟨f,hf,hc⟩,hc'⟩:=least_of (Q:=λc=>∃f,Lk P T d f/\(f d).natAbs=c) {_,f0,hf0,rfl};obtain⟨m0,G0,N0,hm0,hG0,hE0⟩:=MI hf hd' P.length (co P) (Fs.co P) (I2.left P T);obtain⟨n,⟨m,G,N,hm,hG,hE,hn⟩,hn'⟩:=least_of (Q:=λn=>∃(m:Int)(G:Nat->Int)(N:Nat),m≠0/\Fs G N/\(∀k,m*co P k=cv G f k)/\m.natAbs=n) {_,m0,G0,N0,hm0,hG0,hE0,rfl};have h1:m.natAbs=1:=by
  by_cases c2:m.natAbs=1
  .exact c2
  .have h0:m.natAbs≠0:=⋯;obtain⟨p,hp,hd⟩:=aRx m.natAbs ⋯;have hpp:=hp.1;have hp0:(p:Int)≠0:=⋯;obtain⟨m',em⟩:=M9.mpr hd;have hm':m'≠0:=λz=>hm (by rw[em,z,eV]);rcases aEp hp (f:=G) (g:=f) λk=>by rw[<-hE k,em,jx];exact Lh .. with z|z
   .exfalso
    obtain⟨G',hg⟩:=Qr.mp z;refine absurd (hn' m'.natAbs {m',G',N,hm',λk hk=>?_,λk=>?_,rfl}) ?_
    .have:=hg k;rw[hG k hk]at this;exact(PL.mp this.symm).resolve_left hp0
    .refine Int.eq_of_mul_eq_mul_left hp0 ?_;rw[<-nF,<-jx,<-em,hE k];exact oK (λi _=>hg i) λ_ _=>rfl
    .rw[<-hn,em,zB,Ce];have:0<m'.natAbs:=⋯;have:2*m'.natAbs<=p*m'.natAbs:=pO _ hpp;lia
   .exfalso
    obtain⟨f',hg⟩:=Qr.mp z;have e:f=λk=>p*f' k:=funext λk=>hg k;have q:Lk P T d f':={λk hk=>by
     have:=hg k;rw[hf.fs k hk]at this;exact(PL.mp this.symm).resolve_left hp0,λz=>hf.ne (by rw[hg d,z,eV]),by
     have:=hf.kf;rw[e]at this;exact this.div hp0}
    refine absurd (hc' _ {_,q,rfl}) ?_;have e2:=congrArg Int.natAbs (hg d);rw[zB,Ce,hc]at e2;have hne:=q.ne;have:0<(f' d).natAbs:=⋯;have:2*(f' d).natAbs<=p*(f' d).natAbs:=pO _ hpp;rw[e2];show ¬p*(f' d).natAbs<=(f' d).natAbs;lia
 have hu:(f d).natAbs=1:=by
  rcases hG.top with z|⟨e,_,hne,hfe⟩
  .exfalso
   have:=hE (P.length-1);rw[hP.one,mH,pF λi _=>.inl (z i)]at this;exact hm this
  .have t:cv G f (e+d)=G e*f d:=Tv hfe hf.fs;have hx:G e*f d≠0:=Oj hne hf.ne;have e1:=hE (e+d);rw[t]at e1;have hl:e+d=P.length-1:=by
    by_cases c3:P.length<=e+d
    .rw[bY c3,eV]at e1;exact absurd e1.symm hx
    .by_cases c4:e+d=P.length-1
     .exact c4
     .exfalso
      have e2:=hE (P.length-1);rw[hP.one,mH,pF λi hi=>by
       by_cases c5:e+1<=i
       .exact .inl (hfe i c5)
       .exact .inr (hf.fs _ ⋯)]at e2
      exact hm e2
   rw[hl,hP.one,mH]at e1;have e3:=congrArg Int.natAbs e1;rw[zB,h1]at e3;exact Nat.eq_one_of_mul_eq_one_left e3.symm
 have hs:f d*f d=1:=by
  rcases Int.natAbs_eq (f d)with h|h<;>rw[h,hu]<;>rfl
 have hLc:∀k,co (bf (d+1) λk=>f d*f k) k=f d*f k:=λk=>by
  rw[iU];by_cases c3:k<d+1
  .rw[if_pos c3]
  .rw[if_neg c3,hf.fs k ⋯,eV]
 have hM:Mon (bf (d+1) λk=>f d*f k):={by rw[dF];lia,by rw[dF,jY,hLc,hs]};have dv:∀(q:Nat->Int)(n:Nat),Fs q n->I2 P T q->Dv 0 (bf (d+1) λk=>f d*f k) q:=λq n h h'=>by
  obtain⟨m,G,N,hm,hG,hE⟩:=MI hf hd' n q h h';refine pe hM hm h {λk=>f d*G k,N,hG.mul _,λk=>congrArg _ ?_};show m*q k=_;rw[hE,nF,oK (g:=co (bf (d+1) λk=>f d*f k)) (g':=λk=>f d*f k) (λ_ _=>rfl) λi _=>hLc i,mL G λk=>f d*f k,nF,<-jx,hs,sY,mL]
 refine{bf (d+1) λk=>f d*f k,hM,I2.div hf.ne ?_,dv _ _ (Fs.co P) (I2.left P T),dv _ _ hT (I2.right P T)};rw[show(λk=>f d*co (bf (d+1) λk=>f d*f k) k)=f from funext λk=>by rw[hLc,<-jx,hs,sY]];exact hf.kf
theorem AA(f:Nat->Int)(a:Nat):∀b,sm (a+b) f=sm a f+sm b λj=>f (a+j)
 |0=>(fK _).symm
 |b+1=>by rw[<-CT,sm,sm,AA f a b,Xp]
def O0{g:Nat->Int}(h:Fs f a)(k:Nat):cv f g k=sm a λj=>(if j<=k then g (k-j)else 0)*f j:=by
 have e:=rN (f:=λj=>(if j<=k then g (k-j)else 0)*f j) (m:=a) (n:=a+(k+1)) ⋯ λj hj _=>by rw[h j hj,eV]
 rw[iH,<-e,rN (n:=a+(k+1)) (m:=k+1) ⋯ λj hj _=>by rw[if_neg ⋯,jH]];exact jm λj hj=>by rw[if_pos ⋯,jt]
structure mZ(P:ζ)(T:Nat->Int)(g:ζ)(N:Int):Prop where
 mon:Mon g
 ne:N≠0
 one:Dv 0 g (co P)
 two:Dv 0 g T
 sum:∃(A B:Nat->Int)(n:Nat),Fs A n/\Fs B n/\∀k,N*co g k=cv A (co P) k+cv B T k
def mZ.small(hg:Mon g)(hL:Mon L)(eP:∀k,co P k=cv (co L) (co g) k)(eT:∀k,T k=cv t (co g) k)(ht:Fs t (L.length-1))(hI:I2 P T (co g))(hl:L.length<=13)(hu:∀k,Bd u (co L k))(hv:∀k,Bd u (t k)):∃N,mZ P T g N/\Bd (25*(u+26)) N:=by
 have hp:=hL.pos;obtain⟨l,el⟩:∃l,L.length=l+1:={L.length-1,⋯};rw[el,jY]at ht;have fL:Fs (co L) (l+1):=by rw[<-el];exact Fs.co L
 obtain⟨s,hs⟩:∃s,s=24*(u+26)+1:={()};obtain⟨x,⟨j,hj,hx⟩,bx,hz⟩:=aI8 (n:=l+1+l) (m:=2*l) (λi j=>if j<l+1 then(if j<=i+1 then co L (i+1-j)else 0)else if j-(l+1)<=i+1 then t (i+1-(j-(l+1)))else 0) s (u+s+25) (λi hi x hx=>by
  refine(Gn (c:=u+s) _ λj _=>Bd.mul ?_ (show Bd s (x j:Int)from hx j)).mono ⋯;split
  .split
   .exact hu _
   .exact Bd.zero _
  .split
   .exact hv _
   .exact Bd.zero _) (by
  have:s*(2*l+1)=s*(2*l)+s:=Fv ..;have e2:(u+s+25+1)*(2*l)=(u+26)*(2*l)+s*(2*l):=by rw[<-V2];congr 1;lia
  have h3:(u+26)*(2*l)<=(u+26)*24:=yj _ ⋯;rw[(⋯:l+1+l=2*l+1),e2,this];lia)
 obtain⟨U,hU⟩:∃U:Nat->Int,U=λk=>if k<l+1 then x k else 0:={()};obtain⟨V,hV⟩:∃V:Nat->Int,V=λk=>if k<l then x (l+1+k)else 0:={()};have fU:Fs U (l+1):=λk hk=>by rw[hU];exact if_neg ⋯
 have fV:Fs V l:=λk hk=>by rw[hV];exact if_neg ⋯
 have bz:∀k,k≠0->cv U (co L) k+cv V t k=0:=λk hk=>by
  by_cases c:k<=2*l
  .have:=hz (k-1) ⋯;rw[AA,(⋯:k-1+1=k)]at this;rw[O0 fU,O0 fV];refine OX (congr (congrArg _ (jm λj hj=>?_)) (jm λj hj=>?_)) this
   .rw[hU];show _*(if j<l+1 then x j else 0)=_;rw[if_pos hj,if_pos hj]
   .rw[hV];show _*(if j<l then x (l+1+j)else 0)=_;rw[if_pos hj,if_neg (⋯:¬l+1+j<l+1),(⋯:l+1+j-(l+1)=j)]
  .rw[fU.O4 fL ⋯,fV.O4 ht ⋯];rfl
 obtain⟨N,hN⟩:∃N,N=cv U (co L) 0+cv V t 0:={()};have bez:∀k,cv U (co L) k+cv V t k=if k=0 then N else 0:=λk=>by
  by_cases c:k=0
  .rw[if_pos c,c,hN]
  .rw[if_neg c,bz k c]
 refine{N,{hg,λz=>?_,{co L,_,Fs.co L,λk=>congrArg _ (eP k)},{t,_,ht,λk=>congrArg _ (eT k)},U,V,l+1,fU,fV.mono ⋯,λk=>?_},?_}
 .intros N0 A B n O7 hA hB e hI;have b0:∀k,cv A (co L) k+cv B t k=if k=0 then N0 else 0:=λk=>by
   have:=aMi (b:=0) hg (f:=λk=>cv A (co L) k+cv B t k) (g:=λk=>if k=0 then N0 else 0) (((hA.cv fL).mono (n:=n+(l+1)) ⋯).add ((hB.cv ht).mono ⋯)) (λk (hk:1<=k)=>if_neg ⋯) (λk=>by
    rw[nO,mJ,mJ,yR,if_pos (cZ _),uT,e k];exact congrArg _ (congr (congrArg _ (oK (λ_ _=>rfl) λi _=>(eP i).symm)) (oK (λ_ _=>rfl) λi _=>(eT i).symm))) k
   rwa [dj,dj]at this
  have d0:Dv 0 L λk=>N0*V k:={λk=>cv A V k + -1*cv B U k,n+(l+1),((hA.cv fV).mono ⋯).add (((hB.cv fU).mul _)),λk=>congrArg _ ?_}
  .have v0:=(pe hL O7 fV d0).short hL (by rw[el];exact fV);have u0:=fw (b:=0) hL fU λk _=>by
    have:=bez k;rw[z,ite_self,pF (f:=V) λi _=>.inl (by have:=v0 i;rwa [dj]at this),fK]at this;rw[this];rfl
   have v0':=v0 (j-(l+1));have Ww:=u0 j;rw[dj]at v0' Ww;rw[hV]at v0';rw[hU]at Ww;by_cases c:j<l+1
   .exact hx (by simpa[c]using Ww)
   .refine hx ?_;have:(if j-(l+1)<l then x (l+1+(j-(l+1)))else 0)=0:=v0'
    rwa [if_pos ⋯,(⋯:l+1+(j-(l+1))=j)]at this
  .have e1:N0*V k=cv (λk=>cv A (co L) k+cv B t k) V k:=by
    rw[show(λk=>cv A (co L) k+cv B t k)=λk=>if k=0 then N0 else 0 from funext b0,yR,if_pos (cZ _),uT]
   have e2:cv B (cv V t) k=-1*cv B (cv U (co L)) k:=by
    rw[mL B (cv U _),<-nF,mL];refine oK (λi _=>?_) λ_ _=>rfl;have:=bez i;rw[z,ite_self]at this;lia
   show N0*V k=_;rw[e1,nO,nO,nF,mJ,mJ,mJ,mJ,<-e2];exact congr (congrArg _ (oK (λ_ _=>rfl) λi _=>mL ..)) (oK (λ_ _=>rfl) λi _=>mL ..)
 .have e1:N*co g k=cv (λk=>cv U (co L) k+cv V t k) (co g) k:=by
   rw[show(λk=>cv U (co L) k+cv V t k)=λk=>if k=0 then N else 0 from funext bez,yR,if_pos (cZ _),uT]
  rw[e1,nO,mJ,mJ];exact congr (congrArg _ (oK (λ_ _=>rfl) λi _=>(eP i).symm)) (oK (λ_ _=>rfl) λi _=>(eT i).symm)
 .have bU:Bd s (U 0):=by rw[hU];show Bd s (if 0<l+1 then x 0 else 0);rw[if_pos ⋯];exact bx _
  have bV:Bd s (V 0):=by
   rw[hV];show Bd s (if 0<l then x (l+1+0)else 0);split
   .exact bx _
   .exact Bd.zero _
  rw[hN,cv,cv];exact((bU.mul (hu 0)).add (bV.mul (hv 0))).mono ⋯
def mZ.dv(h:mZ P T g N)(h1:Dv b s (co P))(h2:Dv b s T):Dv b s λk=>N*co g k:=by
 intros A B n hA hB e h.sum;exact((h1.mul hA).add (h2.mul hB)).congr λk=>by rw[e]
def mZ.all(h:mZ P T g N)(hs:Mon s)(h1:Dv 0 s (co P))(h2:Dv 0 s T):Dv 0 s (co g):=pe hs h.ne (Fs.co g) (h.dv h1 h2)
def mZ.good(h:mZ P T g N){p:Nat}(hN:¬(p:Int)∣N)(hs:Mon s)(h1:Dv p s (co P))(h2:Dv p s T):s.length<=g.length:=RH λz=>hN (by
 have:=(h.dv h1 h2).short hs (λk hk=>by show N*co g k=0;rw[bY ⋯,eV]) (g.length-1);rw[h.mon.one,mH]at this;exact ZI.mp this)
end
end Pm
namespace Pm
open Rm
section
variable {p prime bad good:Nat}{b N M:Int}{g P t s:ζ}{ripe:Bool}
def avH{p:Int}(hp:p≠0):tk p x=tk p y↔p∣x-y:=by
 rw[<-DG,ZI]
def Ql(hp:Om.cT p):tk (p:Int) 1=1:=by
 have:=hp.1;rw[oB ⋯];exact Ti ∅ ⋯
def Dv.same{p:ζ}(hm:Mon m)(hp:Mon p)(h:Dv b m (co p))(hl:m.length=p.length)(k:Nat):tk b (co p k)=tk b (co m k):=
 DG.mp ((h.sub ({_,1,ZG,λk=>by rw[lI]}:Dv b m (co m))).short hm (λk hk=>by
  show co p k-co m k=0;by_cases c:k=m.length-1
  .rw[c,hm.one,hl,hp.one];rfl
  .rw[bY ⋯,bY ⋯];rfl) k)
structure Seen(g:ζ)(N:Int)(p:Nat)(s:ζ):Prop where
 mon:Mon s
 nu:∀k,tk (p:Int) (co s k)=co s k
 ge:g.length<=s.length
 eq:s.length=g.length->∀k,(p:Int)∣co s k-co g k
 good:¬(p:Int)∣N->s.length=g.length
def dX.to{p:ζ}(h:dX b g [] p)(e:∀k,tk b (co p k)=tk b (co q k)):Dv b g (co q):=by
 intros u h h.dv;exact{co u,u.length,Fs.co u,λk=>by rw[<-e,h]}
def mZ.seen(h:mZ P (co t) g N){p:Nat}(hp:Om.cT p){s:ζ}(eP:∀k,tk (p:Int) (co P' k)=tk p (co P k))(et:∀k,tk (p:Int) (co t' k)=tk p (co t k))(hs:Gcd p P' t' s):Seen g N p s:=by
 have h2:=hp.1;have h1:=Ql hp;have d1:Dv p s (co P):=hs.one.to eP;have d2:Dv p s (co t):=hs.two.to et;have d3:Dv p g (co s):=by
  intros u v e hs.sum;refine((((h.one.by (b:=p))).mul (Fs.co u)).add ((h.two.by (b:=p)).mul (Fs.co v))).congr λk=>?_;rw[e];exact uo (Bg (λ_ _=>rfl) λi _=>(eP i).symm) (Bg (λ_ _=>rfl) λi _=>(et i).symm)
 have hge:=d3.len h1 h.mon hs.mon;exact{hs.mon,hs.py.co,hge,λe k=>(avH ⋯).mp (d3.same h.mon hs.mon e.symm k),λz=>by
  have:=h.good z hs.mon d1 d2;lia}
def mZ.told(H:mZ P (co t) g N)(hh:Mon h)(h1:Dv 0 h (co P))(h2:Dv 0 h (co t))(hl:g.length<=h.length):h=g:=by
 have d:=H.all hh h1 h2;have:=d.len rfl hh H.mon;exact uL ⋯ λk=>by have:=d.same hh H.mon ⋯ k;rw[dj,dj]at this;exact this.symm
def nr(M x:Int):Int:=if 2*(x%M)>M then x%M-M else x%M
def Nr(M x:Int):Prop:=-M<2*x/\2*x<=M
def Ob(M x:Int):M∣nr M x-x:=by
 have e:=Int.emod_add_mul_ediv x M;unfold nr;split
 .exact{-(x/M)-1,by rw[KP,Int.mul_neg];lia}
 .exact{-(x/M),by rw[Int.mul_neg];lia}
def kX(hM:0<M)(x:Int):Nr M (nr M x):=by
 have h0:=rK x (⋯:M≠0);have h1:=qT x hM;unfold nr Nr;split<;>lia
def Nr.eq(hM:0<M)(hx:Nr M x)(hy:Nr M y)(h:M∣x-y):x=y:=by
 intros c hc h;unfold Nr at hx hy;by_cases c0:c=0
 .rw[c0,eV]at hc;lia
 .exfalso
  rcases Int.lt_or_gt_of_ne c0 with l|l
  .have:M*c<=M*(-1):=kr ⋯ ⋯;lia
  .have:M*1<=M*c:=kr ⋯ ⋯;lia
def aC6(hM:2<=M)(h:M∣x-1):nr M x=1:=Nr.eq (M:=M) ⋯ (kX ⋯ x) (by unfold Nr;lia) (by
 have:=wO (Ob M x) h
 rwa [(⋯:nr M x-x+(x-1)=nr M x-1)]at this)
def eR(hp:Om.cT p)(hM:¬(p:Int)∣M)(h1:M∣x)(h2:(p:Int)∣x):M*p∣x:=by
 intros y rfl h1;rcases tN hp h2 with z|⟨e,he⟩
 .exact absurd z hM
 .exact{e,by rw[he,jx]}
structure nK(P g:ζ)(N:Int)(told:ζ)(M:Int)(prime:Nat)(ripe:Bool)(bad good:Nat):Prop where
 mon:Mon told
 ge:g.length<=told.length
 le:told.length<=P.length
 pos:0<M
 div:∀q:Nat,Om.cT q->(q:Int)∣M->q<=prime
 V6:told.length=g.length->∀k,M∣co told k-co g k
 near:M≠1->∀k,Nr M (co told k)
 C0:∃X:Nat,(X:Int)∣N/\2^(19*bad)<=X/\∀q:Nat,Om.cT q->q∣X->q<=prime
 Ir:0<good->told.length=g.length/\2^(19*good)<=M
 OU:2<=good->(∀k,2*(co g k).natAbs<2^(19*(good-1)))->ripe=true/\told=g
 hi:M<=2^(22*(bad+good))
 first:M=1->told=P
def nK.start(hP:Mon P)(hl:g.length<=P.length)(prime:Nat):nK P g N P 1 prime true 0 0:=
 {hP,hl,aZ _,∅,λq hq h=>by
  have:=hq.1;have h3:=Int.le_of_dvd ∅ h;lia,λ_ k=>{_,(sY _).symm},λh=>absurd rfl h,{1,{N,(sY N).symm},∅,λq hq h=>by
  have:=hq.1;have h3:=xQ ∅ h;lia},λh=>absurd h ∅,λh=>absurd h ∅,∅,λ_=>rfl}
def Yt(hp:Om.cT p)(hlt:prime<p)(hbig:2^19<=p)(hN:(p:Int)∣N)(h:∃X:Nat,(X:Int)∣N/\2^(19*bad)<=X/\∀q:Nat,Om.cT q->q∣X->q<=prime):
  ∃X:Nat,(X:Int)∣N/\2^(19*(bad+1))<=X/\∀q:Nat,Om.cT q->q∣X->q<=p:=by
 intros X h1 h2 h3 h;refine{X*p,?_,?_,λq hq hd=>?_}
 .have:=eR (M:=(X:Int)) hp (λz=>by have:=h3 p hp (Ju.mp z);lia) h1 hN
  rwa [Rg]
 .rw[Af,Pq];exact vq h2 hbig
 .rcases hq.dvd hd with z|z
  .have:=h3 q hq z;lia
  .exact xQ ⋯ z
def nK.stay(h:nK P g N told M prime ripe bad good)(hp:Om.cT p)(hlt:prime<p)(hbig:2^19<=p)(hs:Seen g N p s)(hl:told.length<s.length):nK P g N told M p ripe (bad+1) good:=by
 have hN:(p:Int)∣N:=xY λz=>by have:=hs.good z;have:=h.ge;lia
 exact{h.mon,h.ge,h.le,h.pos,λq hq hd=>by have:=h.div q hq hd;lia,h.V6,h.near,Yt hp hlt hbig hN h.C0,h.Ir,h.OU,VE h.hi (by
  have:(2:Nat)^(22*(bad+good))<=2^(22*(bad+1+good)):=ql ∅ ⋯
  exact_mod_cast this),h.first}
def nK.anew(h:nK P g N told M prime ripe bad good)(hp:Om.cT p)(hlt:prime<p)(hbig:2^19<=p)(hhi:p<=2^22)(hs:Seen g N p s)(hl:s.length<told.length):
  ∃tO tE,tO+tE=bad+good+1/\nK P g N (s.map (nr p)) p p true tO tE:=by
 have hp2:=hp.1;have hg0:good=0:=by
  by_cases c:good=0
  .exact c
  .have:=(h.Ir ⋯).1;have:=hs.ge;lia
 have hle:=h.le;have hsp:=hs.mon.pos;have hpp:(2:Int)<=p:=⋯;have hc:∀k,co (s.map (nr p)) k=nr p (co s k):=λk=>C7 (by unfold nr;rw[Int.zero_emod];split<;>lia) s k;have hm:Mon (s.map (nr p)):={by rw[aB];exact hsp,by rw[aB,hc,hs.mon.one];exact aC6 hpp {0,by rw[eV];rfl}};have E6:(s.map (nr p)).length=g.length->∀k,(p:Int)∣co (s.map (nr p)) k-co g k:=λe k=>by
  rw[hc];have:=wO (Ob p (co s k)) (hs.eq (by rwa [aB]at e) k)
  rwa [(⋯:nr p (co s k)-co s k+(co s k-co g k)=nr p (co s k)-co g k)]at this
 have hnear:(p:Int)≠1->∀k,Nr p (co (s.map (nr p)) k):=λ_ k=>by rw[hc];exact kX ⋯ _
 have hdiv:∀q:Nat,Om.cT q->(q:Int)∣p->q<=p:=λq _ hd=>xQ ⋯ (Ju.mp hd);by_cases c:s.length=g.length
 .refine{bad,1,⋯,hm,by rw[aB];exact hs.ge,by rw[aB];lia,⋯,hdiv,E6,hnear,?_,λ_=>{by rw[aB];exact c,by exact_mod_cast hbig},λz=>absurd z ∅,?_,λz=>⋯}
  .intros X h1 h2 h3 h.C0;exact{X,h1,h2,λq hq hd=>by have:=h3 q hq hd;lia}
  .have:(2:Nat)^22<=2^(22*(bad+1)):=ql ∅ ⋯
   exact_mod_cast cM hhi this
 .have hN:(p:Int)∣N:=xY λz=>c (hs.good z);refine{bad+1,0,⋯,hm,by rw[aB];exact hs.ge,by rw[aB];lia,⋯,hdiv,E6,hnear,Yt hp hlt hbig hN h.C0,λz=>absurd z ∅,λz=>absurd z ∅,?_,λz=>⋯};have:(2:Nat)^22<=2^(22*(bad+1+0)):=ql ∅ ⋯
  exact_mod_cast cM hhi this
def nK.join(h:nK P g N told M prime ripe bad good)(hp:Om.cT p)(hlt:prime<p)(hbig:2^19<=p)(hhi:p<=2^22)(hs:Seen g N p s)(hl:s.length=told.length)
  (hl':kJ.length=told.length)(ht:∀k,k<told.length->∃w:Int,(p:Int)∣M*w-(co s k-co told k)/\co kJ k=nr (M*p) (co told k+M*w))(hr:Yz=true↔kJ=told):
  ∃tO tE,tO+tE=bad+good+1/\nK P g N kJ (M*p) p Yz tO tE:=by
 have hp2:=hp.1;have hM:=h.pos;have Aw:¬(p:Int)∣M:=λz=>by have:=h.div p hp z;lia
 have hpp:(2:Int)<=p:=⋯;have V8:(2:Int)<=M*p:=by
  have:1*(2:Int)<=M*p:=Ym ⋯ hpp ∅ ⋯;lia
 have hle:=h.le;have hge:=h.ge;have htp:=h.mon.pos;have a1:∀k,M∣co kJ k-co told k:=λk=>by
  by_cases c:k<told.length
  .obtain⟨w,_,e⟩:=ht k c;rw[e];have e1:M∣nr (M*p) (co told k+M*w)-(co told k+M*w):=Lg (Lh M p) (Ob _ _);have e2:M∣M*w:=Lh ..;have:=wO e1 e2
   rwa [(⋯:nr (M * ↑p) (co told k+M*w)-(co told k+M*w)+M*w=nr (M * ↑p) (co told k+M*w)-co told k)]at this
  .rw[bY ⋯,bY ⋯];exact{0,by rw[eV];rfl}
 have a2:∀k,(p:Int)∣co kJ k-co s k:=λk=>by
  by_cases c:k<told.length
  .obtain⟨w,h1,e⟩:=ht k c;rw[e];have e1:(p:Int)∣nr (M*p) (co told k+M*w)-(co told k+M*w):=Lg (VO M p) (Ob _ _);have:=wO e1 h1
   rwa [(⋯:nr (M * ↑p) (co told k+M*w)-(co told k+M*w)+(M*w-(co s k-co told k))=nr (M * ↑p) (co told k+M*w)-co s k)]at this
  .rw[bY ⋯,bY ⋯];exact{0,by rw[eV];rfl}
 have hnear:M*p≠1->∀k,Nr (M*p) (co kJ k):=λ_ k=>by
  by_cases c:k<told.length
  .obtain⟨w,_,e⟩:=ht k c;rw[e];exact kX ⋯ _
  .rw[bY ⋯];unfold Nr;lia
 have aFi:co kJ (kJ.length-1)=1:=by
  rw[hl'];refine Nr.eq (M:=M*p) ⋯ (hnear ⋯ _) (by unfold Nr;lia) (eR hp Aw ?_ ?_)
  .have:=a1 (told.length-1)
   rwa [h.mon.one]at this
  .have:=a2 (told.length-1);have e:=hs.mon.one;rw[hl]at e
   rwa [e]at this
 have hm:Mon kJ:={⋯,aFi};have hdiv:∀q:Nat,Om.cT q->(q:Int)∣M*p->q<=p:=λq hq hd=>by
  rcases tN hq hd with z|z
  .have:=h.div q hq z;lia
  .exact xQ ⋯ (Ju.mp z)
 have E6:kJ.length=g.length->∀k,M*p∣co kJ k-co g k:=λe k=>by
  refine eR hp Aw ?_ ?_
  .have:=wO (a1 k) (h.V6 ⋯ k)
   rwa [(⋯:co kJ k-co told k+(co told k-co g k)=co kJ k-co g k)]at this
  .have:=wO (a2 k) (hs.eq ⋯ k)
   rwa [(⋯:co kJ k-co s k+(co s k-co g k)=co kJ k-co g k)]at this
 have hhi':∀x,x=bad+good+1->M*p<=2^(22*x):=λx hx=>by
  rw[hx,(⋯:22*(bad+good+1)=22*(bad+good)+22),Int.pow_add];exact Ym h.hi (by exact_mod_cast hhi) ⋯ (Int.le_of_lt (Int.pow_pos ∅))
 by_cases c:s.length=g.length
 .refine{bad,good+1,⋯,hm,⋯,⋯,⋯,hdiv,E6,hnear,?_,λ_=>{⋯,?_},λh2 hb=>?_,hhi' _ ⋯,λz=>⋯}
  .intros X h1 h2 h3 h.C0;exact{X,h1,h2,λq hq hd=>by have:=h3 q hq hd;lia}
  .rw[(⋯:19*(good+1)=19*good+19),Int.pow_add];refine Ym ?_ (by exact_mod_cast hbig) ∅ ⋯;by_cases c0:good=0
   .rw[c0];show(1:Int)<=M;lia
   .exact(h.Ir ⋯).2
  .rw[jY]at hb;have hgo:=h.Ir ⋯;have hM1:M≠1:=λz=>by
    rw[z]at hgo;have h3:=hgo.2;have:(2:Int)^(19*1)<=2^(19*good):=by exact_mod_cast ql (n:=2) ∅ (⋯:19*1<=19*good)
    have:(2:Int)^(19*1)=524288:=∅;lia
   have gn:∀k,Nr M (co g k):=λk=>by
    have h3:=hb k;have h4:=hgo.2;have h5:((2*(co g k).natAbs:Nat):Int)<M:=Int.lt_of_lt_of_le (by exact_mod_cast h3) h4;unfold Nr;lia
   have et:told=g:=uL hgo.1 λk=>(h.near hM1 k).eq hM (gn k) (h.V6 hgo.1 k);have gn':∀k,Nr (M*p) (co g k):=λk=>by
    have h3:=gn k;unfold Nr at h3⊢;have:M*1<=M*p:=kr ⋯ ⋯;lia
   have et':kJ=g:=uL ⋯ λk=>(hnear ⋯ k).eq ⋯ (gn' k) (E6 ⋯ k);exact{hr.mpr (by rw[et',et]),et'}
 .have hN:(p:Int)∣N:=xY λz=>c (hs.good z);have hg0:good=0:=by
   by_cases c0:good=0
   .exact c0
   .have:=(h.Ir ⋯).1;lia
  subst hg0;exact{bad+1,0,⋯,hm,⋯,⋯,⋯,hdiv,E6,hnear,Yt hp hlt hbig hN h.C0,λz=>absurd z ∅,λz=>absurd z ∅,hhi' _ ⋯,λz=>⋯}
def nK.few(h:nK P g N told M prime ripe bad good)(hN:N≠0)(hV:Bd V N)(hU:∀k,Bd U (co g k))(hne:¬(ripe=true/\told=g)):19*(bad+good)<=V+U+38:=by
 intros X h1 h2 _ h.C0;have b1:19*bad<=V:=by
  have h3:=xQ ⋯ (M9.mp h1);have h4:2^(19*bad)<2^V:=qU (cM h2 h3) hV;have:=(Kj (∅:1<2)).mp h4;lia
 have b2:19*good<=U+38:=by
  by_cases c:2<=good
  .by_cases d:∀k,2*(co g k).natAbs<2^(19*(good-1))
   .exact absurd (h.OU c d) hne
   .obtain⟨k,hk⟩:=Q5.mp d;have h3:(co g k).natAbs<2^U:=hU k;have h4:2^(19*(good-1))<2^(U+1):=by rw[pD];lia
    have:=(Kj (∅:1<2)).mp h4;lia
  .lia
 lia
structure Gc(b:Int)(P t g:ζ):Prop where
 mon:Mon g
 nu:∀k,tk b (co g k)=co g k
 one:Dv b g (co P)
 two:Dv b g (co t)
 all:∀h:ζ,Mon h->Dv b h (co P)->Dv b h (co t)->Dv b h (co g)
def mZ.gc(h:mZ P (co t) g N):Gc 0 P t g:={h.mon,λ_=>dj _,h.one,h.two,λ_=>h.all}
def dX.to'{p:ζ}(h:dX b g [] p):Dv b g (co p):=by
 intros u e h.dv;exact{co u,u.length,Fs.co u,e}
def Gcd.gc(h:Gcd b P t g):Gc b P t g:=by
 refine{h.mon,λk=>?_,h.one.to',h.two.to',λd _ h1 h2=>?_}
 .by_cases c:k<g.length
  .exact h.py.nu _ (Bf c)
  .rw[bY ⋯,tk0]
 .intros u v e h.sum;refine Dv.congr (λk=>(e k).symm) (Dv.add (Dv.mul (Fs.co u) h1) (Dv.mul (Fs.co v) h2))
def Gc.uniq(h1:tk b 1=1){P t g:ζ}(h:Gc b P t g)(h':Gc b P t g'):g=g':=by
 have d1:=h'.all g h.mon h.one h.two;have d2:=h.all g' h'.mon h'.one h'.two;have l1:=d1.len h1 h.mon h'.mon;have l2:=d2.len h1 h'.mon h.mon;refine uL ⋯ λk=>?_;rw[<-h.nu k,<-h'.nu k];exact(d1.same h.mon h'.mon ⋯ k).symm
end
end Pm
namespace Pm
open Rm
def ev(p:ζ)(x:Int):Int:=sm p.length λk=>co p k*x^k
def vR(h:p.length<=n)(x:Int):sm n (λk=>co p k*x^k)=ev p x:=
 rN h λk h1 _=>by rw[bY h1,jH]
def Ho(x:Int):ev [] x=0:=rfl
def Vt(c x:Int):ev [c] x=c:=by
 show 0+co [c] 0*x^0=c;rw[iQ,Bk,mH,jL]
abbrev lin(r:Int):ζ:=[0-r,1]
def W0(r:Int):Mon (lin r):={by show 0<2;decide,rfl}
def rX(f:Nat->Int)(r:Int):∀k,cv f (co (lin r)) k=(if k=0 then 0 else f (k-1))-r*f k:=λk=>by
 rw[iH];cases k with
 |zero=>
  show 0+f 0*co (lin r) 0=_;rw[if_pos rfl,iQ,jL,KP,eV,jt]
 |succ k=>
  rw[if_neg (Oq _),jY];rw[sm,Aj,sm,(⋯:k+1-k=1)];rw[SV λj hj=>by rw[bY (p:=lin r) (⋯:2<=k+1-j),eV]];rw[iQ,pB,iQ,mH,jL,KP,eV,GB,jt (f (k+1))];rfl
def xI(f:Nat->Int)(x:Int):∀n,sm (n+1) (λk=>(if k=0 then 0 else f (k-1))*x^k)=x*sm n λk=>f k*x^k:=λn=>by
 rw[Jj,if_pos rfl,jH,jL,<-wU];refine jm λk _=>?_;rw[if_neg (Oq _),jY,pA,jt (x^k) x,<-jx,<-jx,jt (f k) x]
theorem Div.ev{p q l:ζ}{r:Int}(h:Div 0 p (lin r) q l)(x:Int):Pm.ev p x=(x-r)*Pm.ev q x+Pm.ev l x:=by
 obtain⟨n,h1,h2,h3⟩:∃n,p.length<=n+1/\q.length<=n/\l.length<=n+1:={p.length+q.length+l.length,⋯,⋯,⋯};rw[<-vR h1 x,<-vR h2 x,<-vR h3 x];have e:∀k,co p k=(if k=0 then 0 else co q (k-1))-r*co q k+co l k:=λk=>by
  have:=h.eq k;rw[dj,dj,rX]at this;exact this.symm
 rw[jm (g:=λk=>(if k=0 then 0 else co q (k-1))*x^k+(-r*(co q k*x^k)+co l k*x^k)) λk _=>?_,zJ,zJ,xI,wU]
 .have e2:sm (n+1) (λk=>co q k*x^k)=sm n λk=>co q k*x^k:=by
   rw[sm,bY h2,jH,fK]
  rw[e2,UN,Fy];lia
 .rw[e k,HM,UN,Fy,jx];lia
def Div.root{p q l:ζ}{r:Int}(h:Div 0 p (lin r) q l):l=[]↔Pm.ev p r=0:=by
 have e:=h.ev r;rw[Fb,jH,jL]at e;have hs:l.length<2:=h.short
 match l,hs,h.ry with
 |[],_,_=>exact{λ_=>by rw[e,Ho],λ_=>rfl}
 |[c],_,hr=>
  rw[Vt]at e;constructor
  .intro z;cases z
  .intro z;rw[e]at z
   exfalso
   have:=hr.tr;rw[z]at this;simp[trim]at this
inductive Rep(r:Int):Nat->ζ->ζ->Prop
 |zero (q:ζ):Rep r 0 q q
 |succ {m:Nat} {p p' q:ζ}:Div 0 p (lin r) p' []->Rep r m p' q->Rep r (m+1) p q
theorem Rep.ev{r:Int}{m:Nat}{p q:ζ}(h:Rep r m p q)(x:Int):Pm.ev p x=(x-r)^m*Pm.ev q x:=by
 induction h with
 |zero q=>rw[Bk,sY]
 |succ d _ ih=>
  rw[d.ev x,ih,Ho,fK,pA,jt ((x-r)^_) (x-r),jx]
theorem Rep.uniq{r:Int}{m:Nat}{p q:ζ}(h:Rep r m p q)(hq:Pm.ev q r≠0):∀{m':Nat} {q':ζ},Rep r m' p q'->Pm.ev q' r≠0->m=m'/\q=q':=by
 induction h with
 |zero q=>
  intro m' q' h' hq';cases h' with
  |zero=>exact{rfl,(rfl)}
  |succ d _=>exact absurd (d.root.mp rfl) hq
 |succ d _ ih=>
  intro m' q' h' hq';cases h' with
  |zero=>exact absurd (d.root.mp rfl) hq'
  |succ d' h'=>
   have e:=(d.uniq (W0 r) d').1;subst e;obtain⟨e1,e2⟩:=ih hq h' hq';exact{by rw[e1],e2}
def Mp(r:Int):Nat->ζ->ζ
 |0,q=>q
 |m+1,q=>mul 0 (Mp r m q) (lin r)
def RP:List (Int×Nat)->ζ->ζ
 |[],R=>R
 |(r,m)::t,R=>Mp r m (RP t R)
def FK(h:Py 0 q):∀m,Py 0 (Mp r m q)
 |0=>h
 |_+1=>Sy ..
theorem XT(h:Py 0 R):∀l,Py 0 (RP l R)
 |[]=>h
 |(_,m)::t=>FK (XT h t) m
theorem Div.lin{q:ζ}(r:Int)(hq:Py 0 q):Div 0 (mul 0 q (Pm.lin r)) (Pm.lin r) q []:=
 {hq,Py.nil 0,by show 0<2;decide,λk=>by rw[gw,fK,Di,dj,dj]}
theorem Si(h:Py 0 q):∀m,Rep r m (Mp r m q) q
 |0=>.zero q
 |m+1=>.succ (Div.lin r (FK h m)) (Si h m)
inductive Scan:ζ->ζ->List (Int×Nat)->ζ->Prop
 |nil (p:ζ):Scan [] p [] p
 |hit {c:Int} {cs p q:ζ} {m:Nat} {l:List (Int×Nat)} {R:ζ}:Rep c (m+1) p q->ev q c≠0->Scan cs q l R->Scan (c::cs) p ((c,m+1)::l) R
 |miss {c:Int} {cs p:ζ} {l:List (Int×Nat)} {R:ζ}:ev p c≠0->Scan cs p l R->Scan (c::cs) p l R
theorem Scan.uniq(h:Scan cs p l R):∀{l':List (Int×Nat)} {R':ζ},Scan cs p l' R'->l=l'/\R=R':=by
 induction h with
 |nil p=>intro l' R' h';cases h';exact{rfl,(rfl)}
 |@hit c cs p q m l R hr hq _ ih=>
  intro l' R' h';cases h' with
  |hit hr' hq' h'=>
   obtain⟨e1,e2⟩:=hr.uniq hq hr' hq';subst e2;obtain⟨e3,e4⟩:=ih h';exact{by rw[e3,e1],e4}
  |miss hn _=>
   refine absurd ?_ hn;rw[hr.ev c,Fb,QO (Oq _),jH]
 |@miss c cs p l R hn _ ih=>
  intro l' R' h';cases h' with
  |hit hr' _ _=>
   refine absurd ?_ hn;rw[hr'.ev c,Fb,QO (Oq _),jH]
  |miss _ h'=>exact ih h'
theorem Rep.back(h:Rep r m p q)(hp:Py 0 p):p=Mp r m q/\Py 0 q:=by
 induction h with
 |zero q=>exact{rfl,(hp)}
 |@succ m p p' q d _ ih=>
  obtain⟨e1,e2⟩:=ih d.qy;refine{?_,e2};have b:=d.back hp;rw[add_comm,nil_add (Sy ..)]at b;rw[<-b,e1];rfl
theorem kn(h:Py 0 R)(e:ev R x=0):∀l,ev (RP l R) x=0
 |[]=>e
 |(r,m)::t=>by
  have q:=(Si (r:=r) (XT h t) m).ev x;rw[kn h e t,eV]at q;exact q
theorem Scan.back(h:Scan cs p l R):Py 0 p->p=RP l R/\Py 0 R/\(∀c∈cs,ev R c≠0)/\(l.map (·.1)).Sublist cs/\∀x∈l,0<x.2:=by
 induction h with
 |nil p=>intro hp;exact{rfl,hp,(λc hc=>(by cases hc)),axO,(λx hx=>(by cases hx))}
 |@hit c cs p q m l R hr hq _ ih=>
  intro hp;obtain⟨e1,e2⟩:=hr.back hp;obtain⟨i1,i2,i3,i4,i5⟩:=ih e2;refine{by rw[e1,i1];rfl,i2,λd hd=>?_,i4.cons_cons c,λx hx=>?_}
  .rcases c7.mp hd with rfl|hd
   .intro z;exact hq (by rw[i1];exact kn i2 z l)
   .exact i3 d hd
  .rcases c7.mp hx with rfl|hx
   .exact Mn _
   .exact i5 x hx
 |@miss c cs p l R hn _ ih=>
  intro hp;obtain⟨i1,i2,i3,i4,i5⟩:=ih hp;refine{i1,i2,λd hd=>?_,i4.cons c,i5};rcases c7.mp hd with rfl|hd
  .intro z;exact hn (by rw[i1];exact kn i2 z l)
  .exact i3 d hd
end Pm
namespace Pm
open Rm
def Tn(h:Bd n x):Bd n (-x):=by unfold Bd at h ⊢;rw[Nk];exact h
def aKX(a:Int)(p:ζ)(x:Int):ev (a::p) x=a+x*ev p x:=by
 rw[<-vR (p:=a::p) (n:=p.length+1) (aZ _) x,Jj,iQ,Bk,mH,<-vR (p:=p) (aZ _) x,<-wU];congr 1;refine jm λk _=>?_;rw[pB,pA,jt (x^k) x,<-jx,<-jx,jt (co p k) x]
theorem Ug(x:Int)(g:ζ):∀(L P:ζ),(∀k,co P k=cv (co L) (co g) k)->ev P x=ev L x*ev g x
 |[],P,h=>by
  rw[Ho,jH];unfold ev;exact SV λk _=>by rw[h,pF (λi _=>.inl (gw i)),jH]
 |a::L,P,h=>by
  obtain⟨Q,hQ⟩:∃Q:ζ,∀k,co Q k=cv (co L) (co g) k:=Yu ((Fs.co L).cv (Fs.co g));have ih:=Ug x g L Q hQ;obtain⟨n,h1,h2,h3⟩:∃n,P.length<=n+1/\Q.length<=n/\g.length<=n+1:={P.length+Q.length+g.length,⋯,⋯,⋯};have e:∀k,co P k=a*co g k+(if k=0 then 0 else co Q (k-1)):=λk=>by
   rw[h,wt];split
   .rfl
   .rw[hQ]
  rw[aKX,<-vR h1 x,jm (g:=λk=>a*(co g k*x^k)+(if k=0 then 0 else co Q (k-1))*x^k) λk _=>by rw[e k,HM,jx],zJ,wU,xI,vR h3,vR h2,ih,HM,jx]
def ES(p:ζ)(r:Int):∃q l,Div 0 p (lin r) q l/\(∀k,co p k=(if k=0 then 0 else co q (k-1))-r*co q k+co l k)/\q.length<=p.length-1:=by
 obtain⟨q,l,h⟩:=nS (b:=0) (W0 r) (p:=p) λk=>dj _;have e:∀k,co p k=(if k=0 then 0 else co q (k-1))-r*co q k+co l k:=λk=>by
  have:=h.eq k;rw[dj,dj,rX]at this;exact this.symm
 have hs:l.length<2:=h.short;exists q,l,h,e;by_cases hq:q=[]
 .rw[hq];exact cZ _
 .have h0:=Gb hq h.qy.tr;have hp:0<q.length:=rQ.mpr hq;have h1:=e q.length;rw[if_neg ⋯,bY (p:=q) (aZ _),eV,bY (p:=l) ⋯,Ba,fK]at h1;have:=Jc (p:=p) (k:=q.length) (by rw[h1];exact h0);lia
theorem Zf:∀(m:Nat)(L:ζ),Mon L->L.length=m+1->∀xs:ζ,xs.Nodup->(∀x∈xs,ev L x=0)->xs.length<=m
 |_,_,_,_,[],_,_=>cZ _
 |0,L,hL,hl,r::ys,_,hr=>by
  exfalso
  have e:L=[1]:=uL (q:=[1]) hl λk=>by
   cases k with
   |zero=>have:=hL.one;rw[hl]at this;exact this
   |succ k=>rw[bY ⋯,bY (by show 1<=k+1;lia)]
  have:=hr r (iY ..);rw[e,Vt]at this;exact absurd this ∅
 |m+1,L,hL,hl,r::ys,hn,hr=>by
  obtain⟨q,l,h,e,lq⟩:=ES L r;have h0:=hr r (iY ..);have l0:=h.root.mpr h0;subst l0;have hm:co q m=1:=by
   have h1:=e (m+1);rw[if_neg ⋯,jY,bY (p:=q) (⋯:q.length<=m+1),eV,gw,Ba,fK]at h1;have h2:=hL.one;rw[hl,jY,h1]at h2;exact h2
  have hlq:q.length=m+1:=by
   have:=Jc (p:=q) (k:=m) (by rw[hm];decide);lia
  obtain⟨hn1,hn2⟩:=Cd.mp hn;have:=Zf m q {⋯,by rw[hlq,jY];exact hm} hlq ys hn2 λy hy=>by
   have h1:=h.ev y;rw[hr y (fM _ hy),Ho,fK]at h1;rcases PL.mp h1.symm with z|z
   .exact absurd (⋯:y=r) (λz=>hn1 (z▸hy))
   .exact z
  rw[j8];lia
def WC(hx:x≠0)(h:Bd M (x*y)):Bd M y:=by
 unfold Bd at h⊢;rw[zB]at h;have h1:1<=x.natAbs:=⋯;have:1*y.natAbs<=x.natAbs*y.natAbs:=pO _ h1;lia
theorem Vx:∀(d:Nat)(g:ζ)(M:Nat),g.length<=d->∀xs:ζ,xs.Nodup->d<=xs.length->(∀x∈xs,Bd e x)->(∀x∈xs,Bd M (ev g x))->∀k,Bd (M+d*(e+3)) (co g k)
 |0,g,_,hl,_,_,_,_,_,k=>by rw[bY ⋯];exact Bd.zero _
 |d+1,_,_,_,[],_,hd,_,_,_=>absurd hd (by show ¬d+1<=0;lia)
 |d+1,g,M,hl,r::ys,hn,hd,hx,hv,k=>by
  obtain⟨q,l,h,eq,lq⟩:=ES g r;obtain⟨hn1,hn2⟩:=Cd.mp hn;have hl2:l.length<2:=h.short;have er:ev l r=ev g r:=by rw[h.ev r,Fb,jH,jL]
  have el:∀x,ev l x=co l 0:=λx=>by
   match l,hl2 with
   |[],_=>rw[Ho,gw]
   |[c],_=>rw[Vt,iQ]
  have c0:co l 0=ev g r:=by rw[<-el r,er]
  have hr:=hv r (iY ..);have ih:=Vx (e:=e) d q (M+1) ⋯ ys hn2 (by rw[j8]at hd;lia) (λx h=>hx x (fM _ h)) λy hy=>by
   refine WC (x:=y-r) (λz=>hn1 ((⋯:y=r)▸hy)) ?_;have h1:=h.ev y;rw[el y,c0]at h1;rw[(⋯:(y-r)*ev q y=ev g y + -(ev g r))];exact(hv y (fM _ hy)).add (Tn hr)
  have b1:Bd (e+(M+1+d*(e+3))) (if k=0 then 0 else co q (k-1)):=by
   split
   .exact Bd.zero _
   .exact(ih _).mono ⋯
  have b2:=Tn ((hx r (iY ..)).mul (ih k));have b3:Bd (e+(M+1+d*(e+3))+1) (co l k):=by
   cases k with
   |zero=>rw[c0];exact hr.mono ⋯
   |succ k=>rw[bY ⋯];exact Bd.zero _
  have b4:=(b1.add b2).add b3;have e1:(d+1)*(e+3)=d*(e+3)+(e+3):=uI ..;rw[eq k,Yy];exact b4.mono ⋯
def aE3(hu:∀k,Bd u (co P k))(hx:Bd e x):Bd (u+P.length*(e+1)+P.length) (ev P x):=by
 have hp:∀k,Bd (k*e+1) (x^k):=λk=>by
  induction k with
  |zero=>rw[Bk];exact(Bd.of (n:=1) ∅ ∅).mono ⋯
  |succ k ih=>
   have e1:(k+1)*e=k*e+e:=uI ..;rw[pA];exact(ih.mul hx).mono ⋯
 unfold ev;refine(Gn (c:=u+P.length*(e+1)) P.length λk hk=>((hu k).mul (hp k)).mono ?_).mono ⋯;have h1:(k+1)*(e+1)<=P.length*(e+1):=pO _ ⋯;have h2:(k+1)*(e+1)=k*(e+1)+(e+1):=uI ..;have h3:k*(e+1)=k*e+k:=Fv ..;lia
theorem oq(p:Int->Bool):∀xs:ζ,xs.length=(xs.filter p).length+(xs.filter λx=>!p x).length
 |[]=>rfl
 |x::xs=>by
  have:=oq p xs;cases h:p x
  .rw[pT (by rw[h];decide),aw (by rw[h];rfl),j8,j8];lia
  .rw[aw h,pT (by rw[h];decide),j8,j8];lia
def Hz(hL:Mon L)(he:∀k,co P k=cv (co L) (co g) k)(hP:P.length<=13)(hg:g.length<=13)(hl:L.length+g.length<=14)(hu:∀k,Bd u (co P k))(k:Nat):Bd (u+169) (co g k):=by
 obtain⟨xs,hxs⟩:∃xs:ζ,xs=(gq 13).map Int.ofNat:={()};have nd:xs.Nodup:=by rw[hxs];decide +kernel
 have ln:xs.length=13:=by rw[hxs];rfl
 have bx:∀x∈xs,Bd 4 x:=by rw[hxs];unfold Bd;decide +kernel
 have hp:=hL.pos;have h0:=Zf (L.length-1) L hL ⋯ _ (nd.filter λx=>decide (ev L x=0)) λx hx=>of_decide_eq_true (sI.mp hx).2;have hc:=oq (λx=>decide (ev L x=0)) xs;refine(Vx (e:=4) g.length g (u+78) (aZ _) (xs.filter λx=>!decide (ev L x=0)) (nd.filter _) ⋯ (λx hx=>bx x (sI.mp hx).1) (λx hx=>?_) k).mono ⋯;have hne:ev L x≠0:=λz=>by
  have:=(sI.mp hx).2;rw[decide_eq_true z]at this;exact absurd this ∅
 refine WC hne ?_;rw[<-Ug x g L P he];exact(aE3 hu (bx x (sI.mp hx).1)).mono ⋯
def aI1(hP:Mon P)(hl:P.length<=13)(ht:t.length<P.length)(hu:∀k,Bd u (co P k))(hv:∀k,Bd u (co t k)):∃g N,mZ P (co t) g N/\Bd (25*(u+195)) N/\∀k,Bd (u+169) (co g k):=by
 obtain⟨g,hg,hI,d1,d2⟩:=aOG hP (Fs.co t);obtain⟨L,hL,_,hLl,hE⟩:=UR (b:=0) rfl hP hg d1;obtain⟨o,r,D⟩:=nS (b:=0) hg (p:=t) λk=>dj _;have er:=(D.dv hg).mpr d2;subst er;have hLp:=hL.pos;have hgp:=hg.pos;have eP:∀k,co P k=cv (co L) (co g) k:=λk=>by have:=hE k;rwa [dj,dj]at this
 have eT:∀k,co t k=cv (co o) (co g) k:=λk=>by have:=D.eq k;rw[dj,dj,gw,fK]at this;exact this.symm
 have lo:o.length<=L.length-1:=by
  by_cases c:o=[]
  .rw[c];exact cZ _
  .have op:0<o.length:=rQ.mpr c;have:=Tv (f:=co o) (g:=co g) (a:=o.length-1) (c:=g.length-1) ((Fs.co o).mono ⋯) ((Fs.co g).mono ⋯);rw[<-eT,hg.one,mH]at this;have:=Jc (p:=t) (k:=o.length-1+(g.length-1)) (by rw[this];exact Gb c D.qy.tr);lia
 have b1:=Hz hg (λk=>by rw[eP,mL]) hl ⋯ ⋯ hu (g:=L);have b2:=Hz hg (λk=>by rw[eT,mL]) (P:=t) (g:=o) ⋯ ⋯ ⋯ hv;obtain⟨N,G,hN⟩:=mZ.small hg hL eP eT ((Fs.co o).mono lo) hI ⋯ b1 b2;exact{g,N,G,hN.mono ⋯,Hz hL eP hl ⋯ ⋯ hu}
end Pm
namespace Om
def ub(h2:2<=n)(h:∀d,2<=d->d*d<=n->¬d∣n):cT n:={h2,λd hd=>by
 by_cases c1:d=1
 .exact .inl c1
 by_cases c2:d=n
 .exact .inr c2
 exfalso
 intros e he hd;have d0:d≠0:=λz=>by rw[z,Sr]at he;lia
 have e0:e≠0:=λz=>by rw[z,mw]at he;lia
 have e1:e≠1:=λz=>by rw[z,QY]at he;lia
 by_cases c:d<=e
 .exact h d ⋯ (by rw[he];exact yj d c) {e,(he)}
 .exact h e ⋯ (by rw[he];exact pO e ⋯) {d,by rw[he,yH]}}
def awL(h2:2<=d)(h:d*d<=n)(hd:d∣n):¬cT n:=λhp=>by
 have:d*2<=d*d:=yj d h2;rcases hp.2 d hd with e|e<;>lia
def PR:Nat:=2882621014340294521571244258528284104343249149144577971201760448178194543385755817010525790849133642168126090119046747188084932022231183749373719591224726901401690494982962278487515548196514867457796872593713570763575868084540513076674494412188946690677598742561473739644469661310585310248868621894181599416698421136991141244665871519984535902616326139550773074719461136460742239051431180263318564092942496093994469006165928770578426106703959659846739977508362111335664941374511314623779521533384375971515968285861946738320072403905130361136135633100865394234198974360812274995326381100076191495791602547699231350471981024698619874149183808441186821481350215139533179633293706309434030590449433715618916643782657495097156449203974799744272339963210
def aEN:∀d,d<1760->2<=d->oM d PR≠1:=by decide +kernel
def aKL(h2:2<=n)(hn:n<3097600)(h:oM n PR=1):cT n:=ub h2 λd hd hdd hdv=>by
 by_cases c:d<1760
 .refine aEN d c hd ?_;have:oM d PR∣oM n PR:=Nat.dvd_gcd (Rv (Wd ..) hdv) (yz ..);rw[h]at this;exact Nat.dvd_one.mp this
 .have:1760*1760<=d*d:=vq ⋯ ⋯;lia
inductive Many:Nat->Nat->Prop
 |none (c:Nat):Many 0 c
 |more {k c q:Nat}:cT q->c<q->q<3097600->Many k q->Many (k+1) c
def Many.down(h:Many k c)(hc:c'<=c):Many k c':=by
 cases h with
 |none=>exact .none _
 |more h1 h2 h3 h4=>exact .more h1 ⋯ h3 h4
def cnt:Nat->Nat->Nat:=Nat.rec (λc=>Bool.rec 0 1 (T9 (oM c PR) 1)) (λd ih c=>QN (ih c) (ih (QN c (Nat.pow 2 (Nat.succ d)))))
def aNH:Nat.ble 120000 (cnt 20 1000001)=true:=by decide +kernel
theorem Yv:∀(d c k:Nat),2<=c->c+2^(d+1)<=3097600->Many k (c+2^(d+1)-1)->Many (cnt d c+k) (c-1)
 |0,c,k,h2,hc,h=>by
  have e:cnt 0 c=Bool.rec 0 1 (T9 (oM c PR) 1):=rfl;have hc':c+2<=3097600:=hc;have h':Many k (c+2-1):=h;rw[e];cases hb:T9 (oM c PR) 1 with
  |false=>show Many (0+k) (c-1);rw[qV];exact h'.down ⋯
  |true=>show Many (1+k) (c-1);rw[oQ];exact .more (aKL h2 ⋯ (Nat.eq_of_beq_eq_true hb)) ⋯ ⋯ (h'.down ⋯)
 |d+1,c,k,h2,hc,h=>by
  have e:cnt (d+1) c=cnt d c+cnt d (c+2^(d+1)):=rfl;have p:2^(d+1+1)=2^(d+1)+2^(d+1):=by rw[pD];lia
  rw[p]at hc h;have i1:=Yv d c (cnt d (c+2^(d+1))+k) h2;have i2:=Yv d (c+2^(d+1)) k;rw[e,CT];generalize 2^(d+1)=m at hc h i1 i2⊢;exact i1 ⋯ (i2 ⋯ ⋯ (by rw[CT];exact h))
theorem Many.few:∀{k k' c:Nat},Many k c->k'<=k->Many k' c
 |_,0,c,_,_=>.none c
 |0,_+1,_,_,h=>absurd h ⋯
 |_+1,_+1,_,.more h1 h2 h3 h4,h=>.more h1 h2 h3 (h4.few ⋯)
def awK(h2:2<=c)(hc:c+2^(d+1)<=3097600)(h:Nat.ble n (cnt d c)=true):Many n (c-1):=(Yv d c 0 h2 hc (.none _)).few (Mm h)
def many:Many 120000 1000000:=awK ∅ ∅ aNH
def Many.next(h:Many (k+1) c):∃q,cT q/\c<q/\q<3097600/\∀p,p<=q->Many k p:=by
 cases h with
 |more h1 h2 h3 h4=>exact{_,h1,h2,h3,λp hp=>h4.down hp}
def cT.U1(h:cT p)(h0:0<a)(ha:a<(p:Int)):a^(p-1)%(p:Int)=1:=by
 obtain⟨n,rfl⟩:∃n:Nat,a=(n:Int):={a.toNat,⋯};have:=h.avo (a:=n) ⋯ ⋯;have e:((n^(p-1)%p:Nat):Int)=((1:Nat):Int):=by rw[this]
 rw[B8,OA]at e;exact e
end Om
namespace Pm
open Rm
def aJu(hP:Om.cT P)(hp:Py P p)(hn:p≠[]):zH P p (wX P p):=by
 have h2:=hP.1;have hpos:0<p.length:=rQ.mpr hn;have hP0:(P:Int)≠0:=⋯;have rz:∀n,tk (P:Int) n=n%(P:Int):=λn=>oB hP0 n;have l0:=Gb hn hp.tr;have l1:=hp.co (p.length-1);rw[rz]at l1;have r0:0<=co p (p.length-1):=by rw[<-l1];exact rK _ hP0
 have r1:co p (p.length-1)<(P:Int):=by rw[<-l1];exact qT _ ⋯
 generalize hl:co p (p.length-1)=a at l0 r0 r1;have hinv:(a^(P-2)*a)%(P:Int)=1:=by
  rw[<-pA,(⋯:(P-2).succ=P-1)];exact hP.U1 ⋯ r1
 have e:∀k,co (wX P p) k=co p k*a^(P-2)%(P:Int):=λk=>by
  rw[wX,C7 (by simp),hl]
 have len:(wX P p).length=p.length:=by rw[wX,aB]
 have top:co (wX P p) ((wX P p).length-1)=1:=by
  rw[len,e,hl,jt];exact hinv
 have hm:wX P p≠[]:=λz=>by rw[z]at len;simp at len;lia
 refine{{B1 hm (by rw[top];decide),λx hx=>?_},len,λ_=>{⋯,top},{a^(P-2),λk=>?_},{a,λk=>?_}}
 .obtain⟨y,_,rfl⟩:=bO.mp hx;rw[rz];exact uh _ (rR _)
 .rw[e,rz,rz,uh _ (rR _),jt]
 .rw[e,rz,rz,vd a,uh _ (rR _),<-vd,ME a,jt a,vd,hinv];rw[mH,uh _ (rR _)]
def aPm(hP:Om.cT P)(h0:0<other)(h:other<(P:Int)):(P:Int)∣other*(one*other^(P-2)%(P:Int))-one:=by
 have h2:=hP.1;have hinv:(other^(P-2)*other)%(P:Int)=1:=by
  rw[<-pA,(⋯:(P-2).succ=P-1)];exact hP.U1 h0 h
 have h1:(1:Int)%(P:Int)=1:=Ti ∅ ⋯;refine Qf (Int.emod_eq_emod_iff_emod_sub_eq_zero.mp ?_);rw[vd,uh _ (rR _),<-vd,ME,jt other,vd,hinv,mH,uh _ (rR _)]
def aJ8(hb:0<=b)(hb1:b<4194304)(hu:22<=u)(hf:Bd u f)(hl:∀k,Bd u (co l k))(hm:∀x∈m,Bd v x)(k:Nat):Bd (u+v+1) (lf b f s t l m k):=by
 unfold lf;split
 .refine yL hb ((Bd.of (n:=22) ⋯ ⋯).mono ⋯) ?_;rw[Yy];refine Bd.add ((hl k).mono ⋯) ?_;have:=hf.mul (nY hm (k-s));unfold Bd at this⊢;rw[Nk];exact this
 .exact(hl k).mono ⋯
def jw(M t:Int)(p:Nat)(s:Int):Int:=(tk p (s-t))*(tk p M)^(p-2)%(p:Int)
def jn(M t:Int)(p:Nat)(s:Int):Int:=nr (M*p) (t+M*jw M t p s)
def aGI(hp:Om.cT p)(hM:¬(p:Int)∣M):(p:Int)∣M*jw M t p s-(s-t):=by
 have h2:=hp.1;have hp0:(p:Int)≠0:=⋯;have r0:=rK M hp0;have r1:=qT M (⋯:(0:Int)<p);have rn:M%(p:Int)≠0:=λz=>hM (Qf z);have h:=aPm hp (one:=tk p (s-t)) (other:=M%(p:Int)) ⋯ r1;unfold jw;rw[oB hp0 M];generalize tk (p:Int) (s-t)*(M%(p:Int))^(p-2)%(p:Int)=w at h;rw[oB hp0]at h;have e1:(p:Int)∣M*w-M%(p:Int)*w:=by
  rw[<-UN];exact Lg (NR) (Lh ..)
 have e2:(p:Int)∣(s-t)%(p:Int)-(s-t):=by
  have:(p:Int)∣(s-t)-(s-t)%(p:Int):=NR;have:=Int.dvd_neg.mpr this
  rwa [Int.neg_sub]at this
 have:=wO (wO e1 h) e2
 rwa [(⋯:M*w-M%(p:Int)*w+(M%(p:Int)*w-(s-t)%(p:Int))+((s-t)%(p:Int)-(s-t))=M*w-(s-t))]at this
def aHA(hp:Om.cT p):0<=jw M t p s/\jw M t p s<p:=by
 have h2:=hp.1;exact{rK _ ⋯,qT _ ⋯}
end Pm
namespace Tx
open PySem PySem.StrLaws PySem.NumText PySem.Builtin PySem.Builtin.Str
section
variable {c j:Nat}{cs:List Nat}{w:Str}{n b:Int}{ρ ς:ζ}
def one(c:Nat):Str:={(#[c])}
def take_one(l:List Nat)(c i:Nat):((l.drop i).take 1==[c])=decide (l[i]?=ι c):=by
 rw[<-List.head?_drop];cases l.drop i with
 |nil=>simp
 |cons a r=>
  simp only[List.take_succ_cons,Y4,List.head?_cons,Option.some.injEq];by_cases h:a=c<;>simp[h]
def subAt_one(x:Str)(c i:Nat):subAt x (one c) i=decide (x.cps.toList[i]?=ι c):=by
 rw[subAt_eq];exact take_one ..
def vH(x:Str)(c i:Nat):Bool:=decide (x.cps.toList[i]?=ι c)
theorem VX(x:Str)(c lim:Nat)(hl:lim=x.length+1):∀(n i:Nat)(st:Array Nat×Nat),i+n=x.length+1->st.1.size<=i->st.2<=i->
  (forIn (TR i n) st (occBody x (one c) x.length lim)).run.fst.toList=st.1.toList++(TR i n).filter (vH x c)
 |0,i,st,_,_,_=>by simp
 |n+1,i,st,h1,h2,h3=>by
  rw[FU,i0];unfold occBody;have hx:x.cps.toList.length=x.length:=by simp[Str.length]
  by_cases hh:vH x c i=true
  .have hi:i<x.length:=by
    have:=of_decide_eq_true hh;obtain⟨h,_⟩:=List.getElem?_eq_some_iff.mp this;lia
   rw[if_pos {{{⋯,h3},by show i+1<=_;lia},by rw[subAt_one];exact hh}];have ih:=VX x c lim hl n (i+1) (st.1.push i,i+1) ⋯ (by simp;lia) (aZ _);unfold occBody at ih;rw[Ma,if_pos hh];refine OX ih ?_;simp
  .have hh':vH x c i=false:=by simpa using hh
   rw[if_neg λz=>by rw[subAt_one]at z;exact hh z.2];have ih:=VX x c lim hl n (i+1) st ⋯ ⋯ ⋯;unfold occBody at ih;rw[Ma,if_neg hh];exact ih
def aCB(x:Str)(c:Nat):occurrences x (one c) 0 x.length (x.length+1)=(TR 0 (x.length+1)).filter (vH x c):=by
 rw[occ_eq,uT];have:=VX x c _ rfl (x.length+1) 0 (#[],0) ⋯ (by simp) (aZ _);rw[this];simp
def Y1(h:∀k,a<=k->k<j->vH x c k=false):c∉(strSub x a j).cps.toList:=λhm=>by
 rw[strSub_toList]at hm;obtain⟨k,hk,e⟩:=ug.mp hm;rw[m9,xX]at hk;have e1:x.cps.toList[a+k]?=ι c:=by
  rw[List.getElem_take,List.getElem_drop]at e;rw[List.getElem?_eq_getElem ⋯,e]
 have:=h (a+k) ⋯ ⋯;unfold vH at this;rw[e1]at this;simp at this
theorem pf(x:Str)(c:Nat):∀(n i a:Nat),i+n=x.length+1->a<=i->(∀k,a<=k->k<i->vH x c k=false)->∀p∈partsFrom x 1 a ((TR i n).filter (vH x c)),c∉p.cps.toList
 |0,i,a,h1,_,h3,p,hp=>by
  rw[eN.mp hp];exact Y1 λk k1 k2=>h3 k k1 ⋯
 |n+1,i,a,h1,h2,h3,p,hp=>by
  rw[FU,Ma]at hp;by_cases hh:vH x c i=true
  .rw[if_pos hh]at hp;rcases c7.mp hp with e|e
   .rw[e];exact Y1 h3
   .exact pf x c n (i+1) (i+1) ⋯ (aZ _) (λk k1 k2=>absurd k2 ⋯) p e
  .rw[if_neg hh]at hp;refine pf x c n (i+1) a ⋯ ⋯ (λk k1 k2=>?_) p hp;by_cases e:k=i
   .rw[e];simpa using hh
   .exact h3 k k1 ⋯
def aOw(x:Str){c:Nat}(hc:c<256):¬Builtin.Str.strKind x<Builtin.Str.strKind (one c):=by
 have:Builtin.Str.strKind (one c)=1:=by
  unfold Builtin.Str.strKind;rw[if_pos];simp[one,hc]
 rw[this];unfold Builtin.Str.strKind;split
 .lia
 .split<;>lia
def aHG(x:Str){c:Nat}(hc:c<256):∀p∈Txt.split x (one c),c∉p.cps.toList:=by
 intro p hp;unfold Txt.split at hp;have key:∀p∈partsBetween x (occurrences x (one c) 0 x.length (x.length+1)) (one c).length,c∉p.cps.toList:=by
  rw[partsBetween_eq,aCB];exact pf x c (x.length+1) 0 0 ⋯ (aZ _) (λk _ k2=>absurd k2 (uz _))
 split at hp
 .rename_i h
  have hl:x.length<1:=by
   simp only[Cj,decide_eq_true_eq]at h;rcases h with h|h
   .exact h
   .exact absurd h (aOw x hc)
  rw[eN.mp hp];have:x.cps.toList=[]:=u5 (by show x.cps.toList.length=0;have:x.cps.toList.length=x.length:=(by simp[Str.length]);lia);rw[this];simp
 .split at hp
  .rename_i h1 h2
   rw[List.isEmpty_iff]at h2;rw[eN.mp hp];refine key x ?_;rw[h2,partsBetween_eq];show x∈[strSub x 0 x.length];rw[sub_whole];simp
  .exact key p hp
def jn(c:Nat):List (List Nat)->List Nat
 |[]=>[]
 |[p]=>p
 |p::q::r=>p++c::jn c (q::r)
theorem Xb(c:Nat):∀ws:List Str,(Str.join (one c) ws).cps.toList=jn c (ws.map λw=>w.cps.toList)
 |[]=>rfl
 |[_]=>rfl
 |p::q::r=>by
  have ih:=Xb c (q::r);show(p++one c++Str.join (one c) (q::r)).cps.toList=p.cps.toList++c::jn c ((q::r).map λw=>w.cps.toList);rw[<-ih];simp[Str.cps_append,one]
theorem MA{c:Nat}:∀{p q u v:List Nat},c∉p->c∉q->p++c::u=q++c::v->p=q/\u=v
 |[],[],_,_,_,_,h=>{rfl,(KC h).2}
 |[],b::q,_,_,_,h2,h=>by
  have:=(KC h).1;exact absurd (by rw[this];simp) h2
 |a::p,[],_,_,h1,_,h=>by
  have:=(KC h).1;exact absurd (by rw[this];simp) h1
 |a::p,b::q,u,v,h1,h2,h=>by
  obtain⟨e1,e2⟩:=KC h;obtain⟨e3,e4⟩:=MA (λz=>h1 (fM _ z)) (λz=>h2 (fM _ z)) e2;exact{by rw[e1,e3],e4}
theorem SO{c:Nat}:∀{ps qs:List (List Nat)},ps≠[]->qs≠[]->(∀p∈ps,c∉p)->(∀q∈qs,c∉q)->jn c ps=jn c qs->ps=qs
 |[],_,h,_,_,_,_=>absurd rfl h
 |_,[],_,h,_,_,_=>absurd rfl h
 |[p],[q],_,_,_,_,e=>by rw[show p=q from e]
 |[p],q::q'::r,_,_,h1,_,e=>by
  have:p=q++c::jn c (q'::r):=e;exact absurd (by rw[this];simp) (h1 p (by simp))
 |p::p'::r,[q],_,_,_,h2,e=>by
  have:p++c::jn c (p'::r)=q:=e;exact absurd (by rw[<-this];simp) (h2 q (by simp))
 |p::p'::r,q::q'::t,_,_,h1,h2,e=>by
  obtain⟨e1,e2⟩:=MA (h1 p (by simp)) (h2 q (by simp)) (show p++c::jn c (p'::r)=q++c::jn c (q'::t)from e);have:=SO (by simp) (by simp) (λz hz=>h1 z (fM _ hz)) (λz hz=>h2 z (fM _ hz)) e2;rw[e1,this]
theorem map_toList_inj:∀{ws vs:List Str},(ws.map λw=>w.cps.toList)=(vs.map λw=>w.cps.toList)->ws=vs
 |[],[],_=>rfl
 |[],_::_,h=>by simp at h
 |_::_,[],h=>by simp at h
 |a::r,b::t,h=>by
  simp only[ji,List.cons.injEq]at h;rw[Str.ext' (OG.mp h.1),map_toList_inj h.2]
def aJ9(x y:Str):Txt.split x y≠[]:=by
 unfold Txt.split;split
 .simp
 .split
  .simp
  .rw[partsBetween_eq];obtain⟨p,r,e⟩:=partsFrom_ne x y.length 0 (occurrences x y 0 x.length (x.length+1));rw[e];simp
def QL(hc:c<256)(hn:ws≠[])(h:∀w∈ws,c∉w.cps.toList):Txt.split (Str.join (one c) ws) (one c)=ws:=by
 refine map_toList_inj (SO (c:=c) (by simpa using aJ9 _ _) (by simpa using hn) ?_ ?_ ?_)
 .intro p hp;obtain⟨w,hw,rfl⟩:=bO.mp hp;exact aHG _ hc w hw
 .intro p hp;obtain⟨w,hw,rfl⟩:=bO.mp hp;exact h w hw
 .rw[<-Xb,<-Xb,StrLaws.join_split]
def zD(s:String):(Str.ofString s).cps.toList=s.toList.map Char.toNat:=aww s
def aA(n:Int):Str:=Str.ofString (toString n)
def iB(m:Nat):List Nat:=(rB 10 m).map Char.toNat
def Mf(m:Nat):(aA (m:Int)).cps.toList=iB m:=by
 rw[aA,zD];show(Nat.repr m).toList.map Char.toNat=_;rw[EH];rfl
def LN{m:Nat}(h:0<m):(aA (-(m:Int))).cps.toList=45::iB m:=by
 obtain⟨k,rfl⟩:∃k,m=k+1:={m-1,⋯};rw[aA,zD];have e:toString (-((k+1:Nat):Int)) = "-" ++ Nat.repr (k+1):=rfl;rw[e,String.toList_append,EH];simp[iB]
def Iu(m:Nat):AllDigits (iB m):=λc hc=>by
 obtain⟨ch,hch,rfl⟩:=bO.mp hc;have:=Nat.isDigit_of_mem_toDigits ∅ ∅ hch;simp only[Char.isDigit,oN,decide_eq_true_eq]at this;exact this
def OO(m:Nat):iB m≠[]:=by
 intro h;have:=congrArg NJ h;simp only[iB,aB,xN]at this;have:=Nat.toDigits_ne_nil (n:=m) (b:=10)
 simp_all
def Oz(cs:List Nat):Prop:=cs=[48]∨∃c r,cs=c::r/\49<=c
def toNat_ofNat(h:AllDigits cs):(cs.map Char.ofNat).map Char.toNat=cs:=by
 rw[dD]
 conv=>rhs;rw[<-RJ cs]
 refine kW λc hc=>?_;have:=h c hc;show(Char.ofNat c).toNat=c;have v:c.isValidChar:=jj ⋯;rw[Char.ofNat,dif_pos v];rfl
def RI(h:AllDigits cs)(hn:Oz cs):iB (digitsVal cs)=cs:=by
 have hp:cs≠[]:=by rcases hn with e|⟨c,r,e,_⟩<;>rw[e]<;>simp
 have hl:0<cs.length:=rQ.mpr hp;unfold iB;rw[toDigits_digitsVal (cs.length-1) cs ⋯ h,toNat_ofNat h];rcases hn with e|e
 .exact .inl (by rw[e];rfl)
 .exact .inr e
def awJ:∀(cs:List Nat),AllDigits cs->digitsVal cs<10^cs.length:=by
 intro cs;induction hn:cs.length generalizing cs with
 |zero=>intro _;rw[u5 hn];decide
 |succ n ih=>
  intro h;have hne:cs≠[]:=by intro e;rw[e]at hn;simp at hn
  have e:=ZN hne;generalize cs.dropLast=ini at e;generalize cs.getLast hne=c at e;subst e;rw[gk,Zb]at hn;have hi:AllDigits ini:=λd hd=>h d (YX _ hd);have hc:=h c (qe _ (eN.mpr rfl));have:=ih ini ⋯ hi;rw[digitsVal_snoc,pD];lia
theorem Qe:∀(k m:Nat),m<10^(k+1)->(iB m).length<=k+1
 |0,m,h=>by
  unfold iB;rw[Fz ⋯];simp
 |k+1,m,h=>by
  by_cases h10:m<10
  .unfold iB;rw[Fz h10];simp
  .have ih:=Qe k (m/10) (by rw[pD]at h;lia);have t:rB 10 (m/10)++rB 10 (m%10)=rB 10 (10*(m/10)+m%10):=ZX ∅ ⋯ ⋯;rw[uS]at t;unfold iB at ih⊢;rw[<-t,Fz (⋯:m%10<10)];simp only[aB,gk,Zb]at ih⊢;lia
def digit_back:∀d:Nat,d<10->(PJ d).toNat-48=d:=∅
def Hg(m:Nat):digitsVal (iB m)=m:=by
 induction m using CW with
 |_ m ih=>
  unfold iB;by_cases h:m<10
  .rw[Fz h];have e:=digit_back m h;show 0*10+((PJ m).toNat-48)=m;lia
  .have hm:m%10<10:=uB m ∅;have t:rB 10 (m/10)++rB 10 (m%10)=rB 10 (10*(m/10)+m%10):=ZX ∅ ⋯ hm;rw[uS]at t;rw[<-t,fH,Fz hm];have ih':=ih (m/10) ⋯;unfold iB at ih';show digitsVal ((rB 10 (m/10)).map Char.toNat++[(PJ (m%10)).toNat])=m;rw[digitsVal_snoc,ih',digit_back (m%10) hm];lia
def LW(m:Nat):Oz (iB m):=by
 by_cases h0:m=0
 .subst h0;exact .inl ∅
 .right;induction m using CW with
  |_ m ih=>
   by_cases h:m<10
   .have e:iB m=[(PJ m).toNat]:=by unfold iB;rw[Fz h];rfl
    have e2:=digit_back m h;exact{_,[],e,⋯}
   .have t:rB 10 (m/10)++rB 10 (m%10)=rB 10 (10*(m/10)+m%10):=ZX ∅ ⋯ ⋯;rw[uS]at t;obtain⟨c,r,e,hc⟩:=ih (m/10) ⋯ ⋯;refine{c,r++(rB 10 (m%10)).map Char.toNat,?_,hc};unfold iB at e⊢;rw[<-t,fH,e];rfl
def Wr(w:Str):Prop:=∃(s:Bool)(cs:List Nat),w.cps.toList=(if s then 45::cs else cs)/\AllDigits cs/\1<=cs.length/\cs.length<=60/\Oz cs/\(s=true->cs≠[48])
def aH1(hn:Oz cs)(h:cs≠[48]):0<digitsVal cs:=by
 rcases hn with e|⟨c,r,e,hc⟩
 .exact absurd e h
 .rw[e];exact digitsVal_pos hc
def Wr.reads(h:Wr w):∃n:Int,intText? w=ι n/\aA n=w/\n.natAbs<10^60:=by
 intros s cs e hd l1 l2 hn hs h;have hne:cs≠[]:=rQ.mp l1;have hp:=awJ cs hd;have hp2:10^cs.length<=10^60:=ql ∅ l2;have hwl:w.length=w.cps.toList.length:=by simp[Str.length]
 cases s with
 |false=>
  have e':w.cps.toList=cs:=e;refine{_,intText_digits (by rw[e'];exact hd) (by rw[e'];exact hne) (by rw[hwl,e'];lia),?_,?_}
  .refine Str.ext' (OG.mp ?_);rw[e',Mf,RI hd hn]
  .rw[e'];show digitsVal cs<_;lia
 |true=>
  have e':w.cps.toList=45::cs:=e;have hv:=aH1 hn (hs rfl);refine{_,intText_neg e' hd hne (by rw[hwl,e'];simp;lia),?_,?_}
  .refine Str.ext' (OG.mp ?_);rw[e',LN hv,RI hd hn]
  .show(-((digitsVal cs:Nat):Int)).natAbs<_;lia
def RG(h:n.natAbs<10^60):Wr (aA n):=by
 by_cases h0:0<=n
 .obtain⟨m,rfl⟩:=iS h0;exact{false,iB m,Mf m,Iu m,rQ.mpr (OO m),Qe 59 m (by simpa using h),LW m,λz=>by cases z}
 .obtain⟨m,e,hm⟩:∃m:Nat,n=-(m:Int)/\0<m:={n.natAbs,⋯,⋯};subst e;refine{true,iB m,LN hm,Iu m,rQ.mpr (OO m),Qe 59 m ⋯,LW m,λ_ e=>?_};have:=Hg m;rw[e]at this;have:(0:Nat)=m:=this;lia
def aGP(e:aA a=aA b):a=b:=by
 have hs:∀z:Int,(∃m:Nat,z=m/\(aA z).cps.toList=iB m)∨(∃m:Nat,z=-(m:Int)/\(aA z).cps.toList=45::iB m):=λz=>by
  by_cases c:0<=z
  .obtain⟨m,rfl⟩:=iS c;exact .inl {m,rfl,Mf m}
  .refine .inr {z.natAbs,⋯,?_};have:=LN (m:=z.natAbs) ⋯;rw[(⋯:-((z.natAbs:Nat):Int)=z)]at this;exact this
 have no:∀m k:Nat,iB m≠45::iB k:=λm k z=>by
  have:=Iu m 45 (by rw[z];simp);lia
 rcases hs a with⟨m,ea,fa⟩|⟨m,ea,fa⟩<;>rcases hs b with⟨k,eb,fb⟩|⟨k,eb,fb⟩<;>rw[e,fb]at fa
 .rw[ea,eb,<-Hg m,<-Hg k,fa]
 .exact absurd fa.symm (no m k)
 .exact absurd fa (no k m)
 .rw[ea,eb,<-Hg m,<-Hg k,(KC fa).2]
def bar:Str:=one 124
def qz:Str:={(#[98,121])}
def Gf(n:Int):∀c∈(aA n).cps.toList,c=45∨(48<=c/\c<=57):=λc hc=>by
 by_cases h:0<=n
 .obtain⟨m,rfl⟩:=iS h;rw[Mf]at hc;exact .inr (Iu m c hc)
 .have e:=LN (m:=n.natAbs) ⋯;rw[(⋯:-((n.natAbs:Nat):Int)=n)]at e;rw[e]at hc;rcases c7.mp hc with z|z
  .exact .inl z
  .exact .inr (Iu _ c z)
def VV(n:Int):aA n≠bar:=λe=>by
 have:=Gf n 124 (by rw[e];simp[bar,one]);lia
def aRI(n:Int):aA n≠qz:=λe=>by
 have:=Gf n 98 (by rw[e];simp[qz]);lia
def nC(b:Int):List Str:=if b>0 then[qz,aA b]else[]
def wordsOf(b:Int)(ρ ς:ζ):List Str:=ρ.map aA++bar::(ς.map aA++nC b)
def textOf(b:Int)(ρ ς:ζ):Str:=Str.join (one 32) (wordsOf b ρ ς)
def ZS(h:w∈nC b):w=qz∨w=aA b:=by
 unfold nC at h;split at h
 .simpa using h
 .cases h
def M1(h:w∈wordsOf b ρ ς):w=bar∨w=qz∨∃n,w=aA n:=by
 rcases ig.mp h with h|h
 .obtain⟨n,_,e⟩:=bO.mp h;exact .inr (.inr {n,(e.symm)})
 .rcases c7.mp h with h|h
  .exact .inl h
  .rcases ig.mp h with h|h
   .obtain⟨n,_,e⟩:=bO.mp h;exact .inr (.inr {n,(e.symm)})
   .rcases ZS h with h|h
    .exact .inr (.inl h)
    .exact .inr (.inr {_,h})
def af4:∀w∈wordsOf b ρ ς,32∉w.cps.toList:=λw hw hm=>by
 rcases M1 hw with e|e|⟨n,e⟩
 .rw[e]at hm;simp[bar,one]at hm
 .rw[e]at hm;simp[qz]at hm
 .rw[e]at hm;have:=Gf n 32 hm;lia
def WH:wordsOf b ρ ς≠[]:=by unfold wordsOf;simp
def aD4(b:Int)(ρ ς:ζ):Txt.split (textOf b ρ ς) (one 32)=wordsOf b ρ ς:=QL (c:=32) ∅ WH af4
def Xv:bar∉ρ.map aA:=λh=>by
 obtain⟨n,_,e⟩:=bO.mp h;exact VV n e
def aPW:qz∉ρ.map aA:=λh=>by
 obtain⟨n,_,e⟩:=bO.mp h;exact aRI n e
def BO:bar∉ς.map aA++nC b:=λh=>by
 rcases ig.mp h with h|h
 .exact Xv h
 .rcases ZS h with h|h
  .exact absurd (congrArg (λz:Str=>z.cps) h) ∅
  .exact VV b h.symm
def axv(b:Int)(ρ ς:ζ):(wordsOf b ρ ς).count bar=1:=by
 unfold wordsOf;rw[List.count_append,NU Xv,List.count_cons_self,NU BO]
def aN8{ws:List Str}(h:ws.count bar=1):∃j:Nat,ws[j]?=ι bar/\∀m:Nat,m<j->ws[m]?≠ι bar:=by
 have hm:bar∈ws:=List.count_pos_iff.mp (by rw[h];decide);refine{ws.idxOf bar,?_,λm hmj e=>?_}
 .rw[List.getElem?_eq_getElem (List.idxOf_lt_length_of_mem hm),List.getElem_idxOf]
 .obtain⟨h1,h2⟩:=List.getElem?_eq_some_iff.mp e;have:=List.not_of_lt_findIdx (p:=(·==bar)) (xs:=ws) (i:=m) hmj;rw[h2]at this;simp at this
def aK9(hj:(wordsOf b ρ ς)[j]?=ι bar):j=ρ.length:=by
 unfold wordsOf at hj;by_cases h1:j<ρ.length
 .rw[List.getElem?_append_left (by simpa using h1)]at hj;exact absurd (List.mem_of_getElem? hj) Xv
 .by_cases h2:j=ρ.length
  .exact h2
  .rw[List.getElem?_append_right (by simp;lia),aB,(⋯:j-ρ.length=(j-ρ.length-1)+1),List.getElem?_cons_succ]at hj;exact absurd (List.mem_of_getElem? hj) BO
def aMr(b:Int)(ρ ς:ζ):(wordsOf b ρ ς).take ρ.length=ρ.map aA:=by
 unfold wordsOf;rw[Uq (by simp),oA (by simp)]
def aDI(b:Int)(ρ ς:ζ):(wordsOf b ρ ς).drop (ρ.length+1)=ς.map aA++nC b:=by
 unfold wordsOf;rw[List.drop_append,EY (by simp),aB,(⋯:ρ.length+1-ρ.length=1)];rfl
def pU(w:Str):Int:=(intText? w).getD 0
def Wr.val(h:Wr w):intText? w=ι (pU w)/\aA (pU w)=w/\(pU w).natAbs<10^60:=by
 intros n h1 h2 h3 h.reads;have e:pU w=n:=by unfold pU;rw[h1];rfl
 rw[e];exact{h1,h2,(h3)}
def r8(h:n.natAbs<10^60):pU (aA n)=n:=aGP (RG h).val.2.1
def aD9{ns:ζ}(h:∀n∈ns,n.natAbs<10^60):(ns.map aA).map pU=ns:=by
 rw[dD]
 conv=>rhs;rw[<-RJ ns]
 exact kW λn hn=>r8 (h n hn)
end
end Tx
namespace Tx
open PySem PySem.StrLaws PySem.NumText PySem.Builtin PySem.Builtin.Str
def aK0{S T:Int}{a b:Nat}(hS:S=(a:Int))(hT:T=(b:Int)):sliceRange S T 1=(gq (b-a)).map λk=>a+k:=by
 subst hS hT;unfold sliceRange;simp only[show(1:Int)>0 from ∅,if_true];by_cases hlt:(a:Int)<b
 .have e3:(((b:Int)-a+1-1)/1).toNat=b-a:=by rw[NT];lia
  simp only[hlt,if_true,e3];refine kW λk _=>?_;lia
 .have:b-a=0:=⋯;simp[hlt,this]
def aMM(l u:Option Nat)(n:Nat):strSliceIndices (l.map λa=>(a:Int)) (u.map λa=>(a:Int)) 1 n=(gq (min (u.getD n) n-min (l.getD 0) n)).map (λk=>min (l.getD 0) n+k):=by
 unfold strSliceIndices;cases l<;>cases u<;>refine aK0 ?_ ?_<;>simp<;>lia
def ya(x:Str)(l u:Option Nat):(Txt.slice x (l.map λa=>(a:Int)) (u.map λa=>(a:Int))).cps.toList=(x.cps.toList.drop (min (l.getD 0) x.length)).take (min (u.getD x.length) x.length-min (l.getD 0) x.length):=by
 have hx:x.cps.toList.length=x.length:=by simp[Str.length]
 unfold Txt.slice;rw[aMM];split
 .rename_i h
  simp only[beq_self_eq_true,Ow,beq_iff_eq,aB,mq]at h;rw[oA (by rw[xX,hx];lia),(⋯:min (l.getD 0) x.length=0),K4]
 .have p:=picks x.cps.toList (min (u.getD x.length) x.length-min (l.getD 0) x.length) (min (l.getD 0) x.length) (by rw[hx];lia);simpa using p
def NH(x:Str)(a:Nat):(Txt.slice x (ι (a:Int)) ν).cps.toList=x.cps.toList.drop a:=by
 have hx:x.cps.toList.length=x.length:=by simp[Str.length]
 have:=ya x (ι a) ν;refine OX this ?_;simp only[ZH,Rx];by_cases h:a<=x.length
 .rw[Lx h,ZA,oA (by rw[xX,hx];lia)]
 .rw[VH ⋯,EY ⋯,EY ⋯,Zn]
def Ee(x:Str)(b:Nat):(Txt.slice x ν (ι (b:Int))).cps.toList=x.cps.toList.take b:=by
 have hx:x.cps.toList.length=x.length:=by simp[Str.length]
 have:=ya x ν (ι b);refine OX this ?_;simp only[ZH,Rx,Nat.zero_min,K4,uT];rw[<-hx,AY];lia
def AM(x:Str)(c:Nat):Txt.startswith x (one c)=decide (x.cps.toList.head?=ι c):=by
 have hx:x.cps.toList.length=x.length:=by simp[Str.length]
 unfold Txt.startswith;rw[subAt_one,List.head?_eq_getElem?];show(decide (0+1<=x.length)&&_)=_;by_cases h:1<=x.length
 .rw[decide_eq_true ⋯,Ow]
 .rw[decide_eq_false ⋯,RR,List.getElem?_eq_none ⋯];rfl
def jE(w:Str):List Nat:=if w.cps.toList.head?=ι 45 then w.cps.toList.drop 1 else w.cps.toList
noncomputable def sA:List Nat:=[48,49,50,51,52,53,54,55,56,57]
def An(c:Nat):c∈sA↔48<=c/\c<=57:=by
 refine(List.mem_range'_1 (s:=48) (n:=10)).trans ?_;lia
def aKc(w:Str):Wr w↔(1<=(jE w).length/\(jE w).length<=60/\(∀c∈jE w,c∈sA)/\(w.cps.toList=[48]∨¬(jE w).head?=ι 48)):=by
 constructor
 .rintro⟨s,cs,e,hd,l1,l2,hn,hs⟩;have ef:jE w=cs:=by
   unfold jE;cases s with
   |true=>rw[e];rfl
   |false=>
    rw[e];refine if_neg λz=>?_;cases cs with
    |nil=>cases z
    |cons a r=>
     have:=hd a (by simp);have:a=45:=pL z;lia
  rw[ef];refine{l1,l2,λc hc=>(An c).mpr (hd c hc),?_};rcases hn with z|⟨c,r,z,hc⟩
  .cases s with
   |true=>exact absurd z (hs rfl)
   |false=>left;rw[e];exact z
  .right;rw[z];intro y;have:c=48:=pL y;lia
 .rintro⟨l1,l2,hd,h0⟩;have hd':AllDigits (jE w):=λc hc=>(An c).mp (hd c hc);have hne:jE w≠[]:=rQ.mp l1;by_cases c:w.cps.toList.head?=ι 45
  .have ef:jE w=w.cps.toList.drop 1:=if_pos c;have ew:w.cps.toList=45::jE w:=by
    rw[ef];cases h:w.cps.toList with
    |nil=>rw[h]at c;cases c
    |cons a r=>rw[h]at c;rw[pL c];rfl
   have h1:¬(jE w).head?=ι 48:=by
    rcases h0 with z|z
    .rw[z]at c;cases c
    .exact z
   have hn:∃a r,jE w=a::r/\49<=a:=by
    cases h:jE w with
    |nil=>exact absurd h hne
    |cons a r=>
     have:=hd' a (by rw[h];simp);exists a,r,rfl;have:a≠48:=λz=>h1 (by rw[h,z];rfl);lia
   exact{true,jE w,ew,hd',l1,l2,.inr hn,λ_ z=>h1 (by rw[z];rfl)}
  .have ef:jE w=w.cps.toList:=if_neg c;refine{false,jE w,by rw[ef];rfl,hd',l1,l2,?_,λz=>by cases z};rcases h0 with z|z
   .exact .inl (by rw[ef];exact z)
   .right;cases h:jE w with
    |nil=>exact absurd h hne
    |cons a r=>
     have:=hd' a (by rw[h];simp);exists a,r,rfl;have:a≠48:=λy=>z (by rw[h,y];rfl);lia
end Tx
namespace Pm
def aIK(N n:Nat)(c:Nat->Nat)(h:∀i,i<n->c i<N)(d:∀i j,i<j->j<n->c i≠c j):n<=N:=RH λz=>by
 obtain⟨i,j,h1,h2,h3⟩:=i6 N n c h z;exact d i j h1 h2 h3
def code(p:Nat):ζ->Nat
 |[]=>0
 |x::r=>x.toNat+p*code p r
theorem Ic{p:Nat}:∀(xs:ζ),(∀x∈xs,0<=x/\x<(p:Int))->code p xs<p^xs.length
 |[],_=>Nat.one_pos
 |x::r,h=>by
  have hx:=h x (iY ..);have ih:=Ic r λy hy=>h y (fM _ hy);rw[j8,pD,code];have:p*(code p r+1)<=p*p^r.length:=yj p ih;rw[Af,QY]at this;rw[yH (p^r.length)];lia
theorem code_inj{p:Nat}:∀(xs ys:ζ),xs.length=ys.length->(∀x∈xs,0<=x/\x<(p:Int))->(∀x∈ys,0<=x/\x<(p:Int))->code p xs=code p ys->xs=ys
 |[],[],_,_,_,_=>rfl
 |[],_::_,h,_,_,_=>by cases h
 |_::_,[],h,_,_,_=>by cases h
 |x::r,y::t,hl,hx,hy,e=>by
  have h1:=hx x (iY ..);have h2:=hy y (iY ..);rw[code,code]at e;have m:=congrArg (· % p) e;simp only[gI]at m;rw[BD ⋯,BD ⋯]at m;have e2:code p r=code p t:=by
   rw[m]at e;exact Nat.eq_of_mul_eq_mul_left ⋯ (Nat.add_left_cancel e)
  rw[code_inj r t (by simpa using hl) (λz hz=>hx z (fM _ hz)) (λz hz=>hy z (fM _ hz)) e2];rw[(⋯:x=y)]
def win(f:Nat->Int)(l i:Nat):ζ:=(gq l).map λj=>f (i+j)
def Ec(f:Nat->Int)(l i:Nat):(win f l i).length=l:=by rw[win,aB,mq]
def A0(f:Nat->Int)(h:j<l):(win f l i).getD j 0=f (i+j):=by
 rw[win,List.getD_eq_getElem?_getD,List.getElem?_map,List.getElem?_range h];rfl
def axZ(f:Nat->Int)(l i:Nat):(win f l i++[f (i+l)]).drop 1=win f l (i+1):=by
 have e:win f l i++[f (i+l)]=win f (l+1) i:=by
  rw[win,win,RZ,fH];rfl
 rw[e,win,win,List.range_succ_eq_map,ji,List.drop_one,List.tail_cons,dD];exact kW λj _=>by show f (i+(j+1))=f (i+1+j);rw[(⋯:i+(j+1)=i+1+j)]
def aAz{p l n:Nat}{f:Nat->Int}(hf:∀i,0<=f i/\f i<(p:Int))(d:∀i j,i<j->j<n->win f l i≠win f l j):n<=p^l:=by
 have hw:∀i,∀x∈win f l i,0<=x/\x<(p:Int):=λi x hx=>by
  obtain⟨j,_,rfl⟩:=bO.mp hx;exact hf _
 refine aIK (p^l) n (λi=>code p (win f l i)) (λi _=>?_) λi j hij hj z=>d i j hij hj ?_
 .have:=Ic (win f l i) (hw i)
  rwa [Ec]at this
 .exact code_inj _ _ (by rw[Ec,Ec]) (hw i) (hw j) z
structure AJ(f:Nat->Int)(l bg ln:Nat):Prop where
 pos:0<ln
 again:win f l (bg+ln)=win f l bg
 first:∀i j,i<j->j<bg+ln->win f l i≠win f l j
def AJ.uniq(h:AJ f l bg ln)(h':AJ f l sU ln'):bg=sU/\ln=ln':=by
 have p:=h.pos;have p':=h'.pos;rcases av (bg+ln) (sU+ln')with c|c|c
 .exact absurd h.again.symm (h'.first bg (bg+ln) ⋯ c)
 .have:bg=sU:=by
   rcases av bg sU with d|d|d
   .have e:win f l bg=win f l sU:=by rw[<-h.again,c,h'.again]
    exact absurd e (h.first bg sU d ⋯)
   .exact d
   .have e:win f l sU=win f l bg:=by rw[<-h'.again,<-c,h.again]
    exact absurd e (h'.first sU bg d ⋯)
  exact{this,⋯}
 .exact absurd h'.again.symm (h.first sU (sU+ln') ⋯ c)
end Pm
namespace Pm
open Rm
def Gr(b:Int)(ρ:ζ)(a:Nat->Int):Prop:=∀n,ρ.length<=n->tk b (a n)=tk b (S ρ a n ρ.length)
def Gr.shift(h:Gr b ρ a)(m:Nat):Gr b ρ λn=>a (n+m):=λn hn=>by
 have e:(λn=>a (n+m))=λn=>a (m+n):=funext λn=>by rw[oQ]
 rw[e,cS hn];exact h (m+n) ⋯
def aKt(h:∀n,tk b (a n)=tk b (a' n))(n:Nat):tk b (ks p a n)=tk b (ks p a' n):=
 rG λk _=>by rw[<-vI,h,vI]
def Pw(b:Int)(ρ:ζ)(m:Nat)(p:ζ):Prop:=∀a,Gr b ρ a->∀n,tk b (ks p a n)=tk b (a (n+m))
def Pw.one(b:Int)(ρ:ζ):Pw b ρ 0 [1]:=λa _ n=>by simp[ks,sm,iQ]
def Pw.x(b:Int)(ρ:ζ):Pw b ρ 1 [0,1]:=λa _ n=>by simp[ks,sm,iQ,pB]
theorem Pw.mul{b:Int}{ρ:ζ}{m m':Nat}{p q:ζ}(h:Pw b ρ m p)(h':Pw b ρ m' q):Pw b ρ (m+m') (mul b p q):=λa ha n=>by
 rw[OP,aKt (h' a ha),h _ (ha.shift m'),CT]
def Pw.left(h:Pw b ρ m p)(d:Div b p (bZ b ρ) q r):Pw b ρ m r:=λa ha n=>by
 rw[<-h a ha n];have e1:∀k,tk b (co (Pm.add b (Pm.mul b q (bZ b ρ)) r) k)=tk b (co p k):=λk=>by rw[B3,Di,rE,rO];exact d.eq k
 rw[<-Iq e1,az4,<-rO,(Kp.bZ ha).aDB q n,jL]
end Pm
namespace Pm
open Rm
structure Hw(P:ζ):Prop where
 mon:Mon P
 len:P.length<=5
 bd:∀k,(co P k).natAbs<=3
theorem Hw.ev{P:ζ}(h:Hw P){x:Int}(hx:x.natAbs<=2):Bd 7 (ev P x):=by
 rw[<-vR h.len x];refine qU (?_:_<=0+3*2^0+3*2^1+3*2^2+3*2^3+3*2^4) ∅;have n:∀(k:Nat)(s:Int)(m:Nat),s.natAbs<=m->(s+co P k*x^k).natAbs<=m+3*2^k:=λk s m e=>cM (MO ..) (Nat.add_le_add e (by rw[zB,Int.natAbs_pow];exact vq (h.bd k) (Nat.pow_le_pow_left hx k)));exact n 4 _ _ (n 3 _ _ (n 2 _ _ (n 1 _ _ (n 0 _ _ (aZ _)))))
def aQd(h:Hw P)(hL:Mon L)(he:∀k,co P k=cv (co L) (co g) k)(hl:L.length+g.length<=P.length+1)(k:Nat):Bd 32 (co g k):=by
 obtain⟨xs,hxs⟩:∃xs:ζ,xs=[-2,-1,0,1,2]:={()};have nd:xs.Nodup:=by rw[hxs];decide
 have ln:xs.length=5:=by rw[hxs];rfl
 have bx:∀x∈xs,x.natAbs<=2:=by rw[hxs];decide
 have hp:=hL.pos;have h5:=h.len;have h0:=Zf (L.length-1) L hL ⋯ _ (nd.filter λx=>decide (Pm.ev L x=0)) λx hx=>of_decide_eq_true (sI.mp hx).2;have hc:=oq (λx=>decide (Pm.ev L x=0)) xs;refine(Vx (e:=2) g.length g 7 (aZ _) (xs.filter λx=>!decide (Pm.ev L x=0)) (nd.filter _) ⋯ (λx hx=>?_) (λx hx=>?_) k).mono ⋯
 .have:=bx x (sI.mp hx).1;exact Bd.of ⋯ ⋯
 have hne:Pm.ev L x≠0:=λz=>by
  have:=(sI.mp hx).2;rw[decide_eq_true z]at this;exact absurd this ∅
 refine WC hne ?_;rw[<-Ug x g L P he];exact h.ev (bx x (sI.mp hx).1)
def ZU(hL:Mon L):∃i,co L i≠0/\∀k,k<i->co L k=0:=by
 have key:∀n,(∃i,i<n/\co L i≠0/\∀k,k<i->co L k=0)∨∀k,k<n->co L k=0:=λn=>by
  induction n with
  |zero=>exact .inr λk hk=>absurd hk (uz _)
  |succ n ih=>
   rcases ih with⟨i,h1,h2⟩|h
   .exact .inl {i,⋯,h2}
   .by_cases z:co L n=0
    .exact .inr λk hk=>by
      by_cases e:k=n
      .rw[e];exact z
      .exact h k ⋯
    .exact .inl {n,⋯,z,h}
 rcases key L.length with⟨i,_,h⟩|h
 .exact{i,(h)}
 .have:=hL.one;rw[h _ (by have:=hL.pos;lia)]at this;exact absurd this ∅
def aNx(h:Hw P)(hg:Mon g)(he:∀k,co P k=cv (co L) (co g) k)(h1:co L i≠0)(h2:∀k,k<i->co L k=0):(co L i).natAbs<=3:=by
 obtain⟨j,j1,j2⟩:=ZU hg;have e:=h.bd (i+j);have s:∀n,n<=i+j+1->sm n (λt=>co L t*co g (i+j-t))=if i<n then co L i*co g j else 0:=λn=>by
  induction n with
  |zero=>intro _;rfl
  |succ n ih=>
   intro hn;rw[sm,ih ⋯];rcases av n i with c|c|c
   .rw[if_neg ⋯,if_neg ⋯,h2 n c];simp
   .rw[c,if_neg ⋯,if_pos ⋯,(⋯:i+j-i=j)];simp
   .rw[if_pos ⋯,if_pos ⋯,j2 (i+j-n) ⋯];simp
 rw[he,iH,s _ (aZ _),if_pos ⋯,zB]at e;have:1<=(co g j).natAbs:=⋯;have:=yj (co L i).natAbs this;lia
end Pm
namespace Dm
def ln(L:List ζ)(i:Nat):ζ:=L.getD i []
end Dm
namespace El
open Pm Rm Dm
section
variable {A:List ζ}{i c u W n:Nat}{x p q:ζ}{l:Int}{rs:fG}
def Ag(p f l:Int)(x h:ζ):ζ:=List.zipWith (λa c=>(p*a-f*c).fdiv l) x h
def rA(A:List ζ)(c:Nat):Option Nat:=(gq A.length).find? λi=>decide (c<=i)&&decide (co (ln A i) c≠0)
def lQ(A:List ζ)(a c:Nat):List ζ:=if a=c then A else(A.set c (ln A a)).set a ((ln A c).map λx=>0-x)
def qL(B:List ζ)(c:Nat)(l:Int)(i:Nat):ζ:=if i=c then ln B c else Ag (co (ln B c) c) (co (ln B i) c) l (ln B i) (ln B c)
def uU(A:List ζ)(l:Int)(c:Nat):Option (List ζ×Int):=(rA A c).map λa=>((gq A.length).map (qL (lQ A a c) c l),co (ln (lQ A a c) c) c)
def jD(A:List ζ):Nat->Option (List ζ×Int)
 |0=>ι (A,1)
 |c+1=>(jD A c).bind λs=>uU s.1 s.2 c
def aD1(h:i<A.length):ln A i∈A:=by
 unfold ln;rw[List.getD_eq_getElem?_getD,List.getElem?_eq_getElem h];exact sE h
def AV(h:A.length<=i):ln A i=[]:=by
 unfold ln;rw[List.getD_eq_getElem?_getD,List.getElem?_eq_none h];rfl
def C8(f:Nat->ζ){n i:Nat}(h:i<n):ln ((gq n).map f) i=f i:=by
 unfold ln;rw[List.getD_eq_getElem?_getD,List.getElem?_map,List.getElem?_range h];rfl
def Rj:rA A c=ι a↔c<=a/\a<A.length/\co (ln A a) c≠0/\∀i,c<=i->i<a->co (ln A i) c=0:=by
 unfold rA;rw[List.find?_range_eq_some];simp only[oN,decide_eq_true_eq,gZ,Bool.not_eq_true',Bool.and_eq_false_iff,decide_eq_false_iff_not,Decidable.not_not];constructor
 .rintro⟨⟨h1,h2⟩,h3,h4⟩;exact{h1,h3,h2,λi a b=>(h4 i b).resolve_left λz=>z a}
 .rintro⟨h1,h2,h3,h4⟩;exact{{h1,(h3)},h2,λj hj=>by
   by_cases z:c<=j
   .exact .inr (h4 j z hj)
   .exact .inl z}
structure pZ(W u:Nat)(A:List ζ):Prop where
 len:∀i,i<A.length->(ln A i).length=W
 bd:∀i k,Bd u (co (ln A i) k)
def Lm(A:List ζ)(a c:Nat):(lQ A a c).length=A.length:=by
 unfold lQ;split
 .rfl
 .rw[oU,oU]
def Dj{L:List ζ}(q:ζ)(hi:i<L.length)(k:Nat):ln (L.set i q) k=if k=i then q else ln L k:=by
 unfold ln;rw[List.getD_eq_getElem?_getD,List.getElem?_set,List.getD_eq_getElem?_getD];by_cases e:i=k
 .subst e;simp[hi]
 .rw[if_neg e,if_neg (λz=>e z.symm)]
def aN9(h:∀k,Bd u (co x k))(k:Nat):Bd u (co (x.map λx=>0-x) k):=by
 rw[C7 rfl];have:=h k;unfold Bd at this⊢;lia
def pZ.br(h:pZ W u A){a c:Nat}(ha:a<A.length)(hc:c<A.length):pZ W u (lQ A a c):=by
 unfold lQ;split
 .exact h
 .refine{λi hi=>?_,λi k=>?_}
  .rw[oU,oU]at hi;rw[Dj _ (by rw[oU];exact ha),Dj _ hc];split
   .rw[aB];exact h.len c hc
   .split
    .exact h.len a ha
    .exact h.len i hi
  .rw[Dj _ (by rw[oU];exact ha),Dj _ hc];split
   .exact aN9 (h.bd c) k
   .split
    .exact h.bd a k
    .exact h.bd i k
def VJ:∀x l:Int,(x.fdiv l).natAbs<=x.natAbs
 |.ofNat 0,.ofNat _=>cZ _
 |.ofNat 0,.negSucc _=>cZ _
 |.ofNat (m+1),.ofNat n=>RQ (m+1) n
 |.ofNat (m+1),.negSucc n=>We (RQ m (n+1))
 |.negSucc _,.ofNat 0=>cZ _
 |.negSucc m,.ofNat (n+1)=>We (RQ m (n+1))
 |.negSucc m,.negSucc n=>RQ (m+1) (n+1)
def BN{p:Int}(hl:x.length=h.length)(k:Nat):co (Ag p f l x h) k=(p*co x k-f*co h k).fdiv l:=by
 unfold Ag co;rw[List.getD_eq_getElem?_getD,List.getElem?_zipWith,List.getD_eq_getElem?_getD,List.getD_eq_getElem?_getD];by_cases c:k<x.length
 .rw[List.getElem?_eq_getElem c,List.getElem?_eq_getElem ⋯];rfl
 .rw[List.getElem?_eq_none ⋯,List.getElem?_eq_none ⋯];simp
def pZ.st{B:List ζ}{l':Int}(h:pZ W u A)(hs:uU A l c=ι (B,l')):pZ W (2*u+1) B/\B.length=A.length/\l'≠0/\Bd u l':=by
 unfold uU at hs;cases e:rA A c with
 |none=>rw[e]at hs;cases hs
 |some a=>
  rw[e]at hs;cases hs;obtain⟨h1,h2,h3,_⟩:=Rj.mp e;have hb:=h.br h2 (⋯:c<A.length);have lb:=Lm A a c;have hp:co (ln (lQ A a c) c) c≠0:=by
   unfold lQ;split
   .rename_i z;rw[<-z]at h3 ⊢;exact h3
   .rename_i z
    rw[Dj _ (by rw[oU];exact h2),if_neg (λe=>z e.symm),Dj _ ⋯,if_pos rfl];exact h3
  generalize lQ A a c=B at *;refine{{λi hi=>?_,λi k=>?_},by rw[aB,mq],hp,hb.bd _ _}
  .rw[aB,mq]at hi;rw[C8 _ hi];unfold qL;split
   .exact hb.len c ⋯
   .rw[Ag,BM,hb.len i ⋯,hb.len c ⋯,ZA]
  .by_cases hi:i<A.length
   .rw[C8 _ hi];unfold qL;split
    .exact(hb.bd _ _).mono ⋯
    .rw[BN (by rw[hb.len i ⋯,hb.len c ⋯])];refine qU (VJ _ _) ?_;rw[Yy,<-Fy];exact((hb.bd c c).mul (hb.bd i k)).add ((Tn (hb.bd i c)).mul (hb.bd c k)) |>.mono ⋯
   .rw[AV (by rw[aB,mq];lia),gw];exact Bd.zero _
theorem pZ.cl{W u:Nat}{A:List ζ}(h:pZ W u A)(hu:1<=u):∀{c:Nat} {B:List ζ} {l:Int},jD A c=ι (B,l)->pZ W (2^c*(u+1)-1) B/\B.length=A.length/\l≠0/\Bd (2^c*(u+1)-1) l
 |0,B,l,e=>by
  cases e;exact{{h.len,λi k=>(h.bd i k).mono ⋯},rfl,∅,(Bd.of (n:=1) ∅ ∅).mono ⋯}
 |c+1,B,l,e=>by
  rw[jD]at e;cases e1:jD A c with
  |none=>rw[e1]at e;cases e
  |some s=>
   rw[e1]at e;obtain⟨k1,k2,_,_⟩:=pZ.cl h hu (c:=c) (B:=s.1) (l:=s.2) e1;obtain⟨j1,j2,j3,j4⟩:=k1.st (show uU s.1 s.2 c=ι (B,l)from e);have p:1<=2^c:=UB;have q:1*1<=2^c*(u+1):=vq p ⋯;rw[show 2^(c+1)*(u+1)-1=2*(2^c*(u+1)-1)+1 by rw[pD,yH (2^c) 2,G1];lia];exact{j1,⋯,j3,j4.mono ⋯}
def EG{f:ζ->ζ}(hf:f []=[])(A:List ζ)(i:Nat):ln (A.map f) i=f (ln A i):=by
 unfold ln;rw[List.getD_eq_getElem?_getD,List.getElem?_map,List.getD_eq_getElem?_getD];cases A[i]? with
 |none=>exact hf.symm
 |some x=>rfl
def Sv(h:c<n)(x:ζ):co (x.take n) c=co x c:=by
 unfold co;rw[List.getD_eq_getElem?_getD,List.getElem?_take,if_pos h,List.getD_eq_getElem?_getD]
def CK(n:Nat):(([]:ζ).take n)=[]:=Zn
def aOB(h:c<n)(A:List ζ)(l:Int):uU (A.map (wI n)) l c=(uU A l c).map λs=>(s.1.map (wI n),s.2):=by
 have eh:rA (A.map (wI n)) c=rA A c:=by
  unfold rA;rw[aB];congr 1
  funext i
  rw[EG (CK n),Sv h]
 have eb:∀a,lQ (A.map (wI n)) a c=(lQ A a c).map (wI n):=λa=>by
  unfold lQ;split
  .rfl
  .rw[pE,pE,EG (CK n),EG (CK n),uX]
 unfold uU;rw[eh];cases rA A c with
 |none=>rfl
 |some a=>
  simp only[Lp,eb,aB,EG (CK n),Sv h,dD];congr 2;refine kW λi _=>?_;show qL _ c l i=(qL _ c l i).take n;unfold qL;rw[EG (CK n),EG (CK n),Sv h,Sv h];split
  .rfl
  .unfold Ag;rw[List.take_zipWith]
theorem HQ{n:Nat}(A:List ζ):∀c,c<=n->jD (A.map (wI n)) c=(jD A c).map λs=>(s.1.map (wI n),s.2)
 |0,_=>rfl
 |c+1,h=>by
  rw[jD,jD,HQ A c ⋯];cases jD A c with
  |none=>rfl
  |some s=>exact aOB ⋯ s.1 s.2
abbrev fG:=List (Int×Nat)
def cW(rs:fG):Nat:=(rs.map (·.2)).sum
def m8(rs:fG)(n:Nat):ζ:=(rs.map λp=>bf p.2 λj=>p.1^n*(n:Int)^j).flatten
def lN(rs:fG):List ζ:=(gq (cW rs)).map (m8 rs)
def full(rs:fG):Bool:=(jD (lN rs) (cW rs)).isSome
def Eu:ζ->Nat->fG->Bool
 |[],_,pre=>full pre
 |c::cs,n,pre=>Eu cs n pre&&(decide (c=0)||(gq n).all λt=>Eu cs (n-(t+1)) (pre++[(c,t+1)]))
def sG(m:Nat):ζ:=if m=1 then[-1,0,1]else[-(m:Int),-1,0,1,(m:Int)]
def axP:∀m∈[1,2,3],Eu (sG m) 4 []=true:=by decide +kernel
def Au(h:Div 0 p (lin r) q [])(hp:Mon p):Mon q/\q.length+1=p.length:=by
 have e:∀k,co p k=(if k=0 then 0 else co q (k-1))-r*co q k:=λk=>by
  have:=h.eq k;rw[dj,dj,rX,gw,fK]at this;exact this.symm
 have hl:=hp.pos;have ho:=hp.one;by_cases hq:q=[]
 .rw[e,hq,gw,gw]at ho;split at ho<;>simp at ho
 have h0:=Gb hq h.qy.tr;have qp:0<q.length:=rQ.mpr hq;have e1:=e q.length;rw[if_neg ⋯,bY (p:=q) (aZ _),eV,Ba]at e1;have l1:=Jc (p:=p) (k:=q.length) (by rw[e1];exact h0);have l2:p.length=q.length+1:=by
  refine Nat.le_antisymm (RH λz=>?_) l1;rw[e,if_neg ⋯,bY (p:=q) ⋯,bY (p:=q) ⋯,eV]at ho;exact absurd ho ∅
 rw[l2,jY,e1]at ho;exact{{qp,(ho)},l2.symm}
def U0(h:Rep r m p q):Mon p->Mon q/\q.length+m=p.length:=by
 induction h with
 |zero q=>exactλh=>{h,(rfl)}
 |succ d _ ih=>
  intro hp;obtain⟨k1,k2⟩:=Au d hp;obtain⟨k3,k4⟩:=ih k1;exact{k3,⋯}
def ayd{l:fG}(h:Scan cs p l R):∀{n:Nat} {pre:fG},Mon p->p.length<=n+1->R=[1]->(∀x∈l,x.1≠0)->Eu cs n pre=true->full (pre++l)=true/\cW l+1=p.length:=by
 induction h with
 |nil p=>
  intro n pre _ _ e _ h;rw[rJ,e];exact{h,(rfl)}
 |@hit c cs p q m l R hr _ _ ih=>
  intro n pre hp hn e hx h;obtain⟨k1,k2⟩:=U0 hr hp;have:=k1.pos;rw[Eu,oN,Cj]at h;have h2:=h.2.resolve_left λz=>hx _ iY (of_decide_eq_true z);have h3:=mY.mp h2 m (gZ.mpr ⋯);obtain⟨j1,j2⟩:=ih k1 ⋯ e (λx hx'=>hx x (fM _ hx')) h3;rw[E3]at j1;exists j1;show(m+1)+cW l+1=_;lia
 |@miss c cs p l R _ _ ih=>
  intro n pre hp hn e hx h;rw[Eu,oN]at h;exact ih hp hn e hx h.1
def nW(L:List ζ)(ws:ζ):List ζ:=(gq L.length).map λi=>ln L i++[co ws i]
def Qy(rs:fG)(n:Nat):(m8 rs n).length=cW rs:=by
 unfold m8 cW;rw[ye,dD];exact congrArg _ (kW λp _=>dF ..)
def WD(rs:fG):(lN rs).length=cW rs:=by rw[lN,aB,mq]
def aJD(h:i<cW rs):ln (lN rs) i=m8 rs i:=C8 _ h
def aCD(h:full rs=true)(ws:ζ):∃s,jD (nW (lN rs) ws) (cW rs)=ι s:=by
 have e:(nW (lN rs) ws).map (wI (cW rs))=lN rs:=by
  unfold nW;rw[WD,dD,lN];refine kW λi hi=>?_;have hi':=gZ.mp hi;show(ln _ i++_).take _=_;rw[show ln ((gq (cW rs)).map (m8 rs)) i=m8 rs i from C8 _ hi',Uq (by rw[Qy];exact aZ _),oA (by rw[Qy];exact aZ _)]
 have c:=HQ (nW (lN rs) ws) (cW rs) (aZ _);rw[e]at c;cases z:jD (nW (lN rs) ws) (cW rs)with
 |some s=>exact{s,(rfl)}
 |none=>
  rw[z]at c;unfold full at h;rw[c]at h;cases h
end
end El
namespace K53
open PySem L2
open Pm Rm Tx Om
seal PA PE PS jN PT PW PI PG Av PO yS
set_option hygiene false
local macro_rules | `(#[$e])=>`(xV $e iW)
local macro_rules | `(#[$e,$x,*])=>`(xV $e #[$x,*])
local macro_rules | `(#[-$i:num])=>`(xV (aK K (pv $i) aP) iW)
local macro_rules | `(#[-$i:num,$x,*])=>`(xV (aK K (pv $i) aP) #[$x,*])
local macro_rules | `(#[""])=>`(Qc fR iW)
local macro_rules | `(#["",$x,*])=>`(Qc fR #[$x,*])
local macro_rules | `(#[_])=>`(Qc aP iW)
local macro_rules | `(#[_,$x,*])=>`(Qc aP #[$x,*])
local macro_rules | `(#[$i:num])=>`(yy (pv $i) iW)
local macro_rules | `(#[$i:num,$x,*])=>`(yy (pv $i) #[$x,*])
local macro_rules | `(#[(),$a,$c])=>`(P4 $a (aJ $c))
local macro_rules | `(#[(),$a,$c,$x,*])=>`(P4 $a #[(),$c,$x,*])
local macro_rules | `(($e :))=>`($e)
local macro_rules | `((($e) :))=>`(($e :))
local macro_rules | `((_ :))=>`(aP)
local macro_rules | `(("" :))=>`(fR)
local macro_rules | `(($i:num :))=>`(pv $i)
local macro_rules | `((-$i:num :))=>`(aK K (pv $i) aP)
local macro_rules | `(($a+$b :))=>`(pad K ($a :) ($b :))
local macro_rules | `(($a-$b :))=>`(lZ aPI ($a :) ($b :))
local macro_rules | `(($a*$b :))=>`(lZ v_mul ($a :) ($b :))
local macro_rules | `(($a/$b :))=>`(lZ aMD ($a :) ($b :))
local macro_rules | `(($a%$b :))=>`(lZ aRL ($a :) ($b :))
local macro_rules | `(($a==$b :))=>`(BQ (wD K hr) ($a :) ($b :))
local macro_rules | `(($(a) != $(b) :))=>`(BQ (xne K hr) ($a :) ($b :))
local macro_rules | `(($a<$b :))=>`(BQ Pn ($a :) ($b :))
local macro_rules | `(($a>$b :))=>`(BQ O1 ($a :) ($b :))
local macro_rules | `(($a<=$b :))=>`(BQ A2 ($a :) ($b :))
local macro_rules | `(($a>=$b :))=>`(BQ wb ($a :) ($b :))
set_option hygiene true
def top(i:Nat):Stmt:=PySem.Challenge.pw_nextbyrule_k53_desk_answers.main.body.getD i (.Pass {0,0,0,(0)})
abbrev XH:Stmt:=top 12
abbrev Yp:Stmt:=top 13
abbrev Uy:Stmt:=top 14
abbrev Yc:Stmt:=top 15
abbrev V9:Stmt:=top 16
abbrev Wu:Stmt:=top 17
abbrev bu:Stmt:=top 18
abbrev fE:Stmt:=top 22
abbrev nc:Stmt:=top 23
abbrev Vf:Stmt:=top 24
abbrev dS:Stmt:=top 25
abbrev UG:Stmt:=top 26
abbrev sj:Stmt:=top 27
abbrev YM:Stmt:=top 28
abbrev Uu:Stmt:=top 29
abbrev VR:Stmt:=top 31
abbrev Uj:Stmt:=top 32
abbrev YF:Stmt:=top 33
abbrev cq:Stmt:=top 34
abbrev rh:Stmt:=top 35
abbrev Wv:Stmt:=top 36
abbrev qv:Stmt:=top 37
abbrev km:Stmt:=top 38
abbrev ax:Stmt:=top 39
abbrev eu:Stmt:=top 42
abbrev gu:Stmt:=top 43
abbrev Zc:Stmt:=top 44
abbrev VF:Stmt:=top 45
abbrev fT:Stmt:=top 46
abbrev oP:Stmt:=top 47
abbrev gX:Stmt:=top 48
abbrev rf:Stmt:=top 50
abbrev Ul:Stmt:=top 51
abbrev dC:Stmt:=top 52
abbrev oj:Stmt:=top 54
abbrev fS:Stmt:=top 63
abbrev ai:Stmt:=top 64
abbrev Wg:Stmt:=top 73
abbrev XU:Stmt:=top 78
abbrev Zo:Stmt:=top 79
abbrev c8:Stmt:=top 80
abbrev Xl:Stmt:=top 81
abbrev Zd:Stmt:=top 82
abbrev Zu:Stmt:=top 83
abbrev XR:Stmt:=top 84
abbrev dy:Stmt:=top 86
abbrev W9:Stmt:=top 89
abbrev Vd:Stmt:=top 91
abbrev Uw:Stmt:=top 92
abbrev Ub:Stmt:=top 93
abbrev uk:Stmt:=top 97
abbrev WL:Stmt:=top 98
abbrev ik:Stmt:=top 99
abbrev Uo:Stmt:=top 100
abbrev XJ:Stmt:=top 101
abbrev cn:Stmt:=top 104
abbrev tx:Stmt:=top 105
abbrev UU:Stmt:=top 106
abbrev rg:Stmt:=top 107
abbrev YH:Stmt:=top 108
abbrev Xu:Stmt:=top 109
abbrev fc:Stmt:=top 110
abbrev Yo:Stmt:=top 111
abbrev fe:Stmt:=top 112
abbrev Z5:Stmt:=top 115
abbrev r6:Stmt:=top 116
abbrev a7:Stmt:=top 117
abbrev YV:Stmt:=top 118
abbrev W5:Stmt:=top 119
abbrev Z6:Stmt:=top 123
abbrev a9:Stmt:=top 124
abbrev iF:Stmt:=top 125
abbrev oS:Stmt:=top 126
abbrev Vu:Stmt:=top 127
abbrev Wj:Stmt:=top 128
abbrev X6:Stmt:=top 129
abbrev uA:Stmt:=top 130
abbrev ZP:Stmt:=top 136
abbrev nI:Stmt:=top 137
abbrev Ys:Stmt:=top 138
abbrev bE:Stmt:=top 139
abbrev nE:Stmt:=top 140
abbrev W6:Stmt:=top 141
abbrev ui:Stmt:=top 146
abbrev VG:Stmt:=top 150
abbrev az:Stmt:=top 152
abbrev Z0:Stmt:=top 153
abbrev UC:Stmt:=top 154
abbrev XD:Stmt:=top 155
abbrev iL:Stmt:=top 156
abbrev vt:Stmt:=top 157
abbrev gv:Stmt:=top 158
abbrev XI:Stmt:=top 159
abbrev pb:Stmt:=top 160
abbrev Vy:Stmt:=top 161
abbrev VZ:Stmt:=inClass (top 164) 0
abbrev se:Stmt:=inClass (top 164) 1
abbrev qo:Stmt:=top 166
abbrev WZ:Stmt:=top 167
abbrev ZD:Stmt:=top 168
abbrev oy:Stmt:=top 169
abbrev iN:Stmt:=top 170
abbrev X5:Stmt:=top 171
abbrev Xr:Stmt:=top 172
abbrev jv:Stmt:=top 173
abbrev Y7:Stmt:=top 174
abbrev Zy:Stmt:=top 175
abbrev ph:Stmt:=top 176
abbrev VW:Stmt:=top 177
abbrev b9:Stmt:=top 178
abbrev Xj:Stmt:=top 179
abbrev XC:Stmt:=top 180
abbrev Vv:Stmt:=top 181
abbrev dk:Stmt:=top 182
abbrev V0:Stmt:=top 183
abbrev BJ:Stmt:=top 184
def aBG:aL ["thing"] ["thing"] (aG XH):=aN
def Ve:aL ["number","divisor"] ["number"] (aG Yp):=aN
def aIh:aL ["thing"] ["thing"] (aG Uy):=aN
def ayT:aL ["by","thing"] ["by","thing"] (aG Yc):=aN
def ax8:aL ["by","number"] ["by","number"] (aG V9):=aN
def BW:aL ["prime","number","power","square","left"] ["prime","number"] (aG Wu):=aN
def aAP:aL ["by","one","other"] ["by","one","other"] (aG bu):=aN
def aNq:aL ["by","thing"] ["by","thing"] (aG fE):=aN
def OL:aL ["thing","by","rule","starts"] ["thing"] (aG nc):=aN
def wq:aL ["one","other"] ["one","other"] (aG Vf):=aN
def aMT:aL ["row"] ["row"] (aG dS):=aN
def NW:aL ["by","rule","before","total","k"] ["by","rule","before"] (aG UG):=aN
def Ia:aL ["row","count","by","rule","starts","found"] ["row","count"] (aG sj):=aN
def aLM:aL ["n"] ["n"] (aG YM):=aN
def aJw:aL ["row","count"] ["row","count"] (aG Uu):=aN
def ah:aL ["numbers","end"] ["numbers"] (aG VR):=aN
def aLc:aL ["poly","k"] ["poly","k"] (aG Uj):=aN
def N5:aL ["by","one","other","total","i","k"] ["by","one","other"] (aG YF):=aN
def B5:aL ["by","one","other","top","often","left","shift","factor","k"] ["by","one","other"] (aG cq):=aN
def WO:aL ["prime","poly","last"] ["prime","poly"] (aG rh):=aN
def DK:aL ["by","one","other","great","small","left"] ["by","one","other"] (aG Wv):=aN
def qc:aL ["by","rule","length","numbers"] ["by","rule"] (aG qv):=aN
def xk:aL ["by","poly","length"] ["by","poly"] (aG km):=aN
def aS3:aL ["by","poly","found","n"] ["by","poly","found","n"] (aG ax):=aN
def WX:aL ["number","found"] ["number"] (aG eu):=aN
def aAb:aL ["monic_one","poly"] ["monic_one","poly"] (aG gu):=aN
def azf:aL ["prime","poly"] ["prime","poly"] (aG Zc):=aN
def P1:aL ["modulus","number","rest"] ["modulus","number"] (aG VF):=aN
def Ap:aL ["modulus","number","prime","rest","more"] ["modulus","number","prime","rest"] (aG fT):=aN
def pG:aL ["one","other","told","modulus","prime","ripe","seen","before"] ["one","other"] (aG oP):=aN
def aAQ:aL ["by","one","other"] ["by","one","other"] (aG gX):=aN
def Eb:aL ["row","poly","by","starts","top","k","parts"] ["row","poly"] (aG rf):=aN
def Tf:aL ["row","by","poly","top"] ["row"] (aG Ul):=aN
def dc:aL ["row","least","rule"] ["row"] (aG dC):=aN
def JB:aL ["one","other","count","ours","theirs","n"] ["one","other"] (aG oj):=aN
def aNt:aL ["start","step"] ["start","step"] (aG fS):=aN
def aE:aL ["by","rule","starts","rule_taken","starts_taken"] ["by","rule","starts"] (aG ai):=aN
def aL4:aL ["row","number"] ["row","number"] (aG Wg):=aN
def aPu:aL ["by","line"] ["by","line"] (aG XU):=aN
def DD:aL ["lines","begin","column","i"] ["lines","begin","column"] (aG Zo):=aN
def UE:aL ["by","lines","at","top","down"] ["by","lines","at","top"] (aG c8):=aN
def QG:aL ["by","line","head","column","last","pivot","factor","mixed","share"] ["by","line","head","column","last"] (aG Xl):=aN
def zp:aL ["by","wide","lines","heads","last","column","top","at","i"] ["by","wide","lines"] (aG Zd):=aN
def Fp:aL ["one","other","great","small","left"] ["one","other"] (aG Zu):=aN
def GP:aL ["by","bottom","tops","top","divisor"] ["by","bottom","tops"] (aG XR):=aN
def yJ:aL ["by","wide","table","wished","lines","i","cleared","heads","last","tops","low"] ["by","wide","table","wished"] (aG dy):=aN
def xE:aL ["by","wide","table","wished","found"] ["by","wide","table","wished"] (aG W9):=aN
def ar:aL ["row","divisor","rule","starts"] ["row","divisor"] (aG Vd):=aN
def T5:aL ["row","divisor","start"] ["row"] (aG Uw):=aN
def Ra:aL ["row","divisor","start","step","length","rests","k"] ["row","divisor","start","step"] (aG Ub):=aN
def aOU:aL ["by","n"] ["by","n"] (aG uk):=aN
def C5:aL ["by","poly","n","left","figure","doubled"] ["by","poly","n"] (aG WL):=aN
def Rn:aL ["row","n","by","rule","left"] ["row","n"] (aG ik):=aN
def aRv:aL ["row","n"] ["row","n"] (aG Uo):=aN
def KJ:aL ["row","n","by","numbers","near","starts"] ["row","n"] (aG XJ):=aN
def aK4:aL ["poly"] ["poly"] (aG cn):=aN
def Ge:aL ["number","small","great","tried"] ["number"] (aG tx):=aN
def QC:aL ["poly","low","above","below"] ["poly"] (aG UU):=aN
def Bx:aL ["poly","root","often","left","tried"] ["poly","root"] (aG rg):=aN
def CN:aL ["poly","roots","left","root","found"] ["poly"] (aG YH):=aN
def NV:aL ["number","exponent","product","turn"] ["number","exponent"] (aG Xu):=aN
def rj:aL ["roots","n","line","pair"] ["roots","n"] (aG fc):=aN
def Fw:aL ["roots","tops","parts","begin","pair","end"] ["roots","tops"] (aG Yo):=aN
def Eo:aL ["row","found","roots","length","table","answer"] ["row"] (aG fe):=aN
def Td:aL ["prime","length","windows","turn"] ["prime","length"] (aG Z5):=aN
def ag:aL ["row","least"] ["row"] (aG r6):=aN
def Bm:aL ["row","by","rule","window","seen","begin"] ["row"] (aG a7):=aN
def aEr:aL ["row"] ["row"] (aG YV):=aN
def zq:aL ["row","number","least","found","begin","length","numbers","early","starts"] ["row","number"] (aG W5):=aN
def az6:aL [] [] (aG Z6):=aN
def aID:aL ["number"] ["number"] (aG a9):=aN
def w8:aL ["row","words"] ["row"] (aG iF):=aN
def KI:aL ["word","figures"] ["word"] (aG oS):=aN
def aLj:aL ["word"] ["word"] (aG Vu):=aN
def DO:aL ["word","prime"] ["word"] (aG Wj):=aN
def O2:aL ["rule_words","start_words","by","rule","starts","row"] ["rule_words","start_words","by"] (aG X6):=aN
def Ke:aL ["text","words","bar","behind","end"] ["text"] (aG uA):=aN
def BC:aL ["text","words"] ["text"] (aG ZP):=aN
def il:aL ["words","kinds","count"] ["words"] (aG nI):=aN
def aGd:aL ["word"] ["word"] (aG Ys):=aN
def NY:aL ["kept","word","name"] ["kept","word"] (aG bE):=aN
def aOW:aL ["kept","kind","word"] ["kept","kind","word"] (aG nE):=aN
def aI6:aL ["said"] ["said"] (aG W6):=aN
def aKN:aL ["said"] ["said"] (aG ui):=aN
def aAD:aL ["said"] ["said"] (aG VG):=aN
def aBN:aL ["numbers"] ["numbers"] (aG az):=aN
def aA2:aL ["said"] ["said"] (aG Z0):=aN
def aO8:aL ["said"] ["said"] (aG UC):=aN
def aPK:aL ["said"] ["said"] (aG XD):=aN
def af:aL ["said","place"] ["said"] (aG iL):=aN
def aEd:aL ["said"] ["said"] (aG vt):=aN
def ZQ:aL ["said","found","words"] ["said"] (aG gv):=aN
def ae:aL ["said","form","parts"] ["said"] (aG XI):=aN
def aO2:aL ["said"] ["said"] (aG pb):=aN
def bp:aL ["said","k"] ["said"] (aG Vy):=aN
def aE6:aL ["self"] ["self"] (aG VZ):=aN
def QF:aL ["self","row","words","kinds","said"] ["self","row"] (aG se):=aN
def aTz:aL ["_law_script","_law_k"] ["_law_script","_law_k"] (aG qo):=aN
def rD:aL ["_law_cell","_law_turn","_law_signs","_law_size","_law_spots","_law_k","_law_word_here","_law_at","_law_found","_law_sign"] ["_law_cell","_law_turn"] (aG WZ):=aN
def aAj:aL ["_law_cell","_law_k"] ["_law_cell","_law_k"] (aG ZD):=aN
def ze:aL ["_law_number_here","_law_other"] ["_law_number_here"] (aG oy):=aN
def HR:aL ["_law_by_here","_law_number_here","_law_kind"] ["_law_by_here","_law_number_here"] (aG iN):=aN
def Ih:aL ["_law_by_here","_law_cell","_law_many","_law_found","_law_number_here","_law_k"] ["_law_by_here","_law_cell","_law_many"] (aG X5):=aN
def Cr:aL ["_law_by_here","_law_cell","_law_most","_law_many","_law_rule","_law_starts"] ["_law_by_here","_law_cell","_law_most"] (aG Xr):=aN
def aw8:aL ["_law_by_here","_law_number_here"] ["_law_by_here","_law_number_here"] (aG jv):=aN
def GZ:aL ["_law_e","_law_some","_law_words"] ["_law_e"] (aG Y7):=aN
def JR:aL ["_law_desk","_law_text_here","_law_found","_law_word_here","_law_e"] ["_law_desk","_law_text_here"] (aG Zy):=aN
def aQE:aL ["_law_numbers_here"] ["_law_numbers_here"] (aG ph):=aN
def MJ:aL ["_law_form","_law_found","_law_root","_law_tops"] ["_law_form"] (aG VW):=aN
def Qp:aL ["_law_told_here","_law_found"] ["_law_told_here"] (aG b9):=aN
def Ut:aL ["_law_word_here","_law_one","_law_other","_law_numbers_here","_law_found"] ["_law_word_here","_law_one","_law_other","_law_numbers_here"] (aG Xj):=aN
def Ga:aL ["_law_word_here","_law_one","_law_other","_law_numbers_here","_law_found","_law_refused","_law_e"] ["_law_word_here","_law_one","_law_other","_law_numbers_here"] (aG XC):=aN
def Ss:aL ["_law_number_here","_law_first","_law_start","_law_step"] ["_law_number_here"] (aG Vv):=aN
def DM:aL ["_law_word_here","_law_one","_law_other","_law_numbers_here","_law_tail"] ["_law_word_here","_law_one","_law_other","_law_numbers_here"] (aG dk):=aN
def Ek:aL ["_law_desk","_law_kept","_law_one","_law_number_here","_law_row","_law_way","_law_text_here"] ["_law_desk","_law_kept","_law_one","_law_number_here"] (aG V0):=aN
def mC:aL ["_law_script","_law_names","_law_by_here","_law_desk","_law_kept","_law_j","_law_own","_law_words","_law_number_here","_law_word_here","_law_one","_law_other","_law_numbers_here","_law_great","_law_due_here"] ["_law_script"] (aG BJ):=aN
abbrev aJZ:=ψ "part" ["is_number"] ["by"]
abbrev aJV:=ψ "number" ["over"] ["last","prime"]
abbrev aB3:=ψ "k" ["taken"] ["by","length","rule"]
abbrev azk:=ψ "k" ["taken"] ["by","length","poly"]
abbrev aR0:=ψ "k" [] ["found","n","poly"]
abbrev aMC:=ψ "number" ["taken"] ["prime"]
abbrev aNe:=ψ "rest" ["nearest"] ["prime"]
abbrev aO5:=ψ "k" ["joined"] ["before","modulus","prime","seen"]
abbrev aSm:=ψ "j" [] ["k","poly","starts"]
abbrev aMv:=ψ "number" ["taken"] ["by"]
abbrev aMJ:=ψ "number" ["taken"] ["by"]
abbrev aBp:=ψ "start" [] ["number"]
abbrev aS7:=ψ "number" ["taken"] ["by"]
abbrev aNn:=ψ "number" ["taken"] ["by"]
abbrev aBB:=ψ "k" [] ["factor","head","line","pivot"]
abbrev aHK:=ψ "number" [] ["last"]
abbrev aRk:=ψ "top" [] ["divisor"]
abbrev aCp:=ψ "i" ["line_taken"] ["by","table","wished"]
abbrev azb:=ψ "line" [] ["wide"]
abbrev aJH:=ψ "number" ["taken"] ["divisor"]
abbrev avP:=ψ "number" ["taken"] ["divisor"]
abbrev aHJ:=ψ "i" ["number_at"] ["left"]
abbrev aCZ:=ψ "m" ["sum_at"] ["by","near","numbers"]
abbrev ayD:=ψ "number" ["abs","ABOVE_ALL_NUMBERS"] []
abbrev aGq:=ψ "number" [] []
abbrev aGm:=ψ "divisor" [] []
abbrev aTB:=ψ "j" ["power"] ["n","pair"]
abbrev aSV:=ψ "pair" [] []
abbrev aQ8:=ψ "pair" [] []
abbrev aFJ:=ψ "n" ["form_line"] ["roots"]
abbrev aP1:=ψ "n" [] ["number","numbers"]
abbrev aTg:=ψ "n" [] ["number","numbers"]
abbrev aQQ:=ψ "number" ["number_shown"] []
abbrev aDA:=ψ "number" ["number_shown"] []
abbrev aLX:=ψ "figure" ["FIGURES"] []
abbrev aBf:=ψ "word" ["read_number"] []
abbrev aNP:=ψ "word" ["read_number"] []
abbrev aTJ:=ψ "sign" ["NAME_SIGNS"] []
abbrev aNC:=ψ "number" ["number_shown"] []
abbrev aTX:=ψ "n" ["number_shown"] []
abbrev aCt:=ψ "n" ["number_shown"] []
abbrev aIF:=ψ "part" ["number_shown","numbers_shown"] []
abbrev aH9:=ψ "k" ["read_word"] ["kinds","self","words"]
abbrev aSN:=ψ "_law_k" [] ["_law_signs"]
abbrev aD8:=ψ "_law_k" [] ["_law_word_here"]
abbrev aQ7:=ψ "_law_number_here" [] []
abbrev aCR:=ψ "_law_number_here" [] []
abbrev aNy:=ψ "_law_number_here" ["_law_rest"] ["_law_by_here"]
abbrev aNF:=cU [(".0",.local),("_law_said",.local),("_law_word_here",.local)]
abbrev aOt:=ψ "_law_number_here" ["str"] []
abbrev ax1:=ψ "_law_number_here" ["str"] []
structure Bt(mg:μ):Prop where
 aA6:mg "ValueError"=ν
 DW:mg "abs"=ν
 XS:mg "all"=ν
 sP:mg "any"=ν
 aTx:mg "bool"=ν
 Bv:mg "int"=ν
 nD:mg "isinstance"=ν
 cJ:mg "len"=ν
 SR:mg "list"=ν
 AS:mg "max"=ν
 aUb:mg "min"=ν
 aUr:mg "pair_place"=ν
 fj:mg "range"=ν
 Kt:mg "reversed"=ν
 nM:mg "str"=ν
 Vh:mg "sum"=ν
 j5:mg "tuple"=ν
 fi:∃t,mg "ABOVE_ALL_BYS"=ι (.int 1000 t)
 U6:∃t,mg "ABOVE_ALL_NUMBERS"=ι (.int 1000000 t)
 pM:∃t,mg "BELOW_THE_PRIMES"=ι (.int 1000000 t)
 ft:∃t,mg "FARTHEST"=ι (.int 300 t)
 ba:∃t,mg "FARTHEST_BY_0"=ι (.int 400 t)
 nh:∃t,mg "FARTHEST_START"=ι (.int 100 t)
 mv:∃t,mg "FIGURES"=ι (.str "0123456789" t)
 mE:∃t,mg "LONGEST"=ι (.int 12 t)
 UQ:∃t,mg "LONGEST_NAME"=ι (.int 8 t)
 VD:∃t,mg "MOST_AHEAD"=ι (.int 12 t)
 Xc:∃t,mg "MOST_FIGURES_READ"=ι (.int 60 t)
 Yd:∃t,mg "MOST_WINDOWS"=ι (.int 4096 t)
 me:∃t,mg "NAME_SIGNS"=ι (.str "abcdefghijklmnopqrstuvwxyz0123456789" t)
 Wz:∃t,mg "WIDEST_STEP"=ι (.int 10 t)
structure Ms(P:Program)(w:World)(K:aD)(mg:μ)(base:Heap)(cC jq iz jg jl jf cF cD cG:Addr):Prop where
 aO7:mg "NoBy"=ι (.ref cC)
 aSU:mg "NoName"=ι (.ref jq)
 aSW:mg "NoNumber"=ι (.ref iz)
 aQF:mg "NoRow"=ι (.ref jg)
 aIl:mg "NoText"=ι (.ref jl)
 xw:mg "RuleError"=ι (.ref jf)
 ayC:mg "TooBig"=ι (.ref cF)
 aNk:mg "TooFar"=ι (.ref cD)
 aSk:mg "TooLong"=ι (.ref cG)
 DB:Ae mg base "NoBy" cC
 aOu:zK base cC jf
 ay1:qt K cC
 nV:bB K (.ref cC) (.ref cC)=ι true
 Z4:bB K (.ref cC) (.ref jq)=ι false
 Yn:bB K (.ref cC) (.ref iz)=ι false
 ja:bB K (.ref cC) (.ref jg)=ι false
 kc:bB K (.ref cC) (.ref jl)=ι false
 qh:bB K (.ref cC) (.ref cF)=ι false
 Vl:bB K (.ref cC) (.ref cD)=ι false
 rS:bB K (.ref cC) (.ref cG)=ι false
 qa:bB K (.ref cC) (.type "ValueError")=ι true
 eK:Ae mg base "NoNumber" iz
 PY:Ae mg base "TooBig" cF
 aEb:zK base cF jf
 azG:qt K cF
 Xn:bB K (.ref cF) (.ref cC)=ι false
 Ud:bB K (.ref cF) (.ref jq)=ι false
 rL:bB K (.ref cF) (.ref iz)=ι false
 Y0:bB K (.ref cF) (.ref jg)=ι false
 YS:bB K (.ref cF) (.ref jl)=ι false
 Yw:bB K (.ref cF) (.ref cF)=ι true
 mi:bB K (.ref cF) (.ref cD)=ι false
 sF:bB K (.ref cF) (.ref cG)=ι false
 u7:bB K (.ref cF) (.type "ValueError")=ι true
 Ay:Ae mg base "TooFar" cD
 aS2:zK base cD jf
 aNv:qt K cD
 kG:bB K (.ref cD) (.ref cC)=ι false
 Wm:bB K (.ref cD) (.ref jq)=ι false
 dQ:bB K (.ref cD) (.ref iz)=ι false
 eQ:bB K (.ref cD) (.ref jg)=ι false
 V5:bB K (.ref cD) (.ref jl)=ι false
 Wx:bB K (.ref cD) (.ref cF)=ι false
 uC:bB K (.ref cD) (.ref cD)=ι true
 i7:bB K (.ref cD) (.ref cG)=ι false
 rp:bB K (.ref cD) (.type "ValueError")=ι true
 R7:Ae mg base "TooLong" cG
 azs:zK base cG jf
 avq:qt K cG
 kH:bB K (.ref cG) (.ref cC)=ι false
 nN:bB K (.ref cG) (.ref jq)=ι false
 gN:bB K (.ref cG) (.ref iz)=ι false
 Yb:bB K (.ref cG) (.ref jg)=ι false
 mh:bB K (.ref cG) (.ref jl)=ι false
 fg:bB K (.ref cG) (.ref cF)=ι false
 X3:bB K (.ref cG) (.ref cD)=ι false
 vj:bB K (.ref cG) (.ref cG)=ι true
 Xi:bB K (.ref cG) (.type "ValueError")=ι true
abbrev aQ{P:Program}{w:World}{K:aD}{mg:μ}{base:Heap}{cC jq iz jg jl jf cF cD cG:Addr}(M:Ms P w K mg base cC jq iz jg jl jf cF cD cG)(x:Str)(k:Nat)(ps:List Str)(sp:Sp):=rM P w K mg base x k ps sp
abbrev awp{P:Program}{w:World}{K:aD}{mg:μ}{base:Heap}{cC jq iz jg jl jf cF cD cG:Addr}(M:Ms P w K mg base cC jq iz jg jl jf cF cD cG)(x:Str)(k:Nat)(ps:List Str)(sp:Sp):=mT P w K mg base x k ps sp
abbrev zR:List (Str×List Str):=[("row",["NEW","TEXT"]),("short",["NEW","A"]),("add",["NEW","A","A"]),("multiply",["NEW","A","A"]),("roll",["NEW","A","A"]),("scale",["NEW","A","NUMBER"]),("sum",["NEW","A"]),("every",["NEW","A","NUMBER","NUMBER"]),("ahead",["NEW","A","NUMBER"]),("on",["NEW","A","NUMBER"]),("rest",["NEW","A","BY"]),("drop",["A"]),("show",["A"]),("places",["A","NUMBER"]),("at",["A","NUMBER"]),("part",["A","A"]),("round",["A"]),("where",["A","NUMBER"]),("closed",["A"]),("divisor",["A"]),("divides",["A","NUMBER","NUMBER","NUMBER"])]
abbrev IH:List Str:=[]
abbrev JG:List (Str×Str):=[("row","make_row"),("scale","make_scale"),("on","make_on")]
abbrev OF:List Str:=["drop","show","places","at","part","round","where","closed","divisor","divides"]
abbrev Mg:List (Str×Str):=[("show","tell_show"),("places","tell_places"),("at","tell_at"),("part","tell_part"),("round","tell_round"),("where","tell_where"),("closed","tell_closed"),("divisor","tell_divisor"),("divides","tell_divides")]
abbrev Xf:List Str:=["row","short","add","multiply","roll","scale","sum","every","ahead","on","rest","drop"]
structure Dk(w:World)(K:aD)(mg:μ)(qR pW qx cY:Addr):Prop where
 af3:KD w K mg "FORMS" qR
 aMW:KDT K qR zR
 Co:Pz K qR IH
 Y2:KD w K mg "MAKERS" pW
 Xs:QH K mg pW JG
 NL:Pz K pW OF
 Lv:KD w K mg "TELLERS" qx
 FE:QH K mg qx Mg
 jb:Pz K qx Xf
 Ij:ClM K mg "Desk" cY
 V1:AK K cY "kept"
abbrev Yg:Nat:=24
section
variable {A B C D E F G H I:Type}
inductive Ex2(p:A->B->Prop):Prop|mk(a b)(z:p a b)
inductive sJ(p:A->B->C->Prop):Prop|mk(a b c)(z:p a b c)
inductive WM(p:A->B->C->D->Prop):Prop|mk(a b c d)(z:p a b c d)
inductive Ex5(p:A->B->C->D->E->Prop):Prop|mk(a b c d e)(z:p a b c d e)
inductive Ex6(p:A->B->C->D->E->F->Prop):Prop|mk(a b c d e f)(z:p a b c d e f)
inductive Ex8(p:A->B->C->D->E->F->G->H->Prop):Prop|mk(a b c d e f g h)(z:p a b c d e f g h)
inductive Ex9(p:A->B->C->D->E->F->G->H->I->Prop):Prop|mk(a b c d e f g h i)(z:p a b c d e f g h i)
end
section
variable {r:Rw}{a:Addr}{b x k:Int}{H H1:Hp}{p m n i l s P:Nat}{xs L:ζ}{ix:List (Option Nat)}{te:TE}{σ:St}{Q:VK}{K:aD}
inductive Rh(a b c:Prop):Prop|mk(_:a)(_:b)(_:c)
inductive Dy(a b c d:Prop):Prop|mk(_:a)(_:b)(_:c)(_:d)
inductive B4(a b c d e:Prop):Prop|mk(_:a)(_:b)(_:c)(_:d)(_:e)
inductive An6(a b c d e f:Prop):Prop|mk(_:a)(_:b)(_:c)(_:d)(_:e)(_:f)
inductive Ue(a b c d e f g:Prop):Prop|mk(_:a)(_:b)(_:c)(_:d)(_:e)(_:f)(_:g)
inductive FP(a b c d e f g h:Prop):Prop|mk(_:a)(_:b)(_:c)(_:d)(_:e)(_:f)(_:g)(_:h)
inductive An9(a b c d e f g h i:Prop):Prop|mk(_:a)(_:b)(_:c)(_:d)(_:e)(_:f)(_:g)(_:h)(_:i)
inductive DZ(a b c d e f g h i j:Prop):Prop|mk(_:a)(_:b)(_:c)(_:d)(_:e)(_:f)(_:g)(_:h)(_:i)(_:j)
inductive DT(a b c d e f g h i j k:Prop):Prop|mk(_:a)(_:b)(_:c)(_:d)(_:e)(_:f)(_:g)(_:h)(_:i)(_:j)(_:k)
def au(i:Nat){x:Str}{te:TE}(hN:X.N.Nodup)(he:PE X e te)(hi:X.N[i]?=ι x:=by rfl)(hx:Loc X.env.scope x:=by exact jj rfl)(hs:swapsWith e (ι (.Name x pos')) pos.line X.env=pure false:=by rfl)
  (hf:X.fn x=true∨X.env.scope.names.lookup x=ι .local:=by trivial):PS X (.Assign [.Name x pos'] e pos) (Ey te (gU i)):=iw hN hi hx he hs hf
def bH(i:Nat){x:Str}(hN:X.N.Nodup)(hi:X.N[i]?=ι x:=by rfl)(hx:Loc X.env.scope x:=by exact jj rfl)(hf:X.fn x=true∨X.env.scope.names.lookup x=ι .local:=by trivial):PG X (.Name x pos) (gU i):=YD hN hi hx hf
def aK(K:aD){a b:Expr}(ha:PE X a ta)(hb:PE X b tb)(hK:X.K=K:=by rfl)(hs:ND b:=by exactλ_ _=>rfl):PE X (.Subscript a b pos) (u9 (OJ K) ta tb):=aG1 (xix K hK) ha hb hs
def pad(K:aD){a b:Expr}(ha:PE X a ta)(hb:PE X b tb)(hK:X.K=K:=by rfl):PE X (.BinOp a .Add b pos) (u9 (Dw K) ta tb):=lZ (aPJ K hK) ha hb
def cL(K:aD)(hm:X.mg "len"=ν){p:Pos}(ha:PA X (e::es) t)(hg:Gl X "len" := by rfl)(hK:X.K=K:=by rfl)
  (he:starEach (e::es) X.env=(false,eval e X.env)::starEach es X.env:=by rfl)(hpl:(backTo pos (starEach es X.env)).any (·.1)=false:=by rfl):PE X (.Call (.Name "len" p) (e::es) [] pos) (SN (dA K) t):=
 eX (aRB K hK) hg hm boot_len ha ∅ ∅ he hpl
def BQ{r:R2}{a b:Expr}(ho:cQ X (compareOp op) r)(ha:PE X a ta)(hb:PE X b tb)(hm:behindInMarks op b=false:=by exact pq _):PT X (.Compare a [op] [b] pos) (CZ (u9 r ta tb)):=AE ho ha hb hm
def nw(h:H D=ν)(o:HO):∃H',upd H D o=H'/\Same H H'/\H' D=ι o:={(),Same.new h o,aq}
def aC{x:Str}{k:Nat}{p:Pos}(C:rM X.prog X.w X.K X.mg X.base x k ps sp)(hr:cX k' X.A)(ha:PA X (e::es) t)(hg:Gl X x:=by rfl)
  (hk:k<=k':=by decide)(hd:(x==("__debug__":Str))=false:=by decide)
  (he:starEach (e::es) X.env=(false,eval e X.env)::starEach es X.env:=by rfl)(hpl:(backTo pos (starEach es X.env)).any (·.1)=false:=by rfl):PE X (.Call (.Name x p) (e::es) [] pos) (Ep sp [] E0 t):=aEh C hr hg ha hk hd he hpl
def bG(n:Nat)(h:n<=10000:=by decide):n<=sizeLine:=cM h ∅
abbrev MM:Int:=2147483647
def cellAt(ns:ζ)(k:Int):Int:=if k<(ns.length:Int)then ns.getD k.toNat 0 else 0
def qu(c k:Int):Int:=(c%MM+1)*(48271+7*k)%MM
def YT(c k:Int):0<=qu c k:=rK _ ∅
def nk(c k:Int):qu c k<MM:=qT _ ∅
def gY(a:Int){b:Int}(h:0<b):0<=a%b:=rK _ ⋯
def iG(a:Int){b:Int}(h:0<b):a%b<b:=qT _ h
def dH{ns:ζ}(h0:0<=k)(h1:k<(ns.length:Int)):je (ns.map V.int) k=ι (.int (ns.getD k.toNat 0)):=by
 have e:k=((k.toNat:Nat):Int):=⋯;have hk:k.toNat<ns.length:=⋯
 conv=>lhs;rw[e]
 exact nZ (by rw[List.getElem?_map,List.getElem?_eq_getElem hk,List.getD_eq_getElem?_getD,List.getElem?_eq_getElem hk]<;>rfl)
def tW{xs:List α}(j:Nat)(e:k=(j:Int))(h:xs[j]?=ι v):je xs k=ι v:=by rw[e];exact nZ h
def dec_true{p:Prop}[Decidable p](c:decide p=true):p:=of_decide_eq_true c
def dec_false{p:Prop}[Decidable p](c:¬decide p=true):¬p:=of_decide_eq_false (SJ.mpr c)
def SX:ζ:=[11,13,17,101,499,503,941,991]
def byM(x:Int):ζ:=[0,2,0,3,5,0,7,31,x,997]
def Y6(n:Int):Int:=(byM (SX.getD (n/10%8).toNat 0)).getD (n%10).toNat 0
def bys:ζ:=[0,2,3,5,7,31,11,13,17,101,499,503,941,991,997]
def aQX:∀k<10,∀j<8,(byM (SX.getD j 0)).getD k 0∈bys:=∅
def awM(n:Int):Y6 n∈bys:=aQX _ (by have:=iG n (∅:(0:Int)<10);have:=gY n (∅:(0:Int)<10);lia) _ (by have:=iG (n/10) (∅:(0:Int)<8);have:=gY (n/10) (∅:(0:Int)<8);lia)
def oJ(b n:Int):Int:=if b>0 then n%b else if n%8<2 then 0 else if n%8<5 then n/8%5-2 else if n%8<7 then n/8%41-20 else(n/8)^3%10^20*(1-2*(n/16%2))
def jU(b x:Int):Prop:=b=0∨(0<=x/\x<b)
def aCl(hb:0<=b)(n:Int):jU b (oJ b n):=by
 unfold jU oJ;by_cases h:b>0
 .rw[if_pos h];exact .inr {gY n h,iG n h}
 .exact .inl ⋯
def yW(c:Int):Nat->Int
 |0=>c
 |k+1=>yW c k*48271%MM
def TB(h0:0<=c)(h1:c<MM):∀k,0<=yW c k/\yW c k<MM
 |0=>{h0,(h1)}
 |_+1=>{rK _ ∅,qT _ ∅}
def rY(b c:Int):Nat->ζ
 |0=>[]
 |k+1=>rY b c k++[oJ b (yW c (k+1))]
theorem Pr(b c:Int):∀k,(rY b c k).length=k
 |0=>rfl
 |k+1=>by simp[rY,Pr b c k]
theorem Uz{b:Int}(hb:0<=b)(c:Int):∀k,∀x∈rY b c k,jU b x
 |0=>λx h=>by cases h
 |k+1=>λx h=>by
  rcases ig.mp h with h|h
  .exact Uz hb c k x h
  .rw[eN.mp h];exact aCl hb _
structure Rw where
 b:Int
 ρ:ζ
 ς:ζ
structure lK(r:Rw):Prop where
 len:r.ρ.length=r.ς.length
 short:r.ρ.length<=24
 jP:0<=r.b
 qZ:r.b<1000
 sH:∀x∈r.ρ,jU r.b x
 tZ:∀x∈r.ς,jU r.b x
 kY:∀x∈r.ρ,Bd 29000 x
 jQ:∀x∈r.ς,Bd 52300 x
def Rw.row(r:Rw)(n:Nat):ζ:=Rm.row r.b r.ρ r.ς n
def Rw.at(r:Rw)(n:Nat):Int:=Rm.at_ r.b r.ρ r.ς n
def lK.bd(h:lK r)(n:Nat)(hn:n<=1000):Bd 61000000 (r.at n):=by
 have q:=Rm.PK (b:=r.b) (ρ:=r.ρ) (ς:=r.ς) (a:=29000) (c:=52300) h.len h.jP ((Bd.of (n:=10) (by have:=h.jP;lia) (by have:=h.qZ;lia)).mono ∅) h.kY h.jQ n;refine q.mono ?_;have h1:=h.short;have h2:n*(29000+r.ρ.length)<=1000*29024:=vq hn ⋯;lia
def lK.LG(h:lK r)(n:Nat)(hn:n<=1000):∀x∈r.row n,Bd 61000000 x:=by
 intro x hx;have e:r.row n=(gq n).map r.at:=U3 ..;rw[e]at hx;obtain⟨i,hi,rfl⟩:=bO.mp hx;exact h.bd i (by have:=gZ.mp hi;lia)
theorem Rw.m7(r:Rw)(n:Nat):(r.row n).length=n:=Rm.m7 ..
def vp(h:Bd m x)(h':Bd n y)(hn:m+n<=134217728):IntMulOk x y:=
 IntMulOk.of_le (intBits_le_iff.mpr h) (intBits_le_iff.mpr h') hn
def cO(H:Hp)(v:V)(r:Rw):Prop:=
 sJ λa p q=>Dy (v=.ref a) (H a=ι (.tup [.int r.b,.ref p,.ref q])) (H p=ι (.tup (r.ρ.map V.int))) (H q=ι (.tup (r.ς.map V.int)))
def cO.same(h:cO H v r)(g:Same H H'):cO H' v r:=by
 intros a p q e h1 h2 h3 h;exact{a,p,q,e,g _ _ h1,g _ _ h2,g _ _ h3}
def aT(xs:ζ)(x:Int):(xs++[x]).map V.int=xs.map V.int++[.int x]:=by rw[fH];rfl
def Told(H:Hp)(Q:VK)(xs:τ):Prop:=∀r H',Same H H'->H r=ν->H' r=ι (.lst xs)->Q (.ref r) H'
inductive sR(K:aD)(vs:τ)(H:Hp)(Q:VK)(E:XK):Prop|mk(a:Addr)(ns:ζ)(_:vs=[.ref a])(_:ak K H a (ns.map V.int))(_:ns.length<=63)(_:(∀x∈ns,vW x<=1048576))(_:∀H',Q (.bl true) H')
def zQ(xs:τ)(k:Nat):fO xs ν (ι (k:Int))=xs.take k:=by
 unfold fO;rw[HT.pH,HT.vC,K4,uT,AY];lia
def wo(xs:τ){k:Nat}(h:k<=xs.length):fO xs (ι (k:Int)) ν=xs.drop k:=by
 unfold fO;rw[HT.pH,HT.vC,Lx h,oA (by rw[xX];lia)]
def Th(xs:τ)(k:Nat):fO xs (ι (k:Int)) ν=xs.drop k:=by
 unfold fO;rw[HT.pH,HT.vC];by_cases h:k<=xs.length
 .rw[Lx h,oA (by rw[xX];lia)]
 .rw[VH ⋯,EY (aZ _),EY ⋯,Zn]
def aN6(xs:τ)(i:Nat):fO xs (ι ((i:Int)+1)) ν=xs.drop (i+1):=Th xs (i+1)
def xH(H:Hp)(Q:VK)(ns:ζ):Prop:=∀p H',Same H H'->H' p=ι (.tup (ns.map V.int))->Q (.ref p) H'
def X2(h:0<n)(hn:n<=xs.length):xs.take n=xs.take (n-1)++[xs.getD (n-1) 0]:=by
 obtain⟨m,rfl⟩:∃m,n=m+1:={n-1,⋯};rw[jY,D8,List.getElem?_eq_getElem ⋯,List.getD_eq_getElem?_getD,List.getElem?_eq_getElem ⋯];rfl
def aRj(h:0<n)(hn:n<=xs.length)(ht:Pm.trim (xs.take n)=Pm.trim xs)(h0:xs.getD (n-1) 0=0):Pm.trim (xs.take (n-1))=Pm.trim xs:=by
 rw[X2 h hn,h0,QI]at ht;exact ht
def BU(hn:n<=xs.length)(ht:Pm.trim (xs.take n)=Pm.trim xs)(h0:n=0∨xs.getD (n-1) 0≠0):xs.take n=Pm.trim xs:=by
 rcases h0 with h0|h0
 .subst h0;rw[<-ht];rfl
 .by_cases hz:n=0
  .subst hz;rw[<-ht];rfl
  .rw[<-ht,X2 ⋯ hn,X4 _ h0]
def BK{j:Nat}{i:Int}(e:i=(j:Int))(h:j<n):vV n i=ι j:=by
 subst e;unfold vV;rw[if_pos ⋯,if_pos ⋯,dB]
def SW(L:ζ)(j:Nat)(x:Int):(L.map V.int).set j (.int x)=(L.set j x).map V.int:=by rw[pE]
def mf(n:Nat):(iy n [V.int 0]).flatten=(bf n λ_=>0).map V.int:=by
 induction n with
 |zero=>rfl
 |succ n ih=>
  rw[U9,fH,<-ih,List.replicate_succ',QR];rfl
def Bb(hz:n<=1000){rest:St}(hst:cst ix σ=ν::rest)(f:Nat->Int)
  (he:∀H' k,Same H1 H'->k<n->∀kk:VK,kk (.int (f k)) H'->te (ι (.int (0+(k:Int)))::rest) H' kk)
  (hQ:∀D,H1 D=ν->Q (.ref D) (upd H1 D (.lst ((bf n f).map V.int)))):jV ix (gU 0) mQ te σ Q (qK 0 n) H1:=by
 refine pI BF (by rw[aB,mq];exact iR (fJ hz)) hst (λ_=>true) (λx=>match x with|.int k=>.int (f k.toNat)|_=>.non) ?_ ?_ ?_
 .intro H2 x g2 hx k hk;exact hk
 .intro H2 x g2 hx _ k hk;obtain⟨j,hj,rfl⟩:=bO.mp hx;have e1:(0+(j:Int)).toNat=j:=⋯;refine he H2 j g2 (gZ.mp hj) k ?_;have hk':k (V.int (f (0+(j:Int)).toNat)) H2:=hk
  rwa [e1]at hk'
 .intro D hD;have el:((((gq n).map λi=>V.int (0+(i:Nat))).filter λ_=>true).map λx=>match x with|.int k=>V.int (f k.toNat)|_=>V.non)=(bf n f).map V.int:=by
   rw[rT.mpr (by simp),dD,bf,dD];refine kW λk _=>?_;show V.int (f (0+(k:Int)).toNat)=V.int (f k);rw[(⋯:(0+(k:Int)).toNat=k)]
  rw[el];exact hQ D hD
def MK(hA:H1 a=ι (.tup (xs.map V.int)))(hz:xs.length<=1000){rest:St}(hst:cst ix σ=ν::rest)(f:Int->Int)
  (he:∀H' x,Same H1 H'->x∈xs->∀kk:VK,kk (.int (f x)) H'->te (ι (.int x)::rest) H' kk)
  (hQ:∀D,H1 D=ν->Q (.ref D) (upd H1 D (.lst ((xs.map f).map V.int)))):jV ix (gU 0) mQ te σ Q (La K a) H1:=by
 refine pI (xG (ao.of hA)) (by rw[aB];exact iR (fJ hz)) hst (λ_=>true) (λx=>match x with|.int k=>.int (f k)|_=>.non) ?_ ?_ ?_
 .intro H2 x g2 hx k hk;exact hk
 .intro H2 x g2 hx _ k hk;obtain⟨y,hy,rfl⟩:=bO.mp hx;exact he H2 y g2 hy k hk
 .intro D hD;have el:(((xs.map V.int).filter λ_=>true).map λx=>match x with|.int k=>V.int (f k)|_=>V.non)=(xs.map f).map V.int:=by
   rw[rT.mpr (by simp),dD,dD];rfl
  rw[el];exact hQ D hD
def Ro(hA:H1 a=ι (.lst (xs.map V.int)))(hz:xs.length<=1000){rest:St}(hst:cst ix σ=ν::rest)(f:Int->Int)
  (he:∀H' x,Same H1 H'->x∈xs->∀kk:VK,kk (.int (f x)) H'->te (ι (.int x)::rest) H' kk)
  (hQ:∀D,H1 D=ν->Q (.ref D) (upd H1 D (.lst ((xs.map f).map V.int)))):jV ix (gU 0) mQ te σ Q (rm K a) H1:=by
 refine pI (ou (ak.of hA)) (by rw[aB];exact iR (fJ hz)) hst (λ_=>true) (λx=>match x with|.int k=>.int (f k)|_=>.non) ?_ ?_ ?_
 .intro H2 x g2 hx k hk;exact hk
 .intro H2 x g2 hx _ k hk;obtain⟨y,hy,rfl⟩:=bO.mp hx;exact he H2 y g2 hy k hk
 .intro D hD;have el:(((xs.map V.int).filter λ_=>true).map λx=>match x with|.int k=>V.int (f k)|_=>V.non)=(xs.map f).map V.int:=by
   rw[rT.mpr (by simp),dD,dD];rfl
  rw[el];exact hQ D hD
def Wl{p:ζ}{x:V}(h:(p.map V.int)[i]?=ι x):x=.int (Pm.co p i)/\i<p.length:=by
 by_cases hi:i<p.length
 .rw[List.getElem?_map,List.getElem?_eq_getElem hi]at h;cases h;refine{?_,hi};show V.int _=V.int (p.getD i 0);rw[List.getD_eq_getElem?_getD,List.getElem?_eq_getElem hi];rfl
 .rw[List.getElem?_eq_none (by rw[aB];lia)]at h;cases h
def zw:∀P∈FW,2<=P/\P<1000:=by decide +kernel
def awh:∀b∈bys,b=0∨(0<=b/\b.toNat∈FW):=by decide +kernel
def ByP(b:Int):Prop:=b=0∨∃P:Nat,P∈FW/\b=(P:Int)
structure nR(b:Int):Prop where
 lo:0<=b
 hi:b<1000
 one:tk b 1=1
 p:ByP b
def wA(hb:0<=b)(x:Int):jU b (tk b x):=by
 by_cases h:b=0
 .exact .inl h
 .rw[oB h];exact .inr {gY _ ⋯,iG _ ⋯}
def Hq(hb:nR b)(hn:10<=n)(h:Bd n x):Bd n (tk b x):=
 yL hb.lo ((Bd.of (n:=10) (by have:=hb.lo;lia) (by have:=hb.hi;lia)).mono hn) h
def R1(h:jU b x):tk b x=x:=by
 rcases h with rfl|⟨h1,h2⟩
 .exact dj x
 .rw[oB ⋯];exact Ti h1 h2
def lK.Yq(ok:lK r)(n:Nat):jU r.b (r.at n):=by
 by_cases h:r.b=0
 .exact .inl h
 .have h0:=ok.jP;refine .inr (GI ok.len ⋯ (λx hx=>?_) n);rcases ok.tZ x hx with z|z
  .exact absurd z h
  .exact z
def lK.aBo(ok:lK r)(n:Nat):tk r.b (r.at n)=r.at n:=R1 (ok.Yq n)
def RO(r:Rw)(n:Nat):r.row n=bf n r.at:=U3 ..
inductive aLJ(vs:τ)(H:Hp)(Q:VK)(E:XK):Prop|mk(z y:Int)(_:vs=[.int z,.int y])(_:0<=z)(_:Q (.int (tk z y)) H)
inductive ay0(K:aD)(vs:τ)(H:Hp)(Q:VK)(E:XK):Prop|mk(b:Int)(r s:Addr)(ρ before:ζ)(_:vs=[.int b,.ref r,.ref s])(_:0<=b)(_:ao K H r (ρ.map V.int))(_:(ak K H s (before.map V.int)∨ao K H s (before.map V.int)))(_:ρ.length<=before.length)(_:ρ.length<=24)(_:before.length<=1000)(_:(∀y∈ρ,Bd 29000 y))(j7:(∀y∈before,Bd 61000000 y))(_:Q (.int (tk b (Rm.S ρ (λz=>before.getD z 0) before.length ρ.length))) H)
inductive aAE(K:aD)(vs:τ)(H:Hp)(Q:VK)(E:XK):Prop|mk(v:V)(r:Rw)(c:Int)(_:vs=[v,.int c])(_:cO H v r)(_:lK r)(_:0<=c)(_:c<=1000)(_:Told H Q ((r.row c.toNat).map V.int))
inductive aL2(vs:τ)(H:Hp)(Q:VK)(E:XK):Prop|mk(y:Nat)(_:vs=[.int y])(_:y<4194304)(_:∀z:Bool,(z=true↔cT y)->Q (.bl z) H)
inductive aPy(vs:τ)(H:Hp)(Q:VK)(E:XK):Prop|mk(n q:Nat)(_:vs=[.int n])(_:cT q)(_:n<q)(_:q<4194304)(_:∀z:Nat,cT z->n<z->z<=q->Q (.int z) H)
inductive aTb(vs:τ)(H:Hp)(Q:VK)(E:XK):Prop|mk(P:Nat)(a:Int)(_:vs=[.int P,.int a])(_:cT P)(_:P<4194304)(_:0<a)(_:a<(P:Int))(_:∀z:Int,0<=z->z<4194304->z%(P:Int)=a^(P-2)%(P:Int)->Q (.int z) H)
def iv0{l:Int}(h:0<=l):(l/2).toNat=l.toNat/2:=⋯
def iv1{l:Int}(h:0<=l):l%2=1↔l.toNat%2=1:=⋯
inductive aQj(vs:τ)(H:Hp)(Q:VK)(E:XK):Prop|mk(P:Nat)(one other:Int)(_:vs=[.int P,.int one,.int other])(_:cT P)(_:P<4194304)(_:0<other)(_:other<(P:Int))(_:Q (.int (one*other^(P-2)%(P:Int))) H)
inductive awW(K:aD)(vs:τ)(H:Hp)(Q:VK)(E:XK):Prop|mk(l:Addr)(z:ζ)(_:vs=[.ref l])(_:ak K H l (z.map V.int))(_:xH H Q (Pm.trim z))
inductive aDV(vs:τ)(H:Hp)(Q:VK)(E:XK):Prop|mk(a:Addr)(z:ζ)(k:Int)(_:vs=[.ref a,.int k])(_:H a=ι (.tup (z.map V.int)))(_:0<=k)(_:Q (.int (Pm.co z k.toNat)) H)
inductive aCL(vs:τ)(H:Hp)(Q:VK)(E:XK):Prop|mk(z:Int)(a c:Addr)(y v:ζ)(_:vs=[.int z,.ref a,.ref c])(_:0<=z)(_:H a=ι (.tup (y.map V.int)))(_:H c=ι (.tup (v.map V.int)))(_:y.length<=400)(_:v.length<=400)(_:(∀u∈y,Bd 4000000 u))(_:(∀u∈v,Bd 4000000 u))(j7:xH H Q (Pm.mul z y v))
def aEB(H:Hp)(Q:VK)(b:Int)(P M:ζ)(W:Nat):Prop:=∀t x y q r H',Same H H'->H' t=ι (.tup [.ref x,.ref y])->H' x=ι (.tup (jc V.int q))->H' y=ι (.tup (jc V.int r))->Pm.Div b P M q r->
 (∀z∈r,Bd W z)->Q (.ref t) H'
inductive MT(vs:τ)(H:Hp)(Q:VK)(E:XK):Prop|mk(b:Int)(a c:Addr)(z M:ζ)(u v:Nat)(_:vs=[.int b,.ref a,.ref c])(_:0<=b)(_:b<4194304)(_:H a=ι (.tup (z.map V.int)))(_:H c=ι (.tup (M.map V.int)))(_:z.length<=40)(_:M.length<=40)(_:Pm.Mon M)(j7:(∀y,tk b (Pm.co z y)=Pm.co z y))(_:(∀t∈z,Bd u t))(_:(∀t∈M,Bd v t))(_:22<=u)(aT9:u+40*(v+1)<=120000000)(_:aEB H Q b z M (u+40*(v+1)))
def aO0(h:∀k,Bd u (Pm.co L k)):∀x∈Pm.trim L,Bd u x:=λx hx=>by
 obtain⟨k,hk,e⟩:=ug.mp hx;rw[<-e,<-qN hk,uy];exact h k
def max_zero(m n:Nat):(if(m:Int)-((n:Int)-1)>0 then(m:Int)-((n:Int)-1)else 0).toNat=m-(n-1)∨n=0:=by
 by_cases h:n=0
 .exact .inr h
 .left;split<;>lia
def dq0(hn:p-(m-1)=n)(es:n-(i+1)=s)(hi:i<n)(hl:l=p)(hm:0<m):s+m<=l:=⋯
def dq3(hn:p-(m-1)=n)(es:n-(i+1)=s)(hi:i<n)(hl:l=p-(m-1)):s<l:=⋯
def dq4(es:n-(i+1)=s)(hi:i<n):(n:Int)-1-(i:Int)=(s:Int):=⋯
def dq1(h:0<m)(hl:s+m<=l):((s:Int)+((m:Int)-1)).toNat=s+(m-1)/\0<=(s:Int)+((m:Int)-1)/\(s:Int)+((m:Int)-1)<(l:Int):=⋯
def dq2{t:Nat}(h:t<m)(hl:s+m<=l):((s:Int)+(0+(t:Int))).toNat=s+t/\0<=(s:Int)+(0+(t:Int))/\(s:Int)+(0+(t:Int))<(l:Int)/\0<=0+(t:Int)/\0+(t:Int)<(m:Int)/\s+t<l/\(0+(t:Int)).toNat=t/\(s:Int)+(0+(t:Int))=((s+t:Nat):Int):=⋯
def aCT(H:Hp)(Q:VK)(b:Int)(p:ζ):Prop:=∀t m H',Same H H'->H' t=ι (.tup (jc V.int m))->zH b p m->Q (.ref t) H'
inductive aAU(vs:τ)(H:Hp)(Q:VK)(E:XK):Prop|mk(P:Nat)(a:Addr)(p:ζ)(_:vs=[.int P,.ref a])(_:cT P)(_:P<4194304)(_:H a=ι (.tup (p.map V.int)))(_:p.length<=300)(_:Py P p)(_:aCT H Q P p)
def ayQ(H:Hp)(Q:VK)(b:Int)(p r:ζ):Prop:=∀t g H',Same H H'->H' t=ι (.tup (jc V.int g))->Pm.Gcd b p r g->g.length<=max p.length r.length->Q (.ref t) H'
inductive aSz(vs:τ)(H:Hp)(Q:VK)(E:XK):Prop|mk(P:Nat)(a c:Addr)(p r:ζ)(_:vs=[.int P,.ref a,.ref c])(_:cT P)(_:P<4194304)(_:H a=ι (.tup (p.map V.int)))(_:H c=ι (.tup (r.map V.int)))(_:p.length<=40)(_:r.length<=40)(_:Py P p)(j7:Py P r)(_:(r=[]->p≠[]))(_:ayQ H Q P p r)
def Hb(h0:2<=P)(h:P<4194304){p:ζ}(hp:Py P p):∀x∈p,Bd 22 x:=λx hx=>by
 have:=hp.nu x hx;rw[oB ⋯]at this;rw[<-this];exact Bd.emod ⋯ ((Bd.of (n:=22) ⋯ ⋯).mono ∅)
inductive aDj(vs:τ)(H:Hp)(Q:VK)(E:XK):Prop|mk(M z:Int)(_:vs=[.int M,.int z])(_:0<M)(_:Q (.int (Pm.nr M z)) H)
inductive azg(vs:τ)(H:Hp)(Q:VK)(E:XK):Prop|mk(M t:Int)(z:Nat)(y:Int)(_:vs=[.int M,.int t,.int z,.int y])(_:cT z)(_:z<4194304)(_:0<M)(_:¬(z:Int)∣M)(_:Q (.int (Pm.jn M t z y)) H)
inductive aNm(vs:τ)(H:Hp)(Q:VK)(E:XK):Prop|mk(z:Nat)(a:Addr)(P:ζ)(_:vs=[.int z,.ref a])(_:0<z)(_:H a=ι (.tup (P.map V.int)))(_:P.length<=100)(_:xH H Q (Pm.trim (P.map (tk z))))
inductive ay2(vs:τ)(H:Hp)(Q:VK)(E:XK):Prop|mk(m a:Addr)(M z:ζ)(_:vs=[.ref m,.ref a])(_:H m=ι (.tup (M.map V.int)))(_:H a=ι (.tup (z.map V.int)))(_:M.length<=40)(_:z.length<=40)(_:Pm.Mon M)(_:(∀v∈M,Bd 2640000 v))(_:(∀v∈z,Bd 2700000 v))(j7:∀y H',Same H H'->(y=true↔Pm.Dv 0 M (Pm.co z))->Q (.bl y) H')
inductive aPv(vs:τ)(H:Hp)(Q:VK)(E:XK):Prop|mk(a c:Addr)(P t:ζ)(_:vs=[.ref a,.ref c])(_:H a=ι (.tup (P.map V.int)))(_:H c=ι (.tup (t.map V.int)))(_:Pm.Mon P)(_:P.length<=13)(_:t.length<P.length)(_:(∀z∈P,Bd 81400 z))(_:(∀z∈t,Bd 81400 z))(j7:∀g,Pm.Gc 0 P t g->xH H Q g)
def Xd(p:Nat)(P:ζ)(k:Nat):tk (p:Int) (Pm.co (Pm.trim (P.map (tk p))) k)=tk p (Pm.co P k):=by
 rw[uy,C7 (tk0 _),rE]
def yk(p:Nat)(P:ζ):Py p (Pm.trim (P.map (tk p))):=Py.of λx hx=>by
 obtain⟨y,_,rfl⟩:=bO.mp hx;exact rE ..
def HP(p:Nat)(P:ζ):(Pm.trim (P.map (tk p))).length<=P.length:=by
 have:=BR (P.map (tk p))
 rwa [aB]at this
def ayP(hp:cT p){P:ζ}(hP:Pm.Mon P):Pm.trim (P.map (tk p))≠[]:=λz=>by
 have:=Xd p P (P.length-1);rw[z,gw,hP.one,Pm.Ql hp,tk0]at this;exact absurd this ∅
def aEX{P:ζ}(I:nK P g N told M prime ripe bad good)(bP:∀x∈P,Bd 2640000 x)(h:bad+good<=119900):∀x∈told,Bd 2640000 x:=λx hx=>by
 by_cases c:M=1
 .rw[I.first c]at hx;exact bP x hx
 .obtain⟨k,hk,e⟩:=ug.mp hx;have n:=I.near c k;rw[qN hk,e]at n;unfold Nr at n;have h1:=I.hi;have h2:(2:Int)^(22*(bad+good))<=2^2637800:=by exact_mod_cast ql (n:=2) ∅ (⋯:22*(bad+good)<=2637800)
  have h3:M<=2^2637800:=VE h1 h2;have hpos:=I.pos;refine(show Bd 2637800 x from ?_).mono ∅;generalize hB:(2:Int)^2637800=B at h3;have h4:-B<x/\x<B:=⋯;unfold Bd;have h5:(x.natAbs:Int)<((2^2637800:Nat):Int):=by
   rw[OA];show(x.natAbs:Int)<(2:Int)^2637800;rw[hB];lia
  exact_mod_cast h5
def zo(H:Hp)(a c:Addr)(P' g:ζ)(N:Int)(m:Nat)(σ':St)(H':Hp):Prop:=Ex9 λ(o6 o7:Option V)(tt:Addr)(told:ζ)(M:Int)(prime:Nat)(ripe:Bool)(bad good:Nat)=>FP (m=120000-(bad+good)) (σ'=[ι (.ref a),ι (.ref c),ι (.ref tt),ι (.int M),ι (.int (prime:Int)),ι (.bl ripe),o6,o7]) (Same H H') (H' tt=ι (.tup (told.map V.int))) (nK P' g N told M prime ripe bad good) (Many (120000-(bad+good)) prime) (1000000<=prime) (bad+good<=119900)
inductive aPt(vs:τ)(H:Hp)(Q:VK)(E:XK):Prop|mk(z:Int)(a:Addr)(c:ζ)(_:vs=[.int z,.ref a])(_:0<=z)(_:H a=ι (.tup (c.map V.int)))(_:c.length<=100)(_:xH H Q (Pm.bZ z c))
inductive aCb(vs:τ)(H:Hp)(Q:VK)(E:XK):Prop|mk(z:Int)(a:Addr)(y:ζ)(_:vs=[.int z,.ref a])(_:0<=z)(_:H a=ι (.tup (y.map V.int)))(_:0<y.length)(_:y.length<=100)(_:xH H Q (oY z y))
def aIV{lo:Int}(hz:n<=1000){rest:St}(hst:cst ix σ=ν::rest)(f:Nat->Int)
  (he:∀H' k,Same H1 H'->k<n->∀kk:VK,kk (.int (f k)) H'->te (ι (.int (lo+(k:Int)))::rest) H' kk)
  (hQ:∀D,H1 D=ν->Q (.ref D) (upd H1 D (.lst ((bf n f).map V.int)))):jV ix (gU 0) mQ te σ Q (qK lo n) H1:=by
 refine pI BF (by rw[aB,mq];exact iR (fJ hz)) hst (λ_=>true) (λx=>match x with|.int k=>.int (f (k-lo).toNat)|_=>.non) ?_ ?_ ?_
 .intro H2 x g2 hx k hk;exact hk
 .intro H2 x g2 hx _ k hk;obtain⟨j,hj,rfl⟩:=bO.mp hx;have e1:(lo+(j:Int)-lo).toNat=j:=⋯;refine he H2 j g2 (gZ.mp hj) k ?_;have hk':k (V.int (f (lo+(j:Int)-lo).toNat)) H2:=hk
  rwa [e1]at hk'
 .intro D hD;have el:((((gq n).map λi=>V.int (lo+(i:Nat))).filter λ_=>true).map λx=>match x with|.int k=>V.int (f (k-lo).toNat)|_=>V.non)=(bf n f).map V.int:=by
   rw[rT.mpr (by simp),dD,bf,dD];refine kW λk _=>?_;show V.int (f (lo+(k:Int)-lo).toNat)=V.int (f k);rw[(⋯:(lo+(k:Int)-lo).toNat=k)]
  rw[el];exact hQ D hD
def axY:(FW.all λp=>(gq 32).all λd=>decide (d<2)||decide (p<d*d)||decide (p%d≠0))=true:=by decide +kernel
def P5(h:P∈FW):cT P:=by
 have hr:=zw P h;refine ub hr.1 λd hd hdd hdv=>?_;have h32:d<32:=by
  by_cases c:d<32
  .exact c
  .have:32*32<=d*d:=vq ⋯ ⋯;lia
 have:=mY.mp (mY.mp axY P h) d (gZ.mpr h32);simp only[Cj,decide_eq_true_eq]at this;have:=Nat.mod_eq_zero_of_dvd hdv;lia
def Ez(r:Rw):ζ:=Pm.trim (bf r.ρ.length λk=>tk r.b (Pm.tp (Pm.bZ r.b r.ρ) r.at k))
def ay8(r:Rw):(Ez r).length<=r.ρ.length:=by
 have:=BR (bf r.ρ.length λk=>tk r.b (Pm.tp (Pm.bZ r.b r.ρ) r.at k))
 rwa [dF]at this
def lK.U7(ok:lK r):∀x∈Pm.bZ r.b r.ρ,Bd 29000 x:=AR ok.jP ok.qZ ∅ ok.kY
def aJo(ok:lK r):∀x∈Ez r,Bd 81400 x:=λx hx=>by
 obtain⟨k,_,rfl⟩:=oV (Xg hx);refine yL ok.jP ((Bd.of (n:=10) (by have:=ok.jP;lia) (by have:=ok.qZ;lia)).mono ∅) ?_;have hs:=ok.short;have hl:=ok.len;unfold Pm.tp;rw[nG,jY];refine(Gn (c:=81300) _ λi hi=>?_).mono ⋯;refine(Bd.mul (m:=29000) (n:=52300) (nY ok.U7 _) ?_).mono ⋯;have e:r.at i=r.ς.getD i 0:=Bo ⋯;rw[e];exact Bd.getD ok.jQ _
inductive aTH(vs:τ)(H:Hp)(Q:VK)(E:XK):Prop|mk(v:V)(z:Rw)(a:Addr)(_:vs=[v,.ref a])(_:cO H v z)(_:lK z)(_:H a=ι (.tup ((Pm.bZ z.b z.ρ).map V.int)))(_:xH H Q (Ez z))
def iE(h:Pm.Mon L)(hn:∀k,tk b (Pm.co L k)=Pm.co L k):Py b L:={B1 (λz=>by have:=h.pos;rw[z]at this;exact absurd this ∅) (by rw[h.one];decide),λx hx=>by
 obtain⟨k,hk,e⟩:=ug.mp hx;have:=hn k
 rwa [qN hk,e]at this}
def axu(b:Int)(c:ζ)(h1:tk b 1=1)(k:Nat):tk b (Pm.co (Pm.bZ b c) k)=Pm.co (Pm.bZ b c) k:=by
 have h:∀x∈Pm.bZ b c,tk b x=x:=λx hx=>by
  rcases ig.mp hx with hx|hx
  .obtain⟨j,_,e⟩:=oV hx;rw[e,rE]
  .rw[eN.mp hx,h1]
 by_cases hk:k<(Pm.bZ b c).length
 .exact h _ (Bf hk)
 .rw[bY ⋯,tk0]
structure Fq(r:Rw):Prop where
 ok:lK r
 hB:nR r.b
 wM:r.ρ.length<=12
inductive aTc(vs:τ)(H:Hp)(Q:VK)(E:XK):Prop|mk(b:Int)(a c:Addr)(P t:ζ)(_:vs=[.int b,.ref a,.ref c])(_:H a=ι (.tup (P.map V.int)))(_:H c=ι (.tup (t.map V.int)))(_:ByP b)(_:Pm.Mon P)(_:P.length<=13)(_:t.length<P.length)(_:(∀z∈P,Bd 81400 z))(j7:(∀z∈t,Bd 81400 z))(_:Py b P)(_:Py b t)(_:∀g,Pm.Gc b P t g->xH H Q g)
def aOS(hB:nR b){P L:ζ}(hP:P.length<=13)(hg:Pm.Mon g)(nL:∀k,tk b (Pm.co L k)=Pm.co L k)(e:∀k,tk b (Pm.co P k)=tk b (cv (Pm.co g) (Pm.co L) k))(hl:g.length+L.length=P.length+1)(u10:10<=u)(hu:∀k,Bd u (Pm.co P k))(k:Nat):Bd (u+169) (Pm.co L k):=by
 have hp:=hg.pos;by_cases h0:b=0
 .subst h0;exact Hz hg (λk=>by have:=e k;rwa [dj,dj]at this) hP ⋯ ⋯ hu k
 .rw[<-nL k];have:=(wA hB.lo (Pm.co L k)).resolve_left h0;exact(Bd.of (n:=10) ⋯ (by have:=hB.hi;lia)).mono ⋯
def Sh(r:Rw)(L:ζ):Prop:=∃g,Pm.Gc r.b (Pm.bZ r.b r.ρ) (Ez r) g/\Pm.Div r.b (Pm.bZ r.b r.ρ) g L []
theorem Sh.uniq{r:Rw}(hB:nR r.b){L:ζ}(h:Sh r L)(h':Sh r L'):L=L':=by
 intros g G D h;intros g' G' D' h';obtain rfl:=G.uniq hB.one G';exact(D.uniq G.mon D').1
def Wy(hB:nR b){P:ζ}(hP:Pm.Mon P)(G:Pm.Gc b P t g):∃L,Pm.Mon L/\(∀k,tk b (Pm.co L k)=Pm.co L k)/\L.length+g.length=P.length+1/\(∀k,tk b (Pm.co P k)=tk b (cv (Pm.co L) (Pm.co g) k))/\Pm.Div b P g L []:=by
 obtain⟨L,hL,nL,lL,eL⟩:=UR hB.one hP G.mon G.one;exact{L,hL,nL,lL,eL,iE hL nL,Py.nil _,G.mon.pos,λk=>by rw[gw,fK];exact(eL k).symm}
inductive axL(vs:τ)(H:Hp)(Q:VK)(E:XK):Prop|mk(v:V)(r:Rw)(_:vs=[v])(_:cO H v r)(_:Fq r)(_:∀L,Sh r L->xH H Q L)
def Mt(r:Rw)(L:ζ):Rw:={r.b,oY r.b L,r.ς.take (L.length-1)}
end
open Classical in
section
variable {J:It}{xs ρ:ζ}{ix:List (Option Nat)}{te:TE}{σ:St}{H1 H H':Hp}{Q:VK}{n i c:Nat}{E:XK}{b:Int}{r:Rw}{a:Addr}{p:Nat->Bool}
def sh(r:Rw):Rw:=if h:∃L,Sh r L then Mt r h.choose else r
structure xR(r:Rw):Prop where
 by_:(sh r).b=r.b
 len:(sh r).ρ.length=(sh r).ς.length
 le:(sh r).ρ.length<=r.ρ.length
 sH:∀x∈(sh r).ρ,jU r.b x
 tZ:∀x∈(sh r).ς,x∈r.ς
 dv:∃g,Pm.Mon g/\∀k,tk r.b (Pm.co (Pm.bZ r.b r.ρ) k)=tk r.b (cv (Pm.co (Pm.bZ r.b (sh r).ρ)) (Pm.co g) k)
theorem Sh.ok{r:Rw}(o:Fq r)(h:Sh r L):sh r=Mt r L/\0<L.length/\L.length<=r.ρ.length+1/\xR r:=by
 have ex:∃L,Sh r L:={L,(h)};have e:sh r=Mt r L:=by
  unfold sh;rw[dif_pos ex,ex.choose_spec.uniq o.hB h]
 have hm:=zV r.b r.ρ;have lq:(Pm.bZ r.b r.ρ).length=r.ρ.length+1:=nG ..;have wM:=o.wM;have hl:=o.ok.len;intros g G D h;obtain⟨L',hL,nL,lL,eL,D'⟩:=Wy o.hB hm G;obtain⟨rfl,_⟩:=D.uniq G.mon D';have hp:=hL.pos;have gp:=G.mon.pos;exists e,hp,⋯;have lr:(oY r.b L).length=L.length-1:=Tp ..;refine{by rw[e];rfl,?_,?_,?_,?_,?_}<;>rw[e]
 .show(oY r.b L).length=(r.ς.take _).length;rw[lr,m9];lia
 .show(oY r.b L).length<=_;lia
 .intro x hx;obtain⟨k,_,rfl⟩:=oV (show x∈bf _ _ from hx);exact wA o.ok.jP _
 .exactλx hx=>CP hx
 .exact{g,G.mon,by rw[show(Mt r L).ρ=oY r.b L from rfl,DS nL hL];exact eL}
theorem Sh.bZ{r:Rw}(o:Fq r){L:ζ}(h:Sh r L):Pm.bZ r.b (sh r).ρ=L:=by
 obtain⟨g,G,D⟩:=id h;obtain⟨L',hL,nL,_,_,D'⟩:=Wy o.hB (zV r.b r.ρ) G;obtain⟨rfl,_⟩:=D.uniq G.mon D';rw[(h.ok o).1];exact DS nL hL
inductive aGx(vs:τ)(H:Hp)(Q:VK)(E:XK):Prop|mk(v:V)(z:Rw)(_:vs=[v])(_:cO H v z)(_:Fq z)(_:∀v' H',Same H H'->cO H' v' (sh z)->xR z->Q v' H')
def C3{xs:τ}(I:qC J xs H1)(hz:xs.length<=sizeLine){rest:St}(hst:cst ix σ=ν::rest)(F:V->V)
  (he:∀(H':Hp)(x:V),Same H1 H'->x∈xs->∀k:VK,(∀H2,Same H' H2->k (F x) H2)->te (ι x::rest) H' k)
  (hQ:∀D H',H1 D=ν->Same H1 H'->H' D=ι (.lst (xs.map F))->Q (.ref D) H'):
  jV ix (gU 0) mQ te σ Q J H1:=by
 constructor;intro D hD;refine{λi m σ' H'=>m=xs.length-i/\i<=xs.length/\(∃o,σ'=o::rest)/\Same H1 H'/\H' D=ι (.lst ((xs.take i).map F)),{xs.length,by simp,cZ _,{ν,(hst)},Same.new hD _,by rw[aq];rfl},?_};rintro i m σ' H' ⟨rfl,hi,⟨o,rfl⟩,g,hl⟩;by_cases hlt:i<xs.length
 .refine .inr {I.go i _ g hlt,λx H2 y=>?_};obtain⟨rfl,hx⟩:=I.m5 i _ x H2 g y;have hx:=hx hlt;have hm:x∈xs:=List.mem_of_getElem? hx;have et:xs.take (i+1)=xs.take i++[x]:=by rw[D8,hx];rfl
  change te (ι x::rest) H2 _;refine he H2 x g hm _ λH3 g3=>{_,g3 _ _ hl,by rw[aB,m9];lia,xs.length-(i+1),⋯,rfl,hlt,{()},Same.upd (g.trans g3) hD _,?_};rw[aq,et,fH];rfl
 .have e:i=xs.length:=⋯;subst e;rw[tX]at hl;exact .inl {I.stop _ _ g (aZ _),hQ D H' hD g hl}
def aDn(hz:n<=1000){rest:St}(hst:cst ix σ=ν::rest)(f:Nat->Int)
  (he:∀H' k,Same H1 H'->k<n->∀kk:VK,(∀H2,Same H' H2->kk (.int (f k)) H2)->te (ι (.int (0+(k:Int)))::rest) H' kk)
  (hQ:∀D H',H1 D=ν->Same H1 H'->H' D=ι (.lst ((bf n f).map V.int))->Q (.ref D) H'):jV ix (gU 0) mQ te σ Q (qK 0 n) H1:=by
 refine C3 BF (by rw[aB,mq];exact iR (fJ hz)) hst (λx=>match x with|.int k=>.int (f k.toNat)|_=>.non) ?_ ?_
 .intro H2 x g2 hx k hk;obtain⟨j,hj,rfl⟩:=bO.mp hx;have e1:(0+(j:Int)).toNat=j:=⋯;refine he H2 j g2 (gZ.mp hj) k λH3 g3=>?_;have hk':k (V.int (f (0+(j:Int)).toNat)) H3:=hk H3 g3
  rwa [e1]at hk'
 .intro D H' hD g hl;refine hQ D H' hD g ?_;rw[hl,bf,dD,dD];refine congrArg (λz=>ι (HO.lst z)) (kW λk _=>?_);show V.int (f (0+(k:Int)).toNat)=V.int (f k);rw[(⋯:(0+(k:Int)).toNat=k)]
def aTO(h:n<xs.length):je (xs.map V.int) (n:Int)=ι (.int (Pm.co xs n)):=by
 rw[dH ⋯ ⋯,dB];rfl
def QS(x:Int):(if x<0 then -x else x)=(x.natAbs:Int):=⋯
def aAt(hi:i<xs.length):xs.take (i+1)=xs.take i++[Pm.co xs i]:=by
 rw[List.take_succ,List.getElem?_eq_getElem hi];show _++[_]=_++[xs.getD i 0];rw[List.getD_eq_getElem?_getD,List.getElem?_eq_getElem hi];rfl
inductive Cl|by_|long|far|big
def adr(b l f g:Addr):Cl->Addr
 |.by_=>b|.long=>l|.far=>f|.big=>g
abbrev Ms.ad{P:Program}{w:World}{K:aD}{mg:μ}{base:Heap}{cC jq iz jg jl jf cF cD cG:Addr}(_:Ms P w K mg base cC jq iz jg jl jf cF cD cG):Cl->Addr:=adr cC cG cD cF
def Rf(ad:Cl->Addr)(c:Cl)(H:Hp)(E:XK):Prop:=∀H',Same H H'->E (.ref (ad c)) ν H'
def Rf.now{c:Cl}(h:Rf ad c H E):E (.ref (ad c)) ν H:=h H (Same.refl _)
def Rf.up{c:Cl}(h:Rf ad c H E)(g:Same H H'):Rf ad c H' E:=λH2 g2=>h H2 (g.trans g2)
def Wo:∀b∈bys,0<=b/\b<1000/\tk b 1=1:=∅
def Tb(h:b∈bys):nR b:={(Wo b h).1,(Wo b h).2.1,(Wo b h).2.2,(awh b h).imp id λ⟨h0,h1⟩=>{b.toNat,h1,(Kv h0).symm}}
def aTn:∀b∈bys,∀d<5,(5<b->d<=2)->b.toNat^d<=4096->b.toNat^d<=1000:=by decide +kernel
structure Wf(r:Rw):Prop where
 hb:r.b∈bys
 l2:5<r.b->r.ρ.length<=2
 len:r.ρ.length=r.ς.length
 l4:r.ρ.length<=4
 sH:∀x∈r.ρ,jU r.b x
 tZ:∀x∈r.ς,jU r.b x
def Wf.hB(h:Wf r):nR r.b:=Tb h.hb
def pN(ρ:ζ):Prop:=Ex2 λP G=>Rh (Hw P) (Pm.Mon G) (∀k,Pm.co P k=cv (Pm.co (Pm.bZ 0 ρ)) (Pm.co G) k)
structure Sm(c:Nat)(r:Rw):Prop where
 wf:Wf r
 kY:∀x∈r.ρ,Bd 32 x
 jQ:∀x∈r.ς,Bd c x
 small:r.b=0->pN r.ρ
theorem Sm.mono{c:Nat}{r:Rw}(h:Sm c r)(g:c<=d):Sm d r:={h.wf,h.kY,λx hx=>(h.jQ x hx).mono g,h.small}
def Sm.iK(h:Sm c r)(hc:c<=500):Fq r:=
 {{h.wf.len,cM h.wf.l4 ∅,h.wf.hB.lo,h.wf.hB.hi,h.wf.sH,h.wf.tZ,λx hx=>(h.kY x hx).mono ∅,λx hx=>(h.jQ x hx).mono ⋯},h.wf.hB,cM h.wf.l4 ∅}
def pN.facts(h:pN ρ):ρ.length<=4/\(∀k,Bd 32 (Pm.co (Pm.bZ 0 ρ) k))/\∀i,Pm.co (Pm.bZ 0 ρ) i≠0->(∀k,k<i->Pm.co (Pm.bZ 0 ρ) k=0)->(Pm.co (Pm.bZ 0 ρ) i).natAbs<=3:=by
 intros P G hP hG e h;have hM:=zV 0 ρ;have lM:=nG 0 ρ;have gp:=hG.pos;have h5:=hP.len;have t:=Tv (f:=Pm.co (Pm.bZ 0 ρ)) (g:=Pm.co G) (a:=ρ.length) (c:=G.length-1) ((Fs.co _).mono ⋯) ((Fs.co _).mono ⋯);have o1:=hM.one;rw[lM,jY]at o1;rw[<-e,o1,hG.one]at t;have:=Jc (p:=P) (k:=ρ.length+(G.length-1)) (by rw[t];decide);exact{⋯,aQd hP hG (λk=>by rw[e,mL]) ⋯,λi h1 h2=>aNx hP hG e h1 h2}
def pN.bd(h:pN ρ):∀x∈ρ,Bd 32 x:=λx hx=>by
 rw[<-aTK (b:=0) (c:=ρ) λx _=>dj x]at hx;obtain⟨k,_,rfl⟩:=oV (show x∈bf _ _ from hx);rw[dj,GB];exact Tn (h.facts.2.1 _)
theorem pN.sh{r:Rw}(h:pN r.ρ)(hb:r.b=0)(k:xR r):pN (sh r).ρ:=by
 intros P G hP hG e h;intros g hg dv k.dv;rw[hb]at dv;simp only[dj]at dv;obtain⟨S,hS⟩:=Yu ((Fs.co g).cv (Fs.co G));have t:=Tv (f:=Pm.co g) (g:=Pm.co G) (a:=g.length-1) (c:=G.length-1) ((Fs.co _).mono (by have:=hg.pos;lia)) ((Fs.co _).mono (by have:=hG.pos;lia));rw[hg.one,hG.one]at t;refine{P,bf (g.length-1+(G.length-1)+1) (cv (Pm.co g) (Pm.co G)),hP,{by rw[dF];lia,by rw[dF,jY,iU,if_pos ⋯];exact t},λk=>?_};rw[e,oK (f':=cv (Pm.co (Pm.bZ 0 (K53.sh r).ρ)) (Pm.co g)) (g':=Pm.co G) (λi _=>dv i) (λi _=>rfl),mJ];refine oK (λi _=>rfl) λi _=>?_;rw[iU];split
 .rfl
 .exact(Fs.co g).O4 (Fs.co G) (by have:=hg.pos;have:=hG.pos;lia)
def aA9(hB:nR b)(h:jU b x)(h0:b≠0):Bd 10 x:=by
 have:=h.resolve_left h0;exact Bd.of ⋯ (by have:=hB.hi;lia)
def xR.sm(h:Sm c r)(k:xR r):Sm c (sh r):=by
 have w:Wf (sh r):={by rw[k.by_];exact h.wf.hb,by rw[k.by_];exactλz=>cM k.le (h.wf.l2 z),k.len,cM k.le h.wf.l4,by rw[k.by_];exact k.sH,by rw[k.by_];exactλx hx=>h.wf.tZ x (k.tZ x hx)};refine{w,?_,λx hx=>h.jQ x (k.tZ x hx),λz=>(h.small (k.by_▸z)).sh (k.by_▸z) k};by_cases z:r.b=0
 .exact((h.small z).sh z k).bd
 .exactλx hx=>(aA9 h.wf.hB (k.sH x hx) z).mono ∅
theorem Sm.PK{c:Nat}{r:Rw}(h:Sm c r)(hc:10<=c)(n:Nat):Bd (c+n*36) (r.at n):=by
 have lo:=h.wf.hB.lo;have hi:=h.wf.hB.hi;refine(Rm.PK h.wf.len lo ((Bd.of (n:=10) ⋯ ⋯).mono hc) h.kY h.jQ n).mono ?_;have:=yj n (show 32+r.ρ.length<=36 by have:=h.wf.l4;lia);lia
def Rw.on(r:Rw)(n:Nat):Rw:={r.b,r.ρ,bf r.ρ.length λm=>r.at (m+n)}
theorem Sm.on{c:Nat}{r:Rw}(h:Sm c r)(hc:10<=c)(hc2:c<=500):Sm (c+37) (r.on 1):=by
 refine{{h.wf.hb,h.wf.l2,by show r.ρ.length=(bf _ _).length;rw[dF],h.wf.l4,h.wf.sH,λx hx=>?_},h.kY,λx hx=>?_,h.small}
 .obtain⟨m,_,rfl⟩:=oV (show x∈bf _ _ from hx);exact(h.iK hc2).ok.Yq _
 .obtain⟨m,hm,rfl⟩:=oV (show x∈bf _ _ from hx);have hl:=h.wf.len;have st:∀k,k<r.ρ.length->Bd c (r.at k):=λk hk=>by
   rw[show r.at k=r.ς.getD k 0 from Bo ⋯];exact Bd.getD h.jQ _
  by_cases c1:m+1<r.ρ.length
  .exact(st _ c1).mono ⋯
  .have hi:=h.wf.hB.hi;have lo:=h.wf.hB.lo;have e:r.at (m+1)=tk r.b (Rm.S r.ρ r.at (m+1) r.ρ.length):=MP hl ⋯;rw[e];refine yL lo ((Bd.of (n:=10) ⋯ ⋯).mono ⋯) ?_;refine(Bd.S (a:=32) (c:=c) (λk=>Bd.getD h.kY k) r.ρ.length λk hk=>st _ ⋯).mono ?_;have:=h.wf.l4;lia
def PF(r:Rw)(x:Int):Rw:={r.b,r.ρ.map (tk r.b),(r.ς.map λs=>x*s).map (tk r.b)}
def Sm.tw(h:Sm c r)(hc:10<=c):Sm (c+37) (PF r (tk r.b 2)):=by
 have er:r.ρ.map (tk r.b)=r.ρ:=by
  refine(kW λx hx=>?_).trans (RJ _);exact R1 (h.wf.sH x hx)
 refine{{h.wf.hb,?_,?_,?_,?_,?_},?_,?_,?_}
 .show 5<r.b->(r.ρ.map _).length<=2;rw[aB];exact h.wf.l2
 .show(r.ρ.map _).length=((r.ς.map _).map _).length;rw[aB,aB,aB];exact h.wf.len
 .show(r.ρ.map _).length<=4;rw[aB];exact h.wf.l4
 .show ∀x∈r.ρ.map _,_;rw[er];exact h.wf.sH
 .intro x hx;obtain⟨y,_,rfl⟩:=bO.mp hx;exact wA h.wf.hB.lo _
 .show ∀x∈r.ρ.map _,_;rw[er];exact h.kY
 .intro x hx;obtain⟨y,hy,rfl⟩:=bO.mp hx;obtain⟨z,hz,rfl⟩:=bO.mp hy;have b2:Bd 10 (tk r.b 2):=Hq h.wf.hB ∅ (Bd.of ∅ ∅);exact(Hq h.wf.hB ⋯ (b2.mul (h.jQ z hz))).mono ⋯
 .intro z;show pN (r.ρ.map _);rw[er];exact h.small z
def nR.pr(h:nR b):b=0∨cT b.toNat:=h.p.imp id λ⟨P,hP,e⟩=>by rw[e];exact P5 hP
def EJ(I:qC J (xs.map V.int) H1)(hz:xs.length<=1000){rest:St}(hst:cst ix σ=ν::rest)(f:Int->Int)
  (he:∀H' x,Same H1 H'->x∈xs->∀kk:VK,kk (.int (f x)) H'->te (ι (.int x)::rest) H' kk)
  (hQ:∀D,H1 D=ν->Q (.ref D) (upd H1 D (.lst ((xs.map f).map V.int)))):jV ix (gU 0) mQ te σ Q J H1:=by
 refine pI I (by rw[aB];exact iR (fJ hz)) hst (λ_=>true) (λx=>match x with|.int k=>.int (f k)|_=>.non) ?_ ?_ ?_
 .intro H2 x g2 hx k hk;exact hk
 .intro H2 x g2 hx _ k hk;obtain⟨y,hy,rfl⟩:=bO.mp hx;exact he H2 y g2 hy k hk
 .intro D hD;have el:(((xs.map V.int).filter λ_=>true).map λx=>match x with|.int k=>V.int (f k)|_=>V.non)=(xs.map f).map V.int:=by
   rw[rT.mpr (by simp),dD,dD];rfl
  rw[el];exact hQ D hD
def Ints(H:Hp)(a:Addr)(xs:ζ):Prop:=H a=ι (.lst (xs.map V.int))∨H a=ι (.tup (xs.map V.int))
def Ints.same(h:Ints H a xs)(g:Same H H'):Ints H' a xs:=h.imp (g _ _) (g _ _)
def Fc{K:aD}(hA:Ints H1 a xs)(hz:xs.length<=1000){rest:St}(hst:cst ix σ=ν::rest)(f:Int->Int)
  (he:∀H' x,Same H1 H'->x∈xs->∀kk:VK,kk (.int (f x)) H'->te (ι (.int x)::rest) H' kk)
  (hQ:∀D,H1 D=ν->Q (.ref D) (upd H1 D (.lst ((xs.map f).map V.int)))):oI K (V.ref a) H1 λJ H1=>jV ix (gU 0) mQ te σ Q J H1:=by
 rcases hA with h|h
 .exact{a,rfl,.inl {{_,ak.of h},EJ (ou (ak.of h)) hz hst f he hQ}}
 .exact{a,rfl,.inr {{_,ao.of h},EJ (xG (ao.of h)) hz hst f he hQ}}
inductive aNj(vs:τ)(H:Hp)(Q:VK)(E:XK):Prop|mk(z:Int)(a e:Addr)(ns ms:ζ)(_:vs=[.int z,.ref a,.ref e])(_:Ints H a ns)(_:Ints H e ms)(_:nR z)(_:ns.length<=12)(_:ms.length=ns.length)(_:(∀x∈ns,Bd 29000 x))(_:(∀x∈ms,Bd 52300 x))(j7:∀v' H',Same H H'->cO H' v' (sh {z,ns.map (tk z),ms.map (tk z)})->xR {z,ns.map (tk z),ms.map (tk z)}->Q v' H')
def My(hb:nR b){u:Nat}(hu:10<=u){xs:ζ}(h:∀x∈xs,Bd u x):(∀x∈xs.map (tk b),Bd u x)/\∀x∈xs.map (tk b),jU b x:=
 {λx hx=>by obtain⟨y,hy,rfl⟩:=bO.mp hx;exact Hq hb hu (h y hy),λx hx=>by obtain⟨y,_,rfl⟩:=bO.mp hx;exact wA hb.lo _}
inductive aMg(vs:τ)(H:Hp)(Q:VK)(E:XK):Prop|mk(v:V)(z:Rw)(x:Int)(c:Nat)(_:vs=[v,.int x])(_:cO H v z)(_:Sm c z)(_:c<=500)(_:Bd 10 x)(_:∀v' H',Same H H'->cO H' v' (sh (PF z x))->xR (PF z x)->Q v' H')
def uw(b n:Int):Prop:=0<=n/\(b=0->n<=400)
inductive aKr(ad:Cl->Addr)(vs:τ)(y:Hp)(Q:VK)(z:XK):Prop|mk(x n:Int)(_:vs=[.int x,.int n])(_:(uw x n->Q .non y))(_:(¬uw x n->Rf ad .far y z))
inductive aKs(vs:τ)(H:Hp)(Q:VK)(E:XK):Prop|mk(z:Int)(a:Addr)(v:ζ)(n:Nat)(_:vs=[.int z,.ref a,.int n])(_:nR z)(_:H a=ι (.tup ((Pm.bZ z v).map V.int)))(_:v.length<=12)(_:(∀x∈v,Bd 67 x))(_:(z=0->n<=400))(_:Bd 400 (n:Int))(_:∀y l H',Same H H'->H' y=ι (.tup (jc V.int l))->Pm.Pw z v n l->l.length<=v.length->(∀x∈l,Bd 3100000 x)->Q (.ref y) H')
def HH(b:Int)(p q:ζ):(Pm.mul b p q).length<=p.length+q.length:=by
 refine cM (BR _) ?_;rw[dF];exact aZ _
def Ql(hb:nR b)(k:Nat):tk b (Pm.co [1] k)=Pm.co [1] k:=by
 cases k with
 |zero=>rw[iQ];exact hb.one
 |succ k=>rw[pB,gw];exact tk0 b
def CL:∀x∈([0,1]:ζ),Bd 1 x:=λx hx=>by
 rcases c7.mp hx with rfl|hx
 .exact Bd.zero _
 .rw[eN.mp hx];exact Bd.of ∅ ∅
inductive azR(ad:Cl->Addr)(vs:τ)(y:Hp)(Q:VK)(z:XK):Prop|mk(v:V)(r:Rw)(n:Int)(c:Nat)(_:vs=[v,.int n])(_:cO y v r)(_:Sm c r)(_:Bd 400 n)(_:(¬uw r.b n->Rf ad .far y z))(_:(uw r.b n->∀u l H',Same y H'->H' u=ι (.tup (jc V.int l))->Pm.Pw r.b r.ρ n.toNat l->l.length=r.ρ.length->(∀x∈l,Bd 3100000 x)->Q (.ref u) H'))
def EE(h:Sm c r)(hc:c<=500){n:Nat}(pw:Pm.Pw r.b r.ρ n l)(ll:l.length=r.ρ.length)(hN:m+r.ρ.length<=N):tk r.b (ks l (Pm.co (r.row N)) m)=r.at (m+n):=by
 rw[<-(h.iK hc).ok.aBo,<-pw r.at (aAC h.wf.len) m];unfold ks;refine congrArg _ (jm λk hk=>?_);rw[RO,iU,if_pos ⋯]
inductive aG0(vs:τ)(H:Hp)(Q:VK)(E:XK):Prop|mk(b:Int)(a l:Addr)(p f:ζ)(n:Nat)(_:vs=[.int b,.ref a,.ref l,.int (0+(n:Int))])(_:0<=b)(_:H a=ι (.tup (p.map V.int)))(_:(H l=ι (.lst (f.map V.int))∨H l=ι (.tup (f.map V.int))))(_:n+p.length<=f.length)(_:p.length<=1000)(_:(∀x∈p,Bd 4000000 x))(_:(∀x∈f,Bd 61000000 x))(j7:∀H',Same H H'->Q (.int (tk b (ks p (Pm.co f) n))) H')
inductive aMx(ad:Cl->Addr)(vs:τ)(y:Hp)(Q:VK)(z:XK):Prop|mk(v:V)(r:Rw)(n:Int)(c:Nat)(_:vs=[v,.int n])(_:cO y v r)(_:Sm c r)(_:c<=500)(_:Bd 400 n)(_:(¬uw r.b n->Rf ad .far y z))(_:(uw r.b n->∀v' H',Same y H'->cO H' v' (r.on n.toNat)->Q v' H'))
inductive awr(ad:Cl->Addr)(vs:τ)(y:Hp)(Q:VK)(z:XK):Prop|mk(v:V)(r:Rw)(n:Int)(c:Nat)(_:vs=[v,.int n])(_:cO y v r)(_:Sm c r)(_:c<=500)(_:Bd 400 n)(_:(¬uw r.b n->Rf ad .far y z))(_:(uw r.b n->∀H',Same y H'->Q (.int (r.at n.toNat)) H'))
def Cp(n:Nat)(p:Nat->Bool):Option Nat:=(gq n).find? p
def He(hi:i<n)(h:p i=true)(hj:∀j,j<i->p j=false):Cp n p=ι i:=by
 unfold Cp;rw[List.find?_range_eq_some];exact{h,gZ.mpr hi,λj hj'=>by rw[hj j hj'];rfl}
def QA(hj:∀j,j<n->p j=false):Cp n p=ν:=by
 unfold Cp;rw[List.find?_eq_none];exactλx hx=>by rw[hj x (gZ.mp hx)];decide
def IE:Option Nat->V
 |none=>.non
 |some n=>.int (n:Int)
def vM(s e:Int):Prop:=0<=s/\s<=100/\1<=e/\e<=10
inductive aBj(ad:Cl->Addr)(vs:τ)(y:Hp)(Q:VK)(z:XK):Prop|mk(v1 v2:V)(r1 r2:Rw)(_:vs=[v1,v2])(_:cO y v1 r1)(_:cO y v2 r2)(_:(r1.b=r2.b->Q (.int r1.b) y))(_:(r1.b≠r2.b->Rf ad .by_ y z))
inductive ayy(ad:Cl->Addr)(vs:τ)(y:Hp)(Q:VK)(z:XK):Prop|mk(v:V)(r:Rw)(_:vs=[v])(_:cO y v r)(_:(r.b=0->Q .non y))(_:(r.b≠0->Rf ad .by_ y z))
inductive aE2(ad:Cl->Addr)(vs:τ)(y:Hp)(Q:VK)(z:XK):Prop|mk(s e:Int)(_:vs=[.int s,.int e])(_:(vM s e->Q .non y))(_:(¬vM s e->Rf ad .far y z))
inductive aR6(ad:Cl->Addr)(vs:τ)(z:Hp)(Q:VK)(E:XK):Prop|mk(n:Int)(_:vs=[.int n])(_:(0<=n/\n<=300->Q .non z))(_:(¬(0<=n/\n<=300)->Rf ad .far z E))
inductive aP2(ad:Cl->Addr)(vs:τ)(H:Hp)(Q:VK)(E:XK):Prop|mk(v:V)(r:Rw)(n:Int)(c:Nat)(_:vs=[v,.int n])(_:cO H v r)(_:Sm c r)(_:c<=500)(_:(0<=n/\n<=300->Told H Q ((r.row n.toNat).map V.int)))(_:(¬(0<=n/\n<=300)->Rf ad .far H E))
def O9(h:i<n):(r.row n).getD i 0=r.at i:=bX _ _ _ h
def Br(r s:Rw):Option Nat:=Cp (r.ρ.length+s.ρ.length) λn=>decide (r.at n≠s.at n)
inductive aHi(ad:Cl->Addr)(vs:τ)(y:Hp)(Q:VK)(z:XK):Prop|mk(v1 v2:V)(x s:Rw)(c:Nat)(_:vs=[v1,v2])(_:cO y v1 x)(_:cO y v2 s)(_:Sm c x)(_:Sm c s)(_:c<=500)(_:(x.b=s.b->∀H',Same y H'->Q (IE (Br x s)) H'))(_:(x.b≠s.b->Rf ad .by_ y z))
def Rw.rests(r:Rw)(d:Int):Rw:={d,r.ρ.map (tk d),r.ς.map (tk d)}
def ayj(h:lK r)(h0:0<d)(h1:d<1000):lK (r.rests d):=by
 have b10:∀x,Bd 10 (tk d x):=λx=>by
  have:=(wA (⋯:0<=d) x).resolve_left ⋯;exact Bd.of ⋯ ⋯
 refine{?_,?_,by show 0<=d;lia,h1,λx hx=>?_,λx hx=>?_,λx hx=>?_,λx hx=>?_}
 .show(r.ρ.map (tk d)).length=(r.ς.map (tk d)).length;rw[aB,aB,h.len]
 .show(r.ρ.map (tk d)).length<=24;rw[aB];exact h.short
 all_goals obtain⟨y,_,rfl⟩:=bO.mp hx
 .exact wA (by show 0<=d;lia) _
 .exact wA (by show 0<=d;lia) _
 .exact(b10 y).mono ∅
 .exact(b10 y).mono ∅
inductive aRp(vs:τ)(H:Hp)(Q:VK)(E:XK):Prop|mk(v:V)(r:Rw)(d:Int)(_:vs=[v,.int d])(_:cO H v r)(_:lK r)(_:0<d)(_:∀v' H',Same H H'->cO H' v' (r.rests d)->Q v' H')
inductive aS6(vs:τ)(H:Hp)(Q:VK)(E:XK):Prop|mk(x y:Int)(_:vs=[.int x,.int y])(_:Q (.int ((oM x.natAbs y.natAbs:Nat):Int)) H)
def oW(g:Nat)(xs:ζ):Nat:=xs.foldl (λd x=>oM d x.natAbs) g
inductive aKI(ad:Cl->Addr)(vs:τ)(y:Hp)(Q:VK)(z:XK):Prop|mk(v:V)(r:Rw)(_:vs=[v])(_:cO y v r)(_:(r.b=0->Q (.int ((oW 0 r.ς:Nat):Int)) y))(_:(r.b≠0->Rf ad .by_ y z))
def CC(g:Nat)(hi:i<xs.length):oW g (xs.take (i+1))=oM (oW g (xs.take i)) (Pm.co xs i).natAbs:=by
 rw[aAt hi,oW,LL];rfl
def Bs(r:Rw)(d s e:Int):Option Nat:=Cp r.ρ.length λk=>decide ((r.rests d).at (s.toNat+e.toNat*k)≠0)
inductive aR9(ad:Cl->Addr)(vs:τ)(y:Hp)(Q:VK)(z:XK):Prop|mk(v:V)(x:Rw)(d s e:Int)(c:Nat)(_:vs=[v,.int d,.int s,.int e])(_:cO y v x)(_:Sm c x)(_:c<=500)(_:0<d)(_:d<1000)(_:(x.b≠0->Rf ad .by_ y z))(_:(x.b=0->¬vM s e->Rf ad .far y z))(j7:(x.b=0->vM s e->∀H',Same y H'->Q (IE (Bs x d s e)) H'))
def jR(p:Nat->Bool)(lo n:Nat):ζ:=(((gq n).map (lo + ·)).filter p).map λ(i:Nat)=>(i:Int)
def R3(p:Nat->Bool)(lo n:Nat):(jR p lo n).length<=n:=by
 rw[jR,aB];refine cM (ZR ..) ?_;rw[aB,mq];exact aZ _
def Pl{lo:Nat}{tc:TT}(hz:n<=sizeLine){rest:St}(hst:cst ix σ=ν::rest)(p:Nat->Bool)
  (ht:∀H' k,Same H1 H'->k<n->∀kk:Bool->Hp->Prop,kk (p (lo+k)) H'->tc (ι (.int ((lo:Int)+(k:Int)))::rest) H' kk)
  (he:∀H' k,Same H1 H'->k<n->∀kk:VK,kk (.int ((lo:Int)+(k:Int))) H'->te (ι (.int ((lo:Int)+(k:Int)))::rest) H' kk)
  (hQ:∀D,H1 D=ν->Q (.ref D) (upd H1 D (.lst ((jR p lo n).map V.int)))):jV ix (gU 0) tc te σ Q (qK (lo:Int) n) H1:=by
 refine pI BF (by rw[aB,mq];exact hz) hst (λx=>match x with|.int k=>p k.toNat|_=>false) (λx=>x) ?_ ?_ ?_
 .intro H2 x g2 hx k hk;obtain⟨j,hj,rfl⟩:=bO.mp hx;have e1:((lo:Int)+(j:Int)).toNat=lo+j:=⋯;refine ht H2 j g2 (gZ.mp hj) k ?_;have hk':k (p ((lo:Int)+(j:Int)).toNat) H2:=hk
  rwa [e1]at hk'
 .intro H2 x g2 hx hp k hk;obtain⟨j,hj,rfl⟩:=bO.mp hx;exact he H2 j g2 (gZ.mp hj) k hk
 .intro D hD;have el:((((gq n).map λi=>V.int ((lo:Int)+(i:Nat))).filter λx=>match x with|.int k=>p k.toNat|_=>false).map λx=>x)=(jR p lo n).map V.int:=by
   rw[yY,jR,YL,YL,dD,dD];have e2:((λx=>match x with|V.int k=>p k.toNat|_=>false)∘λ(i:Nat)=>V.int ((lo:Int)+(i:Nat)))=p∘(lo + ·):=by
    funext i
    show p ((lo:Int)+(i:Int)).toNat=p (lo+i);rw[(⋯:((lo:Int)+(i:Int)).toNat=lo+i)]
   rw[e2];refine kW λi _=>?_;show V.int ((lo:Int)+(i:Int))=V.int (((lo+i:Nat)):Int);rw[JM]
  have:=hQ D hD;rw[<-el]at this;exact this
inductive awU(ad:Cl->Addr)(vs:τ)(y:Hp)(Q:VK)(z:XK):Prop|mk(P l:Nat)(_:vs=[.int P,.int l])(_:P<1000)(_:l<=12)(_:(P^l<=4096->Q .non y))(_:(4096<P^l->Rf ad .long y z))
def Qk(ad:Cl->Addr)(H:Hp)(E:XK)(r:Rw)(G:Prop):Prop:=(r.b=0->Rf ad .by_ H E)/\(r.b≠0->4096<r.b.toNat^(sh r).ρ.length->Rf ad .long H E)/\(r.b≠0->r.b.toNat^(sh r).ρ.length<=4096->G)
end
open Classical in
section
variable {r:Rw}{xs:τ}{l:El.fG}{n c i u m:Nat}{ll:Addr}{H H' H1:Hp}{ex:List Addr}{L:List ζ}{J:It}{ix:List (Option Nat)}{te:TE}{σ:St}{Q:VK}
def eE(r:Rw):Nat×Nat:=if h:∃p:Nat×Nat,AJ r.at r.ρ.length p.1 p.2 then h.choose else(0,0)
def M0(h:AJ r.at r.ρ.length bg ln):eE r=(bg,ln):=by
 have ex:∃p:Nat×Nat,AJ r.at r.ρ.length p.1 p.2:={(bg,ln),h};unfold eE;rw[dif_pos ex];have:=ex.choose_spec.uniq h;exact ku this.1 this.2
inductive aMK(ad:Cl->Addr)(vs:τ)(H:Hp)(Q:VK)(E:XK):Prop|mk(v:V)(z:Rw)(c:Nat)(_:vs=[v])(_:cO H v z)(_:Sm c z)(_:c<=500)(_:Qk ad H E z (∀v' H',Same H H'->cO H' v' (sh z)->xR z->Q v' H'))
def KK(xs:ζ):List Key:=xs.map .inl
def rV(xs:ζ):(KK xs).map kV=xs.map V.int:=by rw[KK,dD];rfl
def UI{xs:ζ}(h:KK xs=KK ys):xs=ys:=by
 have:=congrArg (jc kV) h;rw[rV,rV]at this;exact(List.map_inj_right (λa b e=>by cases e;rfl)).mp this
structure Seen(f:Nat->Int)(l n:Nat)(kvs:List (List Key×V)):Prop where
 len:kvs.length=n
 at_:∀i,i<n->eG kvs (KK (win f l i))=ι (.int (i:Int))
 out:∀k,(∀i,i<n->k≠KK (win f l i))->eG kvs k=ν
 diff:∀i j,i<j->j<n->win f l i≠win f l j
def Seen.more{l:Nat}(h:Seen f l n kvs)(hn:eG kvs (KK (win f l n))=ν):Seen f l (n+1) (putK kvs (KK (win f l n)) (.int (n:Int))):=by
 have d:∀i,i<n->win f l i≠win f l n:=λi hi z=>by
  have:=h.at_ i hi;rw[z,hn]at this;cases this
 refine{?_,λi hi=>?_,λk hk=>?_,λi j hij hj=>?_}
 .rw[aTk _ hn,gk,h.len];rfl
 .rw[Zg];by_cases c:i=n
  .rw[c,if_pos rfl]
  .rw[if_neg λz=>d i ⋯ (UI z)];exact h.at_ i ⋯
 .rw[Zg,if_neg (hk n ⋯)];exact h.out k λi hi=>hk i ⋯
 .by_cases c:j=n
  .rw[c];exact d i ⋯
  .exact h.diff i j hij ⋯
inductive awd(vs:τ)(H:Hp)(Q:VK)(E:XK):Prop|mk(v:V)(z:Rw)(_:vs=[v])(_:cO H v z)(_:lK z)(_:0<z.b)(_:z.b.toNat^z.ρ.length<=1000)(_:∀p H',Same H H'->H' p=ι (.tup [.int ((eE z).1:Int),.int ((eE z).2:Int)])->(eE z).1+(eE z).2<=1000->Q (.ref p) H')
def BS(k1:Sm c r)(so:xR r)(hw:r.b.toNat^(sh r).ρ.length<=4096):(sh r).b.toNat^(sh r).ρ.length<=1000:=by
 have w:=(so.sm k1).wf;rw[<-so.by_]at hw;exact aTn _ w.hb _ (by have:=w.l4;lia) w.l2 hw
inductive aw4(ad:Cl->Addr)(vs:τ)(H:Hp)(Q:VK)(E:XK):Prop|mk(v:V)(z:Rw)(c:Nat)(_:vs=[v])(_:cO H v z)(_:Sm c z)(_:c<=500)(_:Qk ad H E z (∀p H',Same H H'->H' p=ι (.tup [.int ((eE (sh z)).1:Int),.int ((eE (sh z)).2:Int)])->(eE (sh z)).1+(eE (sh z)).2<=1000->Q (.ref p) H'))
def jA(f:Nat->Int)(x:Int):Nat->Bool:=λi=>decide (f i=x)
inductive aGN(ad:Cl->Addr)(vs:τ)(H:Hp)(Q:VK)(E:XK):Prop|mk(v:V)(z:Rw)(x:Int)(c:Nat)(_:vs=[v,.int x])(_:cO H v z)(_:Sm c z)(_:c<=500)(_:Qk ad H E z (∀p le ls H',Same H H'->H' p=ι (.tup [.ref le,.ref ls,.int ((eE (sh z)).2:Int)])->H' le=ι (.lst ((jR (jA (sh z).at x) 0 (eE (sh z)).1).map V.int))->H' ls=ι (.lst ((jR (jA (sh z).at x) (eE (sh z)).1 (eE (sh z)).2).map V.int))->(eE (sh z)).1+(eE (sh z)).2<=1000->Q (.ref p) H'))
inductive dh(H:Hp)(ex:List Addr):τ->List ζ->Prop
 |nil:dh H ex [] []
 |cons {t:Addr} {p:ζ} {xs:τ} {ps:List ζ}:t∉ex->H t=ι (.lst (p.map V.int))->dh H ex xs ps->dh H ex (.ref t::xs) (p::ps)
def Keep(ll:Addr)(H H':Hp):Prop:=∀a u,a≠ll->H a=ι u->H' a=ι u
def Keep.refl(ll:Addr)(H:Hp):Keep ll H H:=λ_ _ _ h=>h
def Keep.trans(h:Keep ll H H')(h':Keep ll H' H2):Keep ll H H2:=λa u n e=>h' a u n (h a u n e)
def Keep.same(g:Same H H'):Keep ll H H':=λa u _ e=>g a u e
theorem Keep.upd(ll:Addr)(H:Hp)(o:HO):Keep ll H (L2.upd H ll o):=λa u n e=>by rw[cH n];exact e
theorem dh.keep{H H':Hp}{ll:Addr}{ex:List Addr}(hm:ll∈ex)(g:Keep ll H H'):∀{xs:τ} {ps:List ζ},dh H ex xs ps->dh H' ex xs ps
 |_,_,.nil=>.nil
 |_,_,.cons n h r=>.cons n (g _ _ (λz=>n (z▸hm)) h) (dh.keep hm g r)
theorem dh.same{H H':Hp}{ex:List Addr}(g:Same H H'):∀{xs:τ} {ps:List ζ},dh H ex xs ps->dh H' ex xs ps
 |_,_,.nil=>.nil
 |_,_,.cons n h r=>.cons n (g _ _ h) (dh.same g r)
theorem dh.more{H:Hp}{ex:List Addr}(ha:H a=ν):∀{xs:τ} {ps:List ζ},dh H ex xs ps->dh H (a::ex) xs ps
 |_,_,.nil=>.nil
 |_,_,.cons n h r=>.cons (λz=>by
   rcases c7.mp z with e|e
   .rw[e,ha]at h;cases h
   .exact n e) h (dh.more ha r)
theorem dh.less{H:Hp}{ex:List Addr}(hs:∀a∈ex',a∈ex):∀{xs:τ} {ps:List ζ},dh H ex xs ps->dh H ex' xs ps
 |_,_,.nil=>.nil
 |_,_,.cons n h r=>.cons (λz=>n (hs _ z)) h (dh.less hs r)
theorem dh.len{H:Hp}{ex:List Addr}:∀{xs:τ} {ps:List ζ},dh H ex xs ps->xs.length=ps.length
 |_,_,.nil=>rfl
 |_,_,.cons _ _ r=>by rw[j8,j8,dh.len r]
theorem dh.get{H:Hp}{ex:List Addr}:∀{xs:τ} {ps:List ζ} {i:Nat},dh H ex xs ps->i<ps.length->∃t,xs[i]?=ι (.ref t)/\t∉ex/\H t=ι (.lst ((Dm.ln ps i).map V.int))
 |_,_,_,.nil,h=>absurd h (uz _)
 |_,_,0,.cons n h _,_=>{(),n,h}
 |_,_,i+1,.cons _ _ r,h=>dh.get (i:=i) r (by simpa using h)
theorem dh.set{H:Hp}{ex:List Addr}{t:Addr}{q:ζ}(hn:t∉ex)(hT:H t=ι (.lst (q.map V.int))):∀{xs:τ} {ps:List ζ} (i:Nat),dh H ex xs ps->dh H ex (xs.set i (.ref t)) (ps.set i q)
 |_,_,_,.nil=>.nil
 |_,_,0,.cons _ _ r=>.cons hn hT r
 |_,_,i+1,.cons n h r=>.cons n h (dh.set hn hT i r)
theorem dh.append{H:Hp}{ex:List Addr}(hn:t∉ex)(hT:H t=ι (.lst (q.map V.int))):∀{xs:τ} {ps:List ζ},dh H ex xs ps->dh H ex (xs++[.ref t]) (ps++[q])
 |_,_,.nil=>.cons hn hT .nil
 |_,_,.cons n h r=>.cons n h (dh.append hn hT r)
def Stand(H:Hp)(ex:List Addr):Prop:=∀a∈ex,∃o,H a=ι o
def Stand.fresh(h:Stand H ex)(ht:H t=ν):t∉ex:=λz=>by
 obtain⟨o,e⟩:=h t z;rw[ht]at e;cases e
def Stand.keep(h:Stand H ex)(g:Keep ll H H')(hl:∃o,H' ll=ι o):Stand H' ex:=λa ha=>by
 by_cases e:a=ll
 .rw[e];exact hl
 .obtain⟨o,q⟩:=h a ha;exact{o,g _ _ e q}
def azY(q:ζ)(hi:i<L.length)(k:Nat):Dm.ln (L.set i q) k=if k=i then q else Dm.ln L k:=by
 unfold Dm.ln;rw[List.getD_eq_getElem?_getD,List.getElem?_set,List.getD_eq_getElem?_getD];by_cases e:i=k
 .subst e;simp[hi]
 .rw[if_neg e,if_neg (λz=>e z.symm)]
def Sf(I:qC J xs H1)(hz:xs.length<=1000){rest:St}(hst:cst ix σ=ν::rest)(G:V->ζ)
  (he:∀(H':Hp)(x:V),Same H1 H'->x∈xs->∀k:VK,(∀t' H2,Same H' H2->H' t'=ν->H2 t'=ι (.lst ((G x).map V.int))->k (.ref t') H2)->te (ι x::rest) H' k)
  (hQ:∀D ys H',H1 D=ν->Same H1 H'->H' D=ι (.lst ys)->dh H' [D] ys (xs.map G)->Q (.ref D) H'):
  jV ix (gU 0) mQ te σ Q J H1:=by
 constructor;intro D hD;refine{λi m σ' H'=>m=xs.length-i/\i<=xs.length/\(∃o,σ'=o::rest)/\Same H1 H'/\∃ys,H' D=ι (.lst ys)/\dh H' [D] ys ((xs.take i).map G),{xs.length,by simp,cZ _,{ν,(hst)},Same.new hD _,[],aq,.nil},?_};rintro i m σ' H' ⟨rfl,hi,⟨o,rfl⟩,g,ys,hl,hy⟩;by_cases hlt:i<xs.length
 .refine .inr {I.go i _ g hlt,λx H2 y=>?_};obtain⟨rfl,hx⟩:=I.m5 i _ x H2 g y;have hx:=hx hlt;have hm:x∈xs:=List.mem_of_getElem? hx;have et:xs.take (i+1)=xs.take i++[x]:=by rw[D8,hx];rfl
  change te (ι x::rest) H2 _;refine he H2 x g hm _ λt' H3 g3 hn h3=>{ys,g3 _ _ hl,?_,xs.length-(i+1),⋯,rfl,hlt,{()},Same.upd (g.trans g3) hD _,ys++[.ref t'],aq,?_}
  .have:=hy.len;rw[aB,m9]at this;have:=fJ hz;lia
  .have tD:t'∉[D]:=λz=>by
    rw[eN.mp z,hl]at hn;cases hn
   rw[et,fH];exact(dh.append tD h3 (hy.same g3)).keep (eN.mpr rfl) (Keep.upd D H3 _)
 .have e:i=xs.length:=⋯;subst e;rw[tX]at hy;exact .inl {I.stop _ _ g (aZ _),hQ D ys H' hD g hl hy}
def Tc(f:Nat->ζ):V->ζ
 |.int k=>f k.toNat
 |_=>[]
inductive aOr(K:aD)(vs:τ)(H:Hp)(Q:VK)(E:XK):Prop|mk(b:Int)(l:Addr)(p:ζ)(_:vs=[.int b,.ref l])(_:0<=b)(_:H l=ι (.lst (p.map V.int)))(_:p.length<=1000)(_:Told H Q ((p.map (tk b)).map V.int))
inductive aEG(vs:τ)(H:Hp)(Q:VK)(E:XK):Prop|mk(ll:Addr)(x:τ)(z:List ζ)(W c:Nat)(cI:Int)(ex:List Addr)(a:Nat)(_:vs=[.ref ll,.int c,.int cI])(_:cI=(c:Int))(_:H ll=ι (.lst x))(_:dh H ex x z)(_:(∀y,y<z.length->(Dm.ln z y).length=W))(_:c<W)(_:z.length<=1000)(_:El.rA z c=ι a)(j7:Q (.int a) H)
inductive azC(vs:τ)(H:Hp)(Q:VK)(E:XK):Prop|mk(ll:Addr)(v:τ)(z:List ζ)(a x:Nat)(ex:List Addr)(_:vs=[.int 0,.ref ll,.int a,.int x])(_:H ll=ι (.lst v))(_:dh H ex v z)(_:ll∈ex)(_:Stand H ex)(_:x<=a)(_:a<z.length)(_:(∀y,y<z.length->(Dm.ln z y).length<=1000))(j7:∀xs' H',Keep ll H H'->H' ll=ι (.lst xs')->dh H' ex xs' (El.lQ z a x)->Q .non H')
inductive aFz(vs:τ)(H:Hp)(Q:VK)(E:XK):Prop|mk(last:Int)(l1 l2:Addr)(p y:ζ)(z:Nat)(cI:Int)(_:vs=[.int 0,.ref l1,.ref l2,.int cI,.int last])(_:cI=(z:Int))(_:H l1=ι (.lst (p.map V.int)))(_:H l2=ι (.lst (y.map V.int)))(_:p.length=y.length)(_:z<p.length)(_:p.length<=1000)(_:last≠0)(j7:Bd 8000 last)(_:(∀x∈p,Bd 1000000 x))(_:(∀x∈y,Bd 1000000 x))(_:Told H Q ((El.Ag (Pm.co y z) (Pm.co p z) last p y).map V.int))
def aya(h0:x≠0)(h:Bd n x):x.natAbs.log2<n:=(gV ⋯).mpr h
def Fu{W:Nat}(h:El.pZ W u L)(i:Nat):∀x∈Dm.ln L i,Bd u x:=λx hx=>by
 obtain⟨k,hk,e⟩:=ug.mp hx;rw[<-e,<-qN hk];exact h.bd i k
inductive axW(vs:τ)(H:Hp)(Q:VK)(E:XK):Prop|mk(wide:Nat)(ll:Addr)(z:τ)(L:List ζ)(u:Nat)(ex:List Addr)(B:List ζ)(last:Int)(_:vs=[.int 0,.int wide,.ref ll])(_:H ll=ι (.lst z))(_:dh H ex z L)(_:ll∈ex)(_:Stand H ex)(_:L.length=wide)(_:wide<=4)(_:1<=u)(j7:u<=480)(_:El.pZ (wide+1) u L)(_:El.jD L wide=ι (B,last))(_:∀t th xs' H',Keep ll H H'->H' t=ι (.tup [.ref th,.int last])->H' th=ι (.lst ((bf wide λh=>(h:Int)).map V.int))->H' ll=ι (.lst xs')->dh H' ex xs' B->Q (.ref t) H')
def aSv(hc:c<=n)(h:El.jD L n=ι (B,last)):∃s,El.jD L c=ι s:=by
 obtain⟨d,rfl⟩:∃d,n=c+d:={n-c,⋯};clear hc;induction d generalizing B last with
 |zero=>exact{_,h}
 |succ d ih=>
  rw[<-CT,El.jD]at h;cases e:El.jD L (c+d)with
  |none=>rw[e]at h;cases h
  |some s=>exact ih (B:=s.1) (last:=s.2) e
def avN{l:Int}(h:El.uU A l c=ι s):∃a,El.rA A c=ι a/\s=((gq A.length).map (El.qL (El.lQ A a c) c l),Pm.co (Dm.ln (El.lQ A a c) c) c):=by
 unfold El.uU at h;cases e:El.rA A c with
 |none=>rw[e]at h;cases h
 |some a=>rw[e]at h;cases h;exact{a,rfl,(rfl)}
def lw(bt:Int)(ts:ζ):Int:=if bt<0 then 0-((oW bt.natAbs ts:Nat):Int)else((oW bt.natAbs ts:Nat):Int)
theorem Sn:∀(ts:ζ)(g:Nat),oW g ts∣g
 |[],g=>IT g
 |x::ts,g=>Rv (Sn ts (oM g x.natAbs)) (Wd g _)
def aE4(h0:bt≠0)(h:Bd 8000 bt):lw bt ts≠0/\(lw bt ts).natAbs.log2<9000:=by
 have d:=Sn ts bt.natAbs;have g0:oW bt.natAbs ts≠0:=λz=>by rw[z]at d;have:=yn d;lia
 have gl:=xQ ⋯ d;have e:(lw bt ts).natAbs=oW bt.natAbs ts:=by unfold lw;split<;>lia
 exact{⋯,by rw[e];exact p7 ((gV g0).mpr (qU gl h)) ∅}
inductive aKS(vs:τ)(H:Hp)(Q:VK)(E:XK):Prop|mk(bt:Int)(l:Addr)(ts:ζ)(_:vs=[.int 0,.int bt,.ref l])(_:bt≠0)(_:H l=ι (.lst (ts.map V.int)))(_:ts.length<=100)(_:Bd 8000 bt)(_:∀t lt H',Same H H'->H' t=ι (.tup [.int (bt.fdiv (lw bt ts)),.ref lt])->H' lt=ι (.lst ((ts.map λt=>t.fdiv (lw bt ts)).map V.int))->Q (.ref t) H')
def As(x:ζ):x.map (tk 0)=x:=(kW λy _=>dj y).trans (RJ _)
def ayv(L:List ζ)(ws:ζ):(((gq L.length).map λi=>V.int (0+(i:Nat))).map (Tc λi=>Dm.ln L i++[Pm.co ws i]))=El.nW L ws:=by
 rw[El.nW,dD];refine kW λi _=>?_;show Dm.ln L (0+(i:Int)).toNat++[Pm.co ws (0+(i:Int)).toNat]=_;rw[(⋯:(0+(i:Int)).toNat=i)]
def fA(L:List ζ)(ws:ζ):(El.nW L ws).length=L.length:=by rw[El.nW,aB,mq]
def RC(hl:∀i,i<L.length->(Dm.ln L i).length=n)(bL:∀p∈L,∀x∈p,Bd u x)(bW:∀x∈ws,Bd u x):El.pZ (n+1) u (El.nW L ws):=by
 refine{λi hi=>?_,λi k=>?_}
 .rw[fA]at hi;rw[El.nW,El.C8 _ hi,gk,hl i hi];rfl
 .by_cases hi:i<L.length
  .rw[El.nW,El.C8 _ hi];refine nY (λx hx=>?_) k;rcases ig.mp hx with hx|hx
   .exact bL _ (El.aD1 hi) x hx
   .rw[eN.mp hx];exact nY bW i
  .rw[El.AV (by rw[fA];lia),gw];exact Bd.zero _
def tps(B:List ζ)(n:Nat):ζ:=bf n λi=>Pm.co (Dm.ln B i) n
inductive W8(vs:τ)(H:Hp)(Q:VK)(E:XK):Prop|mk(wide:Nat)(ta tw:Addr)(v:τ)(z:List ζ)(ws:ζ)(ex:List Addr)(B:List ζ)(last:Int)(_:vs=[.int 0,.int wide,.ref ta,.ref tw])(_:H ta=ι (.lst v))(_:dh H ex v z)(_:H tw=ι (.lst (ws.map V.int)))(_:ws.length=wide)(_:z.length=wide)(_:wide<=4)(_:(∀y,y<z.length->(Dm.ln z y).length=wide))(j7:(∀p∈z,∀x∈p,Bd 480 x))(_:(∀x∈ws,Bd 480 x))(_:El.jD (El.nW z ws) wide=ι (B,last))(_:∀t lt H',Same H H'->H' t=ι (.tup [.str ("one":Str),.int (last.fdiv (lw last (tps B wide))),.ref lt])->H' lt=ι (.lst (((tps B wide).map λt=>t.fdiv (lw last (tps B wide))).map V.int))->Q (.ref t) H')
def QD(k:Int):Bool:=decide ((1000000:Int)<=(if k<0 then -k else k))
def zm(P:ζ):Bool:=P.any QD
def Sl{α:Type}(p:α->Bool)(xs:List α):(xs.map p).any id=xs.any p:=by rw[List.any_map];rfl
inductive awi(ad:Cl->Addr)(vs:τ)(z:Hp)(Q:VK)(E:XK):Prop|mk(a:Addr)(P:ζ)(_:vs=[.ref a])(_:z a=ι (.tup (P.map V.int)))(_:P.length<=40)(_:(zm P=false->∀y,Same z y->Q .non y))(_:(zm P=true->Rf ad .big z E))
def iI(n:Nat):ζ:=if n=1 then[1]else[1,(n:Int)]
inductive aAe(vs:τ)(H:Hp)(Q:VK)(E:XK):Prop|mk(y:Nat)(_:vs=[.int y])(_:1<=y)(_:y<=3)(_:∀z H',Same H H'->H' z=ι (.lst ((iI y).map V.int))->Q (.ref z) H')
def axp{v:V}:je (v::xs) 0=ι v:=nZ (j:=0) rfl
def jd(p:ζ):Int:=(p.filter λx=>decide (x≠0)).headD 0
def aKT:El.sG m=((iI m).reverse.map λx=>0-x)++[0]++iI m:=by
 unfold El.sG iI;split
 .rfl
 .show[-(m:Int),-1,0,1,(m:Int)]=[0-(m:Int),0-1,0,1,(m:Int)];rw[GB];rfl
inductive aI3(vs:τ)(H:Hp)(Q:VK)(E:XK):Prop|mk(a:Addr)(P:ζ)(_:vs=[.ref a])(_:H a=ι (.tup (P.map V.int)))(_:P.length<=40)(_:1<=(jd P).natAbs)(_:(jd P).natAbs<=3)(_:∀z H',Same H H'->H z=ν->H' z=ι (.lst ((El.sG (jd P).natAbs).map V.int))->Q (.ref z) H')
def aQb{r:Int}(h:Pm.Rep r m p q)(d:Pm.Div 0 q (lin r) q' []):Pm.Rep r (m+1) p q':=by
 induction h with
 |zero q=>exact .succ d (.zero _)
 |succ d' _ ih=>exact .succ d' (ih d)
inductive ayc(vs:τ)(H:Hp)(Q:VK)(E:XK):Prop|mk(a:Addr)(r:Int)(P:ζ)(z:Nat)(_:vs=[.ref a,.int r])(_:H a=ι (.tup (P.map V.int)))(_:P.length<=13)(_:Pm.Mon P)(_:Bd 10 r)(_:(∀x∈P,Bd z x))(_:22<=z)(_:z<=100000)(j7:∀m q t tl H',Same H H'->Pm.Rep r m P q->Pm.ev q r≠0->(∀x∈q,Bd (z+m*169) x)->H' t=ι (.tup [.int (m:Int),.ref tl])->H' tl=ι (.tup (jc V.int q))->Q (.ref t) H')
def NK{K:aD}{a:Addr}{g:TG}{tb:TS}{D:Ends}(Pv:Nat->St->Hp->Prop)(h0:Pv 0 σ H)(hsq:∀i σ' H',Pv i σ' H'->ak K H' a xs)
  (hs:∀i x σ' H',xs[i]?=ι x->Pv i σ' H'->g x σ' H' λσ2 H2=>tb {D with nx:=Pv (i+1),ct:=Pv (i+1),bk:=D.nx} σ2 H2) (hd:∀σ' H',Pv xs.length σ' H'->D.nx σ' H'):
  ∃W:Nat->Nat->St->Hp->Prop,(∃m,W 0 m σ H)/\∀i m σ H,W i m σ H->
   ((rm K a).stop i H/\D.nx σ H)∨((rm K a).go i H/\∃N:St->Hp->Prop,(∀σ' H',N σ' H'->∃m',m'<m/\W (i+1) m' σ' H')/\∀x H',(rm K a).m5 i H x H'->g x σ H' λσ2 H2=>tb {D with nx:=N,ct:=N,bk:=D.nx} σ2 H2):=by
 refine{λi m σ' H'=>m=xs.length-i/\i<=xs.length/\Pv i σ' H',{xs.length,by simp,cZ _,h0},?_};rintro i m σ' H' ⟨rfl,hi,p⟩;have hq:=hsq i σ' H' p;by_cases hlt:i<xs.length
 .refine .inr {{xs,xs[i],hq,List.getElem?_eq_getElem hlt},Pv (i+1),λσ2 H2 p2=>{xs.length-(i+1),⋯,rfl,⋯,p2},?_};rintro x H2 ⟨rfl,hx⟩;exact hs i x σ' H2 (hx xs hq) p
 .have e:i=xs.length:=⋯;subst e;exact .inl {{xs,hq,aZ _},hd σ' H' p}
def rF(H:Hp)(xs:τ)(l:El.fG):Prop:=∃ts:List (Addr×Int×Nat),xs=ts.map (λq=>V.ref q.1)/\l=ts.map (·.2)/\∀q∈ts,H q.1=ι (.tup [.int q.2.1,.int (q.2.2:Int)])
def rF.same(h:rF H xs l)(g:Same H H'):rF H' xs l:=by
 intros ts e1 e2 h h;exact{ts,e1,e2,λq hq=>g _ _ (h q hq)}
def rF.len(h:rF H xs l):xs.length=l.length:=by
 intros ts rfl rfl _ h;rw[aB,aB]
def rF.get(h:rF H xs l)(hx:xs[i]?=ι x):∃t p,x=.ref t/\l[i]?=ι p/\H t=ι (.tup [.int p.1,.int (p.2:Int)]):=by
 intros ts rfl rfl h h;rw[List.getElem?_map]at hx;cases e:ts[i]? with
 |none=>rw[e]at hx;cases hx
 |some q=>rw[e]at hx;cases hx;exact{q.1,q.2,rfl,by rw[List.getElem?_map,e];rfl,h q (List.mem_of_getElem? e)}
def OV{α:Type}{xs:List α}{f:α->V}(I:qC J (xs.map f) H1)(hz:xs.length<=1000){rest:St}(hst:cst ix σ=ν::rest)(G:α->V)
  (he:∀(H':Hp)(x:α),Same H1 H'->x∈xs->∀k:VK,(∀H2,Same H' H2->k (G x) H2)->te (ι (f x)::rest) H' k)
  (hQ:∀D H',H1 D=ν->Same H1 H'->H' D=ι (.lst (xs.map G))->Q (.ref D) H'):jV ix (gU 0) mQ te σ Q J H1:=by
 constructor;intro D hD;refine{λi m σ' H'=>m=xs.length-i/\i<=xs.length/\(∃o,σ'=o::rest)/\Same H1 H'/\H' D=ι (.lst ((xs.take i).map G)),{xs.length,by simp,cZ _,{ν,(hst)},Same.new hD _,by rw[aq];rfl},?_};rintro i m σ' H' ⟨rfl,hi,⟨o,rfl⟩,g,hl⟩;by_cases hlt:i<xs.length
 .refine .inr {I.go i _ g (by rw[aB];exact hlt),λx H2 y=>?_};obtain⟨rfl,hx⟩:=I.m5 i _ x H2 g y;have hx:=hx (by rw[aB];exact hlt);rw[List.getElem?_map,List.getElem?_eq_getElem hlt]at hx;cases hx;change te (ι (f xs[i])::rest) H2 _;refine he H2 xs[i] g (sE hlt) _ λH3 g3=>{_,g3 _ _ hl,by rw[aB,m9];have:=fJ hz;lia,xs.length-(i+1),⋯,rfl,hlt,{()},Same.upd (g.trans g3) hD _,?_};rw[aq,NZ hlt,fH];rfl
 .have e:i=xs.length:=⋯;rw[e,tX]at hl;exact .inl {I.stop _ _ g (by rw[aB];lia),hQ D H' hD g hl}
def Y3:∀m<4,∀x∈El.sG m,Bd 10 x:=by unfold Bd;decide
def DI:∀m<4,(El.sG m).length<=5:=∅
inductive aEq(ad:Cl->Addr)(vs:τ)(z:Hp)(Q:VK)(E:XK):Prop|mk(a:Addr)(P:ζ)(_:vs=[.ref a])(_:z a=ι (.tup (P.map V.int)))(_:P.length<=5)(_:Pm.Mon P)(_:(∀x∈P,Bd 32 x))(_:1<=(jd P).natAbs)(_:(jd P).natAbs<=3)(_:(zm P=false->∀l R t lr tl y H',Same z H'->Pm.Scan (El.sG (jd P).natAbs) P l R->H' t=ι (.tup [.ref lr,.ref tl])->H' lr=ι (.lst y)->rF H' y l->H' tl=ι (.tup (jc V.int R))->Q (.ref t) H'))(j7:(zm P=true->Rf ad .big z E))
theorem D7{u:Nat}(h:Bd u a):∀n,Bd (u*n+1) (a^n)
 |0=>by rw[Bk];exact(Bd.of (n:=1) ∅ ∅).mono ⋯
 |n+1=>by rw[pA];exact((D7 h n).mul h).mono (by rw[Fv];lia)
inductive aFC(vs:τ)(H:Hp)(Q:VK)(E:XK):Prop|mk(a e:Int)(_:vs=[.int a,.int e])(_:0<=e)(_:e<=100)(_:Bd 10 a)(_:Q (.int (a^e.toNat)) H)
def jI(a c:El.fG):El.cW (a++c)=El.cW a+El.cW c:=by unfold El.cW;rw[fH,EU]
def aHk(a c:El.fG)(n:Nat):El.m8 (a++c) n=El.m8 a n++El.m8 c n:=by unfold El.m8;rw[fH,QR]
def take_one{α:Type}{l:List α}{x:α}(h:l[i]?=ι x):l.take (i+1)=l.take i++[x]:=by rw[D8,h];rfl
def xf(l:El.fG)(i:Nat):El.cW (l.take i)<=El.cW l:=by
 have:=jI (l.take i) (l.drop i);rw[List.take_append_drop]at this;lia
def jK(h:x∈l):x.2<=El.cW l:=by
 obtain⟨a,c,rfl⟩:=List.append_of_mem h;rw[jI];show _<=_+(x.2+El.cW c);lia
def aGJ(h:∀x∈l,0<x.2):l.length<=El.cW l:=by
 induction l with
 |nil=>exact aZ _
 |cons a t ih=>
  have:=h a iY;have:=ih λx hx=>h x (fM _ hx);show t.length+1<=a.2+El.cW t;lia
structure jS(l:El.fG):Prop where
 few:El.cW l<=4
 pos:∀x∈l,0<x.2
 bd:∀x∈l,Bd 10 x.1
inductive aGp(vs:τ)(H:Hp)(Q:VK)(E:XK):Prop|mk(lr:Addr)(n:Int)(y:τ)(z:El.fG)(_:vs=[.ref lr,.int n])(_:H lr=ι (.lst y))(_:rF H y z)(_:0<=n)(_:n<=10)(_:jS z)(_:Told H Q ((El.m8 z n.toNat).map V.int))
def pX:El.fG->ζ->List (Int×ζ)
 |[],_=>[]
 |x::t,us=>(x.1,us.take x.2)::pX t (us.drop x.2)
theorem OS(x:Int×Nat):∀(l:El.fG)(us:ζ),pX (l++[x]) us=pX l us++[(x.1,(us.drop (El.cW l)).take x.2)]
 |[],us=>rfl
 |y::t,us=>by
  show(y.1,_)::pX (t++[x]) _=(y.1,_)::(pX t _++_);rw[OS x t,List.drop_drop];rfl
def yO(H:Hp)(ys:τ)(ps:List (Int×ζ)):Prop:=∃ts:List (Addr×Addr×Int×ζ),ys=ts.map (λq=>V.ref q.1)/\ps=ts.map (·.2.2)/\∀q∈ts,H q.1=ι (.tup [.int q.2.2.1,.ref q.2.1])/\H q.2.1=ι (.lst (q.2.2.2.map V.int))
def yO.same(h:yO H ys ps)(g:Same H H'):yO H' ys ps:=by
 intros ts e1 e2 h h;exact{ts,e1,e2,λq hq=>{g _ _ (h q hq).1,g _ _ (h q hq).2}}
def aJz(xs:τ){c:Nat}(h:a<=xs.length)(hc:c<=xs.length):fO xs (ι (a:Int)) (ι (c:Int))=(xs.drop a).take (c-a):=by
 unfold fO;rw[HT.pH,HT.pH,Lx h,Lx hc]
inductive aEM(vs:τ)(H:Hp)(Q:VK)(E:XK):Prop|mk(lr lt:Addr)(y:τ)(z:El.fG)(us:ζ)(_:vs=[.ref lr,.ref lt])(_:H lr=ι (.lst y))(_:rF H y z)(_:H lt=ι (.lst (us.map V.int)))(_:us.length=El.cW z)(_:z.length<=10)(_:∀D ys H',Same H H'->H' D=ι (.lst ys)->yO H' ys (pX z us)->Q (.ref D) H')
abbrev ju(r:Rw):ζ:=Pm.bZ 0 (sh r).ρ
end
open Classical in
section
variable {l:El.fG}{R xs:ζ}{B:Nat}{n:Int}{K:aD}{a:Addr}{ix:List (Option Nat)}{te:TE}{σ:St}{H1:Hp}{Q:VK}{r:Rw}
def xu(L:ζ):El.fG×ζ:=if h:∃p:El.fG×ζ,Pm.Scan (El.sG (jd L).natAbs) L p.1 p.2 then h.choose else([],[])
def ayJ{L:ζ}(h:Pm.Scan (El.sG (jd L).natAbs) L l R):xu L=(l,R):=by
 have ex:∃p:El.fG×ζ,Pm.Scan (El.sG (jd L).natAbs) L p.1 p.2:={(l,R),h};unfold xu;rw[dif_pos ex];have:=ex.choose_spec.uniq h;exact ku this.1 this.2
def Pa(l:El.fG)(ws:ζ):Int×ζ:=match El.jD (El.nW (El.lN l) ws) (El.cW l)with
 |some (B,last)=>(last.fdiv (lw last (tps B (El.cW l))),(tps B (El.cW l)).map λt=>t.fdiv (lw last (tps B (El.cW l))))
 |none=>(0,[])
def AF(r:Rw):Option (Int×List (Int×ζ)):=if(xu (ju r)).2=[1]then if(xu (ju r)).1.any (λx=>decide (x.1=0))=true then ν else ι ((Pa (xu (ju r)).1 (r.ς.take (El.cW (xu (ju r)).1))).1,pX (xu (ju r)).1 (Pa (xu (ju r)).1 (r.ς.take (El.cW (xu (ju r)).1))).2)else ν
def Bl(bot:Int)(ps:List (Int×ζ)):Prop:=Bd 8000 bot/\ps.length<=4/\∀p∈ps,Bd 10 p.1/\p.2.length<=4/\∀x∈p.2,Bd 8000 x
def aOa(h1:Pm.co P i≠0)(h2:∀k,k<i->Pm.co P k=0):jd P=Pm.co P i:=by
 induction P generalizing i with
 |nil=>rw[gw]at h1;exact absurd rfl h1
 |cons a t ih=>
  unfold jd;by_cases c:a=0
  .rw[pT (by simpa using c)];cases i with
   |zero=>rw[iQ]at h1;exact absurd c h1
   |succ i=>
    rw[pB]at h1⊢;exact ih h1 λk hk=>by have:=h2 (k+1) ⋯;rwa [pB]at this
  .rw[aw (by simpa using c),UX];cases i with
   |zero=>rw[iQ]
   |succ i=>have:=h2 0 ⋯;rw[iQ]at this;exact absurd this c
def pN.low{ρ:ζ}(h:pN ρ):1<=(jd (Pm.bZ 0 ρ)).natAbs/\(jd (Pm.bZ 0 ρ)).natAbs<=3:=by
 obtain⟨i,h1,h2⟩:=ZU (zV 0 ρ);rw[aOa h1 h2];exact{⋯,h.facts.2.2 i h1 h2}
def aEP(h:Pm.Scan cs p l R):∀x∈l,x.1∈cs/\0<x.2:=by
 induction h with
 |nil p=>exact nofun
 |hit _ _ _ ih=>
  intro x hx;rcases c7.mp hx with rfl|hx
  .exact{iY,Mn _}
  .exact{fM _ (ih x hx).1,(ih x hx).2}
 |miss _ _ ih=>exactλx hx=>{fM _ (ih x hx).1,(ih x hx).2}
def aEY(hl:∀x∈l,Bd 10 x.1/\x.2<=4)(hu:∀x∈us,Bd u x):(pX l us).length=l.length/\∀p∈pX l us,Bd 10 p.1/\p.2.length<=4/\∀x∈p.2,Bd u x:=by
 induction l generalizing us with
 |nil=>exact{rfl,(nofun)}
 |cons a t ih=>
  obtain⟨i1,i2⟩:=ih (us:=us.drop a.2) (λx hx=>hl x (fM _ hx)) λx hx=>hu x (YR hx);refine{congrArg (· + 1) i1,λp hp=>?_};have ha:=hl a iY;rcases c7.mp (show p∈(a.1,us.take a.2)::pX t (us.drop a.2)from hp)with rfl|hp
  .exact{ha.1,by rw[m9];lia,λx hx=>hu x (CP hx)}
  .exact i2 p hp
def avV(l:El.fG):(l.map λx=>((x.2:Nat):Int)).sum=((El.cW l:Nat):Int):=by
 unfold El.cW;induction l with
 |nil=>rfl
 |cons a t ih=>rw[ji,mx,ih,ji,mx];lia
def avm(ok:jS l){n:Nat}(hn:n<=10):∀x∈El.m8 l n,Bd 480 x:=λx hx=>by
 obtain⟨ys,hy,hx⟩:=x5.mp hx;obtain⟨p,hp,rfl⟩:=bO.mp hy;obtain⟨j,hj,rfl⟩:=oV hx;have:=jK hp;have:=ok.few;exact((D7 (ok.bd p hp) n).mul (D7 (u:=10) (Bd.of (x:=(n:Int)) ⋯ ⋯) j)).mono ⋯
inductive Z3(ad:Cl->Addr)(vs:τ)(H:Hp)(Q:VK)(E:XK):Prop|mk (v:V) (z:Rw) (c:Nat) (aR:vs=[v]) (aU:cO H v z) (aX:Sm c z) (bI:c<=480) (cj:(z.b≠0->Rf ad .by_ H E)) (dw:(z.b=0->zm (ju z)=true->Rf ad .big H E)) (gM:(z.b=0->zm (ju z)=false->
 (AF z=ν->∀H',Same H H'->Q .non H')/\∀bot ps,AF z=ι (bot,ps)->Bl bot ps->∀t lp ys H',Same H H'->H' t=ι (.tup [.int bot,.ref lp])->H' lp=ι (.lst ys)->yO H' ys ps->Q (.ref t) H'))
structure T8(r:Rw):Prop where
 len:r.ρ.length=r.ς.length
 short:r.ρ.length<=12
 jP:0<=r.b
 qZ:r.b<1000
 byp:r.b=0∨cT r.b.toNat
 sH:∀x∈r.ρ,jU r.b x
 tZ:∀x∈r.ς,jU r.b x
 kY:∀x∈r.ρ,x.natAbs<10^60
 jQ:∀x∈r.ς,x.natAbs<10^60
def txt(r:Rw):Str:=Tx.textOf r.b r.ρ r.ς
inductive awl(vs:τ)(H:Hp)(Q:VK)(E:XK):Prop|mk(i:Int)(_:vs=[.int i])(_:Q (.bl true) H)
inductive aHO(vs:τ)(H:Hp)(Q:VK)(E:XK):Prop|mk(b:Int)(_:vs=[.int b])(_:0<=b)(_:b<1000)(_:(b=0∨cT b.toNat))(_:Q (.bl true) H)
def jU.cases(h:jU b x):b=0∨(0<=x/\x<b):=h
inductive aGW(vs:τ)(H:Hp)(Q:VK)(E:XK):Prop|mk(b x:Int)(_:vs=[.int b,.int x])(_:jU b x)(_:Q (.bl true) H)
inductive aMd(vs:τ)(H:Hp)(Q:VK)(E:XK):Prop|mk(b:Int)(p:Addr)(xs:ζ)(_:vs=[.int b,.ref p])(_:H p=ι (.tup (xs.map V.int)))(_:xs.length<=12)(_:(∀x∈xs,jU b x))(_:∀H',Same H H'->Q (.bl true) H')
inductive aFj(vs:τ)(H:Hp)(Q:VK)(E:XK):Prop|mk(v:V)(r:Rw)(_:vs=[v])(_:cO H v r)(_:T8 r)(_:∀H',Same H H'->Q (.bl true) H')
def Q6:(cP "|")=Tx.bar:=by decide +kernel
def dE:(cP "by")=qz:=by decide +kernel
def jG:(cP " ")=Tx.one 32:=by decide +kernel
def aNK:(cP "-")=Tx.one 45:=by decide +kernel
def afC:(cP "0")=Tx.one 48:=by decide +kernel
def aA7:(cP "0123456789").cps.toList=sA:=by decide +kernel
def Rr(h:n.natAbs<10^60):n.natAbs.log2<1920:=by
 by_cases z:n.natAbs=0
 .rw[z];decide
 .exact(gV z).mpr (gJ h (by decide +kernel))
def axS:(vW ((10:Int)^(50:Int).toNat):Int)*8<=2^27:=by decide +kernel
def aB8:(vW (((10:Int)^(50:Int).toNat)^(8:Int).toNat):Int)*10<=2^27:=by decide +kernel
def aF1:Sp:=λvs H Q _=>vs=[]/\Q (.int (((10^50)^8)^10)) H
def aIS:(((10^50)^8)^10:Int)=((10^4000:Nat):Int):=by decide +kernel
def wH:10^4000<10^4300:=by decide +kernel
def dJ(n:Int):Prop:=n.natAbs<10^4000
def dJ.bd(h:Bd u n)(hu:u<=13287):dJ n:=gJ h (cM (ql ∅ hu) (by decide +kernel))
inductive aEF(vs:τ)(H:Hp)(Q:VK)(E:XK):Prop|mk(z:Int)(_:vs=[.int z])(_:dJ z)(_:Q (.str (aA z)) H)
def N9(hA:H1 a=ι (.tup (xs.map V.int)))(hz:xs.length<=1000){rest:St}(hst:cst ix σ=ν::rest)
  (he:∀H' x,Same H1 H'->x∈xs->∀kk:VK,kk (.str (aA x)) H'->te (ι (.int x)::rest) H' kk)
  (hQ:∀D,H1 D=ν->Q (.ref D) (upd H1 D (.lst ((xs.map aA).map V.str)))):jV ix (gU 0) mQ te σ Q (La K a) H1:=by
 refine pI (xG (ao.of hA)) (by rw[aB];exact iR (fJ hz)) hst (λ_=>true) (λx=>match x with|.int k=>.str (aA k)|_=>.non) ?_ ?_ ?_
 .intro H2 x g2 hx k hk;exact hk
 .intro H2 x g2 hx _ k hk;obtain⟨y,hy,rfl⟩:=bO.mp hx;exact he H2 y g2 hy k hk
 .intro D hD;have el:(((xs.map V.int).filter λ_=>true).map λx=>match x with|.int k=>V.str (aA k)|_=>V.non)=(xs.map aA).map V.str:=by
   rw[rT.mpr (by simp),dD,dD];rfl
  rw[el];exact hQ D hD
def NF(k:Nat)(h:n.natAbs<10^(k+1)):(aA n).length<=k+2:=by
 have e:(aA n).length=(aA n).cps.toList.length:=by simp[vY]
 rw[e];have l:=Qe k n.natAbs h;by_cases c:0<=n
 .obtain⟨m,rfl⟩:∃m:Nat,n=(m:Int):={n.toNat,⋯};rw[Mf];rw[Ce]at l;lia
 .obtain⟨m,rfl⟩:∃m:Nat,n=-(m:Int):={n.natAbs,⋯};rw[LN ⋯];rw[Nk,Ce]at l;show(iB m).length+1<=_;lia
def Il(h:n.natAbs<10^60):(aA n).length<=61:=NF 59 h
def dJ.len(h:dJ n):(aA n).length<=4001:=NF 3999 h
def T8.VQ(t:T8 r):r.b.natAbs<10^60:=by
 have:=t.jP;have:=t.qZ;exact gJ (⋯:r.b.natAbs<1000) (by decide +kernel)
def AB(h1:r.ρ.length<=12)(h2:r.ς.length<=12):(Tx.wordsOf r.b r.ρ r.ς).length<=27:=by
 unfold Tx.wordsOf nC;rw[gk,aB,j8,gk,aB];split<;>simp<;>lia
def L9(hB:2<=B)(h1:∀x∈r.ρ,(aA x).length<=B)(h2:∀x∈r.ς,(aA x).length<=B)(h3:(aA r.b).length<=B):∀w∈Tx.wordsOf r.b r.ρ r.ς,w.length<=B:=λw hw=>by
 rcases ig.mp hw with h|h
 .obtain⟨n,hn,rfl⟩:=bO.mp h;exact h1 n hn
 .rcases c7.mp h with h|h
  .rw[h];exact cM ∅ hB
  .rcases ig.mp h with h|h
   .obtain⟨n,hn,rfl⟩:=bO.mp h;exact h2 n hn
   .rcases ZS h with h|h
    .rw[h];exact hB
    .rw[h];exact h3
def Je(c:Nat)(h:∀w∈ws,w.length<=B)(hz:ws.length*(B+1)<=16777216):u6 (Tx.one c) ws=true:=by
 unfold u6;rw[dm (B:=B) h (by rw[show(Tx.one c).length=1 from rfl,<-Af];exact hz)];rfl
def T8.words(t:T8 r):∀w∈Tx.wordsOf r.b r.ρ r.ς,w.length<=61:=L9 ∅ (λn hn=>Il (t.kY n hn)) (λn hn=>Il (t.jQ n hn)) (Il t.VQ)
def T8.few(t:T8 r):(Tx.wordsOf r.b r.ρ r.ς).length<=27:=AB t.short (by have:=t.short;have:=t.len;lia)
def T8.join(t:T8 r):u6 (Tx.one 32) (Tx.wordsOf r.b r.ρ r.ς)=true:=Je 32 t.words (by have:=t.few;lia)
def T8.SM(t:T8 r):(txt r).length<=2000:=by
 have h:=Uk (Tx.one 32) (Tx.wordsOf r.b r.ρ r.ς);have h2:=og (B:=61) _ t.words;have:=t.few;have e:(Tx.one 32).length=1:=rfl;rw[e]at h;unfold txt Tx.textOf;lia
structure Tq(r:Rw):Prop where
 jP:0<=r.b
 qZ:r.b<1000
 l1:r.ρ.length<=12
 l2:r.ς.length<=12
 f1:∀x∈r.ρ,dJ x
 f2:∀x∈r.ς,dJ x
def Tq.join(t:Tq r):u6 (Tx.one 32) (Tx.wordsOf r.b r.ρ r.ς)=true:=by
 have h0:=t.jP;have h1:=t.qZ;refine Je 32 (L9 (B:=4001) ∅ (λn hn=>(t.f1 n hn).len) (λn hn=>(t.f2 n hn).len) ?_) (by have:=AB t.l1 t.l2;lia);exact(dJ.bd (Bd.of (n:=10) ⋯ ⋯) ∅).len
inductive aOP(vs:τ)(H:Hp)(Q:VK)(E:XK):Prop|mk(v:V)(z:Rw)(_:vs=[v])(_:cO H v z)(_:Tq z)(_:∀H',Same H H'->Q (.str (txt z)) H')
def Wr.len(h:Tx.Wr w):w.length<=61:=by
 intros s cs e _ _ l _ _ h;have:w.length=w.cps.toList.length:=by simp[vY]
 rw[this,e];cases s
 .show cs.length<=61;lia
 .show cs.length+1<=61;lia
inductive aQ9(vs:τ)(H:Hp)(Q:VK)(E:XK):Prop|mk(w:Str)(_:vs=[.str w])(_:Tx.Wr w)(_:∀H',Same H H'->Q (.bl true) H')
inductive aE9(vs:τ)(H:Hp)(Q:VK)(E:XK):Prop|mk(w:Str)(_:vs=[.str w])(_:Tx.Wr w)(_:∀H',Same H H'->Q (.int (pU w)) H')
inductive aMB(vs:τ)(H:Hp)(Q:VK)(E:XK):Prop|mk(w:Str)(p:Nat)(_:vs=[.str w])(_:Tx.Wr w)(_:pU w=(p:Int))(_:cT p)(_:p<1000)(_:∀H',Same H H'->Q (.int (p:Int)) H')
def L0(hA:H1 a=ι (.lst ((xs.map aA).map V.str)))(hz:xs.length<=1000)(hx:∀x∈xs,x.natAbs<10^60){rest:St}(hst:cst ix σ=ν::rest)
  (he:∀(H':Hp)(w:Str),Tx.Wr w->∀k:VK,(∀H2,Same H' H2->k (.int (pU w)) H2)->te (ι (.str w)::rest) H' k)
  (hQ:∀D H',H1 D=ν->Same H1 H'->H' D=ι (.lst (xs.map V.int))->Q (.ref D) H'):jV ix (gU 0) mQ te σ Q (rm K a) H1:=by
 refine C3 (ou (ak.of hA)) (by rw[aB,aB];exact iR (fJ hz)) hst (λx=>match x with|.str w=>.int (pU w)|_=>.non) ?_ ?_
 .intro H' x g hm k hk;obtain⟨w,hw,rfl⟩:=bO.mp hm;obtain⟨n,hn,rfl⟩:=bO.mp hw;exact he H' _ (RG (hx n hn)) k hk
 .intro D H' hD g h;refine hQ D H' hD g ?_;rw[h];have:(xs.map aA).map pU=xs:=aD9 hx
  conv=>rhs;rw[<-this]
  simp only[dD];rfl
inductive zd(vs:τ)(H:Hp)(Q:VK)(E:XK):Prop|mk(a1 a2:Addr)(r:Rw)(_:vs=[.ref a1,.ref a2,.int r.b])(_:H a1=ι (.lst ((r.ρ.map aA).map V.str)))(_:H a2=ι (.lst ((r.ς.map aA).map V.str)))(_:T8 r)(_:∀v H',Same H H'->cO H' v r->Q v H')
def aQx(r:Rw):QJ (txt r) (Tx.one 32)=Tx.wordsOf r.b r.ρ r.ς:=aD4 ..
inductive aLi(vs:τ)(H:Hp)(Q:VK)(E:XK):Prop|mk(z:Rw)(_:vs=[.str (txt z)])(_:T8 z)(_:∀v H',Same H H'->cO H' v z->Q v H')
def mR(ns:ζ):Str:=Str.join (Tx.one 32) (ns.map aA)
def De{ns:ζ}(h:∀x∈ns,dJ x)(hz:ns.length<=1000):u6 (Tx.one 32) (ns.map aA)=true:=Je 32 (B:=4001) (λw hw=>by
 obtain⟨n,hn,rfl⟩:=bO.mp hw;exact(h n hn).len) (by rw[aB];lia)
def Zv{J:It}(I:qC J (xs.map V.int) H1)(hz:xs.length<=1000){rest:St}(hst:cst ix σ=ν::rest)
  (he:∀H' x,Same H1 H'->x∈xs->∀kk:VK,kk (.str (aA x)) H'->te (ι (.int x)::rest) H' kk)
  (hQ:∀D H',H1 D=ν->Same H1 H'->H' D=ι (.lst ((xs.map aA).map V.str))->Q (.ref D) H'):jV ix (gU 0) mQ te σ Q J H1:=
 OV I hz hst (λx=>.str (aA x)) (λH' x g hx k hk=>he H' x g hx k (hk H' (Same.refl _))) λD H' hD g h=>hQ D H' hD g (by rw[h,dD];rfl)
def NQ(hA:Ints H1 a xs)(hz:xs.length<=1000){rest:St}(hst:cst ix σ=ν::rest)
  (he:∀H' x,Same H1 H'->x∈xs->∀kk:VK,kk (.str (aA x)) H'->te (ι (.int x)::rest) H' kk)
  (hQ:∀D H',H1 D=ν->Same H1 H'->H' D=ι (.lst ((xs.map aA).map V.str))->Q (.ref D) H'):oI K (V.ref a) H1 λJ H1=>jV ix (gU 0) mQ te σ Q J H1:=by
 rcases hA with h|h
 .exact{a,rfl,.inl {{_,ak.of h},Zv (ou (ak.of h)) hz hst he hQ}}
 .exact{a,rfl,.inr {{_,ao.of h},Zv (xG (ao.of h)) hz hst he hQ}}
inductive AL(vs:τ)(H:Hp)(Q:VK)(E:XK):Prop|mk(l:Addr)(ns:ζ)(_:vs=[.ref l])(_:Ints H l ns)(_:ns.length<=1000)(_:(∀x∈ns,dJ x))(_:∀H',Same H H'->Q (.str (mR ns)) H')
abbrev jJ:=Sum Str Cl
def yF(ad:Cl->Addr)(o:jJ)(H:Hp)(Q:VK)(E:XK):Prop:=match o with
 |.inl s=>∀H',Same H H'->Q (.str s) H'
 |.inr c=>Rf ad c H E
theorem yF.up{Q:VK}(h:yF ad o H Q E)(g:Same H H'):yF ad o H' Q E:=by
 cases o with
 |inl s=>exactλH2 g2=>h H2 (g.trans g2)
 |inr c=>exact Rf.up h g
end
open Classical in
def Gv(r:Rw)(x:Int):jJ:=if 0<=x/\x<=300 then .inl (mR (r.row x.toNat))else .inr .far
open Classical in
def Hr(r:Rw)(x:Int):jJ:=if uw r.b x then .inl (aA (r.at x.toNat))else .inr .far
def ptS:Option Nat->Str
 |none=>"never"
 |some n=>aA (n:Int)
def JQ(r s:Rw):jJ:=if r.b=s.b then .inl (ptS (Br r s))else .inr .by_
def Dt(r:Rw)(t:Str):jJ:=if r.b=0 then .inr .by_ else if r.b.toNat^(sh r).ρ.length<=4096 then .inl t else .inr .long
def Ux(r:Rw):jJ:=Dt r (mR [((eE (sh r)).1:Int),((eE (sh r)).2:Int)])
def En(es ss:ζ)(n:Int):Str:=Str.join (Tx.one 32) (es.map aA++Tx.bar::(ss.map aA++[Tx.bar,aA n]))
def Xz(r:Rw)(x:Int):jJ:=Dt r (En (jR (jA (sh r).at x) 0 (eE (sh r)).1) (jR (jA (sh r).at x) (eE (sh r)).1 (eE (sh r)).2) ((eE (sh r)).2:Int))
def zf(p:Int×ζ):Str:=aA p.1++cP ": " ++ mR p.2
def N6:Option (Int×List (Int×ζ))->Str
 |none=>"none"
 |some (bot,ps)=>Str.join (cP "; ") (aA bot::ps.map zf)
def Jx(r:Rw):jJ:=if r.b=0 then if zm (ju r)=true then .inr .big else .inl (N6 (AF r))else .inr .by_
def Kc(r:Rw):jJ:=if r.b=0 then .inl (aA ((oW 0 r.ς:Nat):Int))else .inr .by_
def unS:Option Nat->Str
 |none=>"yes"
 |some n=>"no " ++ aA (n:Int)
open Classical in
section
variable {c n N:Nat}{r:Rw}{d C a:Addr}{s t b:Str}{H H' H1:Hp}{M:eZ}{o:HO}{xs:τ}{ix:List (Option Nat)}{te:TE}{σ:St}{Q:VK}{x y:V}{k:Tw}{ad:Cl->Addr}{E:XK}{bot n0 n1 n2 n3 n4:Int}{ps:List (Int×ζ)}{K:aD}{was:List Wa}{g:Bool->Bool}
def G4(r:Rw)(d s e:Int):jJ:=if r.b=0 then if vM s e then .inl (unS (Bs r d s e))else .inr .far else .inr .by_
def Sm.tq(h:Sm c r)(hc:c<=500):Tq r:=
 {h.wf.hB.lo,h.wf.hB.hi,cM h.wf.l4 ∅,by have:=h.wf.l4;have:=h.wf.len;lia,λx hx=>dJ.bd (h.kY x hx) ∅,λx hx=>dJ.bd (h.jQ x hx) ⋯}
def Sm.few(h:Sm c r)(hc:c<=500){n:Nat}(hn:r.b=0->n<=303):dJ (r.at n):=by
 by_cases z:r.b=0
 .have:=hn z;exact dJ.bd ((h.mono (⋯:c<=500)).PK ∅ n) ⋯
 .have:=((h.iK hc).ok.Yq n).resolve_left z;have:=h.wf.hB.hi;exact dJ.bd (Bd.of (n:=10) ⋯ ⋯) ∅
def Sm.zr(h:Sm c r)(hc:c<=500){n:Nat}(hn:n<=300):∀x∈r.row n,dJ x:=λx hx=>by
 rw[RO]at hx;obtain⟨k,hk,rfl⟩:=oV hx;exact h.few hc λ_=>⋯
def Bu(h:n<=4096):dJ (n:Int):=dJ.bd (Bd.of (n:=20) ⋯ ⋯) ∅
def Ou(h:lo+n<=1000):∀x∈jR p lo n,dJ x:=λx hx=>by
 obtain⟨i,hi,rfl⟩:=bO.mp hx;obtain⟨j,hj,rfl⟩:=bO.mp (sI.mp hi).1;have:=gZ.mp hj;exact Bu (by show lo+j<=4096;lia)
def GH(h:Sm c r)(hc:c<=500):dJ ((oW 0 r.ς:Nat):Int):=by
 have key:∀(xs:ζ)(g:Nat),g<2^500->(∀x∈xs,Bd 500 x)->oW g xs<2^500:=λxs=>by
  induction xs with
  |nil=>exactλg hg _=>hg
  |cons x t ih=>
   intro g hg h;refine ih (oM g x.natAbs) ?_ λy hy=>h y (fM _ hy);by_cases z:g=0
   .rw[z,Nat.gcd_zero_left];exact h x iY
   .exact qU (Nat.gcd_le_left _ ⋯) hg
 refine dJ.bd (u:=500) ?_ ∅;have:=key r.ς 0 (Nat.two_pow_pos _) λx hx=>(h.jQ x hx).mono hc;unfold Bd;rw[Ce];exact this
def xh{d s:Int}(hl:r.ρ.length<=12)(h:Bs r d s e=ι n):dJ (n:Int):=by
 have:=List.mem_of_find?_eq_some h;exact Bu (by have:=gZ.mp this;lia)
def Dx{s:Rw}(hl:r.ρ.length+s.ρ.length<=24)(h:Br r s=ι n):dJ (n:Int):=by
 have:=List.mem_of_find?_eq_some h;exact Bu (by have:=gZ.mp this;lia)
noncomputable def zy:List Nat:=[97,98,99,100,101,102,103,104,105,106,107,108,109,110,111,112,113,114,115,116,117,118,119,120,121,122,48,49,50,51,52,53,54,55,56,57]
def CO:(cP "abcdefghijklmnopqrstuvwxyz0123456789").cps.toList=zy:=by decide +kernel
structure jk(s:Str):Prop where
 lo:1<=s.length
 hi:s.length<=8
 all:∀c∈s.cps.toList,c∈zy
def aSt:32∉zy:=∅
def jk.clean(h:jk s):32∉s.cps.toList:=λz=>aSt (h.all _ z)
inductive Wa|nw(s:Str)|a (s:Str) (r:Rw)|num (i:Int)|txt (r:Rw)
def Wa.kind:Wa->Str
 |.nw _=>"NEW"|.a _ _=>"A"|.num _=>"NUMBER"|.txt _=>"TEXT"
def Wa.word:Wa->Str
 |.nw s=>s|.a s _=>s|.num i=>aA i|.txt r=>K53.txt r
abbrev eZ:=Str->Option Rw
def Wa.Ok(M:eZ):Wa->Prop
 |.nw s=>jk s|.a s r=>jk s/\M s=ι r|.num i=>i.natAbs<10^60|.txt r=>T8 r
def Wa.V(H:Hp):Wa->L2.V->Prop
 |.nw s,v=>v=.str s|.a _ r,v=>cO H v r|.num i,v=>v=.int i|.txt r,v=>cO H v r
theorem WaV.tup{H H':Hp}(g:∀b ts,H b=ι (.tup ts)->H' b=ι (.tup ts)){x:Wa}{v:L2.V}(h:x.V H v):x.V H' v:=by
 have row:∀{r:Rw},cO H v r->cO H' v r:=λ⟨a,p,q,e,h1,h2,h3⟩=>{a,p,q,e,g _ _ h1,g _ _ h2,g _ _ h3};cases x with
 |nw s=>exact h
 |a s r=>exact row h
 |num i=>exact h
 |txt r=>exact row h
inductive Tw|gW|places|at_|part|round|where_|closed|divisor|divides
def Tw.word:Tw->Str
 |.gW=>"show"|.places=>"places"|.at_=>"at"|.part=>"part"|.round=>"round"|.where_=>"where"|.closed=>"closed"|.divisor=>"divisor"|.divides=>"divides"
inductive lV:Tw->List Wa->jJ->Prop
 |gW {s:Str} {v:Rw}:Sm 480 v->lV .gW [.a s v] (.inl (txt v))
 |places {s:Str} {v:Rw} {p:Int}:Sm 480 v->lV .places [.a s v,.num p] (Gv v p)
 |at_ {s:Str} {v:Rw} {p:Int}:Sm 480 v->(v.b=0->p<=303)->Bd 400 p->lV .at_ [.a s v,.num p] (Hr v p)
 |part {s t:Str} {v u:Rw}:Sm 480 v->Sm 480 u->lV .part [.a s v,.a t u] (JQ v u)
 |round {s:Str} {v:Rw}:Sm 480 v->lV .round [.a s v] (Ux v)
 |where_ {s:Str} {v:Rw} {p:Int}:Sm 480 v->lV .where_ [.a s v,.num p] (Xz v (tk v.b p))
 |closed {s:Str} {v:Rw}:Sm 480 v->lV .closed [.a s v] (Jx v)
 |divisor {s:Str} {v:Rw}:Sm 480 v->lV .divisor [.a s v] (Kc v)
 |divides {s:Str} {v:Rw} {p m z:Int}:Sm 480 v->0<p->p<1000->lV .divides [.a s v,.num p,.num m,.num z] (G4 v p m z)
inductive Mk|row|scale|on
def Mk.word:Mk->Str
 |.row=>"row"|.scale=>"scale"|.on=>"on"
inductive BH:Mk->List Wa->Rw->Prop
 |row {r:Rw}:BH .row [.txt r] r
 |scale {s:Str} {r:Rw}:Sm 480 r->BH .scale [.a s r,.num 2] (sh (PF r (tk r.b 2)))
 |on {s:Str} {r:Rw}:Sm 480 r->BH .on [.a s r,.num 1] (r.on 1)
structure gR(H:Hp)(d:Addr)(M:eZ)(N:Nat):Prop where
 ex:∃kvs:List (Key×V),H d=ι (.dK kvs)/\kvs.length<=N/\(∀kv∈kvs,∃s,kv.1=.inr s)/\∀s,match eG kvs (.inr s),M s with
  |some v,ι r=>cO H v r
  |none,ν=>True
  |_,_=>False
def eZ.put(M:eZ)(n:Str)(r:Rw):eZ:=λs=>if s=n then ι r else M s
def jM(d:Addr)(H H':Hp):Prop:=∀b o,b≠d->H b=ι o->H' b=ι o
def jM.row(g:jM d H H')(hd:H d=ι (.dK kvs)){r:Rw}(h:cO H v r):cO H' v r:=by
 intros a p q e h1 h2 h3 h;have k:∀b ts,H b=ι (.tup ts)->H' b=ι (.tup ts):=λb ts z=>g b _ (λe=>by rw[e,hd]at z;cases z) z;exact{a,p,q,e,k _ _ h1,k _ _ h2,k _ _ h3}
def gR.get(h:gR H d M N){s:Str}{r:Rw}(hm:M s=ι r):∃v,oZ H d (.str s) (ι v)/\cO H v r:=by
 intros kvs hd _ _ hk h.ex;have q:=hk s;have g:oZ H d (.str s) (eG kvs (.inr s)):=oZ.k (k:=vL s) hd;rw[hm]at q;cases e:eG kvs (.inr s)with
 |none=>rw[e]at q;exact q.elim
 |some v=>rw[e]at q g;exact{v,g,(q)}
theorem gR.same{H H':Hp}{d:Addr}{M:eZ}{N:Nat}(h:gR H d M N)(g:Same H H'):gR H' d M N:=by
 intros kvs hd h1 h2 hk h.ex;refine{kvs,g _ _ hd,h1,h2,λs=>?_};have q:=hk s;revert q;cases eG kvs (.inr s)<;>cases M s<;>intro q
 .exact q
 .exact q
 .exact q
 .exact cO.same q g
def gR.XF(h:gR H d M N)(ne:d≠e)(g:jM e H H')(he:H e=ι (.dK kvs)):gR H' d M N:=by
 intros kvs hd h1 h2 hk h.ex;refine{kvs,g _ _ ne hd,h1,h2,λs=>?_};have q:=hk s;revert q;cases eG kvs (.inr s)<;>cases M s<;>intro q
 .exact q
 .exact q
 .exact q
 .exact g.row he q
def bc:jM d H (upd H d o):=λb u hb e=>by rw[cH hb];exact e
theorem gR.put{H:Hp}{d:Addr}{M:eZ}{N:Nat}(h:gR H d M N)(hN:N<=100){n:Str}{v:V}{r:Rw}(hR:cO H v r):∃H',uH H d (.str n) v H'/\jM d H H'/\gR H' d (M.put n r) (N+1):=by
 intros kvs hd h1 h2 hk h.ex;refine{_,uH.k (k:=vL n) hd (fJ ⋯),bc,_,aq,cM (Yk kvs _ _) ⋯,λkv hkv=>?_,λs=>?_}
 .unfold putK at hkv;split at hkv
  .obtain⟨kv',h',rfl⟩:=bO.mp hkv;split
   .exact h2 kv' h'
   .exact h2 kv' h'
  .rcases ig.mp hkv with h'|h'
   .exact h2 _ h'
   .rw[eN.mp h'];exact{n,(rfl)}
 .rw[Zg];unfold eZ.put;by_cases e:s=n
  .rw[if_pos e,if_pos (by rw[e])];exact bc.row hd hR
  .rw[if_neg e,if_neg (λz=>e (JP z))];have q:=hk s;revert q;cases eG kvs (.inr s)<;>cases M s<;>intro q
   .exact q
   .exact q
   .exact q
   .exact bc.row hd q
def gR.none_(h:H d=ι (.dK [])):gR H d (λ_=>ν) 0:={[],h,aZ _,(λ_ z=>nomatch z),λ_=>True.intro}
def gR.up(h:gR H d M N)(hN:N<=N'):gR H d M N':=by
 intros kvs h1 h2 h3 h4 h.ex;exact{kvs,h1,cM h2 hN,h3,h4}
structure eY(C:Addr)(H:Hp)(p d:Addr)(M:eZ)(N:Nat):Prop where
 ob:∃dx,H p=ι (.ins C dx (kE "kept" (.ref d) []))
 kp:gR H d M N
def M3:(kE "kept" (.ref d) []:List (Str×V)).lookup ("kept":Str)=ι (.ref d):=by rw[Nj,if_pos rfl]
def aFr:(kE "kept" (.ref d) []:List (Str×V)).lookup ("say":Str)=ν:=by
 rw[Nj,if_neg (by decide +kernel)];rfl
theorem eY.same{C:Addr}{H H':Hp}{d:Addr}{M:eZ}{N:Nat}(h:eY C H p d M N)(g:Same H H'):eY C H' p d M N:=by
 obtain⟨⟨dx,h1⟩,h2⟩:=h;exact{{dx,g _ _ h1},h2.same g}
def eY.ne(h:eY C H p d M N):p≠d:=by
 obtain⟨⟨dx,h1⟩,h2⟩:=h;intros kvs h3 _ h2.ex;exact uR h1 h3 (by intro z;cases z)
def aSR{α:Type}{xs:List α}(hz:xs.length<=1000){rest:St}(hst:cst ix σ=ν::rest)(R:α->V->Hp->Prop)(hR:∀x y (H' H2:Hp),(∀b ts,H' b=ι (.tup ts)->H2 b=ι (.tup ts))->R x y H'->R x y H2)
  (he:∀(H':Hp)(k:Nat)(x:α),Same H1 H'->xs[k]?=ι x->∀kk:VK,(∀y H2,Same H' H2->R x y H2->kk y H2)->te (ι (.int (0+(k:Int)))::rest) H' kk)
  (hQ:∀D H' ys,H1 D=ν->Same H1 H'->H' D=ι (.lst ys)->Paired (λx y=>R x y H') xs ys->Q (.ref D) H'):jV ix (gU 0) mQ te σ Q (qK 0 xs.length) H1:=by
 constructor;intro D hD;refine{λi m σ' H'=>m=xs.length-i/\i<=xs.length/\(∃o,σ'=o::rest)/\Same H1 H'/\∃ys,H' D=ι (.lst ys)/\Paired (λx y=>R x y H') (xs.take i) ys,{xs.length,by simp,cZ _,{ν,(hst)},Same.new hD _,[],aq,by rw[Y4];exact .nil},?_};rintro i m σ' H' ⟨rfl,hi,⟨o,rfl⟩,g,ys,hl,hp⟩;have hle:=hp.length;rw[m9]at hle;by_cases hlt:i<xs.length
 .refine .inr {hlt,λx H2 y=>?_};intros e1 e2 y;subst e1 e2;have hx:xs[i]?=ι xs[i]:=List.getElem?_eq_getElem hlt;change te (ι _::rest) H2 _;refine he H2 i xs[i] g hx _ λy H3 g3 r3=>{ys,g3 _ _ hl,by have:=fJ hz;lia,xs.length-(i+1),⋯,rfl,hlt,{()},Same.upd (g.trans g3) hD _,ys++[y],aq,?_};have up:∀x z,R x z H3->R x z (upd H3 D (.lst (ys++[y]))):=λx z r=>hR x z H3 _ (λb ts e=>by
   rw[cH λq=>by rw[q,g3 _ _ hl]at e;cases e];exact e) r
  rw[NZ hlt];exact Paired.snoc (Paired.GC hp λx z r=>up _ _ (hR _ _ _ _ (λb ts e=>g3 _ _ e) r)) (up _ _ r3)
 .have e:i=xs.length:=⋯;rw[e,tX]at hp;exact .inl {by show xs.length<=i;lia,hQ D H' ys hD g hl hp}
abbrev qI:Str:="row"
def at0:je (x::xs) 0=ι x:=nZ (j:=0) rfl
def at1:je (x::y::xs) 1=ι y:=nZ (j:=1) rfl
def at2{z:V}:je (x::y::z::xs) 2=ι z:=nZ (j:=2) rfl
def sAN:¬("A":Str) = "NEW" := by decide +kernel
def sUN:¬("NUMBER":Str) = "NEW" := by decide +kernel
def sUA:¬("NUMBER":Str) = "A" := by decide +kernel
def sTN:¬("TEXT":Str) = "NEW" := by decide +kernel
def sTA:¬("TEXT":Str) = "A" := by decide +kernel
def sTU:¬("TEXT":Str) = "NUMBER" := by decide +kernel
def sTB:¬("TEXT":Str) = "BY" := by decide +kernel
def cy(xs:τ)(k:Nat):fO xs (ι (k:Int)) ν=xs.drop k:=Th xs k
def Wi(t:Str)(ws:List Str):Prop:=t.length<=100000/\((QJ t (Tx.one 32)=ws/\∃w r,ws=w::r/\w≠qI)∨∃(n:Str)(r:Rw),T8 r/\ws=[qI,n,txt r]/\QJ t (Tx.one 32)=qI::n::Tx.wordsOf r.b r.ρ r.ς)
def aBJ(H:Hp)(Q:VK)(ws:List Str):Prop:=∀l H',Same H H'->H' l=ι (.lst (ws.map V.str))->Q (.ref l) H'
inductive aLS(vs:τ)(H:Hp)(Q:VK)(E:XK):Prop|mk(t:Str)(ws:List Str)(_:vs=[.str t])(_:Wi t ws)(_:aBJ H Q ws)
inductive aBa(K:aD)(vs:τ)(H:Hp)(Q:VK)(E:XK):Prop|mk(l:Addr)(w:Str)(ws k0:List Str)(_:vs=[.ref l])(_:H l=ι (.lst ((w::ws).map V.str)))(_:(w,k0)∈zR)(_:w≠ "ahead")(_:ws.length=k0.length)(_:ws.length<=10)(_:∀z H',Same H H'->ao K H' z (k0.map V.str)->Q (.ref z) H')
inductive axF(vs:τ)(H:Hp)(Q:VK)(E:XK):Prop|mk(z:Str)(_:vs=[.str z])(_:jk z)(_:∀H',Same H H'->Q (.str z) H')
inductive aQA(vs:τ)(H:Hp)(Q:VK)(E:XK):Prop|mk(d:Addr)(s:Str)(M:eZ)(N:Nat)(r:Rw)(_:vs=[.ref d,.str s])(_:jk s)(_:gR H d M N)(_:M s=ι r)(_:∀v H',Same H H'->cO H' v r->Q v H')
inductive avS(vs:τ)(H:Hp)(Q:VK)(E:XK):Prop|mk(d:Addr)(x:Wa)(M:eZ)(N:Nat)(_:vs=[.ref d,.str x.kind,.str x.word])(_:x.Ok M)(_:gR H d M N)(_:∀v H',Same H H'->x.V H' v->Q v H')
inductive ayL(C:Addr)(vs:τ)(H:Hp)(Q:VK)(E:XK):Prop|mk(p dx:Addr)(_:vs=[.ref p])(_:H p=ι (.ins C dx []))(_:∀d H',H d=ν->eY C H' p d (λ_=>ν) 0->(∀b z,H b=ι z->b≠p->H' b=ι z)->Q .non H')
abbrev BA(P w K mg base cY):=Fg P w K mg base cY "__init__" 1 ["self"] (ayL cY)
def jy:∀{α β:Type} {F:α->β->Prop} {a:α} {l:List α} {ys:List β},Paired F (a::l) ys->∃y r,ys=y::r/\F a y/\Paired F l r:=λh=>by
 cases h with
 |cons z r=>exact{_,(),z,r}
inductive uN(ad:Cl->Addr)(w:Str)(vs:τ)(z:Hp)(Q:VK)(E:XK):Prop|mk(k:Tw)(was:List Wa)(o:jJ)(l:Addr)(v:τ)(_:vs=[.ref l])(_:k.word=w)(_:z l=ι (.lst v))(_:Paired (Wa.V z) was v)(_:lV k was o)(_:yF ad o z Q E)
def ZJ:List Tw:=[.gW,.places,.at_,.part,.round,.where_,.closed,.divisor,.divides]
def LJ(k:Tw):k∈ZJ:=by cases k<;>simp[ZJ]
def aDM:(ZJ.map Tw.word).Nodup:=by decide +kernel
def Su{α:Type}{f:α->Str}{k k':α}(h:f k=f k'):∀{l:List α},(l.map f).Nodup->k∈l->k'∈l->k=k':=λ{l}=>by
 induction l with
 |nil=>intro _ h;cases h
 |cons a l ih=>
  intro hn h1 h2;rw[ji,Cd]at hn;rcases c7.mp h1 with e1|h3<;>rcases c7.mp h2 with e2|h4
  .rw[e1,e2]
  .exact absurd (bO.mpr {_,h4,by rw[<-h,e1]}) hn.1
  .exact absurd (bO.mpr {_,h3,by rw[h,e2]}) hn.1
  .exact ih hn.2 h3 h4
def vo{k':Tw}(h:k.word=k'.word):k=k':=Su h aDM (LJ k) (LJ k')
def Nt(q:yF ad (Dt r t) H Q E)(g:(∀H',Same H H'->Q (.str t) H')->G):Qk ad H E r G:=by
 unfold Dt at q;refine{λz=>by rw[if_pos z]at q;exact q,λz w=>?_,λz w=>?_}
 .rw[if_neg z,if_neg ⋯]at q;exact q
 .rw[if_neg z,if_pos w]at q;exact g q
def OC{a:Nat}(h:a+c<=1000):∀x∈[(a:Int),(c:Int)],dJ x:=λx hx=>by
 rcases c7.mp hx with rfl|hx
 .exact Bu ⋯
 .rw[eN.mp hx];exact Bu ⋯
def avA{es ss:ζ}{n:Int}(h1:∀x∈es,dJ x)(h2:∀x∈ss,dJ x)(h3:dJ n)(hz:es.length+ss.length<=1000):u6 (Tx.one 32) (es.map aA++Tx.bar::(ss.map aA++[Tx.bar,aA n]))=true:=by
 refine Je 32 (B:=4001) (λw hw=>?_) (by simp;lia);rcases ig.mp hw with hw|hw
 .obtain⟨x,hx,rfl⟩:=bO.mp hw;exact(h1 x hx).len
 rcases c7.mp hw with rfl|hw
 .decide
 rcases ig.mp hw with hw|hw
 .obtain⟨x,hx,rfl⟩:=bO.mp hw;exact(h2 x hx).len
 rcases c7.mp hw with rfl|hw
 .decide
 .rw[eN.mp hw];exact h3.len
def Bl.few(h:Bl bot ps):dJ bot/\∀p∈ps,dJ p.1/\p.2.length<=4/\∀x∈p.2,dJ x:={dJ.bd h.1 ∅,λp hp=>{dJ.bd (h.2.2 p hp).1 ∅,(h.2.2 p hp).2.1,λx hx=>dJ.bd ((h.2.2 p hp).2.2 x hx) ∅}}
def dU(a b:Str):(a++b).length=a.length+b.length:=by
 show(a.cps++b.cps).size=_;rw[TU];rfl
def Mv{k:Nat}(h:∀x∈ns,dJ x)(hk:ns.length<=k):(mR ns).length<=4002*k:=by
 have h1:=Uk (Tx.one 32) (ns.map aA);have h2:=og (B:=4001) (ns.map aA) λw hw=>by
  obtain⟨n,hn,rfl⟩:=bO.mp hw;exact(h n hn).len
 rw[aB]at h1 h2;have e:(Tx.one 32).length=1:=rfl;rw[e]at h1;have:ns.length*4001<=k*4001:=pO _ hk;unfold mR;lia
def rH:(cP ": ").length=2/\(cP "; ").length=2:=by decide +kernel
def lno:(cP "no ").length=3:=by decide +kernel
def ayz(h:dJ p.1/\p.2.length<=4/\∀x∈p.2,dJ x):(zf p).length<=20100:=by
 unfold zf;have h1:=h.1.len;have h2:=Mv h.2.2 h.2.1;rw[dU,dU,rH.1];lia
def aH0(h:Bl bot ps):u6 (cP "; ") (aA bot::ps.map zf)=true:=by
 unfold u6;have h4:=h.2.1;intros f1 f2 h.few;rw[dm (B:=20100) (λw hw=>?_) (by rw[rH.2,j8,aB];lia)]
 .rfl
 rcases c7.mp hw with rfl|hw
 .exact cM f1.len ∅
 .obtain⟨p,hp,rfl⟩:=bO.mp hw;exact ayz (f2 p hp)
def GW{K:VK}(h1:Sm 480 r)(hR:cO H v r)(q:yF ad (Jx r) H Q E)(k0:N6 (AF r) = "none" -> AF r=ν->(∀H',Same H H'->Q (.str "none") H')->∀H',Same H H'->K .non H')
  (k1:∀bot ps,Bl bot ps->(∀H',Same H H'->Q (.str (N6 (ι (bot,ps)))) H')->∀t lp ys H',Same H H'->H' t=ι (.tup [.int bot,.ref lp])->H' lp=ι (.lst ys)->yO H' ys ps->K (.ref t) H'):Z3 ad [v] H K E:=by
 unfold Jx at q;refine{v,r,480,rfl,hR,h1,∅,λz=>by rw[if_neg z]at q;exact q,λz b=>by rw[if_pos z,if_pos b]at q;exact q,λz b=>?_};rw[if_pos z,if_neg (by rw[b];decide)]at q;refine{λe=>?_,λbot ps e ok t lp ys H' g h2 h3 h4=>k1 bot ps ok (by rw[e]at q;exact q) t lp ys H' g h2 h3 h4};rw[e]at q;exact k0 (by rw[e];rfl) e q
inductive S8(w:Str)(vs:τ)(z:Hp)(Q:VK)(E:XK):Prop|mk(k:Mk)(was:List Wa)(r:Rw)(l:Addr)(v:τ)(_:vs=[.ref l])(_:k.word=w)(_:z l=ι (.lst v))(_:Paired (Wa.V z) was v)(_:BH k was r)(_:∀v' H',Same z H'->cO H' v' r->Q v' H')
def mk_inj{k k':Mk}(h:k.word=k'.word):k=k':=Su (l:=[.row,.scale,.on]) h (by decide +kernel) (by cases k<;>simp) (by cases k'<;>simp)
def bd2{b:Int}(hB:nR b):Bd 10 (tk b 2):=Hq hB ∅ (Bd.of ∅ ∅)
def zb(b:Int):uw b 1:={∅,λ_=>∅}
inductive Z2(C:Addr)(ad:Cl->Addr)(p d:Addr)(M:eZ)(N:Nat)(H:Hp)(Q:VK)(E:XK):Str->List Wa->Prop
 |tell {k:Tw} {was:List Wa} {o:jJ}:lV k was o->yF ad o H Q E->Z2 C ad p d M N H Q E k.word was
 |make {k:Mk} {z:Str} {was:List Wa} {v:Rw}:BH k was v->(∀H',jM d H H'->eY C H' p d (M.put z v) (N+1)->Q (.str "ok") H')->Z2 C ad p d M N H Q E k.word (.nw z::was)
inductive tJ(C:Addr)(ad:Cl->Addr)(vs:τ)(H:Hp)(Q:VK)(E:XK):Prop|mk(p d:Addr)(t w:Str)(was:List Wa)(z:eZ)(N:Nat)(_:vs=[.ref p,.str t])(_:eY C H p d z N)(_:N<=100)(_:Wi t (w::was.map Wa.word))(_:(w,was.map Wa.kind)∈zR)(_:w≠ "ahead")(_:was.length<=10)(_:(∀x∈was,x.Ok z))(j7:Z2 C ad p d z N H Q E w was)
def DH(k:Mk):k.word∈JG.map (·.1):=by cases k<;>decide +kernel
def aRo(k:Mk):k.word∈Xf:=by cases k<;>decide +kernel
def Cf(k:Tw):k.word∈Mg.map (·.1):=by cases k<;>decide +kernel
theorem eY.put{C:Addr}{H:Hp}{p d:Addr}{M:eZ}{N:Nat}(h:eY C H p d M N)(hN:N<=100){n:Str}{v:V}{r:Rw}(hR:cO H v r):∃H',uH H d (.str n) v H'/\jM d H H'/\eY C H' p d (M.put n r) (N+1):=by
 obtain⟨H',h1,h2,h3⟩:=h.kp.put hN (n:=n) hR;intros dx e h.ob;exact{H',h1,h2,{dx,h2 _ _ h.ne e},h3}
def jM.of(g:Same H H1)(g':jM d H1 H'):jM d H H':=λb o hb e=>g' b o hb (g b o e)
abbrev Ex(P w K mg base cY cC cF cD cG):=Fg P w K mg base cY "say" 15 ["self","row"] (tJ cY (adr cC cG cD cF))
inductive aOi(K:aD)(vs:τ)(H:Hp)(Q:VK)(E:XK):Prop|mk(z ns v)(_:vs=[.ref z,.int v])(_:ak K H z (ns.map V.int))(_:0<=v)(_:Q (.int (cellAt ns v)) H)
inductive aF0(vs:τ)(H:Hp)(Q:VK)(E:XK):Prop|mk(z v)(_:vs=[.int z,.int v])(_:0<=v)(_:v<=1000)(_:Q (.int (qu z v)) H)
inductive aRN(vs:τ)(H:Hp)(Q:VK)(E:XK):Prop|mk(z:Int)(_:vs=[.int z])(_:∀H',Same H H'->Q (.int (Y6 z)) H')
inductive aQp(vs:τ)(H:Hp)(Q:VK)(E:XK):Prop|mk(z v:Int)(_:vs=[.int z,.int v])(_:0<=v)(_:v<MM)(_:Q (.int (oJ z v)) H)
inductive aBy(vs:τ)(H:Hp)(Q:VK)(E:XK):Prop|mk(z v m:Int)(_:vs=[.int z,.int v,.int m])(_:0<=v)(_:v<MM)(_:0<=m)(_:m<=1000)(_:Told H Q ((rY z v m.toNat).map V.int))
inductive aHu(vs:τ)(H:Hp)(Q:VK)(E:XK):Prop|mk(z v:Int)(_:vs=[.int z,.int v])(_:0<=z)(_:Q (.int (tk z v)) H)
def P8{P:Str->Prop}(h:∀y∈ys,∃s,y=.str s/\P s):∃ws:List Str,ys=ws.map V.str/\∀s∈ws,P s:=by
 induction ys with
 |nil=>exact{[],rfl,λ_ z=>nomatch z}
 |cons y r ih=>
  obtain⟨ws,e,hw⟩:=ih λz hz=>h z (fM _ hz);obtain⟨s,e1,hs⟩:=h y iY;exact{s::ws,by rw[e,e1];rfl,λz hz=>(c7.mp hz).elim (λe=>e▸hs) (hw z)}
structure Sg(n:Nat)(s:Str):Prop where
 len:s.cps.toList.length=n
 all:∀c∈s.cps.toList,c∈zy
def Sg.nm(h:Sg n s)(h1:1<=n)(h8:n<=8):jk s:=by
 have e:s.length=s.cps.toList.length:=by simp[vY]
 exact{by rw[e,h.len];exact h1,by rw[e,h.len];exact h8,h.all}
theorem oi:∀ws:List Str,(Ao ur ws).cps.toList=(ws.map λw=>w.cps.toList).flatten
 |[]=>rfl
 |[w]=>by show w.cps.toList=_;simp
 |w::v::r=>by
  show((w.cps++ur.cps)++(Ao ur (v::r)).cps).toList=_;rw[Qa,Qa,oi (v::r)];simp[ur]
def UT:(cP "")=ur:=by decide +kernel
def Nw(k:Int)(h0:0<=k)(h1:k<36):∃c,je (cP "abcdefghijklmnopqrstuvwxyz0123456789").cps.toList k=ι c/\c∈zy:=by
 rw[CO];have hk:k.toNat<zy.length:=by show k.toNat<36;lia
 refine{zy[k.toNat],?_,sE hk};have:=nZ (List.getElem?_eq_getElem hk)
 rwa [(⋯:((k.toNat:Nat):Int)=k)]at this
def Bz:(cP "abcdefghijklmnopqrstuvwxyz0123456789").length<=sizeLine:=by decide +kernel
inductive awO(vs:τ)(H:Hp)(Q:VK)(E:XK):Prop|mk(c t:Int)(_:vs=[.int c,.int t])(_:∀(l:Addr)(H':Hp)(ns:List Str),Same H H'->H' l=ι (.lst (ns.map V.str))->ns.length=8->(∀z∈ns,jk z)->Q (.ref l) H')
theorem xA(s:Str):∀(n:Nat)(a:Array Nat),((iy n s.cps).foldl (·++·) a).toList=a.toList++(iy n s.cps.toList).flatten
 |0,a=>by simp
 |n+1,a=>by
  rw[zc,RV,xA s n,zc,Dq];simp
def aNd(f:Nat->Int)(k:Nat):cv f (Pm.co [1]) k=f k:=by
 rw[mL,wt,sY];split
 .rw[fK]
 .rw[pF λi _=>.inl (gw i),fK]
def aDz{c:ζ}(hl:c.length<=4)(h:∀x∈c,x.natAbs<=3):pN c:=by
 refine{Pm.bZ 0 c,[1],{zV 0 c,by rw[nG];lia,λk=>?_},{∅,rfl},λk=>(aNd _ k).symm};by_cases hk:k<(Pm.bZ 0 c).length
 .rcases ig.mp (show Pm.co (Pm.bZ 0 c) k∈_++[1]from Bf hk)with z|z
  .obtain⟨j,hj,e⟩:=oV z;rw[e,dj];have:=h (Pm.co c (c.length-1-j)) (Bf ⋯);lia
  .rw[eN.mp z];decide
 .rw[bY ⋯];decide
inductive aEH(vs:τ)(H:Hp)(Q:VK)(E:XK):Prop|mk(b c m:Int)(_:vs=[.int b,.int c,.int m])(_:b∈bys)(_:0<=m)(_:m<=4)(_:(5<b->m<=2))(_:∀v r H',Same H H'->cO H' v r->Sm 10 r->r.b=b->Q v H')
def zE{Dc:Addr}{b:Bool}{w:Str}{rest:St}{k:VK}(hA:Rd H a (xJ a C))(hI:qt K C)(hk:bB K (.ref C) (.ref Dc)=ι b)(q:∀t H',Same H H'->H' t=ι (.tup [.bl b,.str w])->k (.ref t) H'):
  zi (uq (SN (XO K) (uq (DR 0) (uq (tC (.ref Dc)) uD))) (uq (tC (.str w)) uD)) (ι (.ref a)::rest) H k:=
 {(),a,C,_,b,rfl,hA,hI,.inl {(),hk},(bG 2),λt ht=>q t _ (Same.new ht _) aq}
def Um(H:Hp)(p:Bool×Str)(v:V):Prop:=∃t,v=.ref t/\H t=ι (.tup [.bl p.1,.str p.2])
def aOL{bw:List (Bool×Str)}{tc:TT}(hA:H1 a=ι (.lst xs))(hp:Paired (Um H1) bw xs)(hz:xs.length<=1000){rest:St}(hst:cst ix σ=ν::ν::rest)
  (ht:∀(H':Hp)(b:Bool)(w:Str)(kk:Bool->Hp->Prop),kk b H'->tc (ι (.bl b)::ι (.str w)::rest) H' kk) (he:∀(H':Hp)(b:Bool)(w:Str)(kk:VK),kk (.str w) H'->te (ι (.bl b)::ι (.str w)::rest) H' kk)
  (hQ:∀D H',Same H1 H'->H' D=ι (.lst (((bw.filter (·.1)).map (·.2)).map V.str))->Q (.ref D) H'):jV ix (Pj K 2 (js (gU 0) (js (gU 1) af5))) tc te σ Q (rm K a) H1:=by
 have I:=ou (K:=K) (ak.of hA);have lx:=hp.length;constructor;intro D hD;refine{λi m σ' H'=>m=xs.length-i/\i<=xs.length/\(∃o o2,σ'=o::o2::rest)/\Same H1 H'/\H' D=ι (.lst ((((bw.take i).filter (·.1)).map (·.2)).map V.str)),{xs.length,by simp,cZ _,{ν,ν,(hst)},Same.new hD _,aq},?_};rintro i m σ' H' ⟨rfl,hi,⟨o,o2,rfl⟩,g,hl⟩;by_cases hlt:i<xs.length
 .refine .inr {I.go i _ g hlt,λx H2 y=>?_};obtain⟨e1,hx⟩:=I.m5 i _ x H2 g y;subst e1;have hib:i<bw.length:=⋯;have key:∀{bs:List (Bool×Str)} {vs:τ} {j:Nat} {v:V},Paired (Um H1) bs vs->vs[j]?=ι v->∃p,bs[j]?=ι p/\Um H1 p v:=λ{bs vs j v} h=>by
   induction h generalizing j with
   |nil=>intro z;cases z
   |cons z _ ih=>
    intro e;cases j with
    |zero=>cases e;exact{(),z}
    |succ j=>rw[List.getElem?_cons_succ]at e ⊢;exact ih e
  obtain⟨p,ep,t,rfl,htp⟩:=key hp (hx hlt);have et:bw.take (i+1)=bw.take i++[p]:=by
   rw[NZ hib];rw[List.getElem?_eq_getElem hib]at ep;cases ep;rfl
  exists t,(),ao.of (g _ _ htp),rfl,_,(),"";refine ht H2 p.1 p.2 _ ?_;cases hb:p.1 with
  |true=>
   refine eO (he H2 true p.2 _ {_,hl,?_,xs.length-(i+1),⋯,rfl,hlt,{_,()},g.upd hD _,?_})
   .rw[aB,aB];have:=ZR (·.1) (bw.take i);rw[m9]at this;have:=fJ hz;lia
   .rw[aq,et,Rq,fH,fH,Ma,if_pos hb];rfl
  |false=>
   refine bK {xs.length-(i+1),⋯,rfl,hlt,{_,()},g,?_};rw[hl,et,Rq,Ma,if_neg (by rw[hb];decide),List.filter_nil,rJ]
 .have e:i=bw.length:=⋯;rw[e,tX]at hl;exact .inl {I.stop _ _ g ⋯,hQ D H' g hl}
def yG:Cl->Str
 |.by_=>"by"|.long=>"long"|.far=>"far"|.big=>"big"
inductive aRK(z:Cl->Addr)(vs:τ)(H:Hp)(Q:VK)(E:XK):Prop|mk(a:Addr)(v:Cl)(_:vs=[.ref a])(_:Rd H a (xJ a (z v)))(_:∀H',Same H H'->Q (.str (yG v)) H')
def ax7(ad:Cl->Addr):Sp:=aRK ad
def uW(g:Same H H')(h:Rd H a o):Rd H' a o:=h.imp (λe=>g _ _ e) λ⟨u,e⟩=>{u,g _ _ e}
def y6:Cl->List Bool
 |.by_=>[false,true,false,false,false,false,false,false]
 |.far=>[false,false,false,true,false,false,false,false]
 |.long=>[false,false,false,false,true,false,false,false]
 |.big=>[false,false,false,false,false,true,false,false]
def xC:List Str:=["number","by","text","far","long","big","row","name"]
def aGK(c:Cl):((((y6 c).zip xC).filter (·.1)).map (·.2))=[yG c]:=by cases c<;>rfl
def E4(H:Hp)(Q:VK)(a:Str)(v:V):Prop:=∀t H',Same H H'->H' t=ι (.tup [.str a,v])->Q (.ref t) H'
inductive aSy(z:Addr)(v:Cl->Addr)(vs:τ)(H:Hp)(Q:VK)(E:XK):Prop|mk(p:Addr)(t:Str)(_:vs=[.ref p,.str t])(_:(∃dx fs,H p=ι (.ins z dx fs)/\fs.lookup ("say":Str)=ν))(_:∀(Q':VK) (E':XK),(∀m H',E4 H' Q "told" (.str m)->Q' (.str m) H')->(∀u H',E4 H' Q "refused" (.str (yG u))->E' (.ref (v u)) ν H')->tJ z v [.ref p,.str t] H Q' E')
def zG(C:Addr)(ad:Cl->Addr):Sp:=aSy C ad
def n9(c:Cl):¬yG c = "" := by cases c<;>decide +kernel
def FA(M:Ms P w K mg base cC jq iz jg jl jf cF cD cG)(c:Cl):zK base (M.ad c) jf:=by
 cases c
 .exact M.aOu
 .exact M.azs
 .exact M.aS2
 .exact M.aEb
abbrev vy(P w K mg base cY cC cF cD cG):=rM P w K mg base "_law_told" 16 ["_law_desk","_law_text_here"] (zG cY (adr cC cG cD cF))
def join_cons(s x y:Str)(r:List Str):Str.join s (x::y::r)=x++s++Str.join s (y::r):=rfl
def qb(a b c:Str):a++b++c=a++(b++c):=by
 show({(a.cps++b.cps)++c.cps}:Str)={(a.cps++(b.cps++c.cps))};rw[sx]
def aLl(s u x:Str)(r:List Str):Str.join s ((u++x)::r)=u++Str.join s (x::r):=by
 cases r with
 |nil=>rfl
 |cons y r=>rw[join_cons,join_cons,qb,qb,qb]
theorem Be(s:Str):∀(xs:List Str)(a:Str),Str.join s (a::xs)=xs.foldl (λf x=>f++s++x) a
 |[],_=>rfl
 |x::r,a=>by rw[RV,<-Be s r,aLl,join_cons]
theorem YC(s:Str):∀(xs:List Str)(y:Str)(ys:List Str),xs≠[]->Str.join s (xs++y::ys)=Str.join s xs++s++Str.join s (y::ys)
 |[],_,_,h=>absurd rfl h
 |[x],y,ys,_=>rfl
 |x::x'::r,y,ys,_=>by
  show Str.join s (x::x'::(r++y::ys))=_;rw[join_cons,show x'::(r++y::ys)=(x'::r)++y::ys from rfl,YC s (x'::r) y ys (by simp),join_cons];simp only[qb]
inductive aEW(vs:τ)(H:Hp)(Q:VK)(E:XK):Prop|mk(v:V)(z:Option (Int×List (Int×ζ)))(_:vs=[v])(_:(z=ν/\v=.non∨∃bot ps t lp ys,z=ι (bot,ps)/\Bl bot ps/\v=.ref t/\H t=ι (.tup [.int bot,.ref lp])/\H lp=ι (.lst ys)/\yO H ys ps))(_:∀H',Same H H'->Q (.str (N6 z)) H')
inductive aQC(vs:τ)(H:Hp)(Q:VK)(E:XK):Prop|mk(t le ls:Addr)(es ss:ζ)(z:Int)(_:vs=[.ref t])(_:H t=ι (.tup [.ref le,.ref ls,.int z]))(_:H le=ι (.lst (es.map V.int)))(_:H ls=ι (.lst (ss.map V.int)))(_:es.length<=1000)(_:ss.length<=1000)(_:(∀v∈es,dJ v))(_:(∀v∈ss,dJ v))(j7:dJ z)(_:∀H',Same H H'->Q (.str (En es ss z)) H')
def Jn:cP "| " = Tx.bar++Tx.one 32/\cP " | " = Tx.one 32++Tx.bar++Tx.one 32:=by decide +kernel
def OI(a:Str):a++ur=a:=by
 show({(a.cps++#[])}:Str)=a;rw[Array.append_empty]
def aCw(ss:ζ)(n:Int):Str.join (Tx.one 32) (Tx.bar::(ss.map aA++[Tx.bar,aA n]))=Tx.bar++Tx.one 32++(if ss=[]then ur else mR ss++Tx.one 32)++(Tx.bar++Tx.one 32)++aA n:=by
 have j1:∀x,Str.join (Tx.one 32) [x]=x:=λx=>rfl;generalize aA n=z;generalize Tx.bar=b;cases ss with
 |nil=>rw[if_pos rfl,OI,Jy,Jb,join_cons,join_cons,j1];simp only[qb]
 |cons a t=>
  rw[if_neg (by simp),ji,Vw,join_cons,<-Vw,YC _ (aA a::t.map aA) _ _ (by simp),join_cons,j1];unfold mR;rw[ji];simp only[qb]
def ax6(es ss:ζ)(n:Int):En es ss n=(if es=[]then cP "| " else mR es++cP " | ")++(if ss=[]then ur else mR ss++Tx.one 32)++cP "| " ++ aA n:=by
 unfold En;rw[Jn.1,Jn.2];have t:=aCw ss n;cases es with
 |nil=>rw[Jy,Jb,t,if_pos rfl]
 |cons a r=>
  rw[if_neg (by simp),ji,YC _ (aA a::r.map aA) _ _ (by simp),t];generalize (if ss=[]then ur else mR ss++Tx.one 32)=u;unfold mR;rw[ji];simp only[qb]
def eU(k':Tw){t:TS}{σ:St}{H:Hp}(ne:k≠k')(hσ:σ[0]?=ι (ι (.str k.word)))(q:D.nx σ H):QW (CZ (u9 (pC K id) (DR 0) (tC (.str k'.word)))) t Qm D σ H:=by
 exists _,hσ,();rw[show decide (k.word=k'.word)=false from decide_eq_false λe=>ne (vo e)];exact bK q
def vZ(k:Tw){t:TS}{σ:St}{H:Hp}(hσ:σ[0]?=ι (ι (.str k.word)))(q:t D σ H):QW (CZ (u9 (pC K id) (DR 0) (tC (.str k.word)))) t Qm D σ H:=by
 exists _,hσ,();rw[decide_eq_true rfl];exact eO q
def xO(a b:Str)(r s:Rw)(n0 n1 n2 n3 n4:Int):Tw->List Wa
 |.gW=>[.a a r]|.places=>[.a a r,.num n0]|.at_=>[.a a r,.num n0]|.part=>[.a a r,.a b s]|.round=>[.a a r]|.where_=>[.a a r,.num n1]|.closed=>[.a a r]|.divisor=>[.a a r]|.divides=>[.a a r,.num n2,.num n3,.num n4]
inductive yi(ad:Cl->Addr)(vs:τ)(H:Hp)(Q:VK)(E:XK):Prop|mk(u:Tw)(v1 v2:V)(l:Addr)(z v:Str)(f e:Rw)(p m j i h:Int)(o:jJ)(_:vs=[.str u.word,v1,v2,.ref l])(_:H l=ι (.lst [.int p,.int m,.int j,.int i,.int h]))(_:cO H v1 f)(_:cO H v2 e)(_:lV u (xO z v f e p m j i h u) o)(_:yF ad o H Q E)
inductive ayn(p:Cl->Addr)(vs:τ)(H:Hp)(u:VK)(E:XK):Prop|mk(w:Str)(v1 v2:V)(l:Addr)(_:vs=[.str w,v1,v2,.ref l])(_:∀(Q':VK) (E':XK),(∀v z,E4 z u "told" v->Q' v z)->(∀m z,E4 z u "refused" (.str (yG m))->E' (.ref (p m)) ν z)->yi p [.str w,v1,v2,.ref l] H Q' E')
def MW(ad:Cl->Addr):Sp:=ayn ad
def Sk(s:Str):Prop:=∀c∈s.cps.toList,c<256
def Sk.ok(h:Sk s):A9 s=true:=by
 unfold A9;rw[<-Array.all_toList,mY];exactλc hc=>decide_eq_true (p7 (h c hc) ∅)
def Sk.app{a:Str}(ha:Sk a)(hb:Sk b):Sk (a++b):=λc hc=>by
 rcases ig.mp (show c∈a.cps.toList++b.cps.toList by rw[<-Qa];exact hc)with h|h
 .exact ha c h
 .exact hb c h
def wW(n:Int):Sk (aA n):=λc hc=>by rcases Gf n c hc with h|h<;>lia
theorem Kq{s:Str}(hs:Sk s):∀{ws:List Str},(∀w∈ws,Sk w)->Sk (Str.join s ws)
 |[],_=>nofun
 |[w],h=>h w iY
 |w::v::r,h=>((h w iY).app hs).app (Kq hs λx hx=>h x (fM _ hx))
def UJ(ns:ζ):∀w∈ns.map aA,Sk w:=λw hw=>by
 obtain⟨n,_,rfl⟩:=bO.mp hw;exact wW n
def iX:Sk (Tx.one 32):=λc hc=>by rw[eN.mp (show c∈[32]from hc)];decide
def nv:Sk Tx.bar:=λc hc=>by rw[eN.mp (show c∈[124]from hc)];decide
def pK(h:(s.cps.toList.all λc=>decide (c<256))=true):Sk s:=λc hc=>of_decide_eq_true (mY.mp h c hc)
def ZC(ns:ζ):Sk (mR ns):=Kq iX (UJ ns)
def ON(r:Rw):Sk (txt r):=Kq iX λw hw=>by
 rcases M1 hw with rfl|rfl|⟨n,rfl⟩
 .exact nv
 .exact pK rfl
 .exact wW n
def awz(c:Cl):A9 (yG c)=true:=by cases c<;>decide +kernel
def lV.sk{o:jJ}(h:lV k was o){s:Str}(e:o=.inl s):Sk s:=by
 cases h with
 |@gW _ r=>cases e;exact ON r
 |places=>unfold Gv at e;split at e<;>cases e;exact ZC _
 |at_=>unfold Hr at e;split at e<;>cases e;exact wW _
 |@part _ _ r u=>
  unfold JQ at e;split at e<;>cases e;cases Br r u with
  |none=>exact pK rfl
  |some n=>exact wW _
 |round=>
  unfold Ux Dt at e;split at e
  .cases e
  .split at e<;>cases e;exact ZC _
 |where_=>
  unfold Xz Dt at e;split at e
  .cases e
  split at e<;>cases e;unfold En;refine Kq iX λw hw=>?_;rcases ig.mp hw with hw|hw
  .exact UJ _ w hw
  rcases c7.mp hw with rfl|hw
  .exact nv
  rcases ig.mp hw with hw|hw
  .exact UJ _ w hw
  rcases c7.mp hw with rfl|hw
  .exact nv
  .rw[eN.mp hw];exact wW _
 |@closed _ r=>
  unfold Jx at e;split at e;case isFalse=>cases e
  split at e<;>cases e;cases AF r with
  |none=>exact pK rfl
  |some p=>
   refine Kq (pK rfl) λw hw=>?_;rcases c7.mp hw with rfl|hw
   .exact wW _
   .obtain⟨z,_,rfl⟩:=bO.mp hw;exact((wW _).app (pK rfl)).app (ZC _)
 |divisor=>unfold Kc at e;split at e<;>cases e;exact wW _
 |@divides _ r x y z=>
  unfold G4 at e;split at e;case isFalse=>cases e
  split at e<;>cases e;cases Bs r x y z with
  |none=>exact pK rfl
  |some n=>exact(pK rfl).app (wW _)
def Jg{b:Addr}(os:A9 s=true)(ot:A9 t=true)(ha:H a=ι (.tup [.str s,.str t]))(hb:H b=ι (.tup [.str s,.str t]))(q:Q (.bl (g true)) H):pC K g (.ref a) (.ref b) H Q:=by
 refine .inl {_,_,.tup (ao.of ha) (.cons (.str _) (.cons (.str _) .nil)),.tup (ao.of hb) (.cons (.str _) (.cons (.str _) .nil)),by simp[SeqAt.shaped,MZ,JV,Ry,GR,os,ot],by simp[SeqAt.shaped,MZ,JV,Ry,GR,os,ot],?_};have:wj (.tuple [.str s,.str t]) (.tuple [.str s,.str t])=true:=by simp[wj,PyData.eqvAll]
 rw[this];exact q
structure Dn(n0 n1 n2 n3 n4:Int):Prop where
 a0:n0.natAbs<10^60
 a1:n1.natAbs<10^60
 a2:0<n2/\n2<1000
 a3:n3.natAbs<=1000
 a4:n4.natAbs<=1000
inductive aMQ(vs:τ)(H:Hp)(Q:VK)(E:XK):Prop|mk(n:Int)(_:vs=[.int n])(_:∀(l:Addr)(H':Hp)(n0 n1 n2 n3 n4:Int),Same H H'->H l=ν->H' l=ι (.lst [.int n0,.int n1,.int n2,.int n3,.int n4])->Dn n0 n1 n2 n3 n4->n0<=303->Q (.ref l) H')
def tH{x:Int}(h:x.natAbs<=1000):x.natAbs<10^60:=qU h (by decide +kernel)
def sV(b:Str)(n0 n1 n2 n3 n4:Int):Tw->List Str
 |.places=>[aA n0]|.at_=>[aA n0]|.part=>[b]|.where_=>[aA n1]|.divides=>[aA n2,aA n3,aA n4]|_=>[]
def aI2(a b:Str)(r s:Rw)(n0 n1 n2 n3 n4:Int)(k:Tw):(xO a b r s n0 n1 n2 n3 n4 k).map Wa.word=a::sV b n0 n1 n2 n3 n4 k:=by cases k<;>rfl
def tail3(n0:Int):Tw->List Str
 |.places=>[aA n0]|.at_=>[aA n0]|_=>[]
def cx(b:Str)(n0:Int):Tw->List Str
 |.places=>[aA n0]|.at_=>[aA n0]|.part=>[b]|_=>[]
def Zw(b:Str)(n0 n1:Int):Tw->List Str
 |.places=>[aA n0]|.at_=>[aA n0]|.part=>[b]|.where_=>[aA n1]|_=>[]
def isAt:Tw->Bool
 |.places=>true|.at_=>true|_=>false
def aHb(k:Tw):inV (.str k.word) [.str "places",.str "at"]=isAt k:=by cases k<;>decide +kernel
def XG(k:Tw):k.word.length<=8/\32∉k.word.cps.toList/\k.word≠qI/\k.word≠ "ahead" := by cases k<;>decide +kernel
def WN(n:Int):32∉(aA n).cps.toList:=λh=>by rcases Gf n 32 h with z|z<;>lia
def xi(hb:jk b)(d:Dn n0 n1 n2 n3 n4)(k:Tw):(sV b n0 n1 n2 n3 n4 k).length<=3/\∀w∈sV b n0 n1 n2 n3 n4 k,w.length<=61/\32∉w.cps.toList:=by
 have sh:∀{n:Int},n.natAbs<10^60->(aA n).length<=61/\32∉(aA n).cps.toList:=λh=>{Il h,WN _};have s2:=sh (tH (x:=n2) (by have:=d.a2;lia));have s3:=sh (tH d.a3);have s4:=sh (tH d.a4);cases k<;>refine{by first|exact cZ _|exact Mm rfl,λw hw=>?_}<;>first|exact absurd hw Ej|skip
 .rw[eN.mp hw];exact sh d.a0
 .rw[eN.mp hw];exact sh d.a0
 .rw[eN.mp hw];exact{cM hb.hi ∅,hb.clean}
 .rw[eN.mp hw];exact sh d.a1
 .rcases c7.mp hw with rfl|hw
  .exact s2
  rcases c7.mp hw with rfl|hw
  .exact s3
  .rw[eN.mp hw];exact s4
inductive ayK(vs:τ)(H:Hp)(Q:VK)(E:XK):Prop|mk(k:Tw)(l:Addr)(a b:Str)(n0 n1 n2 n3 n4:Int)(_:vs=[.str k.word,.str a,.str b,.ref l])(_:H l=ι (.lst [.int n0,.int n1,.int n2,.int n3,.int n4]))(_:jk a)(_:jk b)(_:Dn n0 n1 n2 n3 n4)(_:∀H',Same H H'->Q (.str (Str.join (Tx.one 32) (k.word::a::sV b n0 n1 n2 n3 n4 k))) H')
def Qq(k:Tw)(a b:Str)(l:Addr)(H:Hp)(t:List Str)(σ':St)(H':Hp):Prop:=∃l',σ'=[ι (.str k.word),ι (.str a),ι (.str b),ι (.ref l),ι (.ref l')]/\Same H H'/\H' l'=ι (.lst (t.map V.str))
def Mb{a:Str}(ha:jk a)(hb:jk b)(d:Dn n0 n1 n2 n3 n4)(k:Tw):(∀w∈k.word::a::sV b n0 n1 n2 n3 n4 k,w.length<=61/\32∉w.cps.toList)/\(k.word::a::sV b n0 n1 n2 n3 n4 k).length<=5:=by
 obtain⟨t1,t2⟩:=xi hb d k;obtain⟨p1,p2,_⟩:=XG k;refine{λw hw=>?_,by show(sV b n0 n1 n2 n3 n4 k).length+1+1<=5;lia};rcases c7.mp hw with rfl|hw
 .exact{⋯,p2}
 rcases c7.mp hw with rfl|hw
 .exact{cM ha.hi ∅,ha.clean}
 .exact t2 w hw
def tS(k':Tw){t:TS}{σ:St}{H:Hp}(hσ:σ[0]?=ι (ι (.str k.word)))(h1:k=k'->t D σ H)(h2:k≠k'->D.nx σ H):QW (CZ (u9 (pC K id) (DR 0) (tC (.str k'.word)))) t Qm D σ H:=by
 by_cases e:k=k'
 .subst e;exact vZ k hσ (h1 rfl)
 .exact eU k' e hσ (h2 e)
def QV:jJ->τ
 |.inl s=>[.str "told",.str s]|.inr c=>[.str "refused",.str (yG c)]
def VM{b:Addr}{o:jJ}(ok:lV k was o)(ha:H a=ι (.tup (QV o)))(hb:H b=ι (.tup (QV o)))(q:Q (.bl (g true)) H):pC K g (.ref a) (.ref b) H Q:=by
 cases o with
 |inl s=>exact Jg (pK rfl).ok (ok.sk rfl).ok ha hb q
 |inr c=>exact Jg (pK rfl).ok (awz c) ha hb q
def Sm.t8(h:Sm 10 r):T8 r:=
 {h.wf.len,cM h.wf.l4 ∅,h.wf.hB.lo,h.wf.hB.hi,h.wf.hB.pr,h.wf.sH,h.wf.tZ,λx hx=>gJ (h.kY x hx) (by decide +kernel),λx hx=>gJ (h.jQ x hx) (by decide +kernel)}
def aQe(r s:Rw)(n0 n1 n2 n3 n4:Int):Tw->jJ
 |.gW=>.inl (txt r)|.places=>Gv r n0|.at_=>Hr r n0|.part=>JQ r s|.round=>Ux r|.where_=>Xz r (tk r.b n1)|.closed=>Jx r|.divisor=>Kc r|.divides=>G4 r n2 n3 n4
def okT{a:Str}{s:Rw}(hr:Sm 480 r)(hs:Sm 480 s)(dn:Dn n0 n1 n2 n3 n4)(h0:r.b=0->n0<=303)(k:Tw):lV k (xO a b r s n0 n1 n2 n3 n4 k) (aQe r s n0 n1 n2 n3 n4 k):=by
 cases k with
 |gW=>exact .gW hr
 |places=>exact .places hr
 |at_=>exact .at_ hr h0 (gJ dn.a0 (by decide +kernel))
 |part=>exact .part hr hs
 |round=>exact .round hr
 |where_=>exact .where_ hr
 |closed=>exact .closed hr
 |divisor=>exact .divisor hr
 |divides=>exact .divides hr dn.a2.1 dn.a2.2
def knT:Tw->List Str
 |.gW=>["A"]|.places=>["A","NUMBER"]|.at_=>["A","NUMBER"]|.part=>["A","A"]|.round=>["A"]|.where_=>["A","NUMBER"]|.closed=>["A"]|.divisor=>["A"]|.divides=>["A","NUMBER","NUMBER","NUMBER"]
def aRX(a b:Str)(r s:Rw)(n0 n1 n2 n3 n4:Int)(k:Tw):(xO a b r s n0 n1 n2 n3 n4 k).map Wa.kind=knT k:=by cases k<;>rfl
def aBi(k:Tw):(k.word,knT k)∈zR:=by cases k<;>decide +kernel
def aFI(a b:Str)(r s:Rw)(n0 n1 n2 n3 n4:Int)(k:Tw):(xO a b r s n0 n1 n2 n3 n4 k).length<=10:=by cases k<;>simp[xO]
def TM(h:∀w∈ws,w.length<=61)(hl:ws.length<=5):(Str.join (Tx.one 32) ws).length<=100000:=by
 have h1:=Uk (Tx.one 32) ws;have h2:=og (B:=61) _ h;rw[show(Tx.one 32).length=1 from rfl]at h1;lia
end
def eY.said(hD:eY C H p d M N)(h:∀(Q':VK) (E':XK),(∀s H',E4 H' Q "told" (.str s)->Q' (.str s) H')->(∀c H',E4 H' Q "refused" (.str (yG c))->E' (.ref (ad c)) ν H')->tJ C ad [.ref p,.str t] H Q' E'):zG C ad [.ref p,.str t] H Q E:=by
 intros dx hp hD.ob;exact{p,t,rfl,{dx,_,hp,aFr},h}
def jM.then(g:jM d H H')(g2:Same H' H2):jM d H H2:=λb o hb e=>g2 _ _ (g b o hb e)
def bo(hD:eY C H p d M N)(hN:N<=100)(oa:jk a)(ob:jk b)(dn:Dn n0 n1 n2 n3 n4)(ma:M a=ι r)(mb:M b=ι u)(ok:lV k (xO a b r u n0 n1 n2 n3 n4 k) o)(q:∀t H',Same H H'->H' t=ι (.tup (QV o))->Q (.ref t) H'):zG C ad [.ref p,.str (Str.join (Tx.one 32) (k.word::a::sV b n0 n1 n2 n3 n4 k))] H Q E:=by
 obtain⟨w1,w2⟩:=Mb oa ob dn k;refine hD.said λQ' E' k1 k2=>{p,d,_,k.word,xO a b r u n0 n1 n2 n3 n4 k,M,N,rfl,hD,hN,{TM (λw hw=>(w1 w hw).1) w2,.inl {?_,k.word,(),(XG k).2.2.1}},?_,(XG k).2.2.2,aFI ..,?_,.tell ok ?_}
 .rw[aI2];exact QL (c:=32) ∅ (by simp) λw hw=>(w1 w hw).2
 .rw[aRX];exact aBi k
 .have A:(Wa.a a r).Ok M:={oa,(ma)};have B:(Wa.a b u).Ok M:={ob,(mb)};have N0:(Wa.num n0).Ok M:=dn.a0;have N1:(Wa.num n1).Ok M:=dn.a1;have N2:(Wa.num n2).Ok M:=tH (by have:=dn.a2;lia);have N3:(Wa.num n3).Ok M:=tH dn.a3;have N4:(Wa.num n4).Ok M:=tH dn.a4;have c0:∀x∈([]:List Wa),x.Ok M:=nofun;cases k with
  |gW=>exact iT.mpr {A,(c0)}
  |places=>exact iT.mpr {A,iT.mpr {N0,(c0)}}
  |at_=>exact iT.mpr {A,iT.mpr {N0,(c0)}}
  |part=>exact iT.mpr {A,iT.mpr {B,(c0)}}
  |round=>exact iT.mpr {A,(c0)}
  |where_=>exact iT.mpr {A,iT.mpr {N1,(c0)}}
  |closed=>exact iT.mpr {A,(c0)}
  |divisor=>exact iT.mpr {A,(c0)}
  |divides=>exact iT.mpr {A,iT.mpr {N2,iT.mpr {N3,iT.mpr {N4,(c0)}}}}
 .cases o with
  |inl s=>exactλH' g=>k1 s H' λt H2 g2 e=>q t H2 (g.trans g2) e
  |inr c=>exactλH' g=>k2 c H' λt H2 g2 e=>q t H2 (g.trans g2) e
def OM(hl:H l=ι (.lst [.int n0,.int n1,.int n2,.int n3,.int n4]))(h1:cO H v1 r)(h2:cO H v2 u)(ok:lV k (xO a b r u n0 n1 n2 n3 n4 k) o)(q:∀t H',Same H H'->H' t=ι (.tup (QV o))->Q (.ref t) H'):MW ad [.str k.word,v1,v2,.ref l] H Q E:=
 {k.word,v1,v2,l,rfl,λQ' E' k1 k2=>{k,v1,v2,l,a,b,r,u,n0,n1,n2,n3,n4,o,rfl,hl,h1,h2,ok,by
  cases o with
  |inl s=>exactλH' g=>k1 (.str s) H' λt H2 g2 e=>q t H2 (g.trans g2) e
  |inr c=>exactλH' g=>k2 c H' λt H2 g2 e=>q t H2 (g.trans g2) e}}
def axE:("show ":Str) = "show" ++ Tx.one 32:=by decide +kernel
def VT:("row ":Str) = "row" ++ Tx.one 32:=by decide +kernel
def LU:("on ":Str) = "on" ++ Tx.one 32/\("scale ":Str) = "scale" ++ Tx.one 32/\(" 1":Str)=Tx.one 32++aA 1/\(" 2":Str)=Tx.one 32++aA 2:=by decide +kernel
def dn0:Dn 0 0 1 0 0:={by decide +kernel,by decide +kernel,∅,∅,∅}
def aLZ(hD:eY C H p d M N)(hN:N<=100)(hs:jk s)(hm:M s=ι r)(hr:Sm 480 r)(q:∀t H',Same H H'->H' t=ι (.tup [.str "told",.str (txt r)])->Q (.ref t) H'):zG C ad [.ref p,.str ("show " ++ s)] H Q E:=by
 have:=bo (ad:=ad) (Q:=Q) (E:=E) hD hN hs hs dn0 hm hm (k:=.gW) (.gW hr) q;rw[axE];exact this
def CH(hD:eY C H p d M N)(hN:N<=100)(hs:jk s)(hw:w=k.word)(hS:∀t,t=Str.join (Tx.one 32) (w::s::was.map Wa.word)->Wi t (w::(Wa.nw s::was).map Wa.word))(hF:(w,("NEW":Str)::was.map Wa.kind)∈zR)(hA:w≠ "ahead")(hl:was.length<=9)(hok:∀x∈was,x.Ok M)(ok:BH k was r')(q:∀t H',jM d H H'->eY C H' p d (M.put s r') (N+1)->H' t=ι (.tup [.str "told",.str "ok"])->Q (.ref t) H')(et:t=Str.join (Tx.one 32) (w::s::was.map Wa.word)):zG C ad [.ref p,.str t] H Q E:=by
 subst hw;refine hD.said λQ' E' k1 k2=>{p,d,t,k.word,.nw s::was,M,N,rfl,hD,hN,hS t et,hF,hA,by show was.length+1<=10;lia,iT.mpr {hs,(hok)},.make ok λH' g hD'=>?_};exact k1 _ H' λt H2 g2 e=>q t H2 (g.then g2) (hD'.same g2) e
def X9(hD:eY C H p d M N)(hN:N<=100)(hs:jk s)(hk:k≠ .row)(hx:x.natAbs<10^60)(hm:M s=ι r)(ok:BH k [.a s r,.num x] r')(q:∀t H',jM d H H'->eY C H' p d (M.put s r') (N+1)->H' t=ι (.tup [.str "told",.str "ok"])->Q (.ref t) H')(et:t=Str.join (Tx.one 32) [k.word,s,s,aA x]):zG C ad [.ref p,.str t] H Q E:=by
 have hp:k.word.length<=61/\32∉k.word.cps.toList/\k.word≠qI/\k.word≠ "ahead" /\ (k.word,(["NEW","A","NUMBER"]:List Str))∈zR:=by
  cases k with
  |row=>exact absurd rfl hk
  |scale=>decide +kernel
  |on=>decide +kernel
 have kw:∀w∈[k.word,s,s,aA x],w.length<=61/\32∉w.cps.toList:=iT.mpr {{hp.1,(hp.2.1)},iT.mpr {{cM hs.hi ∅,hs.clean},iT.mpr {{cM hs.hi ∅,hs.clean},iT.mpr {{Il hx,WN _},nofun}}}};refine CH (was:=[.a s r,.num x]) hD hN hs rfl (λt e=>?_) hp.2.2.2.2 hp.2.2.2.1 (by show 2<=9;decide) (iT.mpr {{hs,(hm)},iT.mpr {hx,(nofun)}}) ok q et;rw[e];exact{TM (λw hw=>(kw w hw).1) (by show 4<=5;decide),.inl {QL (c:=32) ∅ (by simp) λw hw=>(kw w hw).2,_,(),hp.2.2.1}}
def n5(x:Str):Str.join (Tx.one 32) [x]=x:=rfl
def xx(h:ws≠[]):Ao (Tx.one 32) (a::ws)=a++Tx.one 32++Ao (Tx.one 32) ws:=by
 cases ws with
 |nil=>exact absurd rfl h
 |cons w r=>rfl
def told_row(hD:eY C H p d M N)(hN:N<=100)(hs:jk s)(t8:T8 r)(q:∀t H',jM d H H'->eY C H' p d (M.put s r) (N+1)->H' t=ι (.tup [.str "told",.str "ok"])->Q (.ref t) H'):zG C ad [.ref p,.str ("row " ++ s++ " " ++ txt r)] H Q E:=by
 have ej:("row ":Str)++s++ " " ++ txt r=Ao (Tx.one 32) ("row" :: s::Tx.wordsOf r.b r.ρ r.ς):=by
  rw[xx (by simp),xx WH,VT,jG];unfold txt Tx.textOf;simp only[qb]
 have e2:("row ":Str)++s++ " " ++ txt r=Str.join (Tx.one 32) ["row",s,txt r]:=by
  rw[VT,jG,join_cons,join_cons,n5];simp only[qb]
 have hl:(("row ":Str)++s++ " " ++ txt r).length<=100000:=by
  rw[dU,dU,dU];have:=t8.SM;have:=hs.hi;have e1:("row ":Str).length=4:=by decide +kernel
  have e2:(" ":Str).length=1:=by decide +kernel
  rw[e1,e2];lia
 refine CH (was:=[.txt r]) (k:=.row) hD hN hs rfl (λt e=>?_) (by show(("row":Str),(["NEW","TEXT"]:List Str))∈zR;decide +kernel) (by decide +kernel) (by show 1<=9;decide) (iT.mpr {t8,(nofun)}) .row q e2;rw[e,show Str.join (Tx.one 32) (Mk.word .row::s::[Wa.txt r].map Wa.word)=_ from e2.symm];refine{hl,.inr {s,r,t8,rfl,?_}};rw[ej];refine QL (c:=32) ∅ (by simp) λw hw=>?_;rcases c7.mp hw with e|hw
 .rw[e];decide +kernel
 .rcases c7.mp hw with e|hw
  .rw[e];exact hs.clean
  .exact af4 w hw
theorem eY.up(h:eY C H p d M N)(hN:N<=N'):eY C H p d M N':={h.ob,h.kp.up hN}
def eY.R5{C:Addr}{H H':Hp}{p d e:Addr}{M:eZ}{N:Nat}(h:eY C H p d M N)(ne:d≠e)(g:jM e H H'){kvs:List (Key×V)}(he:H e=ι (.dK kvs)):eY C H' p d M N:=by
 obtain⟨⟨dx,h1⟩,h2⟩:=h;exact{{dx,g _ _ (uR h1 he (by intro z;cases z)) h1},h2.XF ne g he}
def SG(d e:Addr)(H H':Hp):Prop:=∀b o,b≠d->b≠e->H b=ι o->H' b=ι o
def fN{ws:List Str}{k:Int}(h0:0<=k)(h1:k<(ws.length:Int)):∃w∈ws,je (ws.map V.str) k=ι (.str w):=by
 have hk:k.toNat<ws.length:=⋯;exists ws[k.toNat],sE hk;have:=nZ (show(ws.map V.str)[k.toNat]?=ι (.str ws[k.toNat])by rw[List.getElem?_map,List.getElem?_eq_getElem hk];rfl)
 rwa [(⋯:((k.toNat:Nat):Int)=k)]at this
def CD(b:Int):Int:=if 5<b then 2 else 4
def NX(b:Int):0<=CD b/\CD b<=4/\(5<b->CD b<=2):=by unfold CD;split<;>lia
def FR(b:Int):je [V.int 4,.int 2] (if decide (b>5)=true then 1 else 0)=ι (.int (CD b)):=by
 unfold CD;by_cases c:5<b
 .rw[if_pos c,decide_eq_true c,if_pos rfl];exact at1
 .rw[if_neg c,decide_eq_false c,if_neg ∅];exact at0
inductive aBR(C:Addr)(vs:τ)(H:Hp)(Q:VK)(E:XK):Prop|mk(p d e:Addr)(s:Str)(n:Int)(M:eZ)(N N2:Nat)(r:Rw)(c:Nat)(_:vs=[.ref p,.ref e,.str s,.int n])(_:eY C H p d M N)(_:N<=100)(_:gR H e M N2)(_:N2<=100)(_:d≠e)(_:jk s)(_:M s=ι r)(j7:Sm c r)(_:10<=c)(_:c+37<=480)(_:∀H' r',SG d e H H'->eY C H' p d (M.put s r') (N+1)->gR H' e (M.put s r') (N2+1)->Sm (c+37) r'->r'.b=r.b->Q (.bl true) H')
def LH:("on ":Str).length=3/\(" ":Str).length=1/\(" 1":Str).length=2/\("scale ":Str).length=6/\(" 2":Str).length=2/\("row ":Str).length=4/\("show ":Str).length=5:=by decide +kernel
abbrev Zp(P w K mg base cY):=rM P w K mg base "_law_changed" 17 ["_law_desk","_law_kept","_law_one","_law_number_here"] (aBR cY)
def ak.de(g:SG d e H H')(hd:H d=ι (.dK kd))(he:H e=ι (.dK ke))(h:ak K H a xs):ak K H' a xs:=by
 rcases h with(h|⟨u,h⟩)|h
 .exact .inl (.inl (g a _ (uR h hd (by intro z;cases z)) (uR h he (by intro z;cases z)) h))
 .exact .inl (.inr {u,g a _ (uR h hd (by intro z;cases z)) (uR h he (by intro z;cases z)) h})
 .exact .inr h
def aSu(m:Int):(m%10^(60:Int).toNat).natAbs<10^60:=by
 have e:(10:Int)^(60:Int).toNat=((10^60:Nat):Int):=by decide +kernel
 have h:0<10^60:=by decide +kernel
 rw[e];generalize 10^60=P at h;have h0:=gY m (⋯:(0:Int)<(P:Int));have h1:=iG m (⋯:(0:Int)<(P:Int));lia
structure LI(K:aD)(C:Addr)(H:Hp)(a l1 p d e:Addr)(ns:ζ)(nm:List Str)(M:eZ)(N:Nat):Prop where
 hS:ak K H a (ns.map V.int)
 h1:H l1=ι (.lst (nm.map V.str))
 D:eY C H p d M N
 E:gR H e M N
 ne:d≠e
theorem LI.same(h:LI K C H a l1 p d e ns nm M N)(g:Same H H'):LI K C H' a l1 p d e ns nm M N:={g.seq h.hS,g _ _ h.h1,h.D.same g,h.E.same g,h.ne}
theorem LI.lst{K:aD}{C:Addr}{H H':Hp}{a l1 p d e:Addr}{ns:ζ}{nm:List Str}{M:eZ}{N:Nat}(h:LI K C H a l1 p d e ns nm M N)(g:SG d e H H'){l:Addr}{xs:τ}(hl:H l=ι (.lst xs)):H' l=ι (.lst xs):=by
 intros kd hd _ h.D.kp.ex;intros ke he _ h.E.ex;exact g _ _ (uR hl hd (by intro z;cases z)) (uR hl he (by intro z;cases z)) hl
theorem LI.de(h:LI K C H a l1 p d e ns nm M N)(g:SG d e H H')(D:eY C H' p d M' N')(E:gR H' e M' N'):LI K C H' a l1 p d e ns nm M' N':=by
 intros kd hd _ h.D.kp.ex;intros ke he _ h.E.ex;exact{ak.de g hd he h.hS,h.lst g h.h1,D,E,h.ne}
def E5:List Str:=["show","places","at","part","round","where","closed","divisor","divides"]
def ayH(h:w∈E5):∃k:Tw,w=k.word:=by
 simp only[E5,c7,Ej,or_false]at h;rcases h with e|e|e|e|e|e|e|e|e
 .exact{.gW,e}
 .exact{.places,e}
 .exact{.at_,e}
 .exact{.part,e}
 .exact{.round,e}
 .exact{.where_,e}
 .exact{.closed,e}
 .exact{.divisor,e}
 .exact{.divides,e}
abbrev LS(a l1 p e lw l:Addr)(b n gr:Int)(i:Nat)(k:Tw)(na nb:Str)(o6 o:Option V):St:=[ι (.ref a),ι (.ref l1),ι (.int b),ι (.ref p),ι (.ref e),ι (.int (0+(i:Int))),o6,ι (.ref lw),ι (.int n),ι (.str k.word),ι (.str na),ι (.str nb),ι (.ref l),ι (.int gr),o]
def AllK(nm:List Str)(M:eZ)(c:Nat):Prop:=∀s∈nm,∃r,M s=ι r/\Sm c r
theorem AllK.put{nm nm':List Str}{M:eZ}{c c':Nat}(h:AllK nm M c)(hc:c<=c'){s:Str}{r:Rw}(hr:Sm c' r)(hn:∀x∈nm',x=s∨x∈nm):AllK nm' (M.put s r) c':=λx hx=>by
 unfold eZ.put;by_cases e:x=s
 .exact{r,if_pos e,hr}
 .obtain⟨r',e1,e2⟩:=h x ((hn x hx).resolve_left e);exact{r',by rw[if_neg e];exact e1,e2.mono hc}
theorem AllK.mono(h:AllK nm M c)(hc:c<=c'):AllK nm M c':=λx hx=>(h x hx).imp λr ⟨e1,e2⟩=>{e1,e2.mono hc}
theorem LI.up(h:LI K C H a l1 p d e ns nm M N)(hN:N<=N'):LI K C H a l1 p d e ns nm M N':={h.hS,h.h1,h.D.up hN,h.E.up hN,h.ne}
section
variable {P:Program}{w:World}{K:aD}{mg:μ}{base:Heap}
variable {cC jq iz jg jl jf cF cD cG qR pW qx cY:Addr}(B:Bt mg)(M:Ms P w K mg base cC jq iz jg jl jf cF cD cG)(D:Dk w K mg qR pW qx cY)
include B M D
abbrev lG:=aQ M "taken" 1 ["by","number"] aLJ
abbrev pd:=aQ M "next_place" 2 ["by","rule","before"] (ay0 K)
abbrev Dr:=aQ M "first_places" 3 ["row","count"] (aAE K)
abbrev Vr:=aQ M "is_prime" 1 ["number"] aL2
abbrev LF:=aQ M "prime_above" 2 ["number"] aPy
abbrev af6:=aQ M "inverse" 2 ["prime","number"] aTb
abbrev cK:=aQ M "over" 3 ["by","one","other"] aQj
abbrev GQ:=aQ M "trimmed" 1 ["numbers"] (awW K)
abbrev EM:=aQ M "number_at" 1 ["poly","k"] aDV
abbrev OK:=aQ M "times" 2 ["by","one","other"] aCL
abbrev Et:=aQ M "divided" 2 ["by","one","other"] MT
abbrev YY:=aQ M "monic" 4 ["prime","poly"] aAU
abbrev U5:=aQ M "greatest" 5 ["by","one","other"] aSz
abbrev m3:=aQ M "nearest" 1 ["modulus","number"] aDj
abbrev AD:=aQ M "joined" 4 ["modulus","number","prime","rest"] azg
abbrev EZ:=aQ M "taken_poly" 2 ["prime","poly"] aNm
abbrev HI:=aQ M "divides" 3 ["monic_one","poly"] ay2
abbrev VC:=aQ M "whole_greatest" 6 ["one","other"] aPv
abbrev fF:=aQ M "of_rule" 2 ["by","rule"] aPt
abbrev OT:=aQ M "rule_of" 2 ["by","poly"] aCb
abbrev DA:=aQ M "top_of" 2 ["row","poly"] aTH
abbrev y9:=aQ M "shared_divisor" 7 ["by","one","other"] aTc
abbrev Ur:=aQ M "least_of" 8 ["row"] axL
abbrev ml:=aQ M "shortest" 9 ["row"] aGx
abbrev BI:=aQ M "told_row" 10 ["by","rule","starts"] aNj
abbrev ng:=aQ M "scaled" 11 ["row","number"] aMg
abbrev NC:=aQ M "refuse_far_jump" 1 ["by","n"] (aKr M.ad)
abbrev Kn:=aQ M "power_left" 3 ["by","poly","n"] aKs
abbrev ki:=aQ M "jump" 4 ["row","n"] (azR M.ad)
abbrev qk:=aQ M "sum_at" 2 ["by","poly","found","n"] aG0
abbrev vE:=aQ M "onward" 5 ["row","n"] (aMx M.ad)
abbrev kD:=aQ M "place_at" 5 ["row","n"] (awr M.ad)
abbrev CU:=aQ M "shared_by" 1 ["one","other"] (aBj M.ad)
abbrev Jm:=aQ M "refuse_prime" 1 ["row"] (ayy M.ad)
abbrev wm:=aQ M "refuse_far_steps" 1 ["start","step"] (aE2 M.ad)
abbrev Kk:=aQ M "refuse_far" 1 ["n"] (aR6 M.ad)
abbrev YQ:=aQ M "places" 4 ["row","count"] (aP2 M.ad)
abbrev WT:=aQ M "parting" 4 ["one","other"] (aHi M.ad)
abbrev RS:=aQ M "rest_row" 2 ["row","divisor"] aRp
abbrev pV:=aQ M "common_divisor" 1 ["one","other"] aS6
abbrev Vs:=aQ M "divisor_of" 2 ["row"] (aKI M.ad)
abbrev kK:=aQ M "undivided" 4 ["row","divisor","start","step"] (aR9 M.ad)
abbrev KG:=aQ M "refuse_wide" 1 ["prime","length"] (awU M.ad)
abbrev vi:=aQ M "round_row" 10 ["row"] (aMK M.ad)
abbrev a6:=aQ M "came_round" 3 ["row"] awd
abbrev Yr:=aQ M "round_of" 11 ["row"] (aw4 M.ad)
abbrev ZV:=aQ M "where" 12 ["row","number"] (aGN M.ad)
abbrev ZO:=aQ M "line_taken" 2 ["by","line"] (aOr K)
abbrev GG:=aQ M "head_line" 1 ["lines","begin","column"] aEG
abbrev FO:=aQ M "bring_up" 2 ["by","lines","at","top"] azC
abbrev NG:=aQ M "freed" 4 ["by","line","head","column","last"] aFz
abbrev Ki:=aQ M "clear" 5 ["by","wide","lines"] axW
abbrev CJ:=aQ M "lowest" 4 ["by","bottom","tops"] aKS
abbrev JJ:=aQ M "solution" 6 ["by","wide","table","wished"] W8
abbrev OZ:=aQ M "solved" 8 ["by","wide","table","wished"] W8
abbrev Sb:=aQ M "refuse_big" 1 ["poly"] (awi M.ad)
abbrev vT:=aQ M "whole_divisors" 1 ["number"] aAe
abbrev P7:=aQ M "perhaps_roots" 2 ["poly"] aI3
abbrev xy:=aQ M "divided_out" 3 ["poly","root"] ayc
abbrev A7:=aQ M "whole_roots" 4 ["poly"] (aEq M.ad)
abbrev Pc:=aQ M "power" 1 ["number","exponent"] aFC
abbrev NM:=aQ M "form_line" 2 ["roots","n"] aGp
abbrev KS:=aQ M "parts_of" 1 ["roots","tops"] aEM
abbrev kz:=aQ M "closed" 9 ["row"] (Z3 M.ad)
abbrev WV:=aQ M "is_whole" 1 ["thing"] awl
abbrev Vb:=aQ M "is_by" 2 ["thing"] aHO
abbrev zv:=aQ M "is_number" 2 ["by","thing"] aGW
abbrev zS:=aQ M "are_numbers" 3 ["by","thing"] aMd
abbrev Ta:=aQ M "is_row" 4 ["thing"] aFj
abbrev CS:=aQ M "above_all_shown" 1 [] aF1
abbrev xU:=aQ M "number_shown" 2 ["number"] aEF
abbrev GY:=aQ M "shown" 3 ["row"] aOP
abbrev afE:=aQ M "is_written" 1 ["word"] aQ9
abbrev Sd:=aQ M "read_number" 2 ["word"] aE9
abbrev ay:=aQ M "read_prime" 3 ["word"] aMB
abbrev Kx:=aQ M "read_words" 6 ["rule_words","start_words","by"] zd
abbrev Fh:=aQ M "read" 7 ["text"] aLi
abbrev Sw:=aQ M "numbers_shown" 3 ["numbers"] AL
abbrev IP:=aQ M "words_of" 1 ["text"] aLS
abbrev yT:=aQ M "kinds_of" 1 ["words"] (aBa K)
abbrev sr:=aQ M "read_name" 1 ["word"] axF
abbrev X1:=aQ M "row_named" 2 ["kept","word"] aQA
abbrev GO:=aQ M "read_word" 8 ["kept","kind","word"] avS
abbrev PM:=aQ M "tell_show" 13 ["said"] (uN M.ad "show")
abbrev OR:=aQ M "tell_places" 13 ["said"] (uN M.ad "places")
abbrev DU:=aQ M "tell_at" 13 ["said"] (uN M.ad "at")
abbrev IS:=aQ M "tell_part" 13 ["said"] (uN M.ad "part")
abbrev OE:=aQ M "tell_round" 13 ["said"] (uN M.ad "round")
abbrev Sz:=aQ M "tell_where" 13 ["said"] (uN M.ad "where")
abbrev KO:=aQ M "tell_closed" 13 ["said"] (uN M.ad "closed")
abbrev Se:=aQ M "tell_divisor" 13 ["said"] (uN M.ad "divisor")
abbrev Ha:=aQ M "tell_divides" 13 ["said"] (uN M.ad "divides")
abbrev xl:=aQ M "make_row" 13 ["said"] (S8 "row")
abbrev Kb:=aQ M "make_scale" 13 ["said"] (S8 "scale")
abbrev Po:=aQ M "make_on" 13 ["said"] (S8 "on")
abbrev Sa:=aQ M "_law_cell_at" 1 ["_law_script","_law_k"] (aOi K)
abbrev k9:=aQ M "_law_mix" 1 ["_law_cell","_law_k"] aF0
abbrev Cb:=aQ M "_law_by" 1 ["_law_number_here"] aRN
abbrev AG:=aQ M "_law_number" 1 ["_law_by_here","_law_number_here"] aQp
abbrev Pp:=aQ M "_law_numbers" 2 ["_law_by_here","_law_cell","_law_many"] aBy
abbrev Rp:=aQ M "_law_rest" 1 ["_law_by_here","_law_number_here"] aHu
abbrev UP:=aQ M "_law_pool" 1 ["_law_cell","_law_turn"] awO
abbrev tI:=aQ M "_law_small_row" 3 ["_law_by_here","_law_cell","_law_most"] aEH
abbrev UW:=awp M "_law_word" 1 ["_law_e"] (ax7 M.ad)
abbrev Rt:=aQ M "_law_spaced" 1 ["_law_numbers_here"] AL
abbrev OH:=aQ M "_law_closed_text" 2 ["_law_form"] aEW
abbrev af8:=aQ M "_law_where_text" 2 ["_law_told_here"] aQC
abbrev Rl:=aQ M "_law_by_words" 14 ["_law_word_here","_law_one","_law_other","_law_numbers_here"] (yi M.ad)
abbrev PH:=aQ M "_law_due" 16 ["_law_word_here","_law_one","_law_other","_law_numbers_here"] (MW M.ad)
abbrev zx:=aQ M "_law_drawn_numbers" 1 ["_law_number_here"] aMQ
abbrev CI:=aQ M "_law_text" 1 ["_law_word_here","_law_one","_law_other","_law_numbers_here"] ayK
theorem aNr(F:Fn K mg "taken" V9 ["by","number"]):lG M:=by
 delta ax8
 intros b n rfl h0 q h;exists _,#[(),(aV (0==_:) (aJ (aF (1:))) aW),(aF (1%0:))],(),();refine cu (λc=>?_) (λc=>?_)
 .exists ();have c':b=0:=dec_true c;have e:tk b n=n:=by rw[c',dj]
  rw[e]at q;exact q
 .have c':¬b=0:=dec_false c;exists (),(),"",(⋯:(0:Int)<b);rw[oB c']at q;exact q
theorem azr(F:Fn K mg "next_place" UG ["by","rule","before"])(cN:lG M):pd M:=by
 delta NW
 intros b r s' ρ before rfl hb hR hS hl hl2 hl3 bR bS q h;exists _,#[(),(au 3 NW.nd aP),(iC PassesOwn.never rfl (gH rfl B.fj #[(cL K B.cJ #[1])]) (bH 4 NW.nd) (aJ (au 3 NW.nd (3+(aK K (1:) (4:))*(aK K (2:) ((cL K B.cJ #[2])-_-4:)):)))),(aF (aC cN hr #[0,3]))];have lR:(ρ.map V.int).length=ρ.length:=aB _;have lS:(before.map V.int).length=before.length:=aB _;exists (),.ref r,ρ.length,rfl,.inr {_,hR,lR.symm},(ρ.length:Int),rfl,(⋯:-(2^62)<=(ρ.length:Int)),(⋯:(ρ.length:Int)<2^62);refine kI (lo:=0) (n:=(ρ.length:Int).toNat) (λi σ' H'=>∃o,σ'=[ι (.int b),ι (.ref r),ι (.ref s'),ι (.int (Rm.S ρ (λi=>before.getD i 0) before.length i)),o]/\H'=H) {ν,rfl,(rfl)} ?_ ?_
 .rintro i σ' H' hi ⟨o,rfl,rfl⟩;have hi':i<ρ.length:=⋯;have e0:(0:Int)+(i:Int)=(i:Int):=⋯;have e1:(before.length:Int)-1-(0+(i:Int))=((before.length-1-i:Nat):Int):=⋯;exists (),(),(),_,_,.inr hR,dH (ns:=ρ) (⋯:(0:Int)<=0+(i:Int)) ⋯,(),(),.ref s',before.length,rfl,hS.imp (λz=>{_,z,lS.symm}) (λz=>{_,z,lS.symm}),"",(),"";refine{_,_,hS,dH (ns:=before) (⋯:(0:Int)<=(before.length:Int)-1-(0+(i:Int))) ⋯,vp (Bd.getD bR _) (Bd.getD bS _) ∅,ι (.int (0+(i:Int))),?_,rfl};rw[e1,e0,dB,dB];rfl
 .rintro σ' H' ⟨o,rfl,rfl⟩;exists (),(),b,(),hb;rw[show(ρ.length:Int).toNat=ρ.length from dB _];exact q
theorem aJg(F:Fn K mg "first_places" sj ["row","count"])(Du:pd M):Dr M:=by
 delta Ia
 obtain⟨v,r,c,rfl,⟨a,p,p2,rfl,hA,hR,hS⟩,ok,hc0,hc1,q⟩:=h;exists _,#[(),(au 2 Ia.nd (-0:)),(au 3 Ia.nd (-0:)),(au 4 Ia.nd (-0:)),(au 5 Ia.nd (SD (dW (xlist K) rfl B.SR boot_list #[(jT (m6 K) (4:) jZ (jC (1:)))]))),(rW PassesOwn.never ((cL K B.cJ #[5])<1:) (aJ (fY (nq K (5:) (aC Du hr #[2,3,5]))))),(aF (5:))];have hl:=ok.len;have hl2:=ok.short;have lS:(r.ς.map V.int).length=r.ς.length:=aB _;exists (),!hA,rfl,(),!hA,rfl,(),!hA,rfl;have aQ0:fO (r.ς.map V.int) ν (ι c)=(r.row (min c.toNat r.ς.length)).map V.int:=by
  have e:r.row (min c.toNat r.ς.length)=r.ς.take (min c.toNat r.ς.length):=S7 (AO _ _);rw[e];have e2:c=((c.toNat:Nat):Int):=⋯;unfold fO;rw[e2,HT.pH,HT.vC,K4,uT,lS,uX,dB]
 refine Bar.by (λv H1=>∃l,v=.ref l/\Same H H1/\H l=ν/\H1 l=ι (.lst ((r.row (min c.toNat r.ς.length)).map V.int))) (λkk hkk=>?_) ?_
 .exists (),(),();by_cases hw:r.ς.length<=c.toNat
  ·-- the whole of it
   refine .inr (.inr {_,ao.of hS,?_,?_})
   .have e2:c=((c.toNat:Nat):Int):=⋯;rw[e2,HT.pH,HT.vC,lS];lia
   .refine{p2,(),.inr (ao.of hS),λl hl1=>hkk _ _ {l,rfl,Same.new hl1 _,hl1,?_}};rw[aq,VH hw];have e:r.row r.ς.length=r.ς:=(S7 (aZ _)).trans (tX ..);rw[e]
  .refine .inr (.inl {_,ao.of hS,?_,λp3 hp3=>?_})
   .have e2:c=((c.toNat:Nat):Int):=⋯;rw[e2,HT.pH,HT.vC,lS];lia
   .refine{p3,(),.inr (ao.of aq),λl hl1=>?_};have g3:=Same.new hp3 (.tup (fO (r.ς.map V.int) ν (ι c)));refine hkk _ _ {l,rfl,g3.trans (Same.new hl1 _),g3.free hl1,?_};rw[aq,aQ0]
 rintro v H1 ⟨l,rfl,g1,hl1,hr1⟩;refine{λm σ' H'=>∃n:Nat,m=c.toNat-n/\min c.toNat r.ς.length<=n/\n<=c.toNat/\σ'=[ι (.ref a),ι (.int c),ι (.int r.b),ι (.ref p),ι (.ref p2),ι (.ref l)]/\Same H H'/\H' l=ι (.lst ((r.row n).map V.int)),
  {_,min c.toNat r.ς.length,rfl,aZ _,Nat.min_le_left _ _,rfl,g1,hr1},?_}
 rintro m σ' H' ⟨n,rfl,h1,h2,rfl,g,hL⟩;have lL:((r.row n).map V.int).length=n:=by rw[aB,Rw.m7]
 exists (),.ref l,n,rfl,.inl {_,ak.of hL,lL.symm},(),"",();refine cu (λcc=>?_) (λcc=>?_)
 .have hn:n<c.toNat:=by have:=dec_true cc;lia
  refine{_,λ_ _ z=>z,?_};refine{(),.inl {rfl,_,ak.of hL},(),(),(),r.b,p,l,r.ρ,r.row n,rfl,ok.jP,ao.of (g _ _ hR),.inl (ak.of hL),?_,hl2,?_,ok.kY,ok.LG n ⋯,?_}
  .rw[Rw.m7];lia
  .rw[Rw.m7];lia
  .refine{l,"",hL,?_,?_}
   .rw[lL];exact fJ ⋯
   .exists c.toNat-(n+1),⋯,n+1,rfl,⋯,⋯,rfl,g.upd hl1 _;rw[aq,Rw.m7];have e:r.row (n+1)=r.row n++[tk r.b (Rm.S r.ρ (λi=>(r.row n).getD i 0) n r.ρ.length)]:=by
     show _++[if n<r.ς.length then r.ς.getD n 0 else _]=_;rw[if_neg ⋯];rfl
    rw[e,fH];rfl
 .have hn:n=c.toNat:=by have:=dec_false cc;lia
  subst hn;exists ();exact q l H' g hl1 hL
theorem aHp(F:Fn K mg "is_prime" Yp ["number"]):Vr M:=by
 delta Ve
 intros n rfl hn q h;exists _,#[(),(aV (0<_:) (aJ (aF lF)) aW),(au 1 Ve.nd aP),(rW PassesOwn.never (1*1<=0:) #[(),(aV (0%1==_:) (aJ (aF lF)) aW),(au 1 Ve.nd (1+_:))]),(aF lF)],(),"",();refine cu (λc=>?_) (λc=>?_)
 .have c':(n:Int)<2:=dec_true c;exact q false {λz=>absurd z ∅,λz=>by have:=z.1;lia}
 .have c':¬(n:Int)<2:=dec_false c;refine{λm σ' H'=>∃d:Nat,σ'=[ι (.int n),ι (.int (d:Int))]/\H'=H/\2<=d/\d<=n+1/\m=n+2-d/\∀e:Nat,2<=e->e<d->¬e∣n,{_,2,rfl,rfl,⋯,⋯,rfl,λe h1 h2=>⋯},?_};rintro m σ' H' ⟨d,rfl,rfl,h2,hdn,rfl,hd⟩;exists (),(),mulL ⋯ ⋯,(),"",();refine cu (λc2=>?_) (λc2=>?_)
  .have c2':(d:Int)*d<=n:=dec_true c2;have c2n:d*d<=n:=by exact_mod_cast c2'
   have hdl:d*1<=d*d:=yj d ⋯;refine{_,λ_ _ z=>z,?_};exists (),(),"",(⋯:(0:Int)<(d:Int)),();refine cu (λc3=>?_) (λc3=>?_)
   .have c3':(n:Int)%(d:Int)=0:=dec_true c3;have hdv:d∣n:=Ju.mp (Qf c3');exact q false {λz=>absurd z ∅,λz=>absurd z (awL h2 c2n hdv)}
   .have c3':¬(n:Int)%(d:Int)=0:=dec_false c3;exists ();exact{n+2-(d+1),⋯,d+1,by simp,rfl,⋯,⋯,rfl,λe h1 h3=>by
     rcases Nat.lt_or_ge e d with z|z
     .exact hd e h1 z
     .have:e=d:=⋯;subst this;exactλz=>c3' (Int.emod_eq_zero_of_dvd (Ju.mpr z))}
  .have c2':¬(d:Int)*d<=n:=dec_false c2;have c2n:¬d*d<=n:=λz=>c2' (by exact_mod_cast z);exact q true {λ_=>ub ⋯ λe h1 h3 hdv=>by
    by_cases c4:e<d
    .exact hd e h1 c4 hdv
    .have:d*d<=e*e:=vq ⋯ ⋯;lia,λ_=>rfl}
theorem aN1(F:Fn K mg "prime_above" eu ["number"])(DL:Vr M):LF M:=by
 delta WX
 intros n q' rfl hq hnq hqb q h;exists _,#[(),(au 1 WX.nd (0+_:)),(rW PassesOwn.never (jF (iD (aC DL hr #[1]))) (aJ (au 1 WX.nd (1+_:)))),(aF (1:))],(),λm σ' H'=>∃f:Nat,σ'=[ι (.int n),ι (.int (f:Int))]/\H'=H/\n<f/\f<=q'/\m=q'-f,{_,n+1,rfl,rfl,⋯,⋯,rfl};rintro m σ' H' ⟨f,rfl,rfl,h1,h2,rfl⟩;refine{(),f,rfl,⋯,λb hb=>?_};exists b,rfl;cases b with
 |false=>
  refine{_,λ_ _ z=>z,?_};exists ();have hne:f≠q':=λe=>absurd (hb.mpr (e▸hq)) ∅;exact{q'-(f+1),⋯,f+1,rfl,rfl,⋯,⋯,rfl}
 |true=>
  exists ();exact q f (hb.mp rfl) h1 h2
theorem aLf(F:Fn K mg "inverse" Wu ["prime","number"])(cN:lG M):af6 M:=by
 delta BW
 intros P' a rfl hP hPb h0 h1 q h;have hr2:2<=P'/\P'<4194304:={hP.1,(hPb)};exists _,#[(),(au 2 BW.nd aP),(au 3 BW.nd (1:)),(au 4 BW.nd (0-_:)),(rW PassesOwn.never (4>_:) #[(),(mX (aV (4%_==_:) (aJ (au 2 BW.nd (aC cN hr #[0,(2*3:)]))) aW)),(au 3 BW.nd (aC cN hr #[0,(3*3:)])),(au 4 BW.nd (4/_:))]),(aF (2:))],(),(),"";have e0:((P':Int)-2).toNat=P'-2:=⋯;refine{λm σ' H'=>sJ λ(power square left:Int)=>An9 (σ'=[ι (.int P'),ι (.int a),ι (.int power),ι (.int square),ι (.int left)]) (H'=H) (m=left.toNat) (0<=power) (power<4194304) (0<=square) (square<4194304) (0<=left) (Om.Keeps P' a (P'-2) power square left.toNat),
  {_,1,a,(P':Int)-2,rfl,rfl,rfl,∅,∅,⋯,⋯,⋯,by rw[e0];exact aB4 _ _ _},?_}
 rintro m σ' H' ⟨power,square,left,rfl,rfl,rfl,p0,p1,s0,s1,l0,hk⟩;exists (),"",();refine cu (λc=>?_) (λc=>?_)
 .have c':0<left:=dec_true c;refine{_,λ_ _ z=>z,?_};have hpos:(0:Int)<(P':Int):=⋯;have rz:∀n,tk (P':Int) n=n%(P':Int):=λn=>oB ⋯ n;refine lW.by (λσ' H2=>∃power':Int,σ'=[ι (.int P'),ι (.int a),ι (.int power'),ι (.int square),ι (.int left)]/\H2=H'/\((left%2=1/\power'=power*square%(P':Int))∨(¬left%2=1/\power'=power))) (λN hN=>?_) ?_
  .exists (),"",(∅:(0:Int)<2),();refine cu (λc2=>?_) (λc2=>?_)
   .exists (),(),(),mulL ⋯ ⋯,P',(),⋯;exact hN _ _ {(),rfl,.inl {dec_true c2,rz _}}
   .exact hN _ _ {(),rfl,.inr {dec_false c2,rfl}}
  rintro σ' H2 ⟨power',rfl,rfl,hp⟩;exists (),(),(),mulL ⋯ ⋯,P',(),⋯,(),"",{∅,∅};have b1:=gY (square*square) hpos;have b2:=iG (square*square) hpos;have b3:=gY (power*square) hpos;have b4:=iG (power*square) hpos;have el:=iv0 l0;refine{_,?_,power',square*square%(P':Int),left/2,by rw[rz];rfl,rfl,rfl,?_,?_,b1,⋯,⋯,?_}
  .lia
  .rcases hp with⟨_,rfl⟩|⟨_,rfl⟩
   .exact b3
   .exact p0
  .rcases hp with⟨_,rfl⟩|⟨_,rfl⟩
   .lia
   .exact p1
  .rw[el];rcases hp with⟨hodd,rfl⟩|⟨hodd,rfl⟩
   .exact aHm hk ((iv1 l0).1 hodd)
   .exact aPd hk (λz=>hodd ((iv1 l0).2 z))
 .have c':left=0:=by have:=dec_false c;lia
  subst c';exists ();exact q power p0 p1 (aEz hk)
theorem aI5(F:Fn K mg "over" bu ["by","one","other"])(cN:lG M)(Wh:af6 M):cK M:=by
 delta aAP
 intros P' one other rfl hP hPb o0 o1 q h;exists _,#[(),(aV (0==_:) (aJ jO) aW),(aV ((aC cN hr #[0,2])==_:) (aJ jO) aW),(aF (aC cN hr #[0,(1*(aC Wh hr #[0,2]):)]))];have hr2:2<=P'/\P'<4194304:={hP.1,(hPb)};exists (),();refine cu (λc=>absurd (dec_true c) ⋯) (λ_=>?_);have rz:∀n,tk (P':Int) n=n%(P':Int):=λn=>oB ⋯ n;exists (),(),P',other,rfl,⋯,();have et:tk (P':Int) other=other:=by rw[rz];exact Ti ⋯ o1
 rw[et];refine cu (λc2=>absurd (dec_true c2) ⋯) (λ_=>?_);refine{(),(),(),(),P',other,rfl,hP,hPb,o0,o1,λx x0 x1 hx=>?_};exists mulR ⋯ ⋯,P',(),⋯;rw[rz,Om.mod_mul (rfl:one%(P':Int)=one%(P':Int)) hx];exact q
theorem aQu(F:Fn K mg "trimmed" VR ["numbers"]):GQ M:=by
 delta ah
 intros l xs rfl hL q h;exists _,#[(),(au 1 ah.nd (cL K B.cJ #[0])),(rW PassesOwn.never (PW.pt (vK (1>_:) (yX ((aK K (0:) (1-_:))==_:)))) (aJ (au 1 ah.nd (1-_:)))),(aF (dW (mV K) rfl B.j5 boot_tuple #[(jT (m6 K) (0:) jZ (jC (1:)))]))];have lL:(xs.map V.int).length=xs.length:=aB _;refine{(),.ref l,xs.length,rfl,.inl {_,hL,lL.symm},λm σ' H'=>∃n:Nat,m=n/\n<=xs.length/\σ'=[ι (.ref l),ι (.int (n:Int))]/\H'=H/\Pm.trim (xs.take n)=Pm.trim xs,{_,xs.length,rfl,aZ _,rfl,rfl,by rw[tX]},?_};rintro m σ' H' ⟨n,e0,hn,rfl,rfl,ht⟩;exists (),"",();refine cu (λc=>?_) (λc=>bK ?_)
 .have h0:0<n:=by have:=dec_true c;lia
  have e1:((n:Int)-1).toNat=n-1:=⋯;exists (),(),"",_,_,.inl hL,dH (ns:=xs) (⋯:(0:Int)<=(n:Int)-1) ⋯,();refine cu (λc2=>?_) (λc2=>?_)
  .have hz:=dec_true c2;rw[e1]at hz;refine{_,λ_ _ z=>z,?_};refine{(),"",n-1,⋯,n-1,rfl,⋯,?_,rfl,aRj h0 hn ht hz};rw[(⋯:((n-1:Nat):Int)=(n:Int)-1)];rfl
  .have hz:=dec_false c2;rw[e1]at hz;refine{(),(),(),.inl {_,hL,λp hp=>?_}};refine{p,(),.inl {ak.of aq,λp2 hp2=>?_}};refine q p2 _ ((Same.new hp _).trans (Same.new hp2 _)) ?_;rw[aq,zQ,<-uX,BU hn ht (.inr hz)]
 .have h0:n=0:=by have:=dec_false c;lia
  refine{(),(),(),.inl {_,hL,λp hp=>?_}};refine{p,(),.inl {ak.of aq,λp2 hp2=>?_}};refine q p2 _ ((Same.new hp _).trans (Same.new hp2 _)) ?_;rw[aq,zQ,<-uX,BU hn ht (.inl h0)]
theorem azl(F:Fn K mg "number_at" Uj ["poly","k"]):EM M:=by
 delta aLc
 intros a p k rfl hA h0 q h;exists _,(aJ (aF (C2 (1<(cL K B.cJ #[0]):) (aK K (0:) (1:)) aP)));have lP:(p.map V.int).length=p.length:=aB _;exists (),(),.ref a,p.length,rfl,.inr {_,ao.of hA,lP.symm},"",();refine cu (λc=>?_) (λc=>?_)
 .exact{(),(),!hA,dH (ns:=p) h0 (dec_true c),q}
 .have c':=dec_false c;have e:Pm.co p k.toNat=0:=bY ⋯;rw[e]at q;exact q
theorem aHn(F:Fn K mg "times" YF ["by","one","other"])(cN:lG M)(qw:GQ M):OK M:=by
 delta N5
 intros b a c p r rfl hb hA hC zA zC bA bC q h;exists _,#[(),(au 3 N5.nd ((dI #[_])*((cL K B.cJ #[1])+(cL K B.cJ #[2])):)),(iC PassesOwn.never rfl (gH rfl B.fj #[(cL K B.cJ #[1])]) (bH 4 N5.nd) (aJ (iC PassesOwn.never rfl (gH rfl B.fj #[(cL K B.cJ #[2])]) (bH 5 N5.nd) (aJ (vU (aC cN hr #[0,((aK K (3:) (4+5:))+(aK K (1:) (4:))*(aK K (2:) (5:)):)]) (vD (3:) (4+5:) set_list)))))),(aF (aC qw hr #[3]))];have lP:(p.map V.int).length=p.length:=aB _;have lR:(r.map V.int).length=r.length:=aB _;refine{(bG 1),λl0 h0=>?_};have g0:=Same.new h0 (.lst [.int 0]);exists (),.ref a,p.length,rfl,.inr {_,ao.of (g0 _ _ hA),lP.symm},(),.ref c,r.length,rfl,.inr {_,ao.of (g0 _ _ hC),lR.symm};have en:((p.length:Int)+(r.length:Int)).toNat=p.length+r.length:=⋯;refine{_,aq,(⋯:-(2^63)<=(p.length:Int)+(r.length:Int)),(⋯:(p.length:Int)+(r.length:Int)<2^63),?_,λl hl=>?_}
 .rw[en];show 1*(p.length+r.length)<=sizeLine;rw[Kf];exact iR (fJ ⋯)
 have g1:=g0.trans (Same.new hl (.lst (iy ((p.length:Int)+(r.length:Int)).toNat [V.int 0]).flatten));have hl0:H l=ν:=g0.free hl;exists (),.ref a,p.length,rfl,.inr {_,ao.of (g1 _ _ hA),lP.symm},(p.length:Int),rfl,(⋯:-(2^62)<=(p.length:Int)),(⋯:(p.length:Int)<2^62);refine kI (lo:=0) (n:=(p.length:Int).toNat) (λi σ' H'=>sJ λo4 o5 L=>B4 (σ'=[ι (.int b),ι (.ref a),ι (.ref c),ι (.ref l),o4,o5]) (Same H H') (H' l=ι (.lst (L.map V.int))) (L.length=p.length+r.length) (∀k,Pm.co L k=tk b (Pm.W (Pm.co p) (Pm.co r) i 0 k)))
  {_,_,bf (p.length+r.length) (λ_=>0),rfl,g1,(by rw[aq,en,mf]),dF _ _,λk=>by rw[iU,aLO,tk0];split<;>rfl} ?_ ?_
 .rintro i σ' H' hi ⟨o4,o5,L,rfl,g,hL,zL,hW⟩;have hi':i<p.length:=⋯;exists (),.ref c,r.length,rfl,.inr {_,ao.of (g _ _ hC),lR.symm},(r.length:Int),rfl,(⋯:-(2^62)<=(r.length:Int)),(⋯:(r.length:Int)<2^62);refine kI (lo:=0) (n:=(r.length:Int).toNat) (λk σ' H'=>Ex2 λo5 L=>B4 (σ'=[ι (.int b),ι (.ref a),ι (.ref c),ι (.ref l),ι (.int (0+(i:Int))),o5]) (Same H H') (H' l=ι (.lst (L.map V.int))) (L.length=p.length+r.length) (∀j,Pm.co L j=tk b (Pm.W (Pm.co p) (Pm.co r) i k j)))
   {_,L,rfl,g,hL,zL,hW} ?_ ?_
  .rintro k σ' H2 hk ⟨o5,L,rfl,g,hL,zL,hW⟩;have hk':k<r.length:=⋯;have lL:(L.map V.int).length=L.length:=aB _;have e1:(0+(i:Int)+(0+(k:Int))).toNat=i+k:=⋯;have e2:(0+(i:Int)).toNat=i:=⋯;have e3:(0+(k:Int)).toNat=k:=⋯;refine{(),(),(),(),¬hL,dH (ns:=L) (⋯:(0:Int)<=0+(i:Int)+(0+(k:Int))) ⋯,(),(),!(g _ _ hA),dH (ns:=p) (⋯:(0:Int)<=0+(i:Int)) ⋯,(),(),!(g _ _ hC),dH (ns:=r) (⋯:(0:Int)<=0+(k:Int)) ⋯,vp (Bd.getD bA _) (Bd.getD bC _) ∅,b,(),hb,(),(),(),l,_,_,i+k,rfl,rfl,hL,BK ⋯ (by rw[lL];lia),?_};refine{_,L.set (i+k) _,rfl,g.upd hl0 _,(by rw[aq,SW]),(by rw[oU];exact zL),λj=>?_};rw[GJ _ _ _ _ ⋯,aMm,e1,e2,e3];by_cases ej:j=i+k
   .have hw:=hW j;rw[if_pos ej,if_pos ej];rw[ej]at hw⊢;rw[<-rO b (Pm.W (Pm.co p) (Pm.co r) i k (i+k)),<-hw];rfl
   .rw[if_neg ej,if_neg ej,fK];exact hW j
  .rintro σ' H2 ⟨o5,L,rfl,g,hL,zL,hW⟩;refine{_,_,L,rfl,g,hL,zL,λk=>?_};rw[hW k,dB,aA8 λk hk=>bY hk]
 .rintro σ' H' ⟨o4,o5,L,rfl,g,hL,zL,hW⟩;refine{(),l,L,rfl,ak.of hL,λt H2 g2 ht=>q t H2 (g.trans g2) ?_};have e:Pm.trim L=Pm.mul b p r:=by
   refine Nb λk=>?_;rw[hW k,dB,Z8 λk hk=>bY hk,iU];split
   .rfl
   .rw[<-Di,Pm.mul,uy,iU,if_neg (by assumption)]
  rw[<-e];exact ht
theorem aGZ(F:Fn K mg "divided" cq ["by","one","other"])(cN:lG M)(qw:GQ M):Et M:=by
 delta B5
 intros b a c P M u v rfl hb hb1 hA hC zA zC hM nP bA bC u22 huv q h;exists _,#[(),(au 3 B5.nd ((cL K B.cJ #[2])-_:)),(au 4 B5.nd ((dI #[_])*(eX (Mc rfl) rfl B.AS boot_max #[_,((cL K B.cJ #[1])-3:)]):)),(au 5 B5.nd (dW (xlist K) rfl B.SR boot_list #[1])),(iC PassesOwn.never rfl (JU rfl B.fj #[((cL K B.cJ #[4])-_:),(Nm RX aP),(Nm RX aP)]) (bH 6 B5.nd) #[(),(au 7 B5.nd (aK K (5:) (6+3:))),(vU (7:) (vD (4:) (6:) set_list)),(iC PassesOwn.never rfl (gH rfl B.fj #[(cL K B.cJ #[2])]) (bH 8 B5.nd) (aJ (vU (aC cN hr #[0,((aK K (5:) (6+8:))-7*(aK K (2:) (8:)):)]) (vD (5:) (6+8:) set_list))))]),(aF (dG #[(aC qw hr #[4]),(aC qw hr #[5])]))];have lP:(P.map V.int).length=P.length:=aB _;have lM:(M.map V.int).length=M.length:=aB _;have V8:=hM.pos;refine{(),.ref c,M.length,rfl,.inr {_,ao.of hC,lM.symm},"",(bG 1),λl0 h0=>?_};have g0:=Same.new h0 (.lst [.int 0]);exists (),.ref a,P.length,rfl,.inr {_,ao.of (g0 _ _ hA),lP.symm},(),"",_,();have en:(if(P.length:Int)-((M.length:Int)-1)>0 then(P.length:Int)-((M.length:Int)-1)else 0).toNat=P.length-(M.length-1):=(max_zero P.length M.length).resolve_right ⋯;refine{_,aq,?_,?_,?_,λlo hlo=>?_}
 .split<;>lia
 .split<;>lia
 .rw[en];show 1*(P.length-(M.length-1))<=sizeLine;rw[Kf];exact iR (fJ ⋯)
 rw[en,mf];have aBS:H lo=ν:=g0.free hlo;have g1:=g0.trans (Same.new hlo (.lst ((bf (P.length-(M.length-1)) λ_=>0).map V.int)));have hO0:(upd (upd H l0 (.lst [.int 0])) lo (.lst ((bf (P.length-(M.length-1)) λ_=>0).map V.int))) lo=ι (.lst ((bf (P.length-(M.length-1)) λ_=>0).map V.int)):=aq;generalize upd (upd H l0 (.lst [.int 0])) lo (.lst ((bf (P.length-(M.length-1)) λ_=>0).map V.int))=H1 at g1 hO0;refine{(),a,(),.inr (ao.of (g1 _ _ hA)),λll hll=>?_};have aKe:H ll=ν:=g1.free hll;have hne:lo≠ll:=jz hO0 hll;have VB:=Same.new hll (.lst (P.map V.int));have g2:=g1.trans VB;have Qs:=VB _ _ hO0;have hL2:(upd H1 ll (.lst (P.map V.int))) ll=ι (.lst (P.map V.int)):=aq;generalize upd H1 ll (.lst (P.map V.int))=H2 at VB g2 Qs hL2;generalize hn:P.length-(M.length-1)=n at Qs;have n40:n<=40:=hn▸cM (Nat.sub_le ..) zA;exists (),.ref lo,n,rfl,.inl {_,ak.of Qs,by rw[aB,dF]},"",(),(),(n:Int)-1,-1,rfl,{⋯,⋯,⋯,⋯};refine Eg (lo:=(n:Int)-1) (n:=((n:Int)-1-(-1)).toNat) (λi σ' H'=>Ex5 λo6 o7 o8 O L=>An6 (σ'=[ι (.int b),ι (.ref a),ι (.ref c),ι (.int ((M.length:Int)-1)),ι (.ref lo),ι (.ref ll),o6,o7,o8]) (Same H H') (H' lo=ι (.lst (jc V.int O))) (H' ll=ι (.lst (jc V.int L))) (tG b P M (n-i) O L) (∀k,Bd (u+i*(v+1)) (Pm.co L k)))
  {_,_,_,_,P,rfl,g2,Qs,hL2,(by rw[uT,<-hn];exact tG.start nP),λk=>(nY bA k).mono ⋯} ?_ ?_
 .rintro i σ' H' hi ⟨o6,o7,o8,O,L,rfl,g,hO,hL,I,bL⟩;have hi':i<n:=⋯;have hs:n-i=n-(i+1)+1:=⋯;rw[hs]at I;generalize es:n-(i+1)=s at I;have esI:(n:Int)-1-(i:Int)=(s:Int):=dq4 es hi';rw[esI];have hlL:=I.ll;have hlO:=I.ol;have lO:(O.map V.int).length=O.length:=aB _;have sL:s+M.length<=L.length:=dq0 hn es hi' hlL V8;have sO:s<O.length:=dq3 hn es hi' hlO;obtain⟨e1,e1a,e1b⟩:=dq1 V8 sL;exists (),(),(),¬hL,dH (ns:=L) e1a e1b;rw[e1];have hF:Bd (u+i*(v+1)) (L.getD (s+(M.length-1)) 0):=bL _;have eF:L.getD (s+(M.length-1)) 0=Pm.co L (s+(M.length-1)):=rfl;rw[eF]at hF⊢;generalize hf:Pm.co L (s+(M.length-1))=f at hF;refine{(),(),(),lo,_,_,s,rfl,rfl,hO,BK rfl (by rw[lO];exact sO),?_};have hO3:(upd H' lo (.lst ((O.map V.int).set s (.int f)))) lo=ι (.lst ((O.set s f).map V.int)):=by rw[aq,SW]
  have j6:(upd H' lo (.lst ((O.map V.int).set s (.int f)))) ll=ι (.lst (L.map V.int)):=by rw[cH hne.symm];exact hL
  have g3:=g.upd aBS (.lst ((O.map V.int).set s (.int f)));generalize upd H' lo (.lst ((O.map V.int).set s (.int f)))=H3 at hO3 j6 g3;exists (),.ref c,M.length,rfl,.inr {_,ao.of (g3 _ _ hC),lM.symm},(M.length:Int),rfl,(⋯:-(2^62)<=(M.length:Int)),(⋯:(M.length:Int)<2^62);refine kI (lo:=0) (n:=(M.length:Int).toNat) (λt σ' H'=>Ex2 λo8 L'=>An6 (σ'=[ι (.int b),ι (.ref a),ι (.ref c),ι (.int ((M.length:Int)-1)),ι (.ref lo),ι (.ref ll),ι (.int (s:Int)),ι (.int f),o8]) (Same H H') (H' lo=ι (.lst ((O.set s f).map V.int))) (H' ll=ι (.lst (jc V.int L'))) (L'.length=L.length) (∀k,Pm.co L' k=Pm.lf b f s t L M k))
   {_,L,rfl,g3,hO3,j6,rfl,λk=>(aLm ..).symm} ?_ ?_
  .rintro t σ' H4 ht ⟨o8,L',rfl,g4,Zj,yZ,R6,Cw⟩;have ht':t<M.length:=⋯;have lL':(L'.map V.int).length=L'.length:=aB _;obtain⟨e2,f1,f2,f3,f4,f5,e3,f6⟩:=dq2 (l:=L'.length) ht' (by rw[R6];exact sL);exists (),(),(),(),¬yZ,dH (ns:=L') f1 f2,(),(),(),!(g4 _ _ hC),dH (ns:=M) f3 f4,vp hF (Bd.getD bC _) (by have:i*(v+1)<=40*(v+1):=pO _ (cM (iR hi') n40);clear en es esI hn I;generalize i*(v+1)=z at this ⊢;lia),_,_,rfl,rfl;refine{b,(),hb,(),(),(),ll,_,_,s+t,rfl,rfl,yZ,BK f6 (by rw[lL'];exact f5),?_};refine{_,L'.set (s+t) _,rfl,g4.upd aKe _,(by rw[cH hne];exact Zj),(by rw[aq,SW]),(by rw[oU];exact R6),λk=>?_};rw[GJ _ _ _ _ f5,aGu,e2,e3,<-Cw k];by_cases ek:k=s+t
   .rw[if_pos ek,if_pos ek,ek];rfl
   .rw[if_neg ek,if_neg ek]
  .rintro σ' H4 ⟨o8,L',rfl,g4,Zj,yZ,R6,Cw⟩;rw[dB]at Cw;refine{_,_,_,O.set s f,L',rfl,g4,Zj,yZ,?_,λk=>?_}
   .rw[<-hf];rw[<-hf]at Cw;exact I.step hM ⋯ R6 Cw
   .rw[Cw k,uI];exact(aJ8 hb hb1 ⋯ hF bL bC k).mono ⋯
 .rintro σ' H' ⟨o6,o7,o8,O,L,rfl,g,hO,hL,I,bL⟩;have e9:((n:Int)-1-(-1)).toNat=n:=⋯;rw[e9]at I bL;rw[Aj]at I;refine{(),lo,O,rfl,ak.of hO,λt1 H3 g3 h3=>?_};refine{(),ll,L,rfl,ak.of (g3 _ _ hL),λt2 H4 g4 h4=>?_};refine{(bG 2),λt ht=>?_};have gt:=Same.new ht (.tup [.ref t1,.ref t2]);exact q t t1 t2 (Pm.trim O) (Pm.trim L) _ (g.trans (g3.trans (g4.trans gt))) aq (gt _ _ (g4 _ _ h3)) (gt _ _ h4) (I.stop hM) λz hz'=>(aO0 bL z hz').mono (Nat.add_le_add_left (pO _ n40) _)
theorem aKC(F:Fn K mg "monic" rh ["prime","poly"])(Ea:cK M):YY M:=by
 delta WO
 intros P' a p rfl hP hPb hA zA pP q h;refine{_,#[(),(aV ((cL K B.cJ #[1])==_:) (aJ (aF (dG iW))) aW),(iw (i:=2) WO.nd rfl (fX rfl) (aK K (1:) ((cL K B.cJ #[1])-_:))),(aF (dW (mV K) rfl B.j5 boot_tuple #[(fu (sc:=aJV) (N:=["number","last","prime"]) (ix:=[ν,ι 2,ι 0]) cV rfl (d7 K (1:)) (λ_ _ _ _ _=>{(bH 0 cR),dg,(aC Ea hr #[2,0,1])}))]))],?_};have hr2:2<=P'/\P'<4194304:={hP.1,(hPb)};have lP:(p.map V.int).length=p.length:=aB _;exists (),.ref a,p.length,rfl,.inr {_,ao.of hA,lP.symm},();refine cu (λc=>?_) (λc=>?_)
 .have c':(p.length:Int)=0:=dec_true c;have e:p=[]:=u5 ⋯;subst e;exact{cZ _,λt ht=>q t [] _ (Same.new ht _) aq (zH.nil _)}
 .have c':¬(p.length:Int)=0:=dec_false c;have hn:p≠[]:=λe=>c' (by rw[e];rfl);have hpos:0<p.length:=⋯;have e1:((p.length:Int)-1).toNat=p.length-1:=⋯;exists (),(),.ref a,p.length,rfl,.inr {_,ao.of hA,lP.symm},"",!hA,dH (ns:=p) (⋯:(0:Int)<=(p.length:Int)-1) ⋯;rw[e1];have l0:=Gb hn pP.tr;have l1:=pP.co (p.length-1);rw[oB ⋯]at l1;have r0:0<=Pm.co p (p.length-1):=by rw[<-l1];exact rK _ ⋯
  have r1:Pm.co p (p.length-1)<(P':Int):=by rw[<-l1];exact qT _ ⋯
  refine{(),a,rfl,.inr {{_,ao.of hA},MK hA ⋯ rfl (λx=>x*(Pm.co p (p.length-1))^(P'-2)%(P':Int)) ?_ ?_}}
  .intro H2 x g2 hx k hk;exact{(),(),(),P',x,(),hP,hPb,by show 0<Pm.co p (p.length-1);lia,r1,hk}
  .intro D hD;refine{D,(),.inl {ak.of aq,λt ht=>?_}};exact q t (wX P' p) _ ((Same.new hD _).trans (Same.new ht _)) aq (aJu hP pP hn)
theorem axl(F:Fn K mg "greatest" Wv ["by","one","other"])(Lq:YY M)(mj:Et M):U5 M:=by
 delta DK
 intros P' a c p r rfl hP hPb hA hC zA zC pP pR hne q h;exists _,#[(),(au 3 DK.nd (aC Lq hr #[0,1])),(au 4 DK.nd (aC Lq hr #[0,2])),(rW PassesOwn.never ((cL K B.cJ #[4])>_:) #[(),(au 5 DK.nd (aK K (aC mj hr #[0,3,4]) aP)),(au 3 DK.nd (4:)),(au 4 DK.nd (aC Lq hr #[0,5]))]),(aF (3:))];have hr2:2<=P'/\P'<4194304:={hP.1,(hPb)};refine{(),(),P',a,p,rfl,hP,hPb,hA,⋯,pP,λtg g0 H1 g1 hG mG=>?_};refine{(),(),P',c,r,rfl,hP,hPb,g1 _ _ hC,⋯,pR,λts s0 H2 g2 hS' mS=>?_};have lg0:=mG.len;have ls0:=mS.len;refine{λm σ' H'=>Ex5 λ(o5:Option V)(tg ts:Addr)(g s:ζ)=>FP (m=s.length) (σ'=[ι (.int P'),ι (.ref a),ι (.ref c),ι (.ref tg),ι (.ref ts),o5]) (Same H H') (H' tg=ι (.tup (g.map V.int))) (H' ts=ι (.tup (s.map V.int))) (wF P' p r g s) (g.length<=max p.length r.length) (s.length<=max p.length r.length),
  {_,_,tg,ts,g0,s0,rfl,rfl,g1.trans g2,g2 _ _ hG,hS',wF.start mG mS hne,⋯,⋯},?_}
 rintro m σ' H' ⟨o5,tg,ts,gg,ss,rfl,rfl,g,hG,hS',I,zg,zs⟩;have lS:(ss.map V.int).length=ss.length:=aB _;exists (),.ref ts,ss.length,rfl,.inr {_,ao.of hS',lS.symm},"",();refine cu (λcc=>?_) (λcc=>?_)
 .have hs:ss≠[]:=λe=>by have:=dec_true cc;rw[e]at this;simp at this
  have hMs:=I.sm_ hs;refine{_,λ_ _ z=>z,?_};refine{(),(),(),P',tg,ts,gg,ss,22,22,rfl,⋯,⋯,hG,hS',⋯,⋯,hMs,I.gy.co,Hb hr2.1 hr2.2 I.gy,Hb hr2.1 hr2.2 I.sy,∅,∅,λt x y o l H3 g3 hT hX hY D _=>?_};exists !hT,rfl,();have hsh:=D.short;refine{(),(),P',y,l,rfl,hP,hPb,hY,⋯,D.ry,λtm m H4 g4 hM mM=>?_};have lm:=mM.len;exact{m.length,⋯,_,ts,tm,ss,m,rfl,rfl,g.trans (g3.trans g4),(g3.trans g4) _ _ hS',hM,I.step hs D mM,zs,⋯}
 .have hs:ss=[]:=u5 (by have:=dec_false cc;lia);exists ();exact q tg gg H' g hG (I.stop hs) zg
theorem aEk(F:Fn K mg "nearest" VF ["modulus","number"]):m3 M:=by
 delta P1
 intros M x rfl hM q h;exists _,#[(),(au 2 P1.nd (1%0:)),(aF (C2 (_*2>0:) (2-0:) (2:)))],(),(),"",hM,(),mulL ∅ ∅,(),"",();refine cu (λc=>?_) (λc=>?_)
 .have c':2*(x%M)>M:=dec_true c;exists (),(),"";have e:Pm.nr M x=x%M-M:=if_pos c';rw[e]at q;exact q
 .have c':¬2*(x%M)>M:=dec_false c;exists ();have e:Pm.nr M x=x%M:=if_neg c';rw[e]at q;exact q
theorem aKz(F:Fn K mg "joined" fT ["modulus","number","prime","rest"])(Ea:cK M)(cN:lG M)(Dd:m3 M):AD M:=by
 delta Ap
 intros M t p s' rfl hp hpb hM Aw q h;exists _,#[(),(au 4 Ap.nd (aC Ea hr #[2,(aC cN hr #[2,(3-1:)]),(aC cN hr #[2,0])])),(aF (aC Dd hr #[(0*2:),(1+0*4:)]))];have h2:=hp.1;have hp0:(p:Int)≠0:=⋯;have r0:=rK M hp0;have r1:=qT M (⋯:(0:Int)<p);have rn:M%(p:Int)≠0:=λz=>Aw (Qf z);have et:tk (p:Int) M=M%(p:Int):=oB hp0 M;refine{(),(),(),(),"",p,(),⋯,(),(),p,M,rfl,⋯,p,_,(),hp,hpb,by rw[et];lia,by rw[et];exact r1,?_};have hw:=aHA (M:=M) (t:=t) (s:=s') hp;refine{(),(),mulR ⋯ ⋯,(),(),(),mulR (by show -(2^64)<jw M t p s';lia) (by show jw M t p s'<2^64;lia),?_};exact{_,(),Int.mul_pos hM ⋯,q}
theorem aFO(F:Fn K mg "taken_poly" Zc ["prime","poly"])(qw:GQ M)(cN:lG M):EZ M:=by
 delta azf
 intros p a P' rfl hp hA zA q h;refine{_,(aJ (aF (aC qw hr #[(fu (sc:=aMC) (N:=["number","prime"]) (ix:=[ν,ι 0]) cV rfl (d7 K (1:)) (λ_ _ _ _ _=>{(bH 0 cR),dg,(aC cN hr #[1,0])}))]))),?_};refine{(),a,rfl,.inr {{_,ao.of hA},MK hA ⋯ rfl (λx=>tk p x) ?_ ?_}}
 .intro H2 x g2 hx k hk;exact{(),(),p,x,rfl,⋯,hk}
 .intro D hD;refine{D,(),ak.of aq,λt1 H3 g3 h3=>?_};exact q t1 H3 ((Same.new hD _).trans g3) h3
theorem aIe(F:Fn K mg "divides" gu ["monic_one","poly"])(mj:Et M):HI M:=by
 delta aAb
 intros m a M P' rfl hMm hA zM zP hM bM bP q h;refine{_,(aJ (aF (nQ (wD K hr) (aK K (aC mj hr #[_,1,0]) aP) (dG iW) (pq _)))),(),(),0,a,m,P',M,2700000,2640000,rfl,∅,∅,hA,hMm,zP,zM,hM,λk=>dj _,bP,bM,∅,∅,λt x y o l H3 g3 hT hX hY D _=>?_};refine{!hT,rfl,cZ _,λt0 ht0=>?_};have g4:=Same.new ht0 (.tup []);refine PV (ns:=l) (ms:=[]) (ao.of (g4 _ _ hY)) (ao.of aq) ?_;exact q _ _ (g3.trans g4) (by show decide (l=[])=true↔_;rw[decide_eq_true_iff];exact D.dv hM)
theorem azx(F:Fn K mg "whole_greatest" oP ["one","other"])(Ox:HI M)(sq:LF M)(Fx:U5 M)(Qn:EZ M)(Dd:m3 M)(Vn:AD M):VC M:=by
 delta pG
 intros a c P' t rfl hA hC hP zP zt bP bt q h;obtain⟨g,N,G,hV,hU⟩:=aI1 hP zP zt (nY bP) (nY bt);have q:=q g G.gc;refine{_,#[(),(au 2 pG.nd (0:)),(iw (i:=3) pG.nd rfl (fX rfl) aP),(iw (i:=4) pG.nd rfl (fX rfl) (rC rfl B.pM)),(au 5 pG.nd lF),(rW PassesOwn.never (PW.pt (lH (jF (iD (5:))) (lH (jF (iD (aC Ox hr #[2,0]))) (qj (jF (iD (aC Ox hr #[2,1]))))))) #[(),(iw (i:=4) pG.nd rfl (fX rfl) (aC sq hr #[4])),(iw (i:=6) pG.nd rfl (fX rfl) (aC Fx hr #[4,(aC Qn hr #[4,0]),(aC Qn hr #[4,1])])),(aV ((cL K B.cJ #[6])<(cL K B.cJ #[2]):) #[(),(au 2 pG.nd (dW (mV K) rfl B.j5 boot_tuple #[(fu (sc:=aNe) (N:=["rest","prime"]) (ix:=[ν,ι 4]) cV rfl (d7 K (6:)) (λ_ _ _ _ _=>{(bH 0 cR),dg,(aC Dd hr #[1,0])}))])),(iw (i:=3) pG.nd rfl (fX rfl) (4:)),(au 5 pG.nd lF)] (aJ (mX (aV ((cL K B.cJ #[6])==(cL K B.cJ #[2]):) #[(),(iw (i:=7) pG.nd rfl (fX rfl) (2:)),(au 2 pG.nd (dW (mV K) rfl B.j5 boot_tuple #[(fu (sc:=aO5) (N:=["k","before","modulus","prime","seen"]) (ix:=[ν,ι 7,ι 3,ι 4,ι 6]) cV rfl (gH rfl B.fj #[(cL K B.cJ #[6])]) (λ_ _ _ _ _=>{(bH 0 cR),dg,(aC Vn hr #[2,(aK K (1:) (0:)),3,(aK K (4:) (0:))])}))])),(iw (i:=3) pG.nd rfl (fX rfl) (3*4:)),(au 5 pG.nd (nQ (wD K hr) (2:) (7:) (pq _)))] aW))))]),(aF (2:))],?_};have hgP:g.length<=P'.length:=G.one.len rfl G.mon hP;exists (),zo H a c P' g N,{_,_,_,a,P',1,1000000,true,0,0,rfl,rfl,Same.refl _,hA,nK.start hP hgP _,Om.many,⋯,⋯};rintro m σ' H' ⟨o6,o7,tt,told,M,prime,ripe,bad,good,rfl,rfl,gg,hT,I,RU,hbig,aJx⟩;have bT:=aEX I (λx hx=>(bP x hx).mono ∅) aJx;have zT:=I.le;exists (),ripe,rfl;refine cu (λcr=>?b1) (λcr=>?n1)
 case' b1=>
  have hne:¬(ripe=true/\told=g):=λz=>by rw[z.1]at cr;exact absurd cr ∅
  have gx:=gg;have Fo:=hT;generalize H'=Hx at gx Fo⊢
 case' n1=>
  refine{(),(),tt,a,told,P',rfl,hT,gg _ _ hA,⋯,⋯,I.mon,bT,(λx hx=>(bP x hx).mono ∅),λb1 H1 g1 e1=>?_};exists b1,rfl;refine cu (λc1=>?b2) (λc1=>?n2)
 case' b2=>
  have hne:¬(ripe=true/\told=g):=λz=>by
   have:b1=true:=e1.mpr (by rw[z.2];exact G.one);rw[this]at c1;exact absurd c1 ∅
  have gx:=gg.trans g1;have Fo:=g1 _ _ hT;generalize H1=Hx at gx Fo⊢
 case' n2=>
  refine{(),(),tt,c,told,t,rfl,g1 _ _ hT,(gg.trans g1) _ _ hC,⋯,⋯,I.mon,bT,(λx hx=>(bt x hx).mono ∅),λb2 H2 g2 e2=>?_};exists b2,rfl;refine cu (λc2=>?b3) (λc2=>?n3)
 case n3=>
  have hb1:b1=true:=by cases b1<;>first|rfl|exact absurd rfl c1
  have hb2:b2=true:=by cases b2<;>first|rfl|exact absurd rfl c2
  have e:=G.told I.mon (e1.mp hb1) (e2.mp hb2) I.ge;subst e;exists ();exact q tt H2 (gg.trans (g1.trans g2)) ((g1.trans g2) _ _ hT)
 case' b3=>
  have hne:¬(ripe=true/\told=g):=λz=>by
   have:b2=true:=e2.mpr (by rw[z.2];exact G.two);rw[this]at c2;exact absurd c2 ∅
  have gx:=gg.trans (g1.trans g2);have Fo:=(g1.trans g2) _ _ hT;generalize H2=Hx at gx Fo⊢
 all_goals
  have hfew:=I.few G.ne hV hU hne;obtain⟨k,hk'⟩:∃k,120000-(bad+good)=k+1:={120000-(bad+good)-1,⋯};rw[hk']at RU;intros q0 hq0 aFA aUu hnext RU.next;refine{_,λ_ _ z=>z,?_};refine{(),prime,q0,rfl,hq0,aFA,⋯,λp hp hlt hle=>?_};have hN:=hnext p hle;refine{(),(),(),p,a,P',rfl,⋯,gx _ _ hA,⋯,λt1 H3 g3 h3=>?_};refine{(),(),p,c,t,rfl,⋯,(gx.trans g3) _ _ hC,⋯,λt2 H4 g4 h4=>?_};have l1:=HP p P';have l2:=HP p t;refine{p,t1,t2,_,(),hp,⋯,g4 _ _ h3,h4,⋯,⋯,yk p P',yk p t,λ_=>ayP hp hP,λts s' H5 g5 hS hG hsl=>?_};have sn:=G.seen hp (Xd p P') (Xd p t) hG;have lS:(s'.map V.int).length=s'.length:=aB _;have lT:(told.map V.int).length=told.length:=aB _;have gy:=gx.trans (g3.trans (g4.trans g5));have hTy:=(g3.trans (g4.trans g5)) _ _ Fo;exists (),.ref ts,s'.length,rfl,.inr {_,ao.of hS,lS.symm},(),.ref tt,told.length,rfl,.inr {_,ao.of hTy,lT.symm},"",();refine cu (λd1=>?_) (λd1=>?_)
  .have d1':(s'.length:Int)<told.length:=dec_true d1;refine{(),ts,rfl,.inr {{_,ao.of hS},MK hS ⋯ rfl (λx=>Pm.nr p x) ?_ ?_}}
   .intro H6 x g6 hx kk hk;exact{(),(),p,x,rfl,⋯,hk}
   .intro D hD;refine{D,(),.inl {ak.of aq,λtn ht=>?_}};obtain⟨tO,tE,hbg,I'⟩:=I.anew hp hlt ⋯ ⋯ sn ⋯;exact{(),120000-(tO+tE),⋯,_,_,tn,s'.map (Pm.nr p),p,p,true,tO,tE,rfl,rfl,gy.trans ((Same.new hD _).trans (Same.new ht _)),aq,I',(by rw[hbg,(⋯:120000-(bad+good+1)=k)];exact hN),⋯,⋯}
  .have d1':¬(s'.length:Int)<told.length:=dec_false d1;refine lW.by (λσ' H2=>∃m',m'<120000-(bad+good)/\zo H a c P' g N m' σ' H2) (λN0 O7=>?_) (λσ' H2 z=>z);exists (),.ref ts,s'.length,rfl,.inr {_,ao.of hS,lS.symm},(),.ref tt,told.length,rfl,.inr {_,ao.of hTy,lT.symm},();refine cu (λd2=>?_) (λd2=>?_)
   .have d2':(s'.length:Int)=told.length:=dec_true d2;have hl:s'.length=told.length:=⋯;have Aw:¬(p:Int)∣M:=λz=>by have:=I.div p hp z;lia
    exists (),(),.ref ts,s'.length,rfl,.inr {_,ao.of hS,lS.symm},(s'.length:Int),rfl,(⋯:-(2^62)<=(s'.length:Int)),(⋯:(s'.length:Int)<2^62);rw[dB];refine Bb (n:=s'.length) ⋯ rfl (λk=>Pm.jn M (told.getD k 0) p (s'.getD k 0)) ?_ ?_
    .intro H6 k6 g6 hk6 kk hk;have e1:(0+(k6:Int)).toNat=k6:=⋯;exists (),(),(),!(g6 _ _ hTy),dH (ns:=told) (⋯:(0:Int)<=0+(k6:Int)) ⋯,(),(),(),!(g6 _ _ hS),dH (ns:=s') (⋯:(0:Int)<=0+(k6:Int)) ⋯;rw[e1];exact{M,_,p,(),hp,⋯,I.pos,Aw,hk}
    .intro D hD;refine{D,(),.inl {ak.of aq,λtn ht=>?_}};have gn:=(Same.new hD (.lst ((bf s'.length λk=>Pm.jn M (told.getD k 0) p (s'.getD k 0)).map V.int))).trans (Same.new ht (.tup ((bf s'.length λk=>Pm.jn M (told.getD k 0) p (s'.getD k 0)).map V.int)));exists (),(),mulR ⋯ ⋯,(),();refine PV (ns:=bf s'.length λk=>Pm.jn M (told.getD k 0) p (s'.getD k 0)) (ms:=told) (ao.of aq) (ao.of (gn _ _ hTy)) ?_;obtain⟨tO,tE,hbg,I'⟩:=I.join (kJ:=bf s'.length λk=>Pm.jn M (told.getD k 0) p (s'.getD k 0)) (Yz:=decide ((bf s'.length λk=>Pm.jn M (told.getD k 0) p (s'.getD k 0))=told)) hp hlt ⋯ ⋯ sn hl (by rw[dF];exact hl) (λk6 hk6=>{jw M (told.getD k6 0) p (s'.getD k6 0),aGI hp Aw,by rw[iU,if_pos ⋯];rfl}) (decide_eq_true_iff);exact O7 _ _ {120000-(tO+tE),⋯,_,_,tn,_,M*p,p,_,tO,tE,rfl,rfl,gy.trans gn,aq,I',(by rw[hbg,(⋯:120000-(bad+good+1)=k)];exact hN),⋯,⋯}
   .have d2':¬(s'.length:Int)=told.length:=dec_false d2;have I':=I.stay hp hlt ⋯ sn ⋯;exact O7 _ _ {120000-(bad+1+good),⋯,_,_,tt,told,M,p,ripe,bad+1,good,rfl,rfl,gy,hTy,I',(by rw[(⋯:120000-(bad+1+good)=k)];exact hN),⋯,⋯}
theorem aGh(F:Fn K mg "of_rule" qv ["by","rule"])(cN:lG M):fF M:=by
 delta qc
 intros b a c rfl hb hA zA q h;refine{_,#[(),(iw (i:=2) qc.nd rfl (fX rfl) (cL K B.cJ #[1])),(nU (i:=3) (hN:=qc.nd) (hi':=rfl) (hx:=(jj rfl)) (sc:=aB3) (N:=["k","by","length","rule"]) (ix:=[ν,ι 0,ι 2,ι 1]) cV rfl (gH rfl B.fj #[2]) (λ_ _ _ _ _=>{(bH 0 cR),dg,(aC cN hr #[1,(_-(aK K (3:) (2-_-0:)):)])})),(aF (dW (mV K) rfl B.j5 boot_tuple #[(3+(dI #[_]):)]))],?_};have lC:(c.map V.int).length=c.length:=aB _;exists (),.ref a,c.length,rfl,.inr {_,ao.of hA,lC.symm},(),(c.length:Int),rfl,(⋯:-(2^62)<=(c.length:Int)),(⋯:(c.length:Int)<2^62);rw[dB];refine Bb (n:=c.length) ⋯ rfl (λk=>tk b (0-Pm.co c (c.length-1-k))) ?_ ?_
 .intro H2 k g2 hk kk hkk;have e1:((c.length:Int)-1-(0+(k:Int))).toNat=c.length-1-k:=⋯;exists (),(),(),"",(),"",!(g2 _ _ hA),dH (ns:=c) (⋯:(0:Int)<=(c.length:Int)-1-(0+(k:Int))) ⋯,"",b,(),hb;rw[e1];exact hkk
 .intro D hD;have g1:=Same.new hD (.lst ((bf c.length λk=>tk b (0-Pm.co c (c.length-1-k))).map V.int));refine{(),(bG 1),λl2 hl2=>?_};have g2:=Same.new hl2 (.lst [.int 1]);refine .inl {_,_,g2 _ _ aq,aq,?_,λl3 hl3=>?_}
  .rw[aB,dF];exact iR (fJ (by show _+1<=1000;lia))
  refine{l3,(),.inl {ak.of aq,λt ht=>?_}};refine q t _ (g1.trans (g2.trans ((Same.new hl3 _).trans (Same.new ht _)))) ?_;rw[aq,Pm.bZ,aT]
theorem aBW(F:Fn K mg "rule_of" km ["by","poly"])(cN:lG M):OT M:=by
 delta xk
 intros b a p rfl hb hA z0 zA q h;refine{_,#[(),(iw (i:=2) xk.nd rfl (fX rfl) ((cL K B.cJ #[1])-_:)),(aF (dW (mV K) rfl B.j5 boot_tuple #[(fu (sc:=azk) (N:=["k","by","length","poly"]) (ix:=[ν,ι 0,ι 2,ι 1]) cV rfl (gH rfl B.fj #[2]) (λ_ _ _ _ _=>{(bH 0 cR),dg,(aC cN hr #[1,(_-(aK K (3:) (2-_-0:)):)])}))]))],?_};have lC:(p.map V.int).length=p.length:=aB _;exists (),.ref a,p.length,rfl,.inr {_,ao.of hA,lC.symm},"",(),(p.length:Int)-1,rfl,(⋯:-(2^62)<=(p.length:Int)-1),(⋯:(p.length:Int)-1<2^62);rw[(⋯:((p.length:Int)-1).toNat=p.length-1)];refine Bb (n:=p.length-1) ⋯ rfl (λk=>tk b (0-Pm.co p (p.length-1-1-k))) ?_ ?_
 .intro H2 k g2 hk kk hkk;have e1:((p.length:Int)-1-1-(0+(k:Int))).toNat=p.length-1-1-k:=⋯;exists (),(),(),"",(),"",!(g2 _ _ hA),dH (ns:=p) (⋯:(0:Int)<=(p.length:Int)-1-1-(0+(k:Int))) ⋯,"",b,(),hb;rw[e1];exact hkk
 .intro D hD;refine{D,(),.inl {ak.of aq,λt ht=>?_}};exact q t _ ((Same.new hD _).trans (Same.new ht _)) aq
theorem avr(F:Fn K mg "top_of" rf ["row","poly"])(cN:lG M)(qw:GQ M):DA M:=by
 delta Eb
 obtain⟨v,r,a,rfl,⟨a0,p,p2,rfl,hA,hR,hS⟩,ok,hP,q⟩:=h;refine{_,#[(),(au 2 Eb.nd (-0:)),(iw (i:=3) Eb.nd rfl (fX rfl) (-0:)),(au 4 Eb.nd (dI iW)),(iC PassesOwn.never rfl (gH rfl B.fj #[(cL K B.cJ #[3])]) (YD (i:=5) Eb.nd rfl (fX rfl)) #[(),(nU (i:=6) (hN:=Eb.nd) (hi':=rfl) (hx:=(jj rfl)) (sc:=aSm) (N:=["j","k","poly","starts"]) (ix:=[ν,ι 5,ι 1,ι 3]) cV rfl (Ot rfl B.fj #[(5+_:),(cL K B.cJ #[1])]) (λ_ _ _ _ _=>{(bH 0 cR),dg,((aK K (2:) (0:))*(aK K (3:) (0-_-1:)):)})),(fY (nq K (4:) (aC cN hr #[2,(eX (nz K rfl) rfl B.Vh boot_sum #[6])])))]),(aF (aC qw hr #[4]))],?_};have hl:=ok.len;have hs:=ok.short;have lS:(r.ς.map V.int).length=r.ς.length:=aB _;have lP:((Pm.bZ r.b r.ρ).map V.int).length=r.ρ.length+1:=by rw[aB,nG]
 refine{(),!hA,rfl,(),!hA,rfl,cZ _,λl0 h0=>?_};have g0:=Same.new h0 (.lst []);exists (),.ref p2,r.ς.length,rfl,.inr {_,ao.of (g0 _ _ hS),lS.symm},(r.ς.length:Int),rfl,(⋯:-(2^62)<=(r.ς.length:Int)),(⋯:(r.ς.length:Int)<2^62);refine kI (lo:=0) (n:=(r.ς.length:Int).toNat) (λi σ' H'=>Ex2 λo5 o6=>Rh (σ'=[ι (.ref a0),ι (.ref a),ι (.int r.b),ι (.ref p2),ι (.ref l0),o5,o6]) (Same H H') (H' l0=ι (.lst ((bf i λk=>tk r.b (Pm.tp (Pm.bZ r.b r.ρ) r.at k)).map V.int))))
  {_,(),g0,aq} ?_ ?_
 .rintro i σ' H' hi ⟨o5,o6,rfl,g,hL⟩;have hi':i<r.ς.length:=⋯;exists (),(),.ref a,r.ρ.length+1,rfl,.inr {_,ao.of (g _ _ hP),lP.symm},_,(),{⋯,⋯,⋯,⋯};rw[(⋯:(((r.ρ.length+1:Nat):Int)-(0+(i:Int)+1)).toNat=r.ρ.length-i)];refine aIV (lo:=0+(i:Int)+1) (n:=r.ρ.length-i) ⋯ rfl (λk=>Pm.co (Pm.bZ r.b r.ρ) (i+1+k)*r.at k) ?_ ?_
  .intro H2 k g2 hk kk hkk;have e1:(0+(i:Int)+1+(k:Int)).toNat=i+1+k:=⋯;have e2:(0+(i:Int)+1+(k:Int)-1-(0+(i:Int))).toNat=k:=⋯;have lq:(Pm.bZ r.b r.ρ).length=r.ρ.length+1:=nG ..;exists (),(),!(g2 _ _ (g _ _ hP)),dH (ns:=Pm.bZ r.b r.ρ) (⋯:(0:Int)<=0+(i:Int)+1+(k:Int)) ⋯,(),(),"",(),"",!(g2 _ _ (g _ _ hS)),dH (ns:=r.ς) (⋯:(0:Int)<=0+(i:Int)+1+(k:Int)-1-(0+(i:Int))) ⋯,vp (Bd.getD ok.U7 _) (Bd.getD ok.jQ _) ∅;rw[e1,e2];have e3:r.at k=r.ς.getD k 0:=Bo ⋯;rw[e3]at hkk;exact hkk
  .intro D hD;have g3:=Same.new hD (.lst ((bf (r.ρ.length-i) λk=>Pm.co (Pm.bZ r.b r.ρ) (i+1+k)*r.at k).map V.int));have j6:=g3 _ _ hL;have lL:((bf i λk=>tk r.b (Pm.tp (Pm.bZ r.b r.ρ) r.at k)).map V.int).length=i:=by rw[aB,dF]
   refine{(),.inl {rfl,_,ak.of j6},(),(),D,(),ak.of aq,r.b,(),ok.jP,l0,"",j6,?_,?_}
   .rw[lL];exact fJ ⋯
   .exists _,(),(g.trans g3).upd h0 _;rw[aq,U9,aT];have e4:Pm.tp (Pm.bZ r.b r.ρ) r.at i=(bf (r.ρ.length-i) λk=>Pm.co (Pm.bZ r.b r.ρ) (i+1+k)*r.at k).sum:=by
     unfold Pm.tp;rw[bf,Wk,nG,jY]
    rw[e4]
 .rintro σ' H' ⟨o5,o6,rfl,g,hL⟩;refine{(),l0,(),ak.of hL,λt1 H3 g3 h3=>?_};refine q t1 H3 (g.trans g3) ?_;rw[h3,Ez,hl,dB]
theorem aNI(F:Fn K mg "shared_divisor" gX ["by","one","other"])(Ua:VC M)(Fx:U5 M):y9 M:=by
 delta aAQ
 intros b a c P' t rfl hA hC hB hP zP zt bP bt yP yt q h;exists _,(aJ (aF (C2 (0==_:) (aC Ua hr #[1,2]) (aC Fx hr #[0,1,2])))),(),();refine cu (λc0=>?_) (λc0=>?_)
 .have c0':b=0:=dec_true c0;subst c0';exact{(),(),a,c,P',t,rfl,hA,hC,hP,zP,zt,bP,bt,q}
 .obtain⟨p,hp,rfl⟩:=hB.resolve_left (dec_false c0);have hr:=zw p hp;exact{(),(),(),p,a,c,P',t,rfl,P5 hp,⋯,hA,hC,⋯,⋯,yP,yt,λ_ z=>by have:=hP.pos;rw[z]at this;exact absurd this ∅,λt g H' g1 h1 hG _=>q g hG.gc t H' g1 h1}
theorem aKm(F:Fn K mg "least_of" Ul ["row"])(Cq:fF M)(iO:DA M)(mj:Et M)(eJ:y9 M):Ur M:=by
 delta Tf
 obtain⟨v,r,rfl,⟨a0,p,p2,rfl,hA,hR,hS⟩,⟨ok,hB,wM⟩,q⟩:=h;exists _,#[(),(au 1 Tf.nd (-0:)),(au 2 Tf.nd (aC Cq hr #[1,-0])),(au 3 Tf.nd (aC iO hr #[0,2])),(aF (aK K (aC mj hr #[1,2,(aC eJ hr #[1,2,3])]) aP))];have hb1:=ok.qZ;have hm:=zV r.b r.ρ;have lq:(Pm.bZ r.b r.ρ).length=r.ρ.length+1:=nG ..;refine{(),!hA,rfl,(),(),!hA,rfl,r.b,p,r.ρ,rfl,ok.jP,hR,⋯,λtP H1 g1 hP=>?_};refine{(),(),.ref a0,r,tP,rfl,{a0,p,p2,rfl,g1 _ _ hA,g1 _ _ hR,g1 _ _ hS},ok,hP,λtT H2 g2 hTp=>?_};have hP2:=g2 _ _ hP;have lt:=ay8 r;have nP:=axu r.b r.ρ hB.one;have bP:∀x∈Pm.bZ r.b r.ρ,Bd 81400 x:=λx hx=>(ok.U7 x hx).mono ∅;refine{(),(),(),(),(),r.b,tP,tT,Pm.bZ r.b r.ρ,Ez r,rfl,hP2,hTp,hB.p,hm,⋯,⋯,bP,aJo ok,iE hm nP,Py.bf ..,λg G tg H3 g3 hg=>?_};obtain⟨L,hL,nL,lL,eL,D'⟩:=Wy hB hm G;have lp:=hL.pos;refine{r.b,tP,tg,Pm.bZ r.b r.ρ,g,81400,81569,rfl,ok.jP,⋯,g3 _ _ hP2,hg,⋯,⋯,G.mon,nP,bP,λx hx=>?_,∅,∅,λt x y o l H4 g4 ht hx hy D _=>?_}
 .obtain⟨k,hk,e⟩:=ug.mp hx;have:=aOS hB ⋯ hL G.nu eL lL ∅ (nY bP) k
  rwa [qN hk,e]at this
 .obtain⟨rfl,_⟩:=D.uniq G.mon D';exact{!ht,rfl,q o {g,G,(D')} x H4 (g1.trans (g2.trans (g3.trans g4))) hx}
theorem aOc(F:Fn K mg "shortest" dC ["row"])(C9:Ur M)(kU:OT M):ml M:=by
 delta dc
 obtain⟨v,r,rfl,⟨a0,p,p2,rfl,hA,hR,hS⟩,o,q⟩:=h;exists _,#[(),(au 1 dc.nd (aC C9 hr #[0])),(au 2 dc.nd (aC kU hr #[-0,1])),(aF (dG #[-0,2,(dW (mV K) rfl B.j5 boot_tuple #[(jT (m6 K) (-0:) jZ (jC (cL K B.cJ #[2])))])]))];have hs:=o.wM;have lS:(r.ς.map V.int).length=r.ς.length:=aB _;refine{(),.ref a0,r,rfl,{a0,p,p2,rfl,hA,hR,(hS)},o,λL hSh tL H1 g1 hL=>?_};obtain⟨e,hLp,ll,sok⟩:=hSh.ok o;have q:∀v' H',Same H H'->cO H' v' (Mt r L)->Q v' H':=λv' H' g h=>q v' H' g (e▸h) sok;refine{(),!(g1 _ _ hA),rfl,(),r.b,tL,L,rfl,o.ok.jP,hL,hLp,⋯,λtR H2 g2 oG=>?_};have lR:((oY r.b L).map V.int).length=L.length-1:=by rw[aB,Tp]
 have Ad:=(g1.trans g2) _ _ hA;have hS2:=(g1.trans g2) _ _ hS;exists (),!Ad,rfl,(),(),!Ad,rfl,(),.ref tR,L.length-1,rfl,.inr {_,ao.of oG,lR.symm},();by_cases hw:r.ς.length<=L.length-1
 .refine .inr (.inr {_,ao.of hS2,?_,?_})
  .rw[HT.pH,HT.vC,lS];lia
  .refine{p2,(),.inr {ao.of hS2,?_}};refine{(bG 3),λt ht=>?_};have g3:=Same.new ht (.tup [.int r.b,.ref tR,.ref p2]);refine q (.ref t) _ (g1.trans (g2.trans g3)) {t,tR,p2,rfl,aq,g3 _ _ oG,?_};show _=ι (HO.tup ((r.ς.take (L.length-1)).map V.int));rw[oA hw];exact g3 _ _ hS2
 .refine .inr (.inl {_,ao.of hS2,?_,λp3 hp3=>?_})
  .rw[HT.pH,HT.vC,lS];lia
  .refine{p3,(),.inr {ao.of aq,?_}};have g3:=Same.new hp3 (.tup (fO (r.ς.map V.int) ν (ι ((L.length-1:Nat):Int))));refine{(bG 3),λt ht=>?_};have g4:=Same.new ht (.tup [.int r.b,.ref tR,.ref p3]);refine q (.ref t) _ (g1.trans (g2.trans (g3.trans g4))) {t,tR,p3,rfl,aq,(g3.trans g4) _ _ oG,?_};show _=ι (HO.tup ((r.ς.take (L.length-1)).map V.int));rw[uX,<-zQ];exact g4 _ _ aq
theorem aNJ(F:Fn K mg "told_row" ai ["by","rule","starts"])(cN:lG M)(Df:ml M):BI M:=by
 delta aE
 intros b a e ns ms rfl hA hC hB n12 lm bn bm q h;have hb0:=hB.lo;refine{_,#[(),(au 3 aE.nd (dW (mV K) rfl B.j5 boot_tuple #[(fu (sc:=aMv) (N:=["number","by"]) (ix:=[ν,ι 0]) cV rfl (d7 K (1:)) (λ_ _ _ _ _=>{(bH 0 cR),dg,(aC cN hr #[1,0])}))])),(au 4 aE.nd (dW (mV K) rfl B.j5 boot_tuple #[(fu (sc:=aMJ) (N:=["number","by"]) (ix:=[ν,ι 0]) cV rfl (d7 K (2:)) (λ_ _ _ _ _=>{(bH 0 cR),dg,(aC cN hr #[1,0])}))])),(aF (aC Df hr #[(dG #[0,3,4])]))],?_};refine{(),Fc hA ⋯ rfl (tk b) ?_ ?_}
 .intro H2 x g2 hx kk hkk;exact{(),(),b,x,rfl,hb0,hkk}
 intro D hD;have gD:=Same.new hD (.lst ((ns.map (tk b)).map V.int));refine{D,(),.inl {ak.of aq,λt1 ht1=>?_}};have g1:=Same.new ht1 (.tup ((ns.map (tk b)).map V.int));have h1:(upd (upd H D (.lst ((ns.map (tk b)).map V.int))) t1 (.tup ((ns.map (tk b)).map V.int))) t1=ι (.tup ((ns.map (tk b)).map V.int)):=aq;have Wt:=gD.trans g1;generalize upd (upd H D (.lst ((ns.map (tk b)).map V.int))) t1 (.tup ((ns.map (tk b)).map V.int))=H1 at Wt h1;refine{(),Fc (hC.same Wt) ⋯ rfl (tk b) ?_ ?_}
 .intro H2 x g2 hx kk hkk;exact{(),(),b,x,rfl,hb0,hkk}
 intro D2 hD2;have gD2:=Same.new hD2 (.lst ((ms.map (tk b)).map V.int));refine{D2,(),.inl {ak.of aq,λt2 lY=>?_}};have g2:=Same.new lY (.tup ((ms.map (tk b)).map V.int));have h2:(upd (upd H1 D2 (.lst ((ms.map (tk b)).map V.int))) t2 (.tup ((ms.map (tk b)).map V.int))) t2=ι (.tup ((ms.map (tk b)).map V.int)):=aq;have UY:=gD2.trans g2;have h12:=UY _ _ h1;generalize upd (upd H1 D2 (.lst ((ms.map (tk b)).map V.int))) t2 (.tup ((ms.map (tk b)).map V.int))=H2 at UY h2 h12;refine{(),(),(),(bG 3),λt3 Ah=>?_};have g3:=Same.new Ah (.tup [.int b,.ref t1,.ref t2]);have k1:=My hB ∅ bn;have k2:=My hB ∅ bm;have o:Fq {b,ns.map (tk b),ms.map (tk b)}:={{by simp[lm],by simpa using(⋯:ns.length<=24),hb0,hB.hi,k1.2,k2.2,k1.1,k2.1},hB,by simpa using n12};exact{.ref t3,{b,ns.map (tk b),ms.map (tk b)},rfl,{t3,t1,t2,rfl,aq,g3 _ _ h12,g3 _ _ h2},o,λv' H4 g4 hR k=>q v' H4 (Wt.trans (UY.trans (g3.trans g4))) hR k}
theorem aDZ(F:Fn K mg "scaled" Wg ["row","number"])(Y9:BI M):ng M:=by
 delta aL4
 intros v r x c rfl hR h1 hc hx q h;refine{_,(aJ (aF (aC Y9 hr #[-0,-0,(fu (sc:=aBp) (N:=["start","number"]) (ix:=[ν,ι 1]) cV rfl (d7 K (-0:)) (λ_ _ _ _ _=>{(bH 0 cR),dg,(1*0:)}))]))),?_};obtain⟨a,p,p2,rfl,hA,hP,hS⟩:=id hR;have hl:=h1.wf.len;have h12:=h1.wf.l4;refine{(),!hA,rfl,(),!hA,rfl,(),!hA,rfl,p2,rfl,.inr {{_,ao.of hS},EJ (xG (ao.of hS)) ⋯ rfl (λs=>x*s) ?_ ?_}}
 .intro H2 y g2 hy kk hkk;exact{(),(),vp hx (h1.jQ y hy) ⋯,hkk}
 intro D hD;have gD:=Same.new hD (.lst ((r.ς.map λs=>x*s).map V.int));refine{r.b,p,D,r.ρ,r.ς.map λs=>x*s,rfl,.inr (gD _ _ hP),.inl aq,h1.wf.hB,⋯,by rw[aB];lia,λx hx=>(h1.kY x hx).mono ∅,λy hy=>?_,λv' H' g'=>q v' H' (gD.trans g')};obtain⟨z,hz,rfl⟩:=bO.mp hy;exact(hx.mul (h1.jQ z hz)).mono ⋯
theorem aKZ(F:Fn K mg "refuse_far_jump" uk ["by","n"]):NC M:=by
 delta aOU aOU
 intros b n rfl q qE h;refine{_,(aJ (aV (PW.pt (lH (1<_:) (qj (PW.pt (vK (0==_:) (yX (1>(rC rfl B.ba):))))))) (aJ (uF M.Ay rfl #[""])) aW)),(),"",(),cu (λc=>{(bG 1),(qE λz=>?_).now}) (λc1=>?_)}
 .have:=dec_true c;have:=z.1;lia
 have k1:=dec_false c1;refine{(),(),cu (λc=>?_) (λc=>?_)}
 .have k2:b=0:=dec_true c;refine{(),"",(),cu (λc3=>{(bG 1),(qE λz=>?_).now}) (λc3=>q {⋯,λ_=>?_})}
  .have:=dec_true c3;have:=z.2 k2;lia
  .have:=dec_false c3;lia
 .exact bK (q {⋯,λz=>absurd z (dec_false c)})
theorem aKn(F:Fn K mg "power_left" WL ["by","poly","n"])(mj:Et M)(O5:OK M):Kn M:=by
 delta C5
 intros b a ρ n rfl hb hA hrl hR hn hN q h;exists _,#[(),(au 3 C5.nd (aK K (aC mj hr #[0,(dG #[_]),1]) aP)),(iC PassesOwn.never rfl (JU rfl B.fj #[((aBr K (2:))-_:),(Nm RX aP),(Nm RX aP)]) (bH 4 C5.nd) #[(),(au 5 C5.nd (aC O5 hr #[0,3,3])),(mX (aV ((lZ aFy (2:) (4:))%_==_:) (aJ (au 5 C5.nd (aC O5 hr #[0,5,(dG #[_,_])]))) aW)),(au 3 C5.nd (aK K (aC mj hr #[0,5,1]) aP))]),(aF (3:))];have hM:=zV b ρ;have lM:=nG b ρ;have hi1:=hb.hi;have bM:∀x∈Pm.bZ b ρ,Bd 67 x:=AR hb.lo hb.hi ∅ hR;refine{(),(bG 1),λt0 ht0=>?_};have g0:=Same.new ht0 (.tup [.int 1]);refine{(),b,t0,a,[1],Pm.bZ b ρ,22,67,rfl,hb.lo,⋯,aq,g0 _ _ hA,∅,⋯,hM,Ql hb,λx hx=>by
  rw[eN.mp hx];exact(Bd.of (n:=1) ∅ ∅).mono ∅,bM,∅,∅,λt x y q1 r1 H1 g1 ht hx hy d1 br1=>?_}
 exists !ht,rfl,(),rfl,(),rfl;have Ji:vW (n:Int)<=400:=intBits_le_iff.mpr hN;have hB9:b=0->vW (n:Int)<=9:=λz=>intBits_le_iff.mpr (show(n:Int).natAbs<2^9 by have:=hn z;lia);have hnB:n/2^vW (n:Int)=0:=Nat.div_eq_of_lt (by have:=intBits_le_iff.mp (aZ (vW (n:Int)));exact this);generalize vW (n:Int)=B at Ji hB9 hnB;have small:∀{i:Nat} {l:ζ},i<=B->Py b l->(b=0->∀x∈l,Bd (6000*2^i-2800) x)->∃U,10<=U/\U<=6000*2^i/\U<=3072000/\(i<B->U<=1540000)/\(b=0->2*U+2800<=6000*2^(i+1)-2800)/\∀x∈l,Bd U x:=λ{i l} hi hy hl=>by
  have p1:1<=2^i:=UB;by_cases z:b=0
  .have h9:=hB9 z;have p9:2^i<=2^9:=ql ∅ ⋯;have p8:i<B->2^i<=2^8:=λh=>ql ∅ ⋯;exact{6000*2^i-2800,⋯,⋯,⋯,λh=>by have:=p8 h;lia,λ_=>by rw[pD];lia,hl z}
  .refine{10,∅,⋯,∅,λ_=>∅,λh=>absurd h z,λx hx=>?_};have:=(wA hb.lo x).resolve_left z;rw[hy.nu x hx]at this;exact Bd.of ⋯ ⋯
 exists "",(),(),(B:Int)-1,-1,rfl,{⋯,⋯,⋯,⋯};refine Eg (lo:=(B:Int)-1) (n:=((B:Int)-1-(-1)).toNat) (λi σ' H'=>WM λ(p:Addr) (l:ζ) (o4 o5:Option V)=>Ue (σ'=[ι (.int b),ι (.ref a),ι (.int n),ι (.ref p),o4,o5]) (Same H H') (H' p=ι (.tup (jc V.int l))) (Pm.Pw b ρ (n/2^(B-i)) l) (Py b l) (l.length<=ρ.length) ((b=0->∀x∈l,Bd (6000*2^i-2800) x)))
  {y,r1,_,(),g0.trans g1,hy,by rw[uT,hnB];exact(Pm.Pw.one b ρ).left d1,d1.ry,by have:=d1.short;lia,λ_ x hx=>(br1 x hx).mono ∅} ?_ ?_
 .rintro i σ' H' hi ⟨p,l,o4,o5,rfl,g,hp,el,hy2,hl,hs⟩;have hi':i<B:=⋯;obtain⟨U,u10,_,_,u15,u0,bl⟩:=small (iR hi') hy2 hs;have u15:=u15 hi';obtain⟨k,hk⟩:∃k,B-(i+1)=k:={()};have ekI:(B:Int)-1-(i:Int)=(k:Int):=⋯;have ep:n/2^k=2*(n/2^(B-i))+n/2^k%2:=by
   rw[(⋯:B-i=k+1),pD,<-Nat.div_div_eq_div_mul];lia
  rw[ekI];have bl2:∀x∈l,Bd 4000000 x:=λx hx=>(bl x hx).mono ⋯;refine{(),(),(),b,p,p,l,l,rfl,hb.lo,hp,hp,⋯,⋯,bl2,bl2,λp2 H2 g2 hp2=>?_};have bD:∀x∈Pm.mul b l l,Bd (2*U+12) x:=λx hx=>(VY hb.lo hb.hi u10 bl bl x hx).mono ⋯;have lD:=HH b l l;refine lW.by (λσ' H'=>Ex2 λ(p3:Addr)(l3:ζ)=>Ue (σ'=[ι (.int b),ι (.ref a),ι (.int n),ι (.ref p),ι (.int (k:Int)),ι (.ref p3)]) (Same H H') (H' p3=ι (.tup (jc V.int l3))) (Pm.Pw b ρ (n/2^k) l3) ((∀j,tk b (Pm.co l3 j)=Pm.co l3 j)) (l3.length<=40) (∀x∈l3,Bd (2*U+60) x)) (λNN d8=>?_) ?_
  .exists (),(),"",(⋯:(0:Int)<=(k:Int)),"",(∅:(0:Int)<2),();have aDm:((n:Int)/2^(k:Int).toNat)%2=((n/2^k%2:Nat):Int):=by
    rw[dB]
    norm_cast
   rw[aDm];refine cu (λc=>?_) (λc=>?_)
   .have c':n/2^k%2=1:=by have:=dec_true c;lia
    refine{(),(),(bG 2),λt2 lY=>?_};have g3:=Same.new lY (.tup [.int 0,.int 1]);refine{b,p2,t2,Pm.mul b l l,[0,1],rfl,hb.lo,g3 _ _ hp2,aq,⋯,∅,λx hx=>(bD x hx).mono ⋯,λx hx=>(CL x hx).mono ∅,λp4 H4 g4 Wq=>?_};refine d8 _ _ {p4,(),g.trans (g2.trans (g3.trans g4)),Wq,by have:=(el.mul el).mul (Pm.Pw.x b ρ);rwa [(⋯:n/2^(B-i)+n/2^(B-i)+1=n/2^k)]at this,λj=>(Sy b _ _).co j,?_,λx hx=>(VY hb.lo hb.hi ⋯ bD CL x hx).mono ⋯};have:=HH b (Pm.mul b l l) [0,1];have e2:([0,1]:ζ).length=2:=rfl;lia
   .have c':¬n/2^k%2=1:=by have:=dec_false c;lia
    exact d8 _ _ {p2,(),g.trans g2,hp2,by have:=el.mul el;rwa [(⋯:n/2^(B-i)+n/2^(B-i)=n/2^k)]at this,λj=>(Sy b _ _).co j,⋯,λx hx=>(bD x hx).mono ⋯}
  .rintro σ' H3 ⟨p3,l3,rfl,g3,hp3,e3,Ah,z3,b3⟩;refine{(),(),(),b,p3,a,l3,Pm.bZ b ρ,2*U+60,67,rfl,hb.lo,⋯,hp3,g3 _ _ hA,⋯,⋯,hM,Ah,b3,bM,⋯,⋯,λt x y q4 r4 H4 g4 ht hx hy d4 br=>?_};exact{!ht,rfl,y,r4,_,(),g3.trans g4,hy,by rw[hk];exact e3.left d4,d4.ry,by have:=d4.short;lia,λz x hx=>(br x hx).mono (by have:=u0 z;lia)}
 .rintro σ' H' ⟨p,l,o4,o5,rfl,g,hp,el,hy2,hl,hs⟩;rw[(⋯:((B:Int)-1-(-1)).toNat=B)]at el hs;obtain⟨U,_,_,u3,_,_,bl⟩:=small (aZ B) hy2 hs;rw[Aj,Gk,Nat.div_one]at el;exact{(),q p l H' g hp el hl λx hx=>(bl x hx).mono ⋯}
theorem aze(F:Fn K mg "jump" ik ["row","n"])(ij:NC M)(Uv:Kn M)(Cq:fF M)(i9:EM M):ki M:=by
 delta Rn Rn
 obtain⟨v,r,n,c,rfl,⟨a,p,p2,rfl,hA,hR,hS⟩,h1,hN,qE,q⟩:=h;refine{_,#[(),(au 2 Rn.nd (-0:)),(au 3 Rn.nd (-0:)),(fY (gj ij hr rfl #[2,1])),(iw (i:=4) Rn.nd rfl (fX rfl) (aC Uv hr #[2,(aC Cq hr #[2,3]),1])),(aF (dW (mV K) rfl B.j5 boot_tuple #[(fu (sc:=aHJ) (N:=["i","left"]) (ix:=[ν,ι 4]) cV rfl (gH rfl B.fj #[(cL K B.cJ #[3])]) (λ_ _ _ _ _=>{(bH 0 cR),dg,(aC i9 hr #[1,0])}))]))],?_};have hb:=h1.wf.hB;have hl:=h1.wf.l4;refine{(),!hA,rfl,(),!hA,rfl,(),(),r.b,n,rfl,λhJ=>?_,qE};have q:=q hJ;obtain⟨n,rfl⟩:∃m:Nat,n=(m:Int):={n.toNat,by have:=hJ.1;lia};rw[dB]at q;refine{(),(),(),r.b,p,r.ρ,rfl,hb.lo,hR,⋯,λt1 H1 g1 h1'=>?_};refine{(),r.b,t1,r.ρ,n,rfl,hb,h1',⋯,λx hx=>(h1.kY x hx).mono ∅,(λz=>by have:=hJ.2 z;lia),hN,λt2 l H2 g2 h2 pw ll bl=>?_};have dZ:=g1.trans g2;exists (),.ref p,r.ρ.length,rfl,.inr {_,ao.of (dZ _ _ hR),(aB _).symm},(r.ρ.length:Int),rfl,(⋯:-(2^62)<=(r.ρ.length:Int)),(⋯:(r.ρ.length:Int)<2^62);rw[dB];refine Bb (n:=r.ρ.length) ⋯ rfl (Pm.co l) ?_ ?_
 .intro H3 k g3 hk kk hkk;exists (),(),t2,_,0+(k:Int),rfl,g3 _ _ h2,⋯;rw[(⋯:(0+(k:Int)).toNat=k)];exact hkk
 .intro D hD;refine{D,(),.inl {ak.of aq,λt ht=>?_}};refine q t _ _ (dZ.trans ((Same.new hD _).trans (Same.new ht _))) aq (λa ha m=>?_) (dF ..) λx hx=>?_
  .rw[<-pw a ha m];exact Iq (λk=>by
    rw[iU];split
    .rfl
    .rw[bY (p:=l) ⋯]) m
  .obtain⟨k,_,rfl⟩:=oV hx;exact nY bl k
theorem aJA(F:Fn K mg "sum_at" ax ["by","poly","found","n"])(cN:lG M):qk M:=by
 delta aS3
 intros b a l p fo n rfl hb hA hL hn zA bA bF q h;refine{_,(aJ (aF (aC cN hr #[0,(eX (nz K rfl) rfl B.Vh boot_sum #[(fu (sc:=aR0) (N:=["k","found","n","poly"]) (ix:=[ν,ι 2,ι 3,ι 1]) cV rfl (gH rfl B.fj #[(cL K B.cJ #[1])]) (λ_ _ _ _ _=>{(bH 0 cR),dg,((aK K (3:) (0:))*(aK K (1:) (2+0:)):)}))])]))),?_};have lC:(p.map V.int).length=p.length:=aB _;exists (),(),.ref a,p.length,rfl,.inr {_,ao.of hA,lC.symm},(p.length:Int),rfl,(⋯:-(2^62)<=(p.length:Int)),(⋯:(p.length:Int)<2^62);rw[dB];refine Bb (n:=p.length) zA rfl (λk=>Pm.co p k*Pm.co fo (n+k)) ?_ ?_
 .intro H2 k g2 hk kk hkk;have e1:(0+(k:Int)).toNat=k:=⋯;have e2:(0+(n:Int)+(0+(k:Int))).toNat=n+k:=⋯;exists (),(),!(g2 _ _ hA),dH (ns:=p) (⋯:(0:Int)<=0+(k:Int)) ⋯,(),(),(),_,_,hL.imp (λz=>ak.of (g2 _ _ z)) (λz=>ao.of (g2 _ _ z)),dH (ns:=fo) (⋯:(0:Int)<=0+(n:Int)+(0+(k:Int))) ⋯;exists vp (Bd.getD bA _) (Bd.getD bF _) ∅;rw[e1,e2];exact hkk
 .intro D hD;exists D,(),ak.of aq,b,(),hb;have:=q _ (Same.new hD (.lst ((bf p.length λk=>Pm.co p k*Pm.co fo (n+k)).map V.int)));unfold ks at this;rw[bf,Wk];exact this
theorem aMy(F:Fn K mg "onward" XJ ["row","n"])(DQ:ki M)(nJ:Dr M)(CM:qk M):vE M:=by
 delta KJ KJ
 intros v r n c rfl hR h1 hc hN qE q h;refine{_,#[(),(iw (i:=2) KJ.nd rfl (fX rfl) (-0:)),(iw (i:=3) KJ.nd rfl (fX rfl) (gj DQ hr rfl #[0,1])),(iw (i:=4) KJ.nd rfl (fX rfl) (aC nJ hr #[0,(_*(cL K B.cJ #[3]):)])),(nU (i:=5) (hN:=KJ.nd) (hi':=rfl) (hx:=(jj rfl)) (sc:=aCZ) (N:=["m","by","near","numbers"]) (ix:=[ν,ι 2,ι 4,ι 3]) cV rfl (gH rfl B.fj #[(cL K B.cJ #[3])]) (λ_ _ _ _ _=>{(bH 0 cR),dg,(aC CM hr #[1,3,2,0])})),(aF (dG #[2,-0,(dW (mV K) rfl B.j5 boot_tuple #[5])]))],?_};obtain⟨a,p,p2,rfl,hA,hP,hS⟩:=id hR;have hl:=h1.wf.l4;refine{(),!hA,rfl,(),(),.ref a,r,n,c,rfl,hR,h1,hN,qE,λhJ tj rs H1 g1 hj pw lR bl=>?_};have q:=q hJ;have eo:r.on n.toNat={r.b,r.ρ,bf r.ρ.length λm=>tk r.b (ks rs (Pm.co (r.row (2*r.ρ.length))) m)}:=by
  unfold Rw.on;congr 1;exact kW λm hm=>(EE h1 hc pw lR (by have:=gZ.mp hm;lia)).symm
 rw[eo]at q;have lJ:(rs.map V.int).length=r.ρ.length:=by rw[aB,lR]
 refine{(),(),.ref tj,r.ρ.length,rfl,.inr {_,ao.of hj,lJ.symm},mulL ∅ ∅,.ref a,r,2*(r.ρ.length:Int),rfl,hR.same g1,(h1.iK hc).ok,⋯,⋯,λln H2 g2 fn hn2=>?_};rw[(⋯:(2*(r.ρ.length:Int)).toNat=2*r.ρ.length)]at hn2;have hj2:=g2 _ _ hj;exists (),.ref tj,r.ρ.length,rfl,.inr {_,ao.of hj2,lJ.symm},(r.ρ.length:Int),rfl,(⋯:-(2^62)<=(r.ρ.length:Int)),(⋯:(r.ρ.length:Int)<2^62);rw[dB];refine aDn (n:=r.ρ.length) ⋯ rfl (λm=>tk r.b (ks rs (Pm.co (r.row (2*r.ρ.length))) m)) ?_ ?_
 .intro H3 k g3 hk kk hkk;exact{(),(),(),(),r.b,tj,ln,rs,r.row (2*r.ρ.length),k,rfl,h1.wf.hB.lo,g3 _ _ hj2,.inl (g3 _ _ hn2),by rw[lR,Rw.m7];lia,⋯,λx hx=>(bl x hx).mono ∅,(h1.iK hc).ok.LG _ ⋯,λH4 g4=>hkk _ g4}
 .intro D H3 hD g3 h3;have j9:=g1.trans (g2.trans g3);refine{(),(),!(j9 _ _ hA),rfl,(),D,(),.inl {ak.of h3,λt ht=>{(bG 3),λpp hp=>?_}}};have g4:=Same.new ht (.tup ((bf r.ρ.length λm=>tk r.b (ks rs (Pm.co (r.row (2*r.ρ.length))) m)).map V.int));have g5:=Same.new hp (.tup [.int r.b,.ref p,.ref t]);exact q _ _ (j9.trans (g4.trans g5)) {pp,p,t,rfl,aq,g5 _ _ (g4 _ _ (j9 _ _ hP)),g5 _ _ aq}
theorem aAa(F:Fn K mg "place_at" Uo ["row","n"])(CM:qk M)(DQ:ki M):kD M:=by
 delta aRv aRv
 intros v r n c rfl hR h1 hc hN qE q h;exists _,(aJ (aF (aC CM hr #[-0,(gj DQ hr rfl #[0,1]),-0,_])));obtain⟨a,p,p2,rfl,hA,hP,hS⟩:=id hR;have hl:=h1.wf.l4;have hl2:=h1.wf.len;refine{(),!hA,rfl,(),(),.ref a,r,n,c,rfl,hR,h1,hN,qE,λhJ tj rs H1 g1 hj pw lR bl=>?_};refine{(),!(g1 _ _ hA),rfl,r.b,tj,p2,rs,r.ς,0,rfl,h1.wf.hB.lo,hj,.inr (g1 _ _ hS),⋯,⋯,λx hx=>(bl x hx).mono ∅,λx hx=>(h1.jQ x hx).mono ⋯,λH2 g2=>?_};have e:=EE (m:=0) h1 hc pw lR (N:=r.ς.length) ⋯;rw[qV,show r.row r.ς.length=r.ς from(S7 (aZ _)).trans (tX ..)]at e;rw[e];exact q hJ H2 (g1.trans g2)
theorem aIY(F:Fn K mg "shared_by" Vf ["one","other"]):CU M:=by
 delta wq wq
 obtain⟨v1,v2,r1,r2,rfl,⟨a1,p1,q1,rfl,vg,_,_⟩,⟨a2,p2,q2,rfl,Ad,_,_⟩,q,qE⟩:=h;exists _,#[(),(aV (-0!=(-1):) (aJ (uF M.DB rfl #[""])) aW),(aF (-0:))],(),!vg,rfl,(),!Ad,rfl,();by_cases e:r1.b=r2.b
 .rw[decide_eq_true e];exact bK {(),!vg,rfl,q e}
 .rw[decide_eq_false e];exact eO {(bG 1),(qE e).now}
theorem aFU(F:Fn K mg "refuse_prime" dS ["row"]):Jm M:=by
 delta aMT aMT
 obtain⟨v,r,rfl,⟨a,p,p2,rfl,hA,hR,hS⟩,q1,q2⟩:=h;exists _,(aJ (aV (-0!=_:) (aJ (uF M.DB rfl #[""])) aW)),(),!hA,rfl,();refine cu (λc=>{(bG 1),(q2 λz=>?_).now}) (λc=>q1 ?_)
 .rw[z]at c;exact absurd c ∅
 .by_cases z:r.b=0
  .exact z
  .exact absurd (by rw[decide_eq_false z];rfl) c
theorem avs(F:Fn K mg "refuse_far_steps" fS ["start","step"]):wm M:=by
 delta aNt aNt
 intros s e rfl q qE h;refine{_,(aJ (aV (PW.pt (lH (0<_:) (lH (0>(rC rfl B.nh):) (lH (1<_:) (qj (1>(rC rfl B.Wz):)))))) (aJ (uF M.Ay rfl #[""])) aW)),(),"",(),cu (λc=>{(bG 1),(qE λz=>?_).now}) (λc1=>?_)}
 .have:=dec_true c;unfold vM at z;lia
 refine{(),"",(),cu (λc=>{(bG 1),(qE λz=>?_).now}) (λc2=>?_)}
 .have:=dec_true c;unfold vM at z;lia
 refine{(),"",(),cu (λc=>{(bG 1),(qE λz=>?_).now}) (λc3=>?_)}
 .have:=dec_true c;unfold vM at z;lia
 refine{(),"",(),cu (λc=>{(bG 1),(qE λz=>?_).now}) (λc4=>q ?_)}
 .have:=dec_true c;unfold vM at z;lia
 have:=dec_false c1;have:=dec_false c2;have:=dec_false c3;have:=dec_false c4;exact{⋯,⋯,⋯,⋯}
theorem aTw(F:Fn K mg "refuse_far" YM ["n"]):Kk M:=by
 delta aLM aLM
 intros n rfl q1 q2 h;exists _,(aJ (aV (PW.pt (lH (0<_:) (qj (0>(rC rfl B.ft):)))) (aJ (uF M.Ay rfl #[""])) aW)),(),"",();refine cu (λc=>{(bG 1),(q2 (by have:=dec_true c;lia)).now}) (λc=>?_);exists (),"",();have h0:=dec_false c;exact cu (λc2=>{(bG 1),(q2 (by have:=dec_true c2;lia)).now}) (λc2=>q1 (by have:=dec_false c2;lia))
theorem azJ(F:Fn K mg "places" Uu ["row","count"])(fk:Kk M)(nJ:Dr M):YQ M:=by
 delta aJw aJw
 intros v r n c rfl hR h1 hc q1 q2 h;exact{_,#[(),(fY (gj fk hr rfl #[1])),(aF (aC nJ hr #[0,1]))],(),n,rfl,λz=>{(),(),v,r,n,rfl,hR,(h1.iK hc).ok,z.1,⋯,q1 z},q2}
theorem aBe(F:Fn K mg "parting" oj ["one","other"])(uj:CU M)(nJ:Dr M):WT M:=by
 delta JB JB
 intros v1 v2 r1 r2 c0 rfl iJ oG k1 k2 hc q1 q2 h;refine{_,#[(),(fY (gj uj hr rfl #[0,1])),(au 2 JB.nd ((cL K B.cJ #[-0])+(cL K B.cJ #[-1]):)),(au 3 JB.nd (aC nJ hr #[0,2])),(au 4 JB.nd (aC nJ hr #[1,2])),(iC PassesOwn.leaving rfl (gH rfl B.fj #[2]) (bH 5 JB.nd) (aJ (aV ((aK K (3:) (5:))!=(aK K (4:) (5:)):) (aJ (aF (5:))) aW))),(aF zu)],(),(),v1,v2,r1,r2,rfl,iJ,oG,λhb=>?_,q2};have q:=q1 hb;unfold Br at q;obtain⟨a1,p1,s1,rfl,vg,hP1,_⟩:=id iJ;obtain⟨a2,p2,s2,rfl,Ad,hP2,_⟩:=id oG;have h1:=k1.wf.l4;have h2:=k2.wf.l4;exists (),!vg,rfl,.ref p1,r1.ρ.length,rfl,.inr {_,ao.of hP1,(aB _).symm},(),!Ad,rfl,.ref p2,r2.ρ.length,rfl,.inr {_,ao.of hP2,(aB _).symm};dsimp only[Dw];rw[(⋯:(r1.ρ.length:Int)+(r2.ρ.length:Int)=((r1.ρ.length+r2.ρ.length:Nat):Int))];generalize r1.ρ.length+r2.ρ.length=c,(⋯:r1.ρ.length+r2.ρ.length<=8)=hc8 at q⊢;refine{(),(),.ref a1,r1,(c:Int),rfl,iJ,(k1.iK hc).ok,⋯,⋯,λl1 H1 g1 _ hl1=>?_};refine{(),(),.ref a2,r2,(c:Int),rfl,oG.same g1,(k2.iK hc).ok,⋯,⋯,λl2 H2 g2 _ hl2=>?_};rw[dB]at hl1 hl2;have hl1':=g2 _ _ hl1;have n1:=Rw.m7 r1 c;have n2:=Rw.m7 r2 c;exists (),(c:Int),rfl,⋯,⋯;rw[dB];refine kI (lo:=0) (n:=c) (λi σ' H'=>∃(o5:Option V),σ'=[ι (.ref a1),ι (.ref a2),ι (.int (c:Int)),ι (.ref l1),ι (.ref l2),o5]/\H2=H'/\∀j,j<i->decide (r1.at j≠r2.at j)=false) {(),rfl,λj hj=>absurd hj (uz _)} ?_ ?_
 .rintro i σ' H' hi ⟨o5,rfl,rfl,hall⟩;exists (),(),¬hl1',dH (ns:=r1.row c) (⋯:(0:Int)<=0+(i:Int)) ⋯,(),(),¬hl2,dH (ns:=r2.row c) (⋯:(0:Int)<=0+(i:Int)) ⋯,();rw[(⋯:(0+(i:Int)).toNat=i),O9 hi,O9 hi];by_cases e:r1.at i=r2.at i
  .rw[decide_eq_true e];refine bK {(),rfl,λj hj=>?_};by_cases ej:j=i
   .rw[ej];exact decide_eq_false (not_not_intro e)
   .exact hall j ⋯
  .rw[decide_eq_false e];refine eO {(),?_};have:=q H2 (g1.trans g2);rw[He hi (decide_eq_true e) hall]at this;rw[jL];exact this
 .rintro σ' H' ⟨o5,rfl,rfl,hall⟩;have:=q H2 (g1.trans g2);rw[QA hall]at this;exact this
theorem aDp(F:Fn K mg "rest_row" Vd ["row","divisor"])(cN:lG M):RS M:=by
 delta ar
 obtain⟨v,r,d,rfl,⟨a,p,p2,rfl,hA,hR,hS⟩,ok,hd,q⟩:=h;refine{_,#[(),(au 2 ar.nd (dW (mV K) rfl B.j5 boot_tuple #[(fu (sc:=aJH) (N:=["number","divisor"]) (ix:=[ν,ι 1]) cV rfl (d7 K (-0:)) (λ_ _ _ _ _=>{(bH 0 cR),dg,(aC cN hr #[1,0])}))])),(au 3 ar.nd (dW (mV K) rfl B.j5 boot_tuple #[(fu (sc:=avP) (N:=["number","divisor"]) (ix:=[ν,ι 1]) cV rfl (d7 K (-0:)) (λ_ _ _ _ _=>{(bH 0 cR),dg,(aC cN hr #[1,0])}))])),(aF (dG #[1,2,3]))],?_};have hl:=ok.len;have hl2:=ok.short;refine{(),!hA,rfl,p,rfl,.inr {{_,ao.of hR},MK hR ⋯ rfl (λx=>tk d x) ?_ ?_}}
 .intro H4 x g4 hx kk hk;exact{(),(),d,x,rfl,⋯,hk}
 intro D1 hD1;refine{D1,(),.inl {ak.of aq,λt1 ht1=>?_}};have g1:=(Same.new hD1 (.lst ((r.ρ.map λx=>tk d x).map V.int))).trans (Same.new ht1 (.tup ((r.ρ.map λx=>tk d x).map V.int)));have h1:(upd (upd H D1 (.lst ((r.ρ.map λx=>tk d x).map V.int))) t1 (.tup ((r.ρ.map λx=>tk d x).map V.int))) t1=ι (.tup ((r.ρ.map λx=>tk d x).map V.int)):=aq;have vg:=g1 _ _ hA;have hS1:=g1 _ _ hS;generalize upd (upd H D1 (.lst ((r.ρ.map λx=>tk d x).map V.int))) t1 (.tup ((r.ρ.map λx=>tk d x).map V.int))=H1 at g1 h1 vg hS1;refine{(),!vg,rfl,p2,rfl,.inr {{_,ao.of hS1},MK hS1 ⋯ rfl (λx=>tk d x) ?_ ?_}}
 .intro H4 x g4 hx kk hk;exact{(),(),d,x,rfl,⋯,hk}
 intro D2 hD2;refine{D2,(),.inl {ak.of aq,λt2 lY=>?_}};have g2:=(Same.new hD2 (.lst ((r.ς.map λx=>tk d x).map V.int))).trans (Same.new lY (.tup ((r.ς.map λx=>tk d x).map V.int)));have h2:(upd (upd H1 D2 (.lst ((r.ς.map λx=>tk d x).map V.int))) t2 (.tup ((r.ς.map λx=>tk d x).map V.int))) t2=ι (.tup ((r.ς.map λx=>tk d x).map V.int)):=aq;have h1':=g2 _ _ h1;generalize upd (upd H1 D2 (.lst ((r.ς.map λx=>tk d x).map V.int))) t2 (.tup ((r.ς.map λx=>tk d x).map V.int))=H2 at g2 h2 h1';refine{(),(),(),(bG 3),λpz hpz=>?_};have gz:=Same.new hpz (.tup [.int d,.ref t1,.ref t2]);exact q _ _ (g1.trans (g2.trans gz)) {pz,t1,t2,rfl,aq,gz _ _ h1',gz _ _ h2}
theorem aP3(F:Fn K mg "common_divisor" Zu ["one","other"]):pV M:=by
 delta Fp
 intros x y rfl q h;exists _,#[(),(au 2 Fp.nd (eX Fe rfl B.DW boot_abs #[0])),(au 3 Fp.nd (eX Fe rfl B.DW boot_abs #[1])),(rW PassesOwn.never (3>_:) #[(),(au 4 Fp.nd (2%3:)),(au 2 Fp.nd (3:)),(au 3 Fp.nd (4:))]),(aF (2:))],(),x,rfl,(),y,rfl;rw[QS,QS];exists λt σ' H'=>sJ λ(g w:Nat) (o4:Option V)=>Dy (w=t) (oM g w=oM x.natAbs y.natAbs) (σ'=[ι (.int x),ι (.int y),ι (.int g),ι (.int w),o4]) (H=H'),{_,x.natAbs,y.natAbs,(),rfl,rfl,rfl};rintro t σ' H' ⟨g,w,o4,rfl,hg,rfl,rfl⟩;exists (),"",();refine cu (λc=>?_) (λc=>?_)
 .have hw:0<w:=by have:=dec_true c;lia
  refine{_,λ_ _ z=>z,?_};refine{(),(),"",(⋯:(0:Int)<(w:Int)),(),(),g%w,uB _ hw,w,g%w,ι (.int ((g%w:Nat):Int)),rfl,?_,?_,rfl}
  .rw[<-hg,UM w,<-Nat.gcd_rec,UM]
  .rw[B8];rfl
 .have hw:w=0:=by have:=dec_false c;lia
  subst hw;rw[Nat.gcd_zero_right]at hg;rw[<-hg]at q;exact{(),q}
theorem aJP(F:Fn K mg "divisor_of" Uw ["row"])(qM:Jm M)(C1:pV M):Vs M:=by
 delta T5 T5
 intros v r rfl hR q1 q2 h;refine{_,#[(),(fY (gj qM hr rfl #[0])),(au 1 T5.nd aP),(iC PassesOwn.leaving rfl (d7 K (-0:)) (bH 2 T5.nd) (aJ (au 1 T5.nd (aC C1 hr #[1,2])))),(aF (1:))],(),v,r,rfl,hR,λc=>?_,q2};intros a p p2 rfl hA WR hS hR;refine{(),!hA,rfl,p2,rfl,.inr {{_,ao.of hS},?_}};refine yA (xG (ao.of hS)) (λi σ' H'=>∃o2:Option V,σ'=[ι (.ref a),ι (.int ((oW 0 (r.ς.take i):Nat):Int)),o2]/\H=H') {(),rfl} (λi σ' H' ⟨_,_,z⟩=>z▸Same.refl _) ?_ ?_
 .rintro i x σ' H' hx ⟨o2,rfl,rfl⟩;obtain⟨rfl,hi⟩:=Wl hx;refine{(),(),_,(),{ι (.int (Pm.co r.ς i)),?_,rfl}};rw[Ce,CC 0 hi];rfl
 .rintro σ' H' ⟨o2,rfl,rfl⟩;rw[aB,tX];exact{(),q1 c}
theorem aM4(F:Fn K mg "undivided" Ub ["row","divisor","start","step"])(qM:Jm M)(pj:wm M)(nJ:Dr M)(Xh:RS M):kK M:=by
 delta Ra Ra
 intros v r d s e c rfl hR k1 hc d0 d1 qB qF q h;refine{_,#[(),(fY (gj qM hr rfl #[0])),(fY (gj pj hr rfl #[2,3])),(aV (1<_:) (aJ (uF M.Ay rfl #[""])) aW),(au 4 Ra.nd (cL K B.cJ #[-0])),(au 5 Ra.nd (aC nJ hr #[(aC Xh hr #[0,1]),(2+3*4:)])),(iC PassesOwn.leaving rfl (gH rfl B.fj #[4]) (bH 6 Ra.nd) (aJ (aV ((aK K (5:) (2+3*6:))!=_:) (aJ (aF (6:))) aW))),(aF zu)],(),v,r,rfl,hR,λhb=>?_,qB};refine{(),(),s,e,rfl,λhs=>?_,qF hb};have q:=q hb hs;intros s0 s1 e0 e1 hs;unfold Bs at q;obtain⟨s,rfl⟩:∃m:Nat,s=(m:Int):={s.toNat,⋯};obtain⟨e,rfl⟩:∃m:Nat,e=(m:Int):={e.toNat,⋯};rw[dB,dB]at q;exists (),"",();rw[decide_eq_false (⋯:¬d<1)];refine bK ?_;have hl:=k1.wf.l4;have ok:=ayj (k1.iK hc).ok d0 d1;obtain⟨a,p,p2,rfl,hA,WR,hS⟩:=id hR;refine{(),!hA,rfl,.ref p,r.ρ.length,rfl,.inr {_,ao.of WR,(aB _).symm},(),(),.ref a,r,d,rfl,hR,(k1.iK hc).ok,d0,λv' H1 g1 iJ=>?_};generalize r.ρ.length=N at hl q⊢;have hN:e*N<=10*4:=vq ⋯ hl;have en:(s:Int)+(e:Int)*(N:Int)=((s+e*N:Nat):Int):=by rw[JM,Rg]
 exists (),(),(),mulL ⋯ ⋯;dsimp only[Dw];rw[en];refine{v',r.rests d,(),iJ,ok,⋯,⋯,λl H2 g2 _ hr2=>?_};rw[dB]at hr2;have gg:=g1.trans g2;exists (),(N:Int),rfl,⋯,⋯;rw[dB];refine kI (lo:=0) (n:=N) (λi σ' H'=>∃o6:Option V,σ'=[ι (.ref a),ι (.int d),ι (.int (s:Int)),ι (.int (e:Int)),ι (.int (N:Int)),ι (.ref l),o6]/\H2=H'/\∀j,j<i->decide ((r.rests d).at (s+e*j)≠0)=false) {(),rfl,λj hj=>absurd hj (uz _)} ?_ ?_
 .rintro i σ' H' hi ⟨o6,rfl,rfl,hj⟩;have ei:(s:Int)+(e:Int)*(0+(i:Int))=((s+e*i:Nat):Int):=by rw[jL,JM,Rg]
  have hlt:e*(i+1)<=e*N:=yj e hi;rw[Fv]at hlt;have ex:je (((r.rests d).row (s+e*N)).map V.int) ((s:Int)+(e:Int)*(0+(i:Int)))=ι (.int ((r.rests d).at (s+e*i))):=by
   rw[ei,aTO (by rw[Rw.m7];lia)];exact congrArg _ (congrArg _ (O9 ⋯))
  exists (),(),(),(),mulL ⋯ ⋯,¬hr2,ex,();by_cases z:(r.rests d).at (s+e*i)=0
  .rw[decide_eq_true z];exact bK {ι (.int (0+(i:Int))),rfl,rfl,λj hj'=>by
    by_cases e:j=i
    .rw[e];exact decide_eq_false (not_not_intro z)
    .exact hj j ⋯}
  .rw[decide_eq_false z];refine eO {(),?_};have:=q H2 gg;rw[He hi (decide_eq_true z) hj]at this;rw[jL];exact this
 .rintro σ' H' ⟨o6,rfl,rfl,hj⟩;have:=q H2 gg;rw[QA hj]at this;exact this
theorem aHw(F:Fn K mg "refuse_wide" Z5 ["prime","length"]):KG M:=by
 delta Td Td
 intros P' l rfl hP hl q1 q2 h;exists _,#[(),(au 2 Td.nd aP),(iC PassesOwn.leaving rfl (gH rfl B.fj #[1]) (bH 3 Td.nd) (aJ (au 2 Td.nd (2*0:)))),(aV (2>(rC rfl B.Yd):) (aJ (uF M.R7 rfl #[""])) aW)],(),(l:Int),rfl,(⋯:-(2^62)<=(l:Int)),(⋯:(l:Int)<2^62);rw[dB];refine kI (lo:=0) (n:=l) (λi σ' H'=>∃o3:Option V,σ'=[ι (.int P'),ι (.int l),ι (.int ((P'^i:Nat):Int)),o3]/\H=H') {(),rfl} ?_ ?_
 .rintro i σ' H' hi ⟨o3,rfl,rfl⟩;refine{(),(),mulR ⋯ ⋯,ι (.int (0+(i:Int))),?_,rfl};rw[pD,Rg];rfl
 .rintro σ' H' ⟨o3,rfl,rfl⟩;exists (),"",();refine cu (λc=>{(bG 1),(q2 ?_).now}) (λc=>q1 ?_)
  .have c':(4096:Int)<((P'^l:Nat):Int):=dec_true c;lia
  .have c':¬(4096:Int)<((P'^l:Nat):Int):=dec_false c;lia
theorem aMP(F:Fn K mg "round_row" r6 ["row"])(Df:ml M)(my:KG M):vi M:=by
 delta ag ag
 intros v r c rfl hR k1 hc q1 q2 q3 h;exists _,#[(),(aV (-0==_:) (aJ (uF M.DB rfl #[""])) aW),(au 1 ag.nd (aC Df hr #[0])),(fY (gj my hr rfl #[-0,(cL K B.cJ #[-1])])),(aF (1:))];obtain⟨a,p,p2,rfl,hA,WR,hS⟩:=id hR;exists (),!hA,rfl,();refine cu (λc=>{(bG 1),(q1 (dec_true c)).now}) (λc=>?_);have c':r.b≠0:=dec_false c;refine{(),.ref a,r,rfl,hR,k1.iK hc,λv' H1 g1 iJ so=>?_};have lo:=k1.wf.hB.lo;have hi:=k1.wf.hB.hi;have l4:=(so.sm k1).wf.l4;obtain⟨a1,r1,s1,rfl,vg,aDl,hS1⟩:=id iJ;exact{(),!(g1 _ _ hA),rfl,(),!vg,rfl,.ref r1,(sh r).ρ.length,rfl,.inr {_,ao.of aDl,(aB _).symm},r.b.toNat,(sh r).ρ.length,by rw[Kv lo];rfl,⋯,⋯,λhw=>{(),q3 c' hw _ _ g1 iJ so},λhw=>(q2 c' hw).up g1}
theorem aLg(F:Fn K mg "came_round" a7 ["row"])(Du:pd M):a6 M:=by
 delta Bm
 obtain⟨v,r,rfl,⟨a,p,p2,rfl,hA,hR,hS⟩,ok,hb,hw,q⟩:=h;refine{_,#[(),(au 1 Bm.nd (-0:)),(au 2 Bm.nd (-0:)),(au 3 Bm.nd (SD (-0:))),(au 4 Bm.nd aPp),(rW PassesOwn.never (tQ (YU hr.hu (3:) (4:))) #[(),(DF hr.hu (4:) (3:) (eX Nc rfl B.cJ boot_len #[4]) rfl),(au 3 Bm.nd (SD (jT (m6 K) (3+(dG #[(aC Du hr #[1,2,3])]):) (jC aP) jZ)))]),(au 5 Bm.nd (uf hr.hu (4:) (3:) (λ_ _=>rfl))),(aF (dG #[5,((eX Nc rfl B.cJ boot_len #[4])-5:)]))],?_};have hl:=ok.len;have hs:=ok.short;exists (),!hA,rfl,(),!hA,rfl;refine Bar.by (λv H1=>v=.ref p2/\H=H1) (λkk hkk=>{(),!hA,rfl,hkk _ _ {rfl,(rfl)}}) ?_;rintro _ _ ⟨rfl,rfl⟩;refineλsd hsd=>?_;have g0:=Same.new hsd (.dT []);have w0:win r.at r.ρ.length 0=r.ς:=by
  refine uL (by rw[Ec];exact hl) λk=>?_;by_cases c:k<r.ρ.length
  .exact(A0 _ c).trans (by rw[qV];exact Bo ⋯)
  .rw[bY (by rw[Ec];lia),bY ⋯]
 have B0:∀i,0<=r.at i/\r.at i<((r.b.toNat:Nat):Int):=λi=>by
  rw[Kv ⋯];refine GI hl hb (λx hx=>?_) i;rcases ok.tZ x hx with z|z
  .lia
  .exact z
 refine{λm σ' H'=>∃(n:Nat)(wa:Addr)(kvs:List (List Key×V)),m=1000-n/\n<=1000/\σ'=[ι (.ref a),ι (.int r.b),ι (.ref p),ι (.ref wa),ι (.ref sd),ν]/\Same H H'/\H' wa=ι (.tup ((win r.at r.ρ.length n).map V.int))/\H' sd=ι (.dT kvs)/\Seen r.at r.ρ.length n kvs,
  {_,0,p2,[],rfl,∅,rfl,g0,by rw[w0];exact g0 _ _ hS,aq,{rfl,λi hi=>absurd hi (uz _),λ_ _=>rfl,λi j _ hj=>absurd hj (uz _)}},?_}
 rintro m σ' H' ⟨n,wa,kvs,rfl,hn,rfl,g,O6,hkv,sn⟩;have hwk:H' wa=ι (.tup ((KK (win r.at r.ρ.length n)).map kV)):=by rw[rV];exact O6
 exists (),(),sd,(),oZ.t hkv hwk,();refine cu (λc=>?_) (λc=>?_)
 .have hnone:eG kvs (KK (win r.at r.ρ.length n))=ν:=by
   cases e:eG kvs (KK (win r.at r.ρ.length n))with
   |none=>rfl
   |some u=>rw[e]at c;exact absurd c (by simp)
  have Ca:=sn.more hnone;have hn1:n+1<=1000:=cM (aAz B0 Ca.diff) hw;refine{_,λ_ _ z=>z,?_};refine{(),sd,kvs,rfl,hkv,(),(),sd,(),uH.t hkv hwk (by rw[sn.len];exact qU hn ∅),?_};rw[sn.len];have hne:wa≠sd:=λz=>by rw[z,hkv]at O6;cases O6
  have fsd:H sd=ν:=hsd;have g2:Same H (upd H' sd (.dT (putK kvs (KK (win r.at r.ρ.length n)) (.int (n:Int))))):=g.upd fsd _;have ZY:(upd H' sd (.dT (putK kvs (KK (win r.at r.ρ.length n)) (.int (n:Int))))) wa=ι (.tup ((win r.at r.ρ.length n).map V.int)):=by rw[cH hne];exact O6
  have US:(upd H' sd (.dT (putK kvs (KK (win r.at r.ρ.length n)) (.int (n:Int))))) sd=ι (.dT (putK kvs (KK (win r.at r.ρ.length n)) (.int (n:Int)))):=aq;generalize upd H' sd (.dT (putK kvs (KK (win r.at r.ρ.length n)) (.int (n:Int))))=H2 at g2 ZY US;have wl:=Ec r.at r.ρ.length n;have bw:∀x∈win r.at r.ρ.length n,Bd 61000000 x:=λx hx=>by
   obtain⟨j,_,rfl⟩:=bO.mp hx;have:=B0 (n+j);have h3:=ok.qZ;exact(Bd.of (n:=10) ⋯ ⋯).mono ∅
  have ev:tk r.b (Rm.S r.ρ (λi=>(win r.at r.ρ.length n).getD i 0) (win r.at r.ρ.length n).length r.ρ.length)=r.at (n+r.ρ.length):=by
   rw[wl];have e1:r.at (n+r.ρ.length)=tk r.b (Rm.S r.ρ r.at (n+r.ρ.length) r.ρ.length):=MP hl ⋯;rw[e1,<-cS (f:=r.at) (d:=n) (aZ _)];refine congrArg _ (V4 λk hk=>?_);exact A0 _ ⋯
  refine Bar.by (λv H1=>∃w1,v=.ref w1/\Same H2 H1/\H1 w1=ι (.tup ((win r.at r.ρ.length (n+1)).map V.int))) (λkk hkk=>?_) ?_
  .exists (),(),(),(),r.b,p,wa,r.ρ,win r.at r.ρ.length n,rfl,ok.jP,ao.of (g2 _ _ hR),.inr (ao.of ZY),by rw[wl];exact aZ _,hs,by rw[wl];lia,ok.kY,bw;rw[ev];refine{(bG 1),λt1 ht1=>?_};have g3:=Same.new ht1 (.tup [.int (r.at (n+r.ρ.length))]);have h3:(upd H2 t1 (.tup [.int (r.at (n+r.ρ.length))])) t1=ι (.tup [.int (r.at (n+r.ρ.length))]):=aq;have x8:=g3 _ _ ZY;generalize upd H2 t1 (.tup [.int (r.at (n+r.ρ.length))])=H3 at g3 h3 x8;have G7:fO ((win r.at r.ρ.length n).map V.int++[.int (r.at (n+r.ρ.length))]) (ι 1) ν=(win r.at r.ρ.length (n+1)).map V.int:=by
    have:=wo ((win r.at r.ρ.length n).map V.int++[.int (r.at (n+r.ρ.length))]) (k:=1) (by rw[gk];simp);rw[<-axZ,Vo,fH];exact this
   have lc:((win r.at r.ρ.length n).map V.int++[V.int (r.at (n+r.ρ.length))]).length=r.ρ.length+1:=by rw[gk,aB,wl];rfl
   refine .inr {_,_,ao.of x8,ao.of h3,?_,λe=>?_,λ_ z=>(by cases z),λe _ p4 Wq=>?_}
   .rw[aB,wl];exact iR (fJ (by show r.ρ.length+1<=1000;lia))
   .rw[e,Jb]at G7 lc;refine{(),.inr (.inl {_,ao.of h3,?_,λp5 MN=>?_})}
    .rw[lc];show ¬(HT.bN (r.ρ.length+1) 0 (ι ((1:Nat):Int))=0/\_);rw[HT.pH];lia
    .exact hkk _ _ {p5,rfl,g3.trans (Same.new MN _),by rw[aq,G7]}
   .have g4:=Same.new Wq (.tup ((win r.at r.ρ.length n).map V.int++[.int (r.at (n+r.ρ.length))]));refine{(),.inr (.inl {_,ao.of aq,?_,λp5 MN=>?_})}
    .rw[lc];show ¬(HT.bN (r.ρ.length+1) 0 (ι ((1:Nat):Int))=0/\_);rw[HT.pH];lia
    .exact hkk _ _ {p5,rfl,g3.trans (g4.trans (Same.new MN _)),by rw[aq,G7]}
  .rintro _ H4 ⟨w1,rfl,g4,hw1⟩;exact{1000-(n+1),⋯,n+1,w1,(),hn1,rfl,g2.trans g4,hw1,g4 _ _ US,Ca}
 .obtain⟨i,hi,ei⟩:∃i,i<n/\win r.at r.ρ.length n=win r.at r.ρ.length i:=by
   refine xY λhno=>c ?_;rw[sn.out _ λi hi z=>hno {i,hi,UI z}];rfl
  have hv:eG kvs (KK (win r.at r.ρ.length n))=ι (.int (i:Int)):=by rw[ei];exact sn.at_ i hi
  have hg:=oZ.t hkv hwk;rw[hv]at hg;exists (),(),sd,(),hg,(),(),sd,kvs,rfl,hkv,(),"";rw[sn.len];refine{(bG 2),λp6 hp6=>?_};have rd:AJ r.at r.ρ.length i (n-i):={⋯,by rw[(⋯:i+(n-i)=n)];exact ei,λx y hxy hy=>sn.diff x y hxy ⋯};refine q p6 _ (g.trans (Same.new hp6 _)) ?_ (by rw[M0 rd];show i+(n-i)<=1000;lia)
  .rw[aq,M0 rd];show ι (HO.tup [.int (i:Int),.int ((n:Int)-(i:Int))])=_;rw[(⋯:(n:Int)-(i:Int)=((n-i:Nat):Int))]
theorem ayk(F:Fn K mg "round_of" YV ["row"])(Ew:a6 M)(Ci:vi M):Yr M:=by
 delta aEr aEr
 intros v r c rfl hR k1 hc q1 q2 q3 h;exists _,(aJ (aF (aC Ew hr #[(gj Ci hr rfl #[0])])));have lo:=k1.wf.hB.lo;exact{(),v,r,c,rfl,hR,k1,hc,q1,q2,λhb hw v' H1 g1 iJ so=>{v',sh r,rfl,iJ,((so.sm k1).iK hc).ok,by rw[so.by_];lia,BS k1 so hw,λp H2 g2 hp hz=>q3 hb hw p H2 (g1.trans g2) hp hz}}
theorem ay7(F:Fn K mg "where" W5 ["row","number"])(Ci:vi M)(Ew:a6 M)(nJ:Dr M):ZV M:=by
 delta zq zq
 intros v r x c rfl hR k1 hc q1 q2 q3 h;refine{_,#[(),(au 2 zq.nd (gj Ci hr rfl #[0])),(au 3 zq.nd (aC Ew hr #[2])),(au 4 zq.nd (-3:)),(au 5 zq.nd (-3:)),(iw (i:=6) zq.nd rfl (fX rfl) (aC nJ hr #[2,(4+5:)])),(nU (i:=7) (hN:=zq.nd) (hi':=rfl) (hx:=(jj rfl)) (sc:=aP1) (N:=["n","number","numbers"]) (ix:=[ν,ι 1,ι 6]) cV rfl (gH rfl B.fj #[4]) (λ_ _ _ _ _=>{(bH 0 cR),(Tt ((aK K (2:) (0:))==1:)),(0:)})),(nU (i:=8) (hN:=zq.nd) (hi':=rfl) (hx:=(jj rfl)) (sc:=aTg) (N:=["n","number","numbers"]) (ix:=[ν,ι 1,ι 6]) cV rfl (Ot rfl B.fj #[4,(4+5:)]) (λ_ _ _ _ _=>{(bH 0 cR),(Tt ((aK K (2:) (0:))==1:)),(0:)})),(aF (dG #[7,8,5]))],?_};have lo:=k1.wf.hB.lo;refine{(),v,r,c,rfl,hR,k1,hc,q1,q2,λhb hw v' H1 g1 iJ so=>?_};have okS:=((so.sm k1).iK hc).ok;refine{(),v',sh r,rfl,iJ,okS,by rw[so.by_];lia,BS k1 so hw,λp H2 g2 hp hbl=>?_};have q:=λp le ls H' a b c d=>q3 hb hw p le ls H' a b c d hbl;revert q hbl hp;generalize (eE (sh r)).1=bg;generalize (eE (sh r)).2=ln;intro hp hbl q;refine{(),!hp,rfl,(),!hp,rfl,(),(),(),v',sh r,(),iJ.same g2,okS,(⋯:(0:Int)<=(bg:Int)+(ln:Int)),(⋯:(bg:Int)+(ln:Int)<=1000),λl H3 g3 hl3 hr3=>?_};obtain⟨nu,hnu⟩:∃nu:ζ,nu=(sh r).row (((bg:Int)+(ln:Int)).toNat):={()};rw[<-hnu]at hr3;have lnu:nu.length=bg+ln:=by rw[hnu,Rw.m7];lia
 have gnu:∀i,i<bg+ln->nu.getD i 0=(sh r).at i:=λi hi=>by rw[hnu];exact O9 ⋯
 have gA:=g1.trans (g2.trans g3);exists (),(bg:Int),rfl,(⋯:-(2^62)<=(bg:Int)),(⋯:(bg:Int)<2^62);rw[dB];refine Pl (lo:=0) (cM (⋯:bg<=1000) ∅) rfl (jA (sh r).at x) ?_ ?_ ?_
 .intro H5 k g5 hk kk hkk;exists (),(),¬(g5 _ _ hr3),dH (ns:=nu) (⋯:(0:Int)<=((0:Nat):Int)+(k:Int)) ⋯,(),();rw[(⋯:(((0:Nat):Int)+(k:Int)).toNat=0+k),gnu _ ⋯];exact hkk
 .intro H5 k g5 hk kk hkk;exact{(),hkk}
 intro D1 hD1;have g4:=Same.new hD1 (.lst ((jR (jA (sh r).at x) 0 bg).map V.int));have h4:(upd H3 D1 (.lst ((jR (jA (sh r).at x) 0 bg).map V.int))) D1=ι (.lst ((jR (jA (sh r).at x) 0 bg).map V.int)):=aq;have DY:=g4 _ _ hr3;have fD1:=gA.free hD1;generalize upd H3 D1 (.lst ((jR (jA (sh r).at x) 0 bg).map V.int))=H4 at g4 h4 DY;exists (),(),(),_,(),{(⋯:-(2^62)<=(bg:Int)),(⋯:(bg:Int)<2^62),(⋯:-(2^62)<=(bg:Int)+(ln:Int)),(⋯:(bg:Int)+(ln:Int)<2^62)};rw[(⋯:((bg:Int)+(ln:Int)-(bg:Int)).toNat=ln)];refine Pl (cM (⋯:ln<=1000) ∅) rfl (jA (sh r).at x) ?_ ?_ ?_
 .intro H5 k g5 hk kk hkk;exists (),(),¬(g5 _ _ DY),dH (ns:=nu) (⋯:(0:Int)<=(bg:Int)+(k:Int)) ⋯,(),();rw[(⋯:((bg:Int)+(k:Int)).toNat=bg+k),gnu _ ⋯];exact hkk
 .intro H5 k g5 hk kk hkk;exact{(),hkk}
 intro D2 hD2;have g5:=Same.new hD2 (.lst ((jR (jA (sh r).at x) bg ln).map V.int));have h5:(upd H4 D2 (.lst ((jR (jA (sh r).at x) bg ln).map V.int))) D2=ι (.lst ((jR (jA (sh r).at x) bg ln).map V.int)):=aq;have fD2:=(gA.trans g4).free hD2;have ne:D1≠D2:=λz=>by rw[<-z,h4]at hD2;cases hD2
 have h4':=g5 _ _ h4;generalize upd H4 D2 (.lst ((jR (jA (sh r).at x) bg ln).map V.int))=H5 at g5 h5 h4';refine{(),(),(),(bG 3),λp9 hp9=>?_};have g6:=Same.new hp9 (.tup [.ref D1,.ref D2,.int (ln:Int)]);exact q p9 D1 D2 _ (gA.trans (g4.trans (g5.trans g6))) aq (g6 _ _ h4') (g6 _ _ h5)
theorem aLV(F:Fn K mg "line_taken" XU ["by","line"])(cN:lG M):ZO M:=by
 delta aPu
 intros b l p rfl hb hL z q h;refine{_,(aJ (aF (fu (sc:=aS7) (N:=["number","by"]) (ix:=[ν,ι 0]) cV rfl (d7 K (1:)) (λ_ _ _ _ _=>{(bH 0 cR),dg,(aC cN hr #[1,0])})))),?_};refine{(),l,rfl,.inl {{_,ak.of hL},Ro hL z rfl (tk b) ?_ ?_}}
 .intro H2 x g2 hx k hk;exact{(),(),b,x,rfl,hb,hk}
 .intro D hD;exact q D _ (Same.new hD _) hD aq
theorem axI(F:Fn K mg "head_line" Zo ["lines","begin","column"]):GG M:=by
 delta DD
 intros ll xs L W c cI ex a rfl rfl hL hx hw hc z ha q h;obtain⟨r,rfl⟩:∃r,r=c:={()};obtain⟨a1,a2,a3,a4⟩:=El.Rj.mp ha;exists _,#[(),(iC PassesOwn.never rfl (Ot rfl B.fj #[1,(cL K B.cJ #[0])]) (bH 3 DD.nd) (aJ (aV ((aK K (aK K (0:) (3:)) (2:))!=_:) (aJ (aF (3:))) aW))),(aF zu)];have lx:=hx.len;exists (),(),.ref ll,L.length,rfl,.inl {_,ak.of hL,lx.symm},(r:Int),(L.length:Int),rfl,{⋯,⋯,⋯,⋯};refine kI (lo:=(r:Int)) (n:=((L.length:Int)-(r:Int)).toNat) (λi σ' H'=>∃o,σ'=[ι (.ref ll),ι (.int r),ι (.int r),o]/\H'=H/\∀j,r<=j->j<r+i->Pm.co (Dm.ln L j) r=0) {(),rfl,λj h1 h2=>absurd h2 ⋯} ?_ ?_
 .rintro i σ' H' hi ⟨o,rfl,rfl,hz⟩;have hi':r+i<L.length:=⋯;obtain⟨t,e1,_,e2⟩:=hx.get hi';have ei:(r:Int)+(i:Int)=((r+i:Nat):Int):=⋯;have wl:=hw (r+i) hi';exists (),(),_,.ref t,.inl (ak.of hL),tW (r+i) ei e1,(),¬e2,dH (ns:=Dm.ln L (r+i)) (⋯:(0:Int)<=(r:Int)) ⋯,();rw[dB];by_cases hz':(Dm.ln L (r+i)).getD r 0=0
  .refine Zh hz' {(),rfl,λj h1 h2=>?_};by_cases e:j=r+i
   .rw[e];exact hz'
   .exact hz j h1 ⋯
  .rw[decide_eq_false hz'];refine eO {(),?_};have:El.rA L r=ι (r+i):=El.Rj.mpr {⋯,hi',hz',λj h1 h2=>hz j h1 h2};rw[ha]at this;cases this;rw[ei];exact q
 .rintro σ' H' ⟨o,rfl,rfl,hz⟩;exact absurd (hz a a1 ⋯) a3
theorem aSZ(F:Fn K mg "bring_up" c8 ["by","lines","at","top"])(cN:lG M):FO M:=by
 delta UE
 intros ll xs L a r ex rfl hL hx hm hst hra ha hz q h;refine{_,(aJ (mX (aV (2!=3:) #[(),(au 4 UE.nd (aK K (1:) (3:))),(vU (aK K (1:) (2:)) (vD (1:) (3:) set_list)),(vU (fu (sc:=aNn) (N:=["number","by"]) (ix:=[ν,ι 0]) cV rfl (d7 K (4:)) (λ_ _ _ _ _=>{(bH 0 cR),dg,(aC cN hr #[1,(_-0:)])})) (vD (1:) (2:) set_list))] aW))),?_};have lx:=hx.len;exists (),(),();by_cases e:a=r
 .exact Zh (by rw[e]) (q xs H (Keep.refl _ _) hL (by rw[El.lQ,if_pos e];exact hx))
 .have hne:¬(a:Int)=(r:Int):=⋯;rw[decide_eq_false hne];refine eO ?_;obtain⟨tr,r1,r2,r3⟩:=hx.get (⋯:r<L.length);obtain⟨ta,a1,a2,a3⟩:=hx.get ha;refine{(),(),_,.ref tr,.inl (ak.of hL),tW r rfl r1,(),(),_,.ref ta,.inl (ak.of hL),tW a rfl a1,(),(),ll,xs,_,r,rfl,rfl,hL,BK rfl (by rw[lx];lia),?_};have kA:=Keep.upd ll H (.lst (xs.set r (.ref ta)));have hL1:(upd H ll (.lst (xs.set r (.ref ta)))) ll=ι (.lst (xs.set r (.ref ta))):=aq;have r3':=kA _ _ (λ(z:tr=ll)=>r2 (by rw[z];exact hm)) r3;have hx1:=(dh.set a2 a3 r hx).keep hm kA;have JS:=hst.keep kA {_,hL1};generalize upd H ll (.lst (xs.set r (.ref ta)))=H1 at kA hL1 r3' hx1 JS;refine{(),tr,rfl,.inl {{_,ak.of r3'},Ro r3' (hz r ⋯) rfl (λx=>0-x) ?_ ?_}}
  .intro H2 x g2 hx k hk;exact{(),(),"",0,(),Int.le_refl _,by rw[dj];exact hk}
  .intro D hD;have gD:=Same.new hD (.lst (((Dm.ln L r).map λx=>0-x).map V.int));have hDl:D∉ex:=JS.fresh hD;have HJ:(upd H1 D (.lst (((Dm.ln L r).map λx=>0-x).map V.int))) D=ι (.lst (((Dm.ln L r).map λx=>0-x).map V.int)):=aq;have hL2:=gD _ _ hL1;have hx2:=hx1.same gD;have kB:=kA.trans (Keep.same gD);generalize upd H1 D (.lst (((Dm.ln L r).map λx=>0-x).map V.int))=H2 at gD HJ hL2 hx2 kB;refine{(),(),ll,_,_,a,rfl,rfl,hL2,BK rfl (by rw[oU,lx];lia),?_};have kC:=Keep.upd ll H2 (.lst ((xs.set r (.ref ta)).set a (.ref D)));refine q _ _ (kB.trans kC) aq ?_;rw[El.lQ,if_neg e];exact(dh.set hDl HJ a hx2).keep hm kC
theorem aJC(F:Fn K mg "freed" Xl ["by","line","head","column","last"]):NG M:=by
 delta QG
 intros last l1 l2 p r c cI rfl rfl h1 h2 hl hc hz n0 bl b1 b2 q h;refine{_,#[(),(iw (i:=5) QG.nd rfl (fX rfl) (aK K (2:) (3:))),(iw (i:=6) QG.nd rfl (fX rfl) (aK K (1:) (3:))),(nU (i:=7) (hN:=QG.nd) (hi':=rfl) (hx:=(jj rfl)) (sc:=aBB) (N:=["k","factor","head","line","pivot"]) (ix:=[ν,ι 6,ι 2,ι 1,ι 5]) cV rfl (gH rfl B.fj #[(cL K B.cJ #[1])]) (λ_ _ _ _ _=>{(bH 0 cR),dg,(4*(aK K (3:) (0:))-1*(aK K (2:) (0:)):)})),(aV (0==_:) (aJ (aF (fu (sc:=aHK) (N:=["number","last"]) (ix:=[ν,ι 4]) cV rfl (d7 K (7:)) (λ_ _ _ _ _=>{(bH 0 cR),dg,(lZ vv (0:) (1:))})))) aW),jO,jO],?_};have lP:(p.map V.int).length=p.length:=aB _;exists (),(),¬h2,dH (ns:=r) (⋯:(0:Int)<=(c:Int)) ⋯,(),(),¬h1,dH (ns:=p) (⋯:(0:Int)<=(c:Int)) ⋯;rw[dB];have e1:r.getD c 0=Pm.co r c:=rfl;have e2:p.getD c 0=Pm.co p c:=rfl;rw[e1,e2];exists (),.ref l1,p.length,rfl,.inl {_,ak.of h1,lP.symm},(p.length:Int),rfl,(⋯:-(2^62)<=(p.length:Int)),(⋯:(p.length:Int)<2^62);rw[dB];refine Bb (n:=p.length) hz rfl (λk=>Pm.co r c*Pm.co p k-Pm.co p c*Pm.co r k) ?_ ?_
 .intro H2 k g2 hk kk hkk;have ek:(0+(k:Int)).toNat=k:=⋯;exists (),(),(),¬(g2 _ _ h1),dH (ns:=p) (⋯:(0:Int)<=0+(k:Int)) ⋯,vp (nY b2 c) (Bd.getD b1 _) ∅,(),(),(),¬(g2 _ _ h2),dH (ns:=r) (⋯:(0:Int)<=0+(k:Int)) ⋯,vp (nY b1 c) (Bd.getD b2 _) ∅,"";rw[ek];exact hkk
 .intro D hD;obtain⟨H1,uu,gD,HJ⟩:=nw hD (.lst ((bf p.length λk=>Pm.co r c*Pm.co p k-Pm.co p c*Pm.co r k).map V.int));rw[uu];have zO:(bf p.length λk=>Pm.co r c*Pm.co p k-Pm.co p c*Pm.co r k).length<=1000:=by rw[dF];exact hz
  exists (),();refine eO {(),D,rfl,.inl {{_,ak.of HJ},Ro HJ zO rfl (λx=>x.fdiv last) ?_ ?_}}
  .intro H2 x g2 hx' k hk;exact{(),(),"",{n0,p7 (aya n0 bl) ∅},hk}
  .intro D2 hD2;refine q D2 _ (gD.trans (Same.new hD2 _)) (gD.free hD2) ?_;rw[aq];refine congrArg (λz=>ι (HO.lst (z.map V.int))) (uL ?_ λk=>?_)
   .rw[aB,dF,El.Ag,BM];lia
   .rw[C7 (by simp),iU,El.BN hl];split
    .rfl
    .rw[bY (p:=p) (⋯:p.length<=k),bY (p:=r) (⋯:r.length<=k)];simp
theorem aRR(F:Fn K mg "clear" Zd ["by","wide","lines"])(YB:GG M)(nX:FO M)(sT:NG M):Ki M:=by
 delta zp
 intros wide ll xs L u ex B' aG8 rfl hL hx hmx hst hlw hw4 u1 u4 S5 hcl q h;refine{_,#[(),(au 3 zp.nd (dI iW)),(au 4 zp.nd aP),(iC PassesOwn.never rfl (gH rfl B.fj #[1]) (bH 5 zp.nd) #[(),(au 6 zp.nd (cL K B.cJ #[3])),(au 7 zp.nd (aC YB hr #[2,6,5])),(aV (tQ (aRn (7:))) #[(),(fY (aC nX hr #[0,2,7,6])),(iC PassesOwn.never rfl (gH rfl B.fj #[(cL K B.cJ #[2])]) (bH 8 zp.nd) (aJ (mX (aV (8!=6:) (aJ (vU (aC sT hr #[0,(aK K (2:) (8:)),(aK K (2:) (6:)),5,4]) (vD (2:) (8:) set_list))) aW)))),(au 4 zp.nd (aK K (aK K (2:) (6:)) (5:))),(fY (nq K (3:) (5:)))] aW)]),(aF (dG #[3,4]))],cZ _,λlh KY=>?_};have kh:=Same.new KY (.lst []);have hm:ll∈lh::ex:=fM _ hmx;have hml:lh∈lh::ex:=iY;have st:∀{H':Hp} {o o':HO},Keep ll H H'->H' ll=ι o->H' lh=ι o'->Stand H' (lh::ex):=λk e e' a ha=>by
  rcases c7.mp ha with z|z
  .rw[z];exact{_,e'}
  .exact(hst.keep k {_,e}) a z
 have hne:lh≠ll:=λz=>by rw[z,hL]at KY;cases KY
 have sz:∀c,c<=4->2^c*(u+1)-1<=8000:=λc hc=>by
  have:2^c*(u+1)<=2^4*481:=vq (ql ∅ hc) ⋯;lia
 exists (),(wide:Int),rfl,⋯,⋯;rw[dB];refine kI (lo:=0) (n:=wide) (λc σ' H'=>∃(o5 o6 o7 o8:Option V)(A:List ζ)(last:Int)(xs':τ),σ'=[ι (.int 0),ι (.int wide),ι (.ref ll),ι (.ref lh),ι (.int last),o5,o6,o7,o8]/\Keep ll H H'/\H' lh=ι (.lst ((bf c λh=>(h:Int)).map V.int))/\H' ll=ι (.lst xs')/\dh H' (lh::ex) xs' A/\El.jD L c=ι (A,last))
  {_,_,_,_,L,1,xs,rfl,Keep.same kh,aq,kh _ _ hL,(hx.more KY).same kh,rfl} ?_ ?_
 .rintro c σ' H1 hc ⟨o5,o6,o7,o8,A,last,xs1,rfl,k1,hH1,hL1,hx1,hA⟩;obtain⟨s',hs'⟩:=aSv (⋯:c+1<=wide) hcl;have hs2:=hs';rw[El.jD,hA]at hs2;obtain⟨a,ha,es⟩:=avN (show El.uU A last c=ι s' from hs2);obtain⟨cA,lA,n0,bl⟩:=S5.cl u1 hA;have bb:=sz c ⋯;obtain⟨a1,a2,_,_⟩:=El.Rj.mp ha;have lh1:((bf c λh=>(h:Int)).map V.int).length=c:=by rw[aB,dF]
  exists (),.ref lh,c,rfl,.inl {_,ak.of hH1,lh1.symm},(),(),(),ll,xs1,A,wide+1,c,0+(c:Int),_,a,rfl,⋯,hL1,hx1,cA.len,⋯,⋯,ha,(),();rw[decide_eq_false (show ¬V.int (a:Int)=V.non fromλz=>by cases z)];refine eO ?_;refine{(),(),(),(),ll,xs1,A,a,c,(),hL1,hx1,hm,st k1 hL1 hH1,a1,a2,λi hi=>by rw[cA.len i hi];lia,λxs2 H2 k2 hL2 hx2=>?_};have cB:=cA.br a2 (⋯:c<A.length);have lB:=El.Lm A a c;generalize hB:El.lQ A a c=B at *;have k12:=k1.trans k2;have hH2:=k2 _ _ hne hH1;have lx2:=hx2.len;exists (),.ref ll,A.length,rfl,.inl {_,ak.of hL2,⋯},(A.length:Int),rfl,⋯,⋯;rw[dB];refine kI (lo:=0) (n:=A.length) (λi σ' H'=>∃(o8:Option V)(L3:List ζ)(yM:τ),σ'=[ι (.int 0),ι (.int wide),ι (.ref ll),ι (.ref lh),ι (.int last),ι (.int (0+(c:Int))),ι (.int c),ι (.int a),o8]/\Keep ll H H'/\H' lh=ι (.lst ((bf c λh=>(h:Int)).map V.int))/\H' ll=ι (.lst yM)/\dh H' (lh::ex) yM L3/\L3.length=A.length/\
    ∀j,j<A.length->Dm.ln L3 j=if j<i then El.qL B c last j else Dm.ln B j)
   {_,B,xs2,rfl,k12,hH2,hL2,hx2,lB,λj _=>by rw[if_neg (uz _)]} ?_ ?_
  .rintro i σ' H3 hi ⟨o8,L3,yM,rfl,k3,C6,j6,yd,P0,eq3⟩;have lx3:=yd.len;exists (),(),();by_cases e:i=c
   .refine Zh ⋯ {_,L3,yM,rfl,k3,C6,j6,yd,P0,λj hj=>?_};rw[eq3 j hj];by_cases z:j<i
    .rw[if_pos z,if_pos ⋯]
    .rw[if_neg z];by_cases z2:j=i
     .rw[if_pos ⋯,El.qL,if_pos ⋯,z2,e]
     .rw[if_neg ⋯]
   .have hne':¬(0+(i:Int))=(c:Int):=⋯;rw[decide_eq_false hne'];refine eO ?_;obtain⟨ti,i1,i2,i3⟩:=yd.get (⋯:i<L3.length);obtain⟨tr,r1,r2,r3⟩:=yd.get (⋯:c<L3.length);rw[eq3 i ⋯,if_neg (n6 _)]at i3;have er:Dm.ln L3 c=Dm.ln B c:=by
     rw[eq3 c ⋯];split
     .rw[El.qL,if_pos rfl]
     .rfl
    rw[er]at r3;have wi:=cB.len i ⋯;have wr:=cB.len c ⋯;refine{(),(),(),_,.ref ti,.inl (ak.of j6),tW i ⋯ i1,(),(),_,.ref tr,.inl (ak.of j6),tW c rfl r1,(),(),last,ti,tr,_,_,c,0+(c:Int),rfl,⋯,i3,r3,⋯,⋯,⋯,n0,bl.mono bb,λx hx=>(Fu cB i x hx).mono ⋯,λx hx=>(Fu cB c x hx).mono ⋯,λt H4 g4 ht4 h4=>?_};have tl:t∉lh::ex:=(st k3 j6 C6).fresh ht4;have yZ:=g4 _ _ j6;have Ws:=yd.same g4;refine{(),(),ll,_,_,i,rfl,rfl,yZ,BK ⋯ (by rw[lx3];lia),?_};have k5:=Keep.upd ll H4 (.lst (yM.set i (.ref t)));refine{_,L3.set i _,yM.set i (.ref t),rfl,(k3.trans (Keep.same g4)).trans k5,k5 _ _ hne (g4 _ _ C6),aq,(dh.set tl h4 i Ws).keep hm k5,by rw[oU];exact P0,λj hj=>?_};rw[azY _ ⋯,eq3 j hj];by_cases z:j=i
    .rw[if_pos z,if_pos ⋯,El.qL,if_neg ⋯,z]
    .rw[if_neg z];by_cases z2:j<i
     .rw[if_pos z2,if_pos ⋯]
     .rw[if_neg z2,if_neg ⋯]
  .rintro σ' H3 ⟨o8,L3,yM,rfl,k3,C6,j6,yd,P0,eq3⟩;have eL:L3=(gq A.length).map (El.qL B c last):=by
    refine So (by rw[P0,aB,mq]) λj h1 h2=>?_;have e1:Dm.ln L3 j=L3[j]:=by
     unfold Dm.ln;rw[List.getD_eq_getElem?_getD,List.getElem?_eq_getElem h1];rfl
    rw[<-e1,eq3 j ⋯,if_pos ⋯,WA,we]
   obtain⟨tr,r1,r2,r3⟩:=yd.get (⋯:c<L3.length);rw[eq3 c ⋯,if_pos ⋯,El.qL,if_pos rfl]at r3;have wr:=cB.len c ⋯;refine{(),(),_,.ref tr,.inl (ak.of j6),tW c rfl r1,(),¬r3,dH (ns:=Dm.ln B c) (⋯:(0:Int)<=0+(c:Int)) ⋯,(),.inl {rfl,_,ak.of C6},(),lh,"",C6,by rw[lh1];exact fJ ⋯,?_};have ec:(0+(c:Int)).toNat=c:=⋯;refine{ι (.int (0+(c:Int))),ι (.int c),ι (.int a),o8,L3,Pm.co (Dm.ln B c) c,yM,?_,λx v nx hv=>?_,?_,?_,?_,?_}
   .rw[ec];rfl
   .by_cases z:x=lh
    .rw[z,KY]at hv;cases hv
    .rw[cH z];exact k3 _ _ nx hv
   .rw[aq,U9,aT,jL]
   .rw[cH hne.symm];exact j6
   .exact yd.keep hml (Keep.upd lh H3 _)
   .rw[hs',es,eL]
 .rintro σ' H1 ⟨o5,o6,o7,o8,A,last,xs1,rfl,k1,hH1,hL1,hx1,hA⟩;rw[hcl]at hA;cases hA;refine{(),(),(bG 2),λt ht=>?_};have kt:=Same.new ht (.tup [.ref lh,.int aG8]);exact q t lh xs1 _ (k1.trans (Keep.same kt)) aq (kt _ _ hH1) (kt _ _ hL1) ((hx1.less λa ha=>fM _ ha).same kt)
theorem aEI(F:Fn K mg "lowest" XR ["by","bottom","tops"])(C1:pV M):CJ M:=by
 delta GP
 intros bt l ts rfl n0 hL hz bb q h;refine{_,#[(),(aV (0!=_:) (aJ jO) aW),(iw (i:=4) GP.nd rfl (fX rfl) (eX Fe rfl B.DW boot_abs #[1])),(iC PassesOwn.never rfl (d7 K (2:)) (bH 3 GP.nd) (aJ (iw (i:=4) GP.nd rfl (fX rfl) (aC C1 hr #[4,3])))),(mX (aV (1<_:) (aJ (iw (i:=4) GP.nd rfl (fX rfl) (_-4:))) aW)),(aF (dG #[(lZ vv (1:) (4:)),(fu (sc:=aRk) (N:=["top","divisor"]) (ix:=[ν,ι 4]) cV rfl (d7 K (2:)) (λ_ _ _ _ _=>{(bH 0 cR),dg,(lZ vv (0:) (1:))}))]))],?_};exists (),()
 .refine bK ?_;exists (),bt,rfl;rw[QS];refine{(),l,rfl,.inl {{_,ak.of hL},?_}};refine yA (ou (ak.of hL)) (λi σ' H'=>∃o3,σ'=[ι (.int 0),ι (.int bt),ι (.ref l),o3,ι (.int (oW bt.natAbs (ts.take i):Nat))]/\H=H') {(),rfl} (λi σ' H' ⟨_,_,z⟩=>z▸Same.refl _) ?_ ?_
  .rintro i x σ' H' hx ⟨o3,rfl,rfl⟩;obtain⟨rfl,hi⟩:=Wl hx;refine{(),(),_,(),ι (.int (Pm.co ts i)),?_,rfl};rw[CC _ hi,Ce];rfl
  rintro σ' H' ⟨o3,rfl,rfl⟩;rw[aB,tX];refine lW.by (λσ' H'=>σ'=[ι (.int 0),ι (.int bt),ι (.ref l),o3,ι (.int (lw bt ts))]/\H=H') (λNN d8=>?_) ?_
  .exists (),"",();refine cu (λc=>?_) (λc=>?_)
   .refine{(),"",d8 _ _ {?_,rfl}};unfold lw;rw[if_pos (dec_true c)];rfl
   .refine d8 _ _ {?_,rfl};unfold lw;rw[if_neg (dec_false c)]
  .rintro _ _ ⟨rfl,rfl⟩;obtain⟨hne,Yf⟩:=aE4 (ts:=ts) n0 bb;refine{(),(),"",{hne,(Yf)},(),l,rfl,.inl {{_,ak.of hL},?_}};refine Ro hL ⋯ rfl (λt=>t.fdiv (lw bt ts)) ?_ ?_
   .intro H2 x g2 hx k hk;exact{(),(),"",{hne,(Yf)},hk}
   .intro D hD;have gD:=Same.new hD (.lst ((ts.map λt=>t.fdiv (lw bt ts)).map V.int));refine{(bG 2),λt ht=>?_};have gt:=Same.new ht (.tup [.int (bt.fdiv (lw bt ts)),.ref D]);exact q t D _ (gD.trans gt) aq (gt _ _ aq)
theorem aGy(F:Fn K mg "solution" dy ["by","wide","table","wished"])(du:ZO M)(i8:Ki M)(fm:CJ M):JJ M:=by
 delta yJ
 intros wide ta tw xs L ws ex B' last rfl hT hx hW lw' hn hw J8 bL bW hcl q h;refine{_,#[(),(nU (i:=4) (hN:=yJ.nd) (hi':=rfl) (hx:=(jj rfl)) (sc:=aCp) (N:=["i","by","table","wished"]) (ix:=[ν,ι 0,ι 2,ι 3]) cV rfl (gH rfl B.fj #[(cL K B.cJ #[2])]) (λ_ _ _ _ _=>{(bH 0 cR),dg,(aC du hr #[1,((aK K (2:) (0:))+(dI #[(aK K (3:) (0:))]):)])})),(au 6 yJ.nd (aC i8 hr #[0,1,4])),(au 7 yJ.nd (-6:)),(au 8 yJ.nd (-6:)),(aV (iD (eX (Wb K rfl) rfl B.sP boot_any #[(fu (sc:=azb) (N:=["line","wide"]) (ix:=[ν,ι 1]) cV rfl (d7 K (jT (m6 K) (4:) (jC (cL K B.cJ #[7])) jZ)) (λ_ _ _ _ _=>{(bH 0 cR),dg,(nQ (xne K hr) (aK K (0:) (1:)) aP (pq _))}))])) (aJ (aF zu)) aW),(au 9 yJ.nd ((dI #[_])*1:)),(iC PassesOwn.never rfl (gH rfl B.fj #[(cL K B.cJ #[7])]) (bH 5 yJ.nd) (aJ (vU (aK K (aK K (4:) (5:)) (1:)) (vD (9:) (aK K (7:) (5:)) set_list)))),(au 10 yJ.nd (aC fm hr #[0,8,9])),(aV ((cL K B.cJ #[7])==1:) (aJ (aF (dG #["",-10,-10]))) aW),jO],?_};have lx:=hx.len;exists (),.ref ta,L.length,rfl,.inl {_,ak.of hT,⋯},(L.length:Int),rfl,⋯,⋯;rw[dB];refine Sf BF (by rw[aB,mq];lia) rfl (Tc λi=>Dm.ln L i++[Pm.co ws i]) ?_ ?_
 .intro H2 x g2 hx2 k hk;obtain⟨j,hj,rfl⟩:=bO.mp hx2;have hj':=gZ.mp hj;obtain⟨t,e1,_,e2⟩:=(hx.same g2).get (i:=j) hj';refine{(),(),(),_,.ref t,.inl (ak.of (g2 _ _ hT)),tW j ⋯ e1,(),(),¬(g2 _ _ hW),dH (ns:=ws) (⋯:(0:Int)<=0+(j:Int)) ⋯,(bG 1),λl1 hl1=>?_};have ej:(0+(j:Int)).toNat=j:=⋯;rw[ej];obtain⟨H3,uu,g3,h1⟩:=nw hl1 (.lst [.int (ws.getD j 0)]);rw[uu];refine .inl {_,_,g3 _ _ e2,h1,?_,λl2 hl2=>?_}
  .rw[aB,J8 j hj'];exact iR (fJ (by show wide+1<=1000;lia))
  have g4:=Same.new hl2 (.lst ((Dm.ln L j).map V.int++[.int (ws.getD j 0)]));refine{0,l2,Dm.ln L j++[Pm.co ws j],rfl,Int.le_refl _,by rw[aq,fH];rfl,by rw[gk,J8 j hj'];show wide+1<=1000;lia,λt' H5 g5 hn5 h5=>?_};refine hk t' H5 ((g3.trans g4).trans g5) ((g3.trans g4).free hn5) ?_;rw[As]at h5;show H5 t'=ι (.lst ((Dm.ln L (0+(j:Int)).toNat++[Pm.co ws (0+(j:Int)).toNat]).map V.int));rw[ej];exact h5
 intro D0 ys H1 hD g1 hD1 hy;rw[ayv]at hy;have S5:=RC J8 bL bW;have al:=fA L ws;obtain⟨cB,lB,n0,bl⟩:=S5.cl ∅ hcl;have sz:2^wide*(480+1)-1<=8000:=by
  have:2^wide*481<=2^4*481:=pO _ (ql ∅ hw);lia
 refine{(),(),(),wide,D0,ys,El.nW L ws,480,[D0],B',last,rfl,hD1,hy,eN.mpr rfl,(λa' ha=>by rw[eN.mp ha];exact{_,hD1}),⋯,hw,∅,∅,S5,hcl,λt th xs' H2 k2 hTt hTh hL' hx'=>?_};have gS:Same H H2:=λc u hu=>k2 _ _ (λz=>by rw[z,hD]at hu;cases hu) (g1 _ _ hu);have lh:((bf wide λh=>(h:Int)).map V.int).length=wide:=by rw[aB,dF]
 have lx':=hx'.len;refine{(),!hTt,rfl,(),!hTt,rfl,(),(),.ref th,wide,rfl,.inl {_,ak.of hTh,lh.symm},(),.inl {_,ak.of hL',λps hps=>?_}};rw[wo xs' ⋯,EY ⋯];obtain⟨H3,uu,gp,hp3⟩:=nw hps (.lst []);rw[uu];refine{ps,rfl,.inl {{_,ak.of hp3},pI (ou (ak.of hp3)) (cZ _) rfl (λ_=>true) (λx=>x) (λ_ _ _ hx=>absurd hx Ej) (λ_ _ _ hx=>absurd hx Ej) λD2 hD2=>?_}};rw[show jc (λx=>x) (List.filter (λx=>true) ([]:τ))=[]from rfl];obtain⟨H4,uu,g4,Bp⟩:=nw hD2 (.lst []);rw[uu];refine{D2,[],rfl,ak.of Bp,(),bK ?_};have gg:=(gS.trans gp).trans g4;have yZ:=g4 _ _ (gp _ _ hL');have Ws:=(hx'.same gp).same g4;have kQ:=g4 _ _ (gp _ _ hTh);refine{(bG 1),λl1 hl1=>?_};obtain⟨H5,uu,g5,h1⟩:=nw hl1 (.lst [.int 0]);rw[uu];refine{(),_,h1,⋯,⋯,?_,λl2 hl2=>?_}
 .show 1*(wide:Int).toNat<=sizeLine;rw[Kf];exact iR (fJ ⋯)
 rw[dB,mf];obtain⟨H6,uu,g6,h2⟩:=nw hl2 (.lst ((bf wide λ_=>0).map V.int));rw[uu];have g46:=g5.trans g6;have f2:H4 l2=ν:=g5.free hl2;exists (),.ref th,wide,rfl,.inl {_,ak.of (g46 _ _ kQ),lh.symm},(wide:Int),rfl,⋯,⋯;rw[dB];refine kI (lo:=0) (n:=wide) (λi σ' H'=>∃(o5:Option V),σ'=[ι (.int 0),ι (.int wide),ι (.ref ta),ι (.ref tw),ι (.ref D0),o5,ι (.ref t),ι (.ref th),ι (.int last),ι (.ref l2),ν]/\Same H4 H'/\H' l2=ι (.lst ((bf wide λk=>if k<i then Pm.co (Dm.ln B' k) wide else 0).map V.int))) {(),g46,by rw[h2];rfl} ?_ ?_
 .rintro i σ' H' hi ⟨o5,rfl,g,hU⟩;obtain⟨t4,e1,_,e2⟩:=(Ws.same g).get (i:=i) ⋯;have hwi:=cB.len i ⋯;refine{(),(),_,.ref t4,.inl (ak.of (g _ _ yZ)),tW i ⋯ e1,(),¬e2,dH (ns:=Dm.ln B' i) (⋯:(0:Int)<=(wide:Int)) ⋯,(),(),(),¬(g _ _ kQ),dH (ns:=bf wide λh=>(h:Int)) (⋯:(0:Int)<=0+(i:Int)) (by rw[dF];lia),?_};have eh:(bf wide λh=>(h:Int)).getD (0+(i:Int)).toNat 0=(i:Int):=by
   rw[(⋯:(0+(i:Int)).toNat=i)];have:=iU wide (λh=>(h:Int)) i;rw[if_pos hi]at this;exact this
  rw[eh,dB];refine{l2,_,_,i,rfl,rfl,hU,BK rfl (by rw[aB,dF];exact hi),?_};rw[SW];exists (),g.upd f2 _;rw[aq];refine congrArg (λz=>ι (HO.lst (jc V.int z))) ?_;refine uL (by rw[oU,dF,dF]) λk=>?_;rw[GJ _ _ _ _ (by rw[dF];exact hi),iU,iU];by_cases z:k=i
  .rw[if_pos z,if_pos ⋯,if_pos ⋯,z];rfl
  .rw[if_neg z];by_cases z2:k<i
   .rw[if_pos z2,if_pos (⋯:k<i+1)]
   .rw[if_neg z2,if_neg (⋯:¬k<i+1)]
 rintro σ' H7 ⟨o5,rfl,g7,hU⟩;have eT:(bf wide λk=>if k<wide then Pm.co (Dm.ln B' k) wide else 0)=tps B' wide:=kW λk hk=>if_pos (gZ.mp hk);rw[eT]at hU;refine{(),(),(),last,l2,(),n0,hU,by rw[tps,dF];lia,bl.mono sz,λtl lt H8 g8 htl hlt=>?_};have aQs:=g8 _ _ (g7 _ _ kQ);have gA:=(gg.trans g7).trans g8;exists (),.ref th,wide,rfl,.inl {_,ak.of aQs,lh.symm},(),();rw[decide_eq_true rfl];refine eO ?_;refine{(),!htl,rfl,(),!htl,rfl,(bG 3),λt2 lY=>?_};have g9:=Same.new lY (.tup [.str ("one":Str),.int (last.fdiv (lw last (tps B' wide))),.ref lt]);exact q t2 lt _ (gA.trans g9) aq (g9 _ _ hlt)
theorem aRt(F:Fn K mg "solved" W9 ["by","wide","table","wished"])(md:JJ M):OZ M:=by
 delta xE
 intros wide ta tw xs L ws ex B' last rfl hT hx hW lw' hn hw J8 bL bW hcl q h;refine{_,#[(),(au 4 xE.nd (aC md hr #[0,1,2,3])),(aV (tQ (Ar (4:))) (aJ jO) aW),(aF (4:))],(),(),(),(),wide,ta,tw,xs,L,ws,ex,B',last,rfl,hT,hx,hW,lw',hn,hw,J8,bL,bW,hcl,λt lt H' g ht hlt=>?_};refine{(),(),bK ?_};exact{(),q t lt H' g ht hlt}
theorem aFw(F:Fn K mg "refuse_big" cn ["poly"]):Sb M:=by
 delta aK4 aK4
 intros a P' rfl hA zP q1 q2 h;refine{_,(aJ (aV (iD (eX (Wb K rfl) rfl B.sP boot_any #[(fu (sc:=ayD) (N:=["number"]) (ix:=[ν]) cV rfl (d7 K (0:)) (λ_ _ _ _ _=>{(bH 0 cR),dg,(nQ wb (eX Fe rfl B.DW boot_abs #[0]) (rC rfl B.U6) (pq _))}))])) (aJ (uF M.PY rfl #[""])) aW)),?_};refine{(),a,rfl,.inr {{_,ao.of hA},?_}};refine pI (xG (ao.of hA)) (by rw[aB];exact iR (fJ ⋯)) rfl (λ_=>true) (λx=>match x with|.int k=>.bl (QD k)|_=>.non) ?_ ?_ ?_
 .intro H2 x g2 hx k hk;exact hk
 .intro H2 x g2 hx _ k hk;obtain⟨y,hy,rfl⟩:=bO.mp hx;exact{(),y,rfl,"",hk}
 intro D hD;have el:(((P'.map V.int).filter λ_=>true).map λx=>match x with|.int k=>V.bl (QD k)|_=>V.non)=(P'.map λk=>QD k).map V.bl:=by
  rw[rT.mpr (by simp),dD,dD];rfl
 rw[el];exists D,(),ak.of aq,();unfold zm at q1 q2;rw[<-Sl]at q1 q2;exact cu (λc=>{(bG 1),q2 c _ (Same.new hD _)}) (λc=>q1 (SJ.mpr c) _ (Same.new hD _))
theorem aDE(F:Fn K mg "whole_divisors" tx ["number"]):vT M:=by
 delta Ge
 intros n rfl h1 h3 q h;refine{_,#[(),(au 1 Ge.nd (dI iW)),(au 2 Ge.nd (dI iW)),(au 3 Ge.nd aP),(rW PassesOwn.never (3*3<=0:) #[(),(aV (0%3==_:) #[(),(fY (nq K (1:) (3:))),(aV (3*3<0:) (aJ (fY (nq K (2:) (0/3:)))) aW)] aW),(au 3 Ge.nd (3+_:))]),(aF (1+(aKP rfl rfl B.SR rfl B.Kt #[2]):))],cZ _,λls hls=>?_};obtain⟨H1,uu,g1,k1⟩:=nw hls (.lst []);rw[uu];refine{cZ _,λlg ZK=>?_};have hne:ls≠lg:=jz k1 ZK;obtain⟨H2,uu,g2,k2⟩:=nw ZK (.lst []);rw[uu];have lg0:H lg=ν:=g1.free ZK;exists λm σ' H'=>Ex2 λ(s g:ζ)=>B4 (σ'=[ι (.int n),ι (.ref ls),ι (.ref lg),ι (.int (2-(m:Int)))]) (Same H H') (H' ls=ι (.lst (s.map V.int))) (H' lg=ι (.lst (g.map V.int))) ((m=1/\s=[]/\g=[]∨m=0/\s=[1]/\g=if n=1 then[]else[(n:Int)])),{1,[],[],rfl,g1.trans g2,g2 _ _ k1,k2,.inl {rfl,rfl,(rfl)}};rintro m σ' H' ⟨s1,g,rfl,gg,hs,hg,z⟩;rcases z with⟨rfl,rfl,rfl⟩|⟨rfl,rfl,rfl⟩
 .exists (),(),mulR ∅ ∅,(),"",();rw[decide_eq_true (⋯:(2-((1:Nat):Int))*(2-((1:Nat):Int))<=(n:Int))];refine eO {_,λ_ _ z=>z,?_};exists (),(),"",(∅:(0:Int)<2-((1:Nat):Int)),();rw[decide_eq_true (show(n:Int)%(2-((1:Nat):Int))=0 from Int.emod_one _)];refine eO ?_;exists (),.inl {rfl,_,ak.of hs},(),ls,"",hs,∅;have ga:=gg.upd hls (.lst [.int 1]);have hs2:(upd H' ls (.lst [.int 1])) ls=ι (.lst [.int 1]):=aq;have hg2:(upd H' ls (.lst [.int 1])) lg=ι (.lst []):=by rw[cH hne.symm];exact hg
  dsimp only;rw[show(([]:ζ).map V.int++[V.int (2-((1:Nat):Int))])=[V.int 1]from rfl];generalize upd H' ls (.lst [.int 1])=H3 at ga hs2 hg2;exists (),(),mulR ∅ ∅,(),"",();by_cases c:n=1
  .rw[decide_eq_false (⋯:¬(2-((1:Nat):Int))*(2-((1:Nat):Int))<(n:Int))];exact bK {(),0,∅,[1],[],rfl,ga,hs2,hg2,.inr {rfl,rfl,by rw[if_pos c]}}
  .rw[decide_eq_true (⋯:(2-((1:Nat):Int))*(2-((1:Nat):Int))<(n:Int))];refine eO ?_;refine{(),.inl {rfl,_,ak.of hg2},(),(),"",{∅,∅},lg,"",hg2,∅,(),0,∅,[1],(),ga.upd lg0 _,by rw[cH hne];exact hs2,?_,.inr {rfl,rfl,by rw[if_neg c]}};rw[aq];show ι (HO.lst [V.int ((n:Int)/1)])=_;rw[NT];rfl
 .exists (),(),mulR ∅ ∅,(),"",();rw[decide_eq_false (⋯:¬(2-((0:Nat):Int))*(2-((0:Nat):Int))<=(n:Int))];refine bK ?_;refine{(),(),lg,(),hg,λl1 hl1=>?_};obtain⟨H3,uu,g3,h3'⟩:=nw hl1 (.lst (jc V.int (if n=1 then[]else[(n:Int)])).reverse);rw[uu];have er:(jc V.int (if n=1 then[]else[(n:Int)])).reverse=jc V.int (if n=1 then[]else[(n:Int)]):=by split<;>rfl
  rw[er]at h3';refine .inl {_,_,g3 _ _ hs,h3',?_,λl2 hl2=>?_}
  .exact cM (show _<=2 by split<;>simp) ∅
  refine q l2 _ (gg.trans (g3.trans (Same.new hl2 _))) ?_;rw[aq,iI];by_cases c:n=1
  .rw[if_pos c,if_pos c];rfl
  .rw[if_neg c,if_neg c];rfl
theorem azW(F:Fn K mg "perhaps_roots" UU ["poly"])(vk:vT M):P7 M:=by
 delta QC
 intros a P' rfl hA zP hx hs q h;refine{_,#[(),(au 1 QC.nd (aK K (fu (sc:=aGq) (N:=["number"]) (ix:=[ν]) cV rfl (d7 K (0:)) (λ_ _ _ _ _=>{(bH 0 cR),(Tt (0!=_:)),(0:)})) aP)),(au 2 QC.nd (aC vk hr #[(eX Fe rfl B.DW boot_abs #[1])])),(nU (i:=3) (hN:=QC.nd) (hi':=rfl) (hx:=(jj rfl)) (sc:=aGm) (N:=["divisor"]) (ix:=[ν]) cV rfl (aMe K rfl B.Kt #[2]) (λ_ _ _ _ _=>{(bH 0 cR),dg,(_-0:)})),(aF (3+(dI #[_])+2:))],?_};refine{(),a,rfl,.inr {{_,ao.of hA},?_}};refine pI (xG (ao.of hA)) (by rw[aB];exact iR (fJ ⋯)) rfl (λx=>match x with|.int k=>decide (k≠0)|_=>false) (λx=>x) ?_ ?_ ?_
 .intro H2 x g2 hx k hk;obtain⟨y,hy,rfl⟩:=bO.mp hx;exists (),();have e:(not (decide (y=0)))=decide (y≠0):=by by_cases z:y=0<;>simp[z]
  rw[e];exact hk
 .intro H2 x g2 hx _ k hk;exact{(),hk}
 intro D hD;have el:(((P'.map V.int).filter λx=>match x with|.int k=>decide (k≠0)|_=>false).map λx=>x)=(P'.filter λx=>decide (x≠0)).map V.int:=by
  rw[yY,YL];rfl
 rw[el];rw[aKT]at q;unfold jd at hx hs q;cases hf:P'.filter λx=>decide (x≠0)with
 |nil=>rw[hf]at hx;exact absurd hx ∅
 |cons y0 ys=>
 rw[hf,UX]at hx hs q;obtain⟨H1,uu,g1,k1⟩:=nw hD (.lst ((y0::ys).map V.int));rw[uu];exists _,.int y0,.inl (ak.of k1),axp,(),y0,rfl;have ea:(if y0<0 then -y0 else y0)=((y0.natAbs:Nat):Int):=by split<;>lia
 refine{y0.natAbs,(by rw[ea];rfl),hx,hs,λla H2 g2 h2=>?_};have ln2:(iI y0.natAbs).length<=2:=by unfold iI;split<;>simp
 generalize iI y0.natAbs=ds at q h2 ln2;exists (),la,ds.map V.int,rfl,ak.of h2;refine pI (aQc (ak.of h2)) (by rw[Ax,aB];exact cM ln2 ∅) rfl (λ_=>true) (λx=>match x with|.int k=>.int (0-k)|_=>.non) ?_ ?_ ?_
 .intro H3 x g3 hx k hk;exact hk
 .intro H3 x g3 hx _ k hk;obtain⟨y,hy,rfl⟩:=bO.mp (List.mem_reverse.mp hx);exact{(),"",hk}
 intro D2 hD2;have el2:(((ds.map V.int).reverse.filter λ_=>true).map λx=>match x with|.int k=>V.int (0-k)|_=>V.non)=(ds.reverse.map λx=>0-x).map V.int:=by
  rw[rT.mpr (by simp),<-List.map_reverse,dD,dD];rfl
 rw[el2];obtain⟨H3,uu,g3,h3⟩:=nw hD2 (.lst ((ds.reverse.map λx=>0-x).map V.int));rw[uu];have lb:((ds.reverse.map λx=>0-x).map V.int).length=ds.length:=by rw[aB,aB,Ax]
 refine{(),(bG 1),λl0 hl0=>?_};obtain⟨H4,uu,g4,h4⟩:=nw hl0 (.lst [.int 0]);rw[uu];refine .inl {_,_,g4 _ _ h3,h4,?_,λl1 hl1=>?_}
 .rw[lb];exact cM (⋯:_+1<=3) ∅
 obtain⟨H5,uu,g5,h5⟩:=nw hl1 (.lst ((ds.reverse.map λx=>0-x).map V.int++[.int 0]));rw[uu];refine{(),.inl {_,_,h5,g5 _ _ (g4 _ _ (g3 _ _ h2)),?_,λl2 hl2=>?_}}
 .rw[gk,lb,aB];exact cM (⋯:ds.length+1+ds.length<=5) ∅
 have Al:=g1.trans (g2.trans (g3.trans (g4.trans g5)));refine q l2 _ (Al.trans (Same.new hl2 _)) (Al.free hl2) ?_;rw[aq,fH,fH];rfl
theorem aJM(F:Fn K mg "divided_out" rg ["poly","root"])(mj:Et M):xy M:=by
 delta Bx
 intros a r P' u rfl hA zP hP hrb bP u22 hu q h;exists _,#[(),(au 2 Bx.nd aP),(au 3 Bx.nd (0:)),(au 4 Bx.nd (aC mj hr #[_,3,(dG #[(_-1:),_])])),(rW PassesOwn.never (-4==(dG iW):) #[(),(au 2 Bx.nd (2+_:)),(au 3 Bx.nd (-4:)),(au 4 Bx.nd (aC mj hr #[_,3,(dG #[(_-1:),_])]))]),(aF (dG #[2,3]))];have hM:=W0 r;have bM:∀x∈lin r,Bd 22 x:=λx hx=>by
  rcases c7.mp (show x∈[0-r,1]from hx)with rfl|hx
  .have:Bd 10 (0-r):=by unfold Bd at hrb ⊢;lia
   exact this.mono ∅
  .rw[eN.mp hx];exact(Bd.of (n:=1) ⋯ ⋯).mono ∅
 have one:∀{H1:Hp} {tl:Addr} {L:ζ} {v:Nat} {Q1:VK} {E1:XK} {tm:Addr},H1 tl=ι (.tup (L.map V.int))->H1 tm=ι (.tup ([0-r,1].map V.int))->L.length<=13->(∀x∈L,Bd v x)->22<=v->v<=200000->(∀t x y q l H2,Same H1 H2->H2 t=ι (.tup [.ref x,.ref y])->H2 x=ι (.tup (jc V.int q))->H2 y=ι (.tup (jc V.int l))->Pm.Div 0 L (lin r) q l->Q1 (.ref t) H2)->MT [.int 0,.ref tl,.ref tm] H1 Q1 E1:=λ{H1 tl L v Q1 E1 tm} h1 h2 zL bL v22 hv hq=>{0,tl,tm,L,lin r,v,22,rfl,∅,∅,h1,h2,⋯,(by show 2<=40;decide),hM,λk=>dj _,bL,bM,v22,⋯,λt x y o l H2 g2 hT hX hY D _=>hq t x y o l H2 g2 hT hX hY D};refine{(),(),(),"",(bG 2),λtm UZ=>?_};have g0:=Same.new UZ (.tup ([0-r,1].map V.int));refine one (g0 _ _ hA) aq zP bP u22 ⋯ λtt x y o l H1 g1 hT hX hY D1=>?_;refine{λm σ' H'=>Ex8 λ(i:Nat) (L o l:ζ) (tl tt x y:Addr)=>DZ (m=L.length) (σ'=[ι (.ref a),ι (.int r),ι (.int (i:Int)),ι (.ref tl),ι (.ref tt)]) (Same H H') (H' tl=ι (.tup (L.map V.int))) (H' tt=ι (.tup [.ref x,.ref y])) (H' x=ι (.tup (jc V.int o))) (H' y=ι (.tup (jc V.int l))) (Pm.Div 0 L (lin r) o l) (Pm.Rep r i P' L) (∀z∈L,Bd (u+i*169) z),
  {_,0,P',o,l,a,tt,x,y,rfl,rfl,g0.trans g1,g1 _ _ (g0 _ _ hA),hT,hX,hY,D1,.zero _,λz hz=>(bP z hz).mono ⋯},?_}
 rintro m σ' H' ⟨i,L,o,l,tl,tt,x,y,rfl,rfl,gg,hL,hT,hX,hY,Dv,B7,bL⟩;obtain⟨hMo,hlen⟩:=El.U0 B7 hP;refine{(),!hT,rfl,cZ _,λt0 ht0=>?_};obtain⟨H2,uu,g2,k2⟩:=nw ht0 (.tup []);rw[uu];refine PV (ns:=l) (ms:=[]) (ao.of (g2 _ _ hY)) (ao.of k2) {(),?_};have gg2:=gg.trans g2;refine cu (λc=>?_) (λc=>?_)
 .have hz:l=[]:=dec_true c;subst hz;obtain⟨m1,l1⟩:=El.Au Dv hMo;have bQ:∀z∈o,Bd (u+(i+1)*169) z:=λz hz=>by
   obtain⟨k,hk,e⟩:=ug.mp hz;have:=Hz hM (P:=L) (g:=o) (λk=>by have:=Dv.eq k;rw[dj,dj,gw,fK]at this;rw[<-this,mL]) ⋯ ⋯ (by show 2+o.length<=14;lia) (u:=u+i*169) (nY bL) k;rw[qN hk,e]at this;exact this.mono ⋯
  refine{_,λ_ _ z=>z,?_};refine{(),(),!(g2 _ _ hT),rfl,(),(),"",(bG 2),λtm UZ=>?_};have g3:=Same.new UZ (.tup ([0-r,1].map V.int));refine one (g3 _ _ (g2 _ _ hX)) aq ⋯ bQ ⋯ ⋯ λtt' x' y' o' l' H3 g4 hT' hX' hY' D'=>?_;exact{o.length,⋯,i+1,o,o',l',x,tt',x',y',rfl,by rw[JM];rfl,gg2.trans (g3.trans g4),g4 _ _ (g3 _ _ (g2 _ _ hX)),hT',hX',hY',D',aQb B7 Dv,bQ}
 .have hz:¬l=[]:=dec_false c;refine{(),(),(bG 2),λtz vG=>?_};have gz:=Same.new vG (.tup [.int (i:Int),.ref tl]);exact q i L tz tl _ (gg2.trans gz) B7 (λz=>hz (Dv.root.mpr z)) bL aq (gz _ _ (g2 _ _ hL))
theorem aR4(F:Fn K mg "whole_roots" YH ["poly"])(ZF:Sb M)(Vi:P7 M)(j0:xy M):A7 M:=by
 delta CN CN
 intros a P' rfl hA zP hP bP lo1 lo3 q1 q2 h;refine{_,#[(),(fY (gj ZF hr rfl #[0])),(au 1 CN.nd (dI iW)),(au 2 CN.nd (0:)),(iC PassesOwn.leaving rfl (d7 K (aC Vi hr #[0])) (bH 3 CN.nd) #[(),(au 4 CN.nd (aC j0 hr #[2,3])),(aV (-4>_:) #[(),(fY (nq K (1:) (dG #[3,-4]))),(au 2 CN.nd (-4:))] aW)]),(aF (dG #[1,2]))],(),a,P',rfl,hA,⋯,λhs H1 g1=>?_,q2};refine{cZ _,λlr hlr=>?_};obtain⟨H2,uu,g2,h2⟩:=nw hlr (.lst []);rw[uu];have dZ:=g1.trans g2;have aJO:H lr=ν:=g1.free hlr;refine{(),(),a,P',rfl,dZ _ _ hA,⋯,lo1,lo3,λlc H3 g3 hlc h3=>?_};refine{lc,rfl,.inl {{_,ak.of h3},?_}};have h23:=g3 _ _ h2;have j9:=dZ.trans g3;have hne:lr≠lc:=jz h2 hlc;have q1:=q1 hs;have hcb:=Y3 _ (⋯:(jd P').natAbs<4);have hcl:=DI _ (⋯:(jd P').natAbs<4);generalize El.sG (jd P').natAbs=cs at q1 hcb hcl h3;refine NK (xs:=cs.map V.int) (λi σ' H'=>Ex6 λ(o3 o4:Option V)(tl:Addr)(L:ζ)(rs:El.fG)(xs:τ)=>DT (σ'=[ι (.ref a),ι (.ref lr),ι (.ref tl),o3,o4]) (Same H H') (H' lc=ι (.lst (cs.map V.int))) (H' lr=ι (.lst xs)) (rF H' xs rs) (H' tl=ι (.tup (L.map V.int))) (Pm.Mon L) (L.length<=P'.length) ((∀z∈L,Bd (32+(P'.length-L.length)*169) z)) (xs.length<=i) (∀l R,Pm.Scan (cs.drop i) L l R->Pm.Scan cs P' (rs++l) R))
  {_,_,a,P',[],[],rfl,j9,h3,h23,{[],rfl,rfl,(nofun)},j9 _ _ hA,hP,aZ _,λz hz=>(bP z hz).mono ⋯,aZ _,λ_ _ z=>z} (λi σ' H' ⟨_,_,_,_,_,_,_,_,z,_,_,_,_,_,_,_,_⟩=>ak.of z) ?_ ?_
 .rintro i x σ' H4 hx ⟨o3,o4,tl,L,rs,xs,rfl,g4,hc4,DY,N7,yU,R4,hle,Ji,hxl,hw⟩;obtain⟨rfl,hi⟩:=Wl hx;obtain⟨c,hcd⟩:∃c,c=Pm.co cs i:={()};rw[<-hcd];have ed:cs.drop i=c::cs.drop (i+1):=by rw[hcd,List.drop_eq_getElem_cons hi,<-qN hi]
  rw[ed]at hw;have hu:(P'.length-L.length)*169<=5*169:=pO _ ⋯;refine{(),(),tl,c,L,32+(P'.length-L.length)*169,rfl,yU,⋯,R4,hcb c (hcd▸Bf hi),Ji,⋯,⋯,λm q t tl' H5 g5 B7 hev bq ht htl=>?_};obtain⟨hMq,lq⟩:=El.U0 B7 R4;have hr5:=g5 _ _ DY;exists (),!ht,rfl,"",();refine cu (λcc=>?_) (λcc=>?_)
  .obtain⟨m,rfl⟩:∃k,m=k+1:={m-1,by have:=dec_true cc;lia};refine{(),.inl {rfl,_,ak.of hr5},(),(),!ht,rfl,(bG 2),λtp htp=>?_};obtain⟨H6,uu,g6,h6⟩:=nw htp (.tup [.int c,.int ((m+1:Nat):Int)]);rw[uu];have hr6:=g6 _ _ hr5;have ht6:=g6 _ _ ht;have T7:=g4.trans (g5.trans g6);have B6:∀{b:Addr} {ts},H6 b=ι (HO.tup ts)->b≠lr:=λe z=>by rw[z,hr6]at e;cases e
   exists lr,"",hr6,fJ ⋯,(),!(by rw[cH (B6 ht6)];exact ht6),rfl;refine{ι (.int c),ι (.ref t),tl',q,rs++[(c,m+1)],xs++[.ref tp],rfl,T7.upd aJO _,(by rw[cH hne.symm];exact(g5.trans g6) _ _ hc4),aq,?_,(by rw[cH (B6 (g6 _ _ htl))];exact g6 _ _ htl),hMq,⋯,λz hz=>(bq z hz).mono ?_,by rw[gk];show xs.length+1<=_;lia,λl R hS=>?_}
   .obtain⟨ts,e1,e2,e3⟩:=(N7.same g5).same g6;refine{ts++[(tp,c,m+1)],by rw[fH,<-e1];rfl,by rw[fH,<-e2];rfl,λz hz=>?_};rcases ig.mp hz with hz|hz
    .rw[cH (B6 (e3 z hz))];exact e3 z hz
    .rw[eN.mp hz,cH (B6 h6)];exact h6
   .have:(P'.length-L.length)*169+(m+1)*169=(P'.length-q.length)*169:=by rw[<-V2];congr 1;lia
    lia
   .rw[E3];exact hw _ _ (.hit B7 hev hS)
  .obtain rfl:m=0:=by have:=dec_false cc;lia
   cases B7;exact{ι (.int c),ι (.ref t),tl,L,rs,xs,rfl,g4.trans g5,g5 _ _ hc4,hr5,N7.same g5,g5 _ _ yU,R4,hle,Ji,⋯,λl R hS=>hw _ _ (.miss hev hS)}
 .rintro σ' H4 ⟨o3,o4,tl,L,rs,xs,rfl,g4,hc4,DY,N7,yU,R4,hle,Ji,hxl,hw⟩;rw[aB,List.drop_length]at hw;have hw:=hw [] L (.nil L);rw[rJ]at hw;refine{(),(),(bG 2),λtz vG=>?_};have gz:=Same.new vG (.tup [.ref lr,.ref tl]);exact q1 rs L tz lr tl xs _ (g4.trans gz) hw aq (gz _ _ DY) (N7.same gz) (gz _ _ yU)
theorem aFo(F:Fn K mg "power" Xu ["number","exponent"]):Pc M:=by
 delta NV
 intros a e rfl e0 e1 hb q h;exists _,#[(),(au 2 NV.nd aP),(iC PassesOwn.never rfl (gH rfl B.fj #[1]) (bH 3 NV.nd) (aJ (au 2 NV.nd (2*0:)))),(aF (2:))],(),e,rfl,(⋯:-(2^62)<=e),(⋯:e<2^62);refine kI (lo:=0) (n:=e.toNat) (λi σ' H'=>∃o,σ'=[ι (.int a),ι (.int e),ι (.int (a^i)),o]/\H=H') {_,by rw[Bk];rfl,rfl} ?_ ?_
 .rintro i σ' H' hi ⟨o,rfl,rfl⟩;exact{(),(),vp (D7 hb i) hb ⋯,ι (.int (0+(i:Int))),by rw[pA];rfl,rfl}
 .rintro σ' H' ⟨o,rfl,rfl⟩;exact{(),q}
theorem aAB(F:Fn K mg "form_line" fc ["roots","n"])(OB:Pc M):NM M:=by
 delta rj
 intros lr n xs l rfl hR hT n0 n1 ok q h;refine{_,#[(),(au 2 rj.nd (dI iW)),(iC PassesOwn.never rfl (d7 K (0:)) (YD (i:=3) rj.nd rfl (fX rfl)) (aJ (fY (PX K (2:) (fu (sc:=aTB) (N:=["j","n","pair"]) (ix:=[ν,ι 1,ι 3]) cV rfl (gH rfl B.fj #[-3]) (λ_ _ _ _ _=>{(bH 0 cR),dg,((aC OB hr #[-2,1])*(aC OB hr #[1,0]):)})))))),(aF (2:))],?_};have lx:=hT.len;have few:=ok.few;refine{cZ _,λD hD=>?_};obtain⟨H0,uu,g0,h0⟩:=nw hD (.lst []);rw[uu];refine{(),lr,rfl,.inl {{_,ak.of (g0 _ _ hR)},?_}};refine NK (xs:=xs) (λi σ' H'=>∃o3,σ'=[ι (.ref lr),ι (.int n),ι (.ref D),o3]/\Same H H'/\H' D=ι (.lst ((El.m8 (l.take i) n.toNat).map V.int))) {(),g0,h0} (λi σ' H' ⟨_,_,g,_⟩=>ak.of (g _ _ hR)) ?_ ?_
 .rintro i x σ' H1 hx ⟨o3,rfl,g1,h1⟩;obtain⟨t,⟨r,m⟩,rfl,el,ht⟩:=(hT.same g1).get hx;have hm:=List.mem_of_getElem? el;have hrb:Bd 10 r:=ok.bd _ hm;have aT1:m<=El.cW l:=jK hm;exists (),.inl {rfl,_,ak.of h1},(),!ht,rfl,(m:Int),rfl,⋯,⋯;rw[dB];refine Bb (n:=m) ⋯ rfl (λj=>r^n.toNat*n^j) ?_ ?_
  .intro H2 k g2 hk kk hkk;have b10:Bd 10 n:=Bd.of ⋯ ⋯;exists (),!(g2 _ _ ht),rfl,(),r,n,rfl,n0,⋯,hrb,(),(),n,0+(k:Int),rfl,⋯,⋯,b10;rw[(⋯:(0+(k:Int)).toNat=k)];exact{vp (D7 hrb _) (D7 b10 k) ⋯,hkk}
  intro D2 hD2;obtain⟨H2,uu,g2,h2⟩:=nw hD2 (.lst ((bf m λj=>r^n.toNat*n^j).map V.int));rw[uu];refine{D,D2,"",g2 _ _ h1,h2,?_,(),(g1.trans g2).upd hD _,?_}
  .rw[aB,aB,dF,El.Qy];have:=xf l i;exact iR (fJ ⋯)
  .rw[aq,take_one el,aHk,fH];congr 3;refine congrArg (jc V.int) ?_;show _=(bf m λj=>r^n.toNat*((n.toNat:Nat):Int)^j)++[];rw[rJ,Kv n0]
 .rintro σ' H1 ⟨o3,rfl,g1,h1⟩;rw[oA ⋯]at h1;exact{(),q D H1 g1 hD h1}
theorem aKU(F:Fn K mg "parts_of" Yo ["roots","tops"]):KS M:=by
 delta Fw
 intros lr lt xs l us rfl hR hT hU lu hl q h;exists _,#[(),(au 2 Fw.nd (dI iW)),(au 3 Fw.nd aP),(iC PassesOwn.never rfl (d7 K (0:)) (bH 4 Fw.nd) #[(),(au 5 Fw.nd (3+(-4):)),(fY (nq K (2:) (dG #[-4,(jT (m6 K) (1:) (jC (3:)) (jC (5:)))]))),(au 3 Fw.nd (5:))]),(aF (2:))];have lx:=hT.len;have lU:(us.map V.int).length=us.length:=aB _;refine{cZ _,λD hD=>?_};obtain⟨H0,uu,g0,h0⟩:=nw hD (.lst []);rw[uu];refine{(),lr,rfl,.inl {{_,ak.of (g0 _ _ hR)},?_}};refine NK (xs:=xs) (λi σ' H'=>sJ λo4 o5 ys=>B4 (σ'=[ι (.ref lr),ι (.ref lt),ι (.ref D),ι (.int (El.cW (l.take i):Nat)),o4,o5]) (Same H H') (H' D=ι (.lst ys)) ((∃ts:List (Addr×Addr×Int×ζ),ys=ts.map (λq=>V.ref q.1)/\pX (l.take i) us=ts.map (·.2.2)/\∀q∈ts,H' q.1=ι (.tup [.int q.2.2.1,.ref q.2.1])/\H' q.2.1=ι (.lst (q.2.2.2.map V.int))/\q.2.1≠D)) (ys.length=i)) {_,_,[],rfl,g0,h0,{[],rfl,rfl,(nofun)},rfl} (λi σ' H' ⟨_,_,_,_,g,_,_,_⟩=>ak.of (g _ _ hR)) ?_ ?_
 .rintro i x σ' H1 hx ⟨o4,o5,ys,rfl,g1,h1,hy,ly⟩;obtain⟨t,⟨r,m⟩,rfl,el,ht1⟩:=(hT.same g1).get hx;have hi:i<l.length:=(List.getElem?_eq_some_iff.mp el).1;have e2:El.cW (l.take (i+1))=El.cW (l.take i)+m:=by rw[take_one el,jI];rfl
  have e3:=xf l (i+1);refine{(),(),!ht1,rfl,(),.inl {rfl,_,ak.of h1},(),!ht1,rfl,(),(),(),(),(),.inl {_,ak.of (g1 _ _ hU),λa ha=>?_}};have ec:fO (us.map V.int) (ι ((El.cW (l.take i):Nat):Int)) (ι (((El.cW (l.take i):Nat):Int)+(m:Int)))=((us.drop (El.cW (l.take i))).take m).map V.int:=by
   rw[(⋯:((El.cW (l.take i):Nat):Int)+(m:Int)=((El.cW (l.take i)+m:Nat):Int)),aJz _ ⋯ ⋯,(⋯:El.cW (l.take i)+m-El.cW (l.take i)=m),uX,Vo]
  rw[ec];obtain⟨H2,uu,g2,h2⟩:=nw ha (.lst (((us.drop (El.cW (l.take i))).take m).map V.int));rw[uu];have na:a≠D:=λz=>by rw[z,h1]at ha;cases ha
  refine{(bG 2),λt2 lY=>?_};obtain⟨H3,uu,g3,h3⟩:=nw lY (.tup [.int r,.ref a]);rw[uu];have Mu:=g2.trans g3;have h13:=Mu _ _ h1;exists D,"",h13,fJ ⋯,();have B6:∀{b:Addr} {ts},H3 b=ι (HO.tup ts)->b≠D:=λe z=>by rw[z,h13]at e;cases e
  refine{ι (.ref t),ι (.int (((El.cW (l.take i):Nat):Int)+(m:Int))),ys++[.ref t2],?_,(g1.trans Mu).upd hD _,aq,?_,by rw[gk];show ys.length+1=i+1;lia}
  .rw[e2,JM];rfl
  .intros ts e4 e5 h4 hy;refine{ts++[(t2,a,r,(us.drop (El.cW (l.take i))).take m)],by rw[fH,<-e4];rfl,by rw[take_one el,OS,fH,<-e5];rfl,λz hz=>?_};rcases ig.mp hz with hz|hz
   .obtain⟨z1,z2,z3⟩:=h4 z hz;exact{by rw[cH (B6 (Mu _ _ z1))];exact Mu _ _ z1,by rw[cH z3];exact Mu _ _ z2,z3}
   .rw[eN.mp hz];exact{by rw[cH (B6 h3)];exact h3,by rw[cH na];exact g3 _ _ h2,na}
 .rintro σ' H1 ⟨o4,o5,ys,rfl,g1,h1,⟨ts,e4,e5,h4⟩,ly⟩;rw[oA ⋯]at e5;exact{(),q D ys H1 g1 h1 {ts,e4,e5,λz hz=>{(h4 z hz).1,(h4 z hz).2.1}}}
theorem aA3(F:Fn K mg "closed" fe ["row"])(qM:Jm M)(ny:A7 M)(C9:Ur M)(a8:NM M)(Xk:OZ M)(om:KS M):kz M:=by
 delta Eo Eo
 intros v r c0 rfl hR k1 hc qB qG q h;refine{_,#[(),(fY (gj qM hr rfl #[0])),(au 1 Eo.nd (gj ny hr rfl #[(aC C9 hr #[0])])),(iw (i:=2) Eo.nd rfl (fX rfl) (-1:)),(aV (PW.pt (lH (-1!=(dG #[_]):) (qj (iD (eX (Wb K rfl) rfl B.sP boot_any #[(fu (sc:=aSV) (N:=["pair"]) (ix:=[ν]) cV rfl (d7 K (2:)) (λ_ _ _ _ _=>{(bH 0 cR),dg,(nQ (wD K hr) (-0:) aP (pq _))}))]))))) (aJ (aF zu)) aW),(au 3 Eo.nd (eX (nz K rfl) rfl B.Vh boot_sum #[(fu (sc:=aQ8) (N:=["pair"]) (ix:=[ν]) cV rfl (d7 K (2:)) (λ_ _ _ _ _=>{(bH 0 cR),dg,(-0:)}))])),(nU (i:=4) (hN:=Eo.nd) (hi':=rfl) (hx:=(jj rfl)) (sc:=aFJ) (N:=["n","roots"]) (ix:=[ν,ι 2]) cV rfl (gH rfl B.fj #[3]) (λ_ _ _ _ _=>{(bH 0 cR),dg,(aC a8 hr #[1,0])})),(au 5 Eo.nd (aC Xk hr #[_,3,4,(dW (xlist K) rfl B.SR boot_list #[(jT (m6 K) (-0:) jZ (jC (3:)))])])),(aF (dG #[-5,(aC om hr #[2,-5])]))],?_};refine{(),v,r,rfl,hR,λhb=>?_,qB};have iK:=k1.iK ⋯;refine{(),v,r,rfl,hR,iK,λL hSh tL H1 g1 hL=>?_};obtain⟨_,_,_,so⟩:=hSh.ok iK;have eL:L=ju r:=by rw[<-hSh.bZ iK,hb]
 have sp:=(k1.small hb).sh hb so;intros f1 f2 f3 sp.facts;have hM:Pm.Mon (ju r):=zV 0 (sh r).ρ;have lM:(ju r).length=(sh r).ρ.length+1:=nG 0 (sh r).ρ;have slow:1<=(jd (ju r)).natAbs/\(jd (ju r)).natAbs<=3:=sp.low;have qG:=qG hb;have q:=q hb;unfold AF at q;subst eL;have l5:(ju r).length<=5:=⋯;refine{tL,ju r,rfl,hL,l5,hM,λx hx=>?_,slow.1,slow.2,λhbig l R t lr tl xs H2 g2 hS ht hlr hT htl=>?_,λhbig=>(qG hbig).up g1}
 .obtain⟨k,hk,e⟩:=ug.mp hx;rw[<-e,<-qN hk];exact f2 k
 obtain⟨qn,qf⟩:=q hbig;rw[ayJ hS]at qn qf;dsimp only at qn qf;have dZ:=g1.trans g2;refine{(),!ht,rfl,(),!ht,rfl,(bG 1),λt1 ht1=>?_};obtain⟨H3,uu,g3,k3⟩:=nw ht1 (.tup [.int 1]);rw[uu];refine PV (ns:=R) (ms:=[1]) (ao.of (g3 _ _ htl)) (ao.of k3) {(),?_};have j9:=dZ.trans g3;by_cases c:R=[1];case neg=>
  rw[decide_eq_false c];exact eO (qn (if_neg c) _ j9)
 rw[decide_eq_true c];refine bK ?_;rw[if_pos c]at qn qf;obtain⟨ts,e1,e2,hts⟩:=hT.same g3;have Uh:H3 lr=ι (.lst (ts.map λq=>V.ref q.1)):=by rw[<-e1];exact g3 _ _ hlr
 have scm:=aEP hS;have lcs:=DI _ (⋯:(jd (ju r)).natAbs<4);have lt4:ts.length<=1000:=by
  have h1:ts.length=l.length:=by rw[e2,aB]
  have h2:=(hS.back (iE hM λk=>dj _)).2.2.2.1.length_le;rw[aB]at h2;lia
 refine{(),lr,rfl,.inl {{_,ak.of Uh},OV (ou (ak.of Uh)) lt4 rfl (λq=>.bl (decide (q.2.1=0))) ?_ ?_}}
 .intro H4 q g4 hq k hk;exact{(),!(g4 _ _ (hts q hq)),rfl,hk _ (Same.refl _)}
 intro D4 H4 Bp g4 h4;exists D4,l.map λx=>decide (x.1=0),rfl,ak.of (by rw[h4,e2,dD,dD];rfl),_,rfl;rw[Sl];have EA:=j9.trans g4;by_cases c2:l.any (λx=>decide (x.1=0))=true
 .rw[c2];exact eO (qn (if_pos c2) _ EA)
 rw[SJ.mpr c2];refine bK ?_;rw[if_neg c2]at qf;have hne:∀x∈l,x.1≠0:=λx hx z=>c2 (Pg.mpr {x,hx,decide_eq_true z});have hm3:(jd (ju r)).natAbs∈[1,2,3]:=by
  obtain z|z|z:(jd (ju r)).natAbs=1∨(jd (ju r)).natAbs=2∨(jd (ju r)).natAbs=3:=⋯;all_goals rw[z];decide
 obtain⟨fl,ll⟩:=El.ayd hS (n:=4) (pre:=[]) hM l5 c hne (El.axP _ hm3);rw[Jb]at fl;have ok:jS l:={⋯,λx hx=>(scm x hx).2,λx hx=>Y3 _ ⋯ _ (scm x hx).1};have few:=ok.few;have hll:=aGJ ok.pos;have Xo:=g4 _ _ Uh;refine{(),lr,rfl,.inl {{_,ak.of Xo},OV (ou (ak.of Xo)) lt4 rfl (λq=>.int (q.2.2:Int)) ?_ ?_}}
 .intro H5 q g5 hq k hk;exact{(),!(g5 _ _ (g4 _ _ (hts q hq))),rfl,hk _ (Same.refl _)}
 intro D5 H5 hD5 g5 h5;refine{D5,l.map λx=>((x.2:Nat):Int),rfl,ak.of (by rw[h5,e2,dD,dD];rfl),?_};rw[avV];have Al:=EA.trans g5;generalize hN:El.cW l=N at *;exists (),(N:Int),rfl,⋯,⋯;rw[dB];have hT5:rF H5 xs l:={ts,e1,e2,λq hq=>g5 _ _ (g4 _ _ (hts q hq))};have FI:H5 lr=ι (.lst xs):=by rw[e1];exact g5 _ _ Xo
 refine Sf BF (by rw[aB,mq];lia) rfl (Tc λi=>El.m8 l i) ?_ ?_
 .intro H6 x g6 hx k hk;obtain⟨j,hj,rfl⟩:=bO.mp hx;have hj':=gZ.mp hj;exact{(),(),lr,0+(j:Int),xs,l,rfl,g6 _ _ FI,hT5.same g6,⋯,⋯,ok,λD3 H7 g7 hn7 h7=>hk D3 H7 g7 hn7 h7}
 intro D6 ys H6 hD6 g6 h6 hy;have et:((gq N).map λi=>V.int (0+(i:Nat))).map (Tc λi=>El.m8 l i)=El.lN l:=by
  rw[dD,El.lN,hN];refine kW λi _=>?_;show El.m8 l (0+(i:Int)).toNat=_;rw[(⋯:(0+(i:Int)).toNat=i)]
 rw[et]at hy;have T7:=Al.trans g6;obtain⟨xa,xp,xq,rfl,hxA,hxR,hxS⟩:=hR.same T7;have lst:=k1.wf.len;have hle:=so.le;have lsT:(r.ς.take N).length=N:=by rw[m9];lia
 obtain⟨⟨B',last⟩,hcl⟩:=El.aCD fl (r.ς.take N);rw[hN]at hcl;have ebt:Pa l (r.ς.take N)=(last.fdiv (lw last (tps B' N)),(tps B' N).map λt=>t.fdiv (lw last (tps B' N))):=by
  unfold Pa;rw[hN,hcl]
 rw[ebt]at qf;dsimp only at qf;have lnT:∀i,i<(El.lN l).length->(Dm.ln (El.lN l) i).length=N:=λi hi=>by
  rw[El.WD]at hi;rw[El.aJD hi,El.Qy,hN]
 have bL:∀p∈El.lN l,∀x∈p,Bd 480 x:=λp hp=>by
  obtain⟨n,hn,rfl⟩:=bO.mp hp;exact avm ok (by have:=gZ.mp hn;lia)
 have bW:∀x∈r.ς.take N,Bd 480 x:=λx hx=>(k1.jQ x (CP hx)).mono hc;have lT:(El.lN l).length=N:=by rw[El.WD,hN]
 have hok:Bl (last.fdiv (lw last (tps B' N))) (pX l ((tps B' N).map λt=>t.fdiv (lw last (tps B' N)))):=by
  obtain⟨cB,_,_,bl⟩:=(RC lnT bL bW).cl ∅ hcl;have sz:2^N*(480+1)-1<=8000:=by
   have:2^N*481<=2^4*481:=pO _ (ql ∅ few);lia
  have pk:=aEY (u:=8000) (l:=l) (us:=(tps B' N).map λt=>t.fdiv (lw last (tps B' N))) (λx hx=>{ok.bd x hx,by have:=jK hx;lia}) λx hx=>by
   obtain⟨y,hy,rfl⟩:=bO.mp hx;obtain⟨i,_,rfl⟩:=oV hy;exact qU (El.VJ _ _) ((cB.bd i N).mono sz)
  exact{qU (El.VJ _ _) (bl.mono sz),by rw[pk.1];lia,pk.2}
 have qf:=qf _ _ rfl hok;have lus:((tps B' N).map λt=>t.fdiv (lw last (tps B' N))).length=El.cW l:=by rw[aB,tps,dF,hN]
 have fin:∀(H7:Hp) (l8:Addr) (Q7:VK) (E7:XK),Same H6 H7->H7 l8=ι (.lst ((r.ς.take N).map V.int))->(∀t lt H8,Same H7 H8->H8 t=ι (.tup [.str ("one":Str),.int (last.fdiv (lw last (tps B' N))),.ref lt])->H8 lt=ι (.lst (((tps B' N).map λt=>t.fdiv (lw last (tps B' N))).map V.int))->Q7 (.ref t) H8)->W8 [.int 0,.int (N:Int),.ref D6,.ref l8] H7 Q7 E7:=λH7 l8 Q7 E7 g7 h8 hq=>{N,D6,l8,ys,El.lN l,r.ς.take N,[D6],B',last,rfl,g7 _ _ h6,hy.same g7,h8,lsT,lT,few,lnT,bL,bW,hcl,hq};generalize last.fdiv (lw last (tps B' N))=bot at qf fin;generalize ((tps B' N).map λt=>t.fdiv (lw last (tps B' N)))=us at qf fin lus;have fin2:∀(H7 H9:Hp) (l8 ta lt:Addr),Same H6 H7->Same H7 H9->H9 ta=ι (.tup [.str ("one":Str),.int bot,.ref lt])->H9 lt=ι (.lst (us.map V.int))->∀lp yp nH,Same H9 nH->nH lp=ι (.lst yp)->yO nH yp (pX l us)->∀tz,nH tz=ν->Q (.ref tz) (upd nH tz (.tup [.int bot,.ref lp])):=λH7 H9 l8 ta lt g7 g9 yc hlt lp yp nH mK hlp hp tz vG=>by
  have gz:=Same.new vG (.tup [.int bot,.ref lp]);exact qf tz lp yp _ (T7.trans (g7.trans (g9.trans (mK.trans gz)))) aq (gz _ _ hlp) (hp.same gz)
 have zI:=g6 _ _ FI;have hT6:=hT5.same g6;exists (),(),(),!hxA,rfl,(),();by_cases hw:r.ς.length<=N
 .refine .inr (.inr {_,ao.of hxS,?_,?_})
  .rw[HT.pH,HT.vC,aB];lia
  refine{xq,(),.inr (ao.of hxS),λl8 xZ=>?_};have g8:=Same.new xZ (.lst (r.ς.map V.int));refine fin _ l8 _ _ g8 (by rw[aq,oA hw]) λta lt H9 g9 yc hlt=>?_;refine{(),!yc,rfl,(),(),!yc,rfl,lr,lt,xs,l,us,rfl,g9 _ _ (g8 _ _ zI),(hT6.same g8).same g9,hlt,lus,⋯,λlp yp nH mK hlp hp=>?_};exact{(bG 2),λtz vG=>fin2 _ H9 l8 ta lt g8 g9 yc hlt lp yp nH mK hlp hp tz vG}
 .refine .inr (.inl {_,ao.of hxS,?_,λp3 hp3=>?_})
  .rw[HT.pH,HT.vC,aB];lia
  rw[zQ,<-uX];have g7:=Same.new hp3 (.tup ((r.ς.take N).map V.int));refine{p3,(),.inr (ao.of aq),λl8 xZ=>?_};have g8:=g7.trans (Same.new xZ (.lst ((r.ς.take N).map V.int)));refine fin _ l8 _ _ g8 aq λta lt H9 g9 yc hlt=>?_;refine{(),!yc,rfl,(),(),!yc,rfl,lr,lt,xs,l,us,rfl,g9 _ _ (g8 _ _ zI),(hT6.same g8).same g9,hlt,lus,⋯,λlp yp nH mK hlp hp=>?_};exact{(bG 2),λtz vG=>fin2 _ H9 l8 ta lt g8 g9 yc hlt lp yp nH mK hlp hp tz vG}
theorem aAH(F:Fn K mg "is_whole" XH ["thing"]):WV M:=by
 delta aBG
 intros i rfl q h;refine{_,(aJ (aF (aLq (eX Bw rfl B.nD boot_isinstance #[0,(yg rfl B.Bv boot_int)]) (PN (w4 (eX Bw rfl B.nD boot_isinstance #[0,(yg rfl B.aTx boot_bool)])))))),(),.int i,"int","int",rfl,rfl,by simp,(),eO ?_};exact{(),.int i,"bool","int",rfl,rfl,by simp,(),q}
theorem aNA(F:Fn K mg "is_by" Uy ["thing"])(CF:WV M)(DL:Vr M):Vb M:=by
 delta aIh
 intros b rfl h0 h1 hp q h;refine{_,#[(),(aV (PW.pt (lH (jF (iD (aC CF hr #[0]))) (qj (0>=(rC rfl B.fi):)))) (aJ (aF lF)) aW),(aF (vn (nQ (wD K hr) (0:) aP (pq _)) (PN (aC DL hr #[0]))))],(),b,rfl,(),bK ?_};exists (),"",();rw[decide_eq_false (⋯:¬b≥1000)];refine bK ?_;refine{(),(),cu (λc=>?_) (λc=>?_)}
 .exact q
 .have hb:b≠0:=dec_false c;obtain⟨n,rfl⟩:∃n:Nat,b=(n:Int):={b.toNat,⋯};refine{(),n,rfl,⋯,λz hz=>?_};rw[hz.mpr (by simpa using hp.resolve_left hb)];exact q
theorem ayZ(F:Fn K mg "is_number" Yc ["by","thing"])(CF:WV M):zv M:=by
 delta ayT
 intros b x rfl hn q h;refine{_,#[(),(aV (jF (iD (aC CF hr #[1]))) (aJ (aF lF)) aW),(aF (vn (nQ (wD K hr) (0:) aP (pq _)) (PN (axr A2 Pn aP (1:) (0:)))))],(),x,rfl,(),bK ?_};refine{(),(),cu (λc=>q) (λc=>?_)};obtain⟨h0,h1⟩:=hn.cases.resolve_left (dec_false c);exists (),"",();rw[decide_eq_true h0];refine eO {(),"",?_};rw[decide_eq_true h1];exact q
theorem aQw(F:Fn K mg "are_numbers" fE ["by","thing"])(hZ:zv M):zS M:=by
 delta aNq
 intros b p xs rfl hp hl hn q h;refine{_,#[(),(aV (PW.pt (lH (jF (iD (eX Bw rfl B.nD boot_isinstance #[1,(yg rfl B.j5 boot_tuple)]))) (qj ((cL K B.cJ #[1])>(rC rfl B.mE):)))) (aJ (aF lF)) aW),(aF (eX (YJ K rfl) rfl B.XS boot_all #[(fu (sc:=aJZ) (N:=["part","by"]) (ix:=[ν,ι 0]) cV rfl (d7 K (1:)) (λ_ _ _ _ _=>{(bH 0 cR),dg,(aC hZ hr #[1,0])}))]))],?_};have lX:(xs.map V.int).length=xs.length:=aB _;refine{(),.ref p,"tuple","tuple",rfl,by simp only[LZ,hp],by simp,(),bK ?_};exists (),.ref p,xs.length,rfl,.inr {_,ao.of hp,lX.symm},"",();rw[decide_eq_false (⋯:¬(xs.length:Int)>12)];refine bK {(),p,rfl,.inr {{_,ao.of hp},pI (xG (ao.of hp)) (by rw[lX];exact iR (fJ ⋯)) (rest:=[ι (.int b)]) rfl (λ_=>true) (λ_=>.bl true) ?_ ?_ ?_}}
 .intro H2 y g2 hy k hk;exact hk
 .intro H2 y g2 hy _ k hk;obtain⟨x,hx,rfl⟩:=bO.mp hy;exact{(),(),b,x,rfl,hn x hx,hk}
 .intro D hD;refine{D,xs.map λ_=>true,rfl,ak.of (by rw[aq,rT.mpr (by simp),dD,dD];rfl),?_};rw[show(xs.map λ_=>true).all id=true by simp];exact q _ (Same.new hD _)
theorem aBF(F:Fn K mg "is_row" nc ["thing"])(QK:zS M)(Eh:Vb M):Ta M:=by
 delta OL
 obtain⟨v,r,rfl,⟨a,p,p2,rfl,hA,hP,hS⟩,t,q⟩:=h;exists _,#[(),(aV (PW.pt (lH (jF (iD (eX Bw rfl B.nD boot_isinstance #[0,(yg rfl B.j5 boot_tuple)]))) (qj ((cL K B.cJ #[0])!=_:)))) (aJ (aF lF)) aW),(au 1 OL.nd (-0:)),(au 2 OL.nd (-0:)),(au 3 OL.nd (-0:)),(aV (PW.pt (lH (jF (iD (aC Eh hr #[1]))) (lH (jF (iD (aC QK hr #[1,2]))) (qj (jF (iD (aC QK hr #[1,3]))))))) (aJ (aF lF)) aW),(aF (nQ (wD K hr) (cL K B.cJ #[2]) (cL K B.cJ #[3]) (pq _)))];have hl:=t.len;have hs:=t.short;refine{(),.ref a,"tuple","tuple",rfl,by simp only[LZ,hA],by simp,(),bK ?_};refine{(),.ref a,3,rfl,.inr {_,ao.of hA,rfl},(),bK ?_};refine{(),!hA,rfl,(),!hA,rfl,(),!hA,rfl,(),r.b,rfl,t.jP,t.qZ,t.byp,(),bK ?_};refine{(),(),r.b,p,r.ρ,rfl,hP,hs,t.sH,λH1 g1=>{(),bK ?_}};refine{(),(),r.b,p2,r.ς,rfl,g1 _ _ hS,⋯,t.tZ,λH2 g2=>{(),bK ?_}};have dZ:=g1.trans g2;exists (),.ref p,r.ρ.length,rfl,.inr {_,ao.of (dZ _ _ hP),(aB _).symm},(),.ref p2,r.ς.length,rfl,.inr {_,ao.of (dZ _ _ hS),(aB _).symm};show Q (.bl (id (decide ((r.ρ.length:Int)=(r.ς.length:Int))))) H2;rw[hl,decide_eq_true rfl];exact q _ dZ
theorem aGl(F:Fn K mg "above_all_shown" Z6 []):CS M:=by
 delta az6
 intros rfl q h;exact{_,(aJ (aF (lZ vw (lZ vw (lZ vw aP aP) aP) aP))),"",{∅,∅},"",{∅,axS},"",{∅,aB8},q}
theorem ay4(F:Fn K mg "number_shown" a9 ["number"])(ib:CS M):xU M:=by
 delta aID
 intros n rfl hn q h;exists _,#[(),(aV ((eX Fe rfl B.DW boot_abs #[0])>=(aPO ib hr rfl):) (aJ jO) aW),(aF (dW (CV rfl) rfl B.nM boot_str #[0]))],(),n,rfl,rfl,"",();rw[QS];refine cu (λc=>?_) (λ_=>{(),n,rfl,p7 hn wH,q});have:=dec_true c;rw[aIS]at this;exact absurd (Int.ofNat_le.mp this) (Nat.not_le.mpr hn)
theorem aQz(F:Fn K mg "shown" iF ["row"])(gO:xU M):GY M:=by
 delta w8
 obtain⟨v,r,rfl,⟨a,p,p2,rfl,hA,hP,hQ⟩,t,q⟩:=h;refine{_,#[(),(nU (i:=1) (hN:=w8.nd) (hi':=rfl) (hx:=(jj rfl)) (sc:=aQQ) (N:=["number"]) (ix:=[ν]) cV rfl (d7 K (-0:)) (λ_ _ _ _ _=>{(bH 0 cR),dg,(aC gO hr #[0])})),(fY (nq K (1:) fR)),(fY (PX K (1:) (fu (sc:=aDA) (N:=["number"]) (ix:=[ν]) cV rfl (d7 K (-0:)) (λ_ _ _ _ _=>{(bH 0 cR),dg,(aC gO hr #[0])})))),(aV (-0!=_:) #[(),(fY (nq K (1:) fR)),(fY (nq K (1:) (dW Nx rfl B.nM boot_str #[-0])))] aW),(aF (oX K qO yE yq za fR (1:)))],?_};have hl:=t.l1;have hs:=t.l2;have hb:=And.intro t.jP t.qZ;refine{(),!hA,rfl,p,rfl,.inr {{_,ao.of hP},N9 hP ⋯ rfl ?_ ?_}}
 .intro H2 x g2 hx k hk;exact{(),x,rfl,t.f1 x hx,hk}
 intro D hD;have g1:=Same.new hD (.lst ((r.ρ.map aA).map V.str));have h1:(upd H D (.lst ((r.ρ.map aA).map V.str))) D=ι (.lst ((r.ρ.map aA).map V.str)):=aq;generalize upd H D (.lst ((r.ρ.map aA).map V.str))=H1 at g1 h1;refine{(),.inl {rfl,_,ak.of h1},D,"",h1,by rw[aB,aB];exact fJ ⋯,?_};have g2:=g1.upd hD (.lst ((r.ρ.map aA).map V.str++[.str (cP "|")]));have h2:(upd H1 D (.lst ((r.ρ.map aA).map V.str++[.str (cP "|")]))) D=ι (.lst ((r.ρ.map aA++[Tx.bar]).map V.str)):=by rw[aq,fH,Q6];rfl
 generalize upd H1 D (.lst ((r.ρ.map aA).map V.str++[.str (cP "|")]))=H2 at g2 h2;refine{(),.inl {rfl,_,ak.of h2},(),!(g2 _ _ hA),rfl,p2,rfl,.inr {{_,ao.of (g2 _ _ hQ)},N9 (g2 _ _ hQ) ⋯ rfl ?_ ?_}}
 .intro H3 x g3 hx k hk;exact{(),x,rfl,t.f2 x hx,hk}
 intro D2 hD2;have g3:=Same.new hD2 (.lst ((r.ς.map aA).map V.str));have h3:(upd H2 D2 (.lst ((r.ς.map aA).map V.str))) D2=ι (.lst ((r.ς.map aA).map V.str)):=aq;have h2':=g3 _ _ h2;generalize upd H2 D2 (.lst ((r.ς.map aA).map V.str))=H3 at g3 h3 h2';refine{D,D2,"",h2',h3,by rw[aB,aB,gk,aB,aB];exact iR (fJ (by show _+1+_<=1000;lia)),?_};have g4:=(g2.trans g3).upd hD (.lst ((r.ρ.map aA++[Tx.bar]).map V.str++(r.ς.map aA).map V.str));have h4:(upd H3 D (.lst ((r.ρ.map aA++[Tx.bar]).map V.str++(r.ς.map aA).map V.str))) D=ι (.lst ((r.ρ.map aA++Tx.bar::r.ς.map aA).map V.str)):=by rw[aq,<-fH,E3];rfl
 generalize upd H3 D (.lst ((r.ρ.map aA++[Tx.bar]).map V.str++(r.ς.map aA).map V.str))=H4 at g4 h4;have l4:((r.ρ.map aA++Tx.bar::r.ς.map aA).map V.str).length=r.ρ.length+(r.ς.length+1):=by rw[aB,gk,aB,j8,aB]
 exists (),!(g4 _ _ hA),rfl,();refine cu (λc=>?_) (λc=>?_)
 .have hb0:r.b>0:=by
   by_cases z:r.b=0
   .rw[z]at c;exact absurd c ∅
   .lia
  refine{(),.inl {rfl,_,ak.of h4},D,"",h4,by rw[l4];exact fJ ⋯,?_};have g5:=g4.upd hD (.lst ((r.ρ.map aA++Tx.bar::r.ς.map aA).map V.str++[.str (cP "by")]));have h5:(upd H4 D (.lst ((r.ρ.map aA++Tx.bar::r.ς.map aA).map V.str++[.str (cP "by")]))) D=ι (.lst ((r.ρ.map aA++Tx.bar::r.ς.map aA).map V.str++[.str qz])):=by rw[aq,dE]
  generalize upd H4 D (.lst ((r.ρ.map aA++Tx.bar::r.ς.map aA).map V.str++[.str (cP "by")]))=H5 at g5 h5;refine{(),.inl {rfl,_,ak.of h5},(),!(g5 _ _ hA),rfl,r.b,rfl,Rr (gJ (⋯:r.b.natAbs<1000) (by decide +kernel)),D,"",h5,by rw[gk,l4];exact fJ (by show _+1<=1000;lia),?_};refine{rfl,(),_,D,Tx.wordsOf r.b r.ρ r.ς,rfl,rfl,?_,?_,?_}
  .rw[aq,Tx.wordsOf,nC,if_pos hb0,E3];simp[aA]
  .rw[jG];exact t.join
  .rw[jG];exact q _ (g5.upd hD _)
 .have hb0:r.b=0:=by
   by_cases z:r.b=0
   .exact z
   .exact absurd (by rw[decide_eq_false z];rfl) c
  refine{rfl,(),_,D,Tx.wordsOf r.b r.ρ r.ς,rfl,rfl,?_,?_,?_}
  .rw[h4,Tx.wordsOf,nC,if_neg ⋯,rJ]
  .rw[jG];exact t.join
  .rw[jG];exact q _ g4
theorem aPj(F:Fn K mg "is_written" oS ["word"]):afE M:=by
 delta KI
 intros w rfl hw q h;refine{_,#[(),(au 1 KI.nd (SD (C2 (iD (oX K qO xt DE IF (0:) fR)) (jT R0 (0:) (jC aP) jZ) (0:)))),(aV (PW.pt (lH ((cL K B.cJ #[1])<_:) (qj ((cL K B.cJ #[1])>(rC rfl B.Xc):)))) (aJ (aF lF)) aW),(aV (jF (iD (eX (YJ K rfl) rfl B.XS boot_all #[(fu (sc:=aLX) (N:=["figure"]) (ix:=[ν]) cV rfl (Nl (1:)) (λ_ _ _ _ _=>{(bH 0 cR),dg,(nQ MC (0:) (GL rfl B.mv) (by with_unfolding_all rfl))}))]))) (aJ (aF lF)) aW),(aF (vn (nQ (wD K hr) (0:) fR (pq _)) (PN (w4 (oX K qO xt DE IF (1:) fR)))))],?_};have h100:(100000:Nat)<=sizeLine:=∅;have hwl:=Wr.len hw;obtain⟨c1,c2,hd,h0⟩:=(aKc w).mp hw;refine Bar.by (λv H1=>H1=H/\∃z:Str,v=.str z/\z.cps.toList=jE w) (λkk hkk=>?_) ?_
 .exists (),rfl,w,(),rfl,();rw[aNK,AM];refine cu (λc=>?_) (λc=>?_)
  .refine{(),(),w,rfl,⋯,hkk _ _ {rfl,(),?_}};unfold jE;rw[if_pos (dec_true c)];exact NH w 1
  .refine{(),hkk _ _ {rfl,w,rfl,?_}};unfold jE;rw[if_neg (dec_false c)]
 rintro v H1 ⟨rfl,z,rfl,hz⟩;have zl:z.length=(jE w).length:=by rw[<-hz];simp[vY]
 exists (),.str z,z.length,rfl,{⋯,rfl},"",();rw[decide_eq_false (⋯:¬(z.length:Int)<1)];refine bK {(),.str z,z.length,rfl,{⋯,rfl},"",(),?_};rw[decide_eq_false (⋯:¬(z.length:Int)>60)];refine bK {(),z,rfl,?_};refine pI OW (by rw[aB,hz];lia) rfl (λ_=>true) (λ_=>.bl true) ?_ ?_ ?_
 .intro H2 x g2 hx k hk;exact hk
 .intro H2 x g2 hx _ k hk;obtain⟨ch,hch,rfl⟩:=bO.mp hx;exists (),"";rw[af9,aA7,decide_eq_true (hd ch (hz▸hch))];exact hk
 intro D hD;refine{D,z.cps.toList.map λ_=>true,rfl,ak.of (by rw[aq,rT.mpr (by simp),dD,dD];rfl),?_};have gD:=Same.new hD (.lst (((z.cps.toList.map λc=>V.str {{([c])}}).filter λ_=>true).map λ_=>V.bl true));rw[show(z.cps.toList.map λ_=>true).all id=true by simp];refine{(),bK ?_};refine{(),(),cu (λc=>q _ gD) (λc=>?_)};exists (),rfl,z,(),rfl;rw[hz]at gD⊢;rw[afC,AM,hz,decide_eq_false (h0.resolve_left λy=>dec_false c (PySem.Str.ext' (OG.mp (by rw[y,afC];rfl))))];exact{(),q _ gD}
theorem aDt(F:Fn K mg "read_number" Vu ["word"])(ZL:afE M):Sd M:=by
 delta aLj
 intros w rfl hw q h;refine{_,#[(),(aV (jF (iD (aC ZL hr #[0]))) (aJ jO) aW),(aF (dW azF rfl B.Bv boot_int #[0]))],(),w,rfl,hw,λH1 g1=>{(),bK ?_}};have:=Wr.len hw;exact{(),w,(),hw.val.1,⋯,q H1 g1}
theorem avT(F:Fn K mg "read_prime" Wj ["word"])(uE:Sd M)(Eh:Vb M):ay M:=by
 delta DO
 intros w p rfl hw e hp hp1 q h;refine{_,#[(),(au 1 DO.nd (aC uE hr #[0])),(aV (PW.pt (lH (1==_:) (qj (jF (iD (aC Eh hr #[1])))))) (aJ jO) aW),(aF (1:))],(),w,rfl,hw,λH1 g1=>?_};have h2:=hp.1;rw[e];exists (),();rw[decide_eq_false (⋯:¬(p:Int)=0)];refine bK {(),(p:Int),rfl,⋯,⋯,.inr (by rw[dB];exact hp),(),bK ?_};exact{(),q H1 g1}
theorem aH3(F:Fn K mg "read_words" X6 ["rule_words","start_words","by"])(uE:Sd M)(kS:Ta M):Kx M:=by
 delta O2
 intros a1 a2 r rfl hA hB t q h;refine{_,#[(),(au 3 O2.nd (dW (mV K) rfl B.j5 boot_tuple #[(fu (sc:=aBf) (N:=["word"]) (ix:=[ν]) cV rfl (d7 K (0:)) (λ_ _ _ _ _=>{(bH 0 cR),dg,(aC uE hr #[0])}))])),(au 4 O2.nd (dW (mV K) rfl B.j5 boot_tuple #[(fu (sc:=aNP) (N:=["word"]) (ix:=[ν]) cV rfl (d7 K (1:)) (λ_ _ _ _ _=>{(bH 0 cR),dg,(aC uE hr #[0])}))])),(au 5 O2.nd (dG #[2,3,4])),(aV (jF (iD (aC kS hr #[5]))) (aJ jO) aW),(aF (5:))],?_};have hl:=t.len;have hs:=t.short;refine{(),a1,rfl,.inl {{_,ak.of hA},L0 hA ⋯ t.kY rfl (λH2 w hw k hk=>{(),w,rfl,hw,hk}) ?_}};intro D H1 hD g1 h1;refine{D,(),.inl {ak.of h1,λt1 ht1=>?_}};have g2:=Same.new ht1 (.tup (r.ρ.map V.int));have h2:(upd H1 t1 (.tup (r.ρ.map V.int))) t1=ι (.tup (r.ρ.map V.int)):=aq;generalize upd H1 t1 (.tup (r.ρ.map V.int))=H2 at g2 h2;have dZ:=g1.trans g2;refine{(),a2,rfl,.inl {{_,ak.of (dZ _ _ hB)},L0 (dZ _ _ hB) ⋯ t.jQ rfl (λH3 w hw k hk=>{(),w,rfl,hw,hk}) ?_}};intro D2 H3 hD2 g3 h3;refine{D2,(),.inl {ak.of h3,λt2 lY=>?_}};have g4:=Same.new lY (.tup (r.ς.map V.int));refine{(),(),(),(bG 3),λt3 Ah=>?_};have g5:=Same.new Ah (.tup [.int r.b,.ref t1,.ref t2]);have hR:cO (upd (upd H3 t2 (.tup (r.ς.map V.int))) t3 (.tup [.int r.b,.ref t1,.ref t2])) (.ref t3) r:={t3,t1,t2,rfl,aq,(g3.trans (g4.trans g5)) _ _ h2,g5 _ _ aq};have gA:=dZ.trans (g3.trans (g4.trans g5));generalize upd (upd H3 t2 (.tup (r.ς.map V.int))) t3 (.tup [.int r.b,.ref t1,.ref t2])=H5 at hR gA;exact{(),_,r,rfl,hR,t,λH6 g6=>{(),bK {(),q _ H6 (gA.trans g6) (hR.same g6)}}}
theorem aF5(F:Fn K mg "read" uA ["text"])(Q0:Kx M)(C4:ay M):Fh M:=by
 delta Ke
 intros r rfl t q h;exists _,#[(),(aV (jF (iD (eX Bw rfl B.nD boot_isinstance #[0,(yg rfl B.nM boot_str)]))) (aJ jO) aW),(au 1 Ke.nd (oX K qO Na xo FG (0:) fR)),(aV ((oX K RB PySem.F.slot_list_count PySem.F.type_list_count aSo (1:) fR)!=_:) (aJ jO) aW),(au 2 Ke.nd (oX K RB PySem.F.slot_list_index PySem.F.type_list_index awk (1:) fR)),(au 3 Ke.nd (jT (m6 K) (1:) (jC (2+_:)) jZ)),(au 4 Ke.nd ((cL K B.cJ #[3])-_:)),(aV (PW.pt (vK (4>=_:) (yX ((aK K (3:) (4:))=="":)))) (aJ (aF (aC Q0 hr #[(jT (m6 K) (1:) jZ (jC (2:))),(jT (m6 K) (3:) jZ (jC (4:))),(aC C4 hr #[(aK K (3:) (4+_:))])]))) aW),(aF (aC Q0 hr #[(jT (m6 K) (1:) jZ (jC (2:))),3,_]))];have hl:=t.len;have hs:=t.short;have b0:=t.jP;have tl:=t.SM;refine{(),.str (txt r),"str","str",rfl,rfl,by simp,(),bK ?_};refine{(),rfl,txt r,(),rfl,by rw[jG];rfl,⋯,λD hD=>?_};rw[jG,aQx];have g1:=Same.new hD (.lst ((Tx.wordsOf r.b r.ρ r.ς).map V.str));have h1:(upd H D (.lst ((Tx.wordsOf r.b r.ρ r.ς).map V.str))) D=ι (.lst ((Tx.wordsOf r.b r.ρ r.ς).map V.str)):=aq;generalize upd H D (.lst ((Tx.wordsOf r.b r.ρ r.ς).map V.str))=H1 at g1 h1;have hc:=axv r.b r.ρ r.ς;have ht:=aMr r.b r.ρ r.ς;have hdp:=aDI r.b r.ρ r.ς;obtain⟨j,hj,hno⟩:=aN8 hc;have ej:=aK9 hj;generalize Tx.wordsOf r.b r.ρ r.ς=ws at h1 hc ht hdp hj hno;exists (),.inl {rfl,_,ak.of h1},D,ws,(),rfl,h1,();rw[Q6,hc];refine bK ?_;refine{(),.inl {rfl,_,ak.of h1},D,ws,_,j,rfl,rfl,h1,hj,hno,(),(),(),.inl {_,ak.of h1,λD2 hD2=>?_}};have G7:fO (ws.map V.str) (ι ((j:Int)+1)) ν=(r.ς.map aA++nC r.b).map V.str:=by rw[aN6,ej,<-Vo,hdp]
 have eA:fO (ws.map V.str) ν (ι (j:Int))=(r.ρ.map aA).map V.str:=by rw[zQ,ej,<-uX,ht]
 rw[G7];have g2:=Same.new hD2 (.lst ((r.ς.map aA++nC r.b).map V.str));have h2:(upd H1 D2 (.lst ((r.ς.map aA++nC r.b).map V.str))) D2=ι (.lst ((r.ς.map aA++nC r.b).map V.str)):=aq;have h1':=g2 _ _ h1;generalize upd H1 D2 (.lst ((r.ς.map aA++nC r.b).map V.str))=H2 at g2 h2 h1';have dZ:=g1.trans g2;generalize hbh:r.ς.map aA++nC r.b=bh at h2;have lb:(bh.map V.str).length=bh.length:=aB _;exists (),.ref D2,bh.length,rfl,.inl {_,ak.of h2,lb.symm},"";by_cases c0:r.b>0
 .have Bq:bh=r.ς.map aA++[qz,aA r.b]:=by rw[<-hbh,nC,if_pos c0]
  have lbh:bh.length=r.ς.length+2:=by rw[Bq,gk,aB];rfl
  have x1:bh[bh.length-2]?=ι qz:=by rw[lbh,Bq,List.getElem?_append_right (by rw[aB];lia),aB,jY,Aj];rfl
  have x2:bh[bh.length-1]?=ι (aA r.b):=by rw[lbh,Bq,List.getElem?_append_right (by rw[aB];lia),aB,(⋯:r.ς.length+2-1-r.ς.length=1)];rfl
  have eB:fO (bh.map V.str) ν (ι ((bh.length:Int)-2))=(r.ς.map aA).map V.str:=by
   rw[(⋯:(bh.length:Int)-2=((r.ς.length:Nat):Int)),zQ,Bq,<-uX,Uq (by rw[aB];exact aZ _),oA (by rw[aB];exact aZ _)]
  exists (),"",();rw[decide_eq_true (⋯:(bh.length:Int)-2≥0)];refine eO {(),(),_,.str qz,.inl (ak.of h2),tW (bh.length-2) ⋯ (by rw[List.getElem?_map,x1];rfl),(),?_};rw[dE,decide_eq_true rfl];refine eO {(),(),(),.inl {_,ak.of h1',λD3 yN=>?_}};rw[eA];have g3:=Same.new yN (.lst ((r.ρ.map aA).map V.str));have h3:(upd H2 D3 (.lst ((r.ρ.map aA).map V.str))) D3=ι (.lst ((r.ρ.map aA).map V.str)):=aq;have h2':=g3 _ _ h2;generalize upd H2 D3 (.lst ((r.ρ.map aA).map V.str))=H3 at g3 h3 h2';refine{(),(),(),.inl {_,ak.of h2',λD4 Bp=>?_}};rw[eB];have g4:=Same.new Bp (.lst ((r.ς.map aA).map V.str));have h4:(upd H3 D4 (.lst ((r.ς.map aA).map V.str))) D4=ι (.lst ((r.ς.map aA).map V.str)):=aq;have h3':=g4 _ _ h3;have wy:=g4 _ _ h2';generalize upd H3 D4 (.lst ((r.ς.map aA).map V.str))=H4 at g4 h4 h3' wy;have EA:=dZ.trans (g3.trans g4);have hp:=t.byp.resolve_left ⋯;have b1:=t.qZ;refine{(),(),_,.str (aA r.b),.inl (ak.of wy),tW (bh.length-1) ⋯ (by rw[List.getElem?_map,x2];rfl),_,r.b.toNat,rfl,RG t.VQ,by rw[r8 t.VQ];lia,hp,⋯,λH5 g5=>?_};exact{D3,D4,r,by rw[Kv b0];rfl,g5 _ _ h3',g5 _ _ h4,t,λv H6 g6 hR=>q v H6 (EA.trans (g5.trans g6)) hR}
 .have e0:r.b=0:=⋯;have Bq:bh=r.ς.map aA:=by rw[<-hbh,nC,if_neg c0,rJ]
  have fin:∀H3 D3,Same H2 H3->H3 D3=ι (.lst ((r.ρ.map aA).map V.str))->zd [.ref D3,.ref D2,.int 0] H3 Q E0:=λH3 D3 g3 h3=>
   {D3,D2,r,by rw[e0],h3,by rw[<-Bq];exact g3 _ _ h2,t,λv H4 g4 hR=>q v H4 (dZ.trans (g3.trans g4)) hR}
  refine{(),"",(),cu (λc=>?_) (λc=>?_)}
  .have h2l:2<=bh.length:=by have:=dec_true c;lia
   have hx:(bh.map V.str)[bh.length-2]?=ι (.str bh[bh.length-2]):=by rw[List.getElem?_map,List.getElem?_eq_getElem ⋯];rfl
   exists (),(),¬h2,tW (bh.length-2) ⋯ hx,();rw[dE];refine cu (λc2=>?_) (λc2=>?_)
   .have:bh[bh.length-2]=qz:=dec_true c2;exact absurd (by rw[<-this,<-Bq];exact sE _) (aPW (ρ:=r.ς))
   .refine{(),(),(),.inl {_,ak.of h1',λD3 yN=>?_}};rw[eA];exact{(),fin _ D3 (Same.new yN _) aq}
  .refine{(),(),(),.inl {_,ak.of h1',λD3 yN=>?_}};rw[eA];exact{(),fin _ D3 (Same.new yN _) aq}
theorem axc(F:Fn K mg "numbers_shown" az ["numbers"])(gO:xU M):Sw M:=by
 delta aBN
 intros l ns rfl hl hz hf q h;refine{_,(aJ (aF (oX K qO yE yq za fR (fu (sc:=aNC) (N:=["number"]) (ix:=[ν]) cV rfl (d7 K (0:)) (λ_ _ _ _ _=>{(bH 0 cR),dg,(aC gO hr #[0])}))))),?_};refine{rfl,(),NQ hl hz rfl ?_ ?_}
 .intro H' x g hx k hk;exact{(),x,rfl,hf x hx,hk}
 .intro D H' hD g h';refine{_,D,(),rfl,h',by rw[jG];exact De hf hz,?_};rw[jG];exact q H' g
theorem aJy(F:Fn K mg "words_of" ZP ["text"]):IP M:=by
 delta BC
 obtain⟨t,ws,rfl,⟨hl,hs⟩,q⟩:=h;refine{_,#[(),(aV (jF (iD (eX Bw rfl B.nD boot_isinstance #[0,(yg rfl B.nM boot_str)]))) (aJ jO) aW),(au 1 BC.nd (oX K qO Na xo FG (0:) fR)),(aV (PW.pt (vK (-1=="":) (yX ((cL K B.cJ #[1])>_:)))) (aJ (aF ((jT (m6 K) (1:) jZ (jC aP))+(dI #[(oX K qO yE yq za fR (jT (m6 K) (1:) (jC aP) jZ))]):))) aW),(aF (1:))],(),.str t,"str","str",rfl,rfl,by simp,(),bK ?_};refine{(),rfl,t,(),rfl,by rw[jG];rfl,⋯,λD hD=>?_};rw[jG];generalize eo:QJ t (Tx.one 32)=os at hs;have g1:=Same.new hD (.lst (os.map V.str));have h1:(upd H D (.lst (os.map V.str))) D=ι (.lst (os.map V.str)):=aq;generalize upd H D (.lst (os.map V.str))=H1 at g1 h1;rcases hs with⟨rfl,w,r,rfl,hw⟩|⟨n,r,hr8,rfl,rfl⟩
 .exists (),¬h1,at0,();rw[decide_eq_false hw];exact bK {(),q D H1 g1 h1}
 .exists (),¬h1,at0,();rw[decide_eq_true rfl];have hne:(Tx.wordsOf r.b r.ρ r.ς).length≠0:=λz=>WH (List.length_eq_zero_iff.mp z);refine eO {(),.ref D,(qI::n::Tx.wordsOf r.b r.ρ r.ς).length,rfl,.inl {_,ak.of h1,(aB _).symm},"",(),?_};rw[decide_eq_true (by show(((Tx.wordsOf r.b r.ρ r.ς).length+1+1:Nat):Int)>2;lia)];refine eO ?_;refine{(),(),.inl {_,ak.of h1,λD2 hD2=>?_}};have e2:fO ((qI::n::Tx.wordsOf r.b r.ρ r.ς).map V.str) ν (ι 2)=[qI,n].map V.str:=zQ _ 2;rw[e2];have g2:=Same.new hD2 (.lst ([qI,n].map V.str));have h2:(upd H1 D2 (.lst ([qI,n].map V.str))) D2=ι (.lst ([qI,n].map V.str)):=aq;have h1':=g2 _ _ h1;generalize upd H1 D2 (.lst ([qI,n].map V.str))=H2 at g2 h2 h1';refine{rfl,(),(),.inl {_,ak.of h1',λD3 yN=>?_}};have e3:fO ((qI::n::Tx.wordsOf r.b r.ρ r.ς).map V.str) (ι 2) ν=(Tx.wordsOf r.b r.ρ r.ς).map V.str:=cy _ 2;rw[e3];exists _,D3,Tx.wordsOf r.b r.ρ r.ς,rfl,rfl,aq,hr8.join;have g3:=Same.new yN (.lst ((Tx.wordsOf r.b r.ρ r.ς).map V.str));have h2':=g3 _ _ h2;generalize upd H2 D3 (.lst ((Tx.wordsOf r.b r.ρ r.ς).map V.str))=H3 at g3 h2';refine{(bG 1),λD4 Bp=>?_};have g4:=Same.new Bp (.lst [.str (txt r)]);refine .inl {_,[.str (txt r)],g4 _ _ h2',aq,(bG 3),λD5 hD5=>?_};exact q D5 _ (g1.trans (g2.trans (g3.trans (g4.trans (Same.new hD5 _))))) aq
theorem aTE(F:Fn K mg "kinds_of" nI ["words"]):yT M:=by
 delta il
 intros l w ws k0 rfl hl hm hw hn h10 q h;refine{_,#[(),(aV (tQ (aAq D.af3 K rfl (-0:))) (aJ jO) aW),(au 1 il.nd (aEs D.af3 K rfl (-0:) (λ_ _=>rfl))),(au 2 il.nd ((cL K B.cJ #[0])-_:)),(aV (PW.pt (vK (-0=="":) (yX (avx Pn Pn (cL K B.cJ #[1]) (2:) ((cL K B.cJ #[1])+(rC rfl B.VD):))))) (aJ jO) aW),(aV (2!=(cL K B.cJ #[1]):) (aJ jO) aW),(aF (1:))],?_};obtain⟨t,et,ht⟩:=D.aMW.at_ _ hm;have lw:((w::ws).map V.str).length=ws.length+1:=aB _;refine{(),¬hl,at0,_,(),et,(),bK ?_};exists (),¬hl,at0,_,(),et,(),.ref l,ws.length+1,rfl,.inl {_,ak.of hl,lw.symm},"";rw[(⋯:((ws.length+1:Nat):Int)-1=(ws.length:Int))];exists (),¬hl,at0,();rw[decide_eq_false hw];refine bK (bK ?_);exists (),(),.ref t,k0.length,rfl,.inr {_,ht H,(aB _).symm},();rw[hn,decide_eq_true rfl];exact bK {(),q t H (Same.refl _) (ht H)}
theorem aJr(F:Fn K mg "read_name" Ys ["word"]):sr M:=by
 delta aGd
 obtain⟨s,rfl,⟨lo,hi,hd⟩,q⟩:=h;refine{_,#[(),(aV (PW.pt (lH ((cL K B.cJ #[0])<_:) (lH ((cL K B.cJ #[0])>(rC rfl B.UQ):) (qj (jF (iD (eX (YJ K rfl) rfl B.XS boot_all #[(fu (sc:=aTJ) (N:=["sign"]) (ix:=[ν]) cV rfl (Nl (0:)) (λ_ _ _ _ _=>{(bH 0 cR),dg,(nQ MC (0:) (GL rfl B.me) (by with_unfolding_all rfl))}))]))))))) (aJ jO) aW),(aF (0:))],?_};have h100:(100000:Nat)<=sizeLine:=∅;exists (),.str s,s.length,rfl,{⋯,rfl},"",();rw[decide_eq_false (⋯:¬(s.length:Int)<1)];refine bK {(),.str s,s.length,rfl,{⋯,rfl},"",(),?_};rw[decide_eq_false (⋯:¬(s.length:Int)>8)];have zl:s.cps.toList.length=s.length:=by simp[vY]
 refine bK {(),s,rfl,?_};refine pI OW (by rw[aB];lia) rfl (λ_=>true) (λ_=>.bl true) ?_ ?_ ?_
 .intro H2 x g2 hx k hk;exact hk
 .intro H2 x g2 hx _ k hk;obtain⟨ch,hch,rfl⟩:=bO.mp hx;exists (),"";rw[af9,CO,decide_eq_true (hd ch hch)];exact hk
 intro D' hD;refine{D',s.cps.toList.map λ_=>true,rfl,ak.of (by rw[aq,rT.mpr (by simp),dD,dD];rfl),?_};have gD:=Same.new hD (.lst (((s.cps.toList.map λc=>V.str {{([c])}}).filter λ_=>true).map λ_=>V.bl true));rw[show(s.cps.toList.map λ_=>true).all id=true by simp];exact{(),bK {(),q _ gD}}
theorem aCq(F:Fn K mg "row_named" bE ["kept","word"])(Dh:sr M):X1 M:=by
 delta NY
 intros d s M' N r rfl hs hk hm q h;refine{_,#[(),(au 2 NY.nd (aC Dh hr #[1])),(aV (tQ (YU hr.hu (2:) (0:))) (aJ jO) aW),(aF (uf hr.hu (0:) (2:) (λ_ _=>rfl)))],?_};refine{(),s,rfl,hs,λH1 g1=>?_};obtain⟨v,hg,hR⟩:=(hk.same g1).get hm;refine{(),(),d,(),hg,(),bK ?_};exact{(),(),d,v,rfl,hg,q v H1 g1 hR}
theorem aCe(F:Fn K mg "read_word" nE ["kept","kind","word"])(Dh:sr M)(Ze:X1 M)(uE:Sd M)(C4:ay M)(cp:Fh M):GO M:=by
 delta aOW
 intros d x M' N rfl ok hk q h;exists _,#[(),(aV (1=="":) (aJ (aF (aC Dh hr #[2]))) aW),(aV (1=="":) (aJ (aF (aC Ze hr #[0,2]))) aW),(aV (1=="":) (aJ (aF (aC uE hr #[2]))) aW),(aV (1=="":) (aJ (aF (aC C4 hr #[2]))) aW),(aF (aC cp hr #[2]))],(),();cases x with
 |nw s=>
  rw[show decide (Wa.kind (.nw s) = "NEW")=true from decide_eq_true rfl];exact eO {(),s,rfl,ok,λH1 g1=>q _ H1 g1 rfl}
 |a s r=>
  rw[show decide (Wa.kind (.a s r) = "NEW")=false from decide_eq_false sAN];refine bK {(),(),?_};rw[show decide (Wa.kind (.a s r) = "A")=true from decide_eq_true rfl];exact eO {(),(),d,s,M',N,r,rfl,ok.1,hk,ok.2,q}
 |num i=>
  rw[show decide (Wa.kind (.num i) = "NEW")=false from decide_eq_false sUN];refine bK {(),(),?_};rw[show decide (Wa.kind (.num i) = "A")=false from decide_eq_false sUA];refine bK {(),(),?_};rw[show decide (Wa.kind (.num i) = "NUMBER")=true from decide_eq_true rfl];refine eO {(),(),RG ok,λH1 g1=>?_};rw[show pU (Wa.num i).word=i from r8 ok];exact q _ H1 g1 rfl
 |txt r=>
  rw[show decide (Wa.kind (.txt r) = "NEW")=false from decide_eq_false sTN];refine bK {(),(),?_};rw[show decide (Wa.kind (.txt r) = "A")=false from decide_eq_false sTA];refine bK {(),(),?_};rw[show decide (Wa.kind (.txt r) = "NUMBER")=false from decide_eq_false sTU];refine bK {(),(),?_};rw[show decide (Wa.kind (.txt r) = "BY")=false from decide_eq_false sTB];exact bK {(),r,rfl,ok,q}
theorem aK2(F:vO K cY "__init__" "Desk.__init__" VZ ["self"]):BA P w K mg base cY:=by
 refine F.cal aE6 (λvs H Q E h=>?_) (λ_ _ _ _ _ H _ Q E hr h=>?_)
 .intros p dx rfl _ h;rfl
 .intros p dx rfl hp q h;exists _,(aJ (aQy (0:) PU rfl));intro d hd;have npd:p≠d:=jz hp hd;refine{(),p,cY,dx,[],rfl,by rw[cH npd];exact hp,D.Ij.cl,D.V1,(by show 0<1000;decide),?_};refine q d _ hd {{dx,(aq)},gR.none_ (by rw[cH npd.symm,aq])} λb o e hb=>?_;rw[cH hb,cH (jz e hd)];exact e
theorem ax0(F:Fn K mg "tell_show" Z0 ["said"])(qH:GY M):PM M:=by
 delta aA2
 intros k was o l xs rfl hw hl hp ok q h;obtain rfl:=vo (k':=.gW) hw;exists _,(aJ (aF (aC qH hr #[-0])));cases ok with
 |@gW s r h1=>
  obtain⟨v,_,rfl,hR,hp⟩:=jy hp;exact{(),_,v,.inl (ak.of hl),at0,v,r,rfl,hR,h1.tq ∅,q}
theorem aKh(F:Fn K mg "tell_places" UC ["said"])(xg:Sw M)(Dl:YQ M):OR M:=by
 delta aO8 aO8
 intros k was o l xs rfl hw hl hp ok q h;obtain rfl:=vo (k':=.places) hw;exists _,(aJ (aF (aC xg hr #[(gj Dl hr rfl #[-0,-0])])));cases ok with
 |@places s r x h1=>
  obtain⟨v,_,rfl,hR,hp⟩:=jy hp;obtain⟨v2,_,rfl,rfl,hp⟩:=jy hp;unfold Gv at q;refine{(),_,v,.inl (ak.of hl),at0,(),¬hl,at1,v,r,x,480,rfl,hR,h1,∅,λz l1 H1 g1 _ hl1=>?_,λz=>by rw[if_neg z]at q;exact q};rw[if_pos z]at q;exact{l1,(),.inl hl1,by rw[Rw.m7];lia,h1.zr ∅ ⋯,λH2 g2=>q H2 (g1.trans g2)}
theorem aPq(F:Fn K mg "tell_at" XD ["said"])(gO:xU M)(Cv:kD M):DU M:=by
 delta aPK aPK
 intros k was o l xs rfl hw hl hp ok q h;obtain rfl:=vo (k':=.at_) hw;exists _,(aJ (aF (aC gO hr #[(gj Cv hr rfl #[-0,-0])])));cases ok with
 |@at_ s r x h1 hx hb=>
  obtain⟨v,_,rfl,hR,hp⟩:=jy hp;obtain⟨v2,_,rfl,rfl,hp⟩:=jy hp;unfold Hr at q;refine{(),_,v,.inl (ak.of hl),at0,(),¬hl,at1,v,r,x,480,rfl,hR,h1,∅,hb,λz=>by rw[if_neg z]at q;exact q,λz H1 g1=>?_};rw[if_pos z]at q;exact{(),h1.few ∅ (λe=>by have:=hx e;lia),q H1 g1}
theorem aCF(F:Fn K mg "tell_part" iL ["said"])(Fj:WT M)(gO:xU M):IS M:=by
 delta af af
 intros k was o l xs rfl hw hl hp ok q h;obtain rfl:=vo (k':=.part) hw;exists _,#[(),(au 1 af.nd (gj Fj hr rfl #[-0,-0])),(aF (C2 (tQ (Ar (1:))) fR (aC gO hr #[1])))];cases ok with
 |@part s t r u h1 h2=>
  obtain⟨v,_,rfl,hR,hp⟩:=jy hp;obtain⟨v2,_,rfl,oG,hp⟩:=jy hp;unfold JQ at q;refine{(),_,v,.inl (ak.of hl),at0,(),¬hl,at1,v,v2,r,u,480,rfl,hR,oG,h1,h2,∅,λz H1 g1=>?_,λz=>by rw[if_neg z]at q;exact q};rw[if_pos z]at q;have q:=q H1 g1;have few:=λn=>Dx (r:=r) (s:=u) (n:=n) (by have:=h1.wf.l4;have:=h2.wf.l4;lia);generalize Br r u=o at q few;cases o with
  |none=>exact{(),(),eO q}
  |some n=>exact{(),(),bK {(),(),few n rfl,q}}
theorem aGE(F:Fn K mg "tell_round" vt ["said"])(xg:Sw M)(CY:Yr M):OE M:=by
 delta aEd aEd
 intros k was o l xs rfl hw hl hp ok q h;obtain rfl:=vo (k':=.round) hw;exists _,(aJ (aF (aC xg hr #[(gj CY hr rfl #[-0])])));cases ok with
 |@round s r h1=>
  obtain⟨v,_,rfl,hR,hp⟩:=jy hp;refine{(),_,v,.inl (ak.of hl),at0,v,r,480,rfl,hR,h1,∅,Nt q λq p H1 g1 hp1 hz=>?_};exact{p,[_,_],rfl,.inr hp1,(by show 2<=1000;decide),OC hz,λH2 g2=>q H2 (g1.trans g2)}
theorem aAN(F:Fn K mg "tell_where" gv ["said"])(Cm:ZV M)(cN:lG M)(gO:xU M):Sz M:=by
 delta ZQ ZQ
 intros k was o l xs rfl hw hl hp ok q h;obtain rfl:=vo (k':=.where_) hw;refine{_,#[(),(au 1 ZQ.nd (gj Cm hr rfl #[-0,(aC cN hr #[(aK K (-0:) aP),-0])])),(nU (i:=2) (hN:=ZQ.nd) (hi':=rfl) (hx:=(jj rfl)) (sc:=aTX) (N:=["n"]) (ix:=[ν]) cV rfl (d7 K (-1:)) (λ_ _ _ _ _=>{(bH 0 cR),dg,(aC gO hr #[0])})),(fY (nq K (2:) fR)),(fY (PX K (2:) (fu (sc:=aCt) (N:=["n"]) (ix:=[ν]) cV rfl (d7 K (-1:)) (λ_ _ _ _ _=>{(bH 0 cR),dg,(aC gO hr #[0])})))),(fY (nq K (2:) fR)),(fY (nq K (2:) (aC gO hr #[-1]))),(aF (oX K qO yE yq za fR (2:)))],?_};cases ok with
 |@where_ s r x h1=>
  obtain⟨v,_,rfl,hR,hp⟩:=jy hp;obtain⟨v2,_,rfl,rfl,hp⟩:=jy hp;obtain⟨a,p1,p2,rfl,hA,_⟩:=id hR;refine{(),¬hl,at0,(),¬hl,at0,!hA,rfl,(),¬hl,at1,_,(),h1.wf.hB.lo,.ref a,r,_,480,rfl,hR,h1,∅,Nt q λq p le ls H1 g1 hp1 he hs hz=>?_};unfold En at q;have f1:=Ou (p:=jA (sh r).at (tk r.b x)) (lo:=0) (n:=(eE (sh r)).1) ⋯;have f2:=Ou (p:=jA (sh r).at (tk r.b x)) (lo:=(eE (sh r)).1) (n:=(eE (sh r)).2) ⋯;have l1:=R3 (jA (sh r).at (tk r.b x)) 0 (eE (sh r)).1;have l2:=R3 (jA (sh r).at (tk r.b x)) (eE (sh r)).1 (eE (sh r)).2;have f3:dJ ((eE (sh r)).2:Int):=Bu ⋯;generalize jR (jA (sh r).at (tk r.b x)) 0 (eE (sh r)).1=es at q f1 l1 he;generalize jR (jA (sh r).at (tk r.b x)) (eE (sh r)).1 (eE (sh r)).2=ss at q f2 l2 hs;have jo:=avA f1 f2 f3 ⋯;generalize (eE (sh r)).2=n at *;refine{(),!hp1,rfl,NQ (.inl he) ⋯ rfl ?_ ?_}
  .intro H' y g hy k hk;exact{(),y,rfl,f1 y hy,hk}
  intro D2 H2 hD2 g2 h2;have dZ:=g1.trans g2;have fD:H D2=ν:=g1.free hD2;refine{(),.inl {rfl,_,ak.of h2},D2,"",h2,by rw[aB,aB];exact fJ ⋯,?_};have g3:=dZ.upd fD (.lst ((es.map aA).map V.str++[.str (cP "|")]));have s3:=g2.upd hD2 (.lst ((es.map aA).map V.str++[.str (cP "|")]));have h3:(upd H2 D2 (.lst ((es.map aA).map V.str++[.str (cP "|")]))) D2=ι (.lst ((es.map aA++[Tx.bar]).map V.str)):=by rw[aq,fH,Q6];rfl
  generalize upd H2 D2 (.lst ((es.map aA).map V.str++[.str (cP "|")]))=H3 at g3 h3 s3;refine{(),.inl {rfl,_,ak.of h3},(),!(s3 _ _ hp1),rfl,NQ (.inl (s3 _ _ hs)) ⋯ rfl ?_ ?_}
  .intro H' y g hy k hk;exact{(),y,rfl,f2 y hy,hk}
  intro D4 H4 Bp g4 h4;have h34:=g4 _ _ h3;have lz:((es.map aA++[Tx.bar]).map V.str).length+((ss.map aA).map V.str).length<=1001:=by simp;lia
  exists D2,D4,"",h34,h4,cM lz ∅;have g5:=(g3.trans g4).upd fD (.lst ((es.map aA++[Tx.bar]).map V.str++(ss.map aA).map V.str));have s5:=(s3.trans g4).upd hD2 (.lst ((es.map aA++[Tx.bar]).map V.str++(ss.map aA).map V.str));have h5:(upd H4 D2 (.lst ((es.map aA++[Tx.bar]).map V.str++(ss.map aA).map V.str))) D2=ι (.lst ((es.map aA++Tx.bar::ss.map aA).map V.str)):=by rw[aq,<-fH,E3];rfl
  generalize upd H4 D2 (.lst ((es.map aA++[Tx.bar]).map V.str++(ss.map aA).map V.str))=H5 at g5 h5 s5;have l5:((es.map aA++Tx.bar::ss.map aA).map V.str).length<=1001:=by simp;lia
  exists (),.inl {rfl,_,ak.of h5},D2,"",h5,qU l5 ∅;have g6:=g5.upd fD (.lst ((es.map aA++Tx.bar::ss.map aA).map V.str++[.str (cP "|")]));have s6:=s5.upd hD2 (.lst ((es.map aA++Tx.bar::ss.map aA).map V.str++[.str (cP "|")]));have h6:(upd H5 D2 (.lst ((es.map aA++Tx.bar::ss.map aA).map V.str++[.str (cP "|")]))) D2=ι (.lst ((es.map aA++Tx.bar::(ss.map aA++[Tx.bar])).map V.str)):=by rw[aq,Q6];simp
  generalize upd H5 D2 (.lst ((es.map aA++Tx.bar::ss.map aA).map V.str++[.str (cP "|")]))=H6 at g6 h6 s6;have l6:((es.map aA++Tx.bar::(ss.map aA++[Tx.bar])).map V.str).length<=1002:=by simp;lia
  refine{(),.inl {rfl,_,ak.of h6},(),!(s6 _ _ hp1),rfl,(),f3,D2,"",h6,qU l6 ∅,rfl,(),_,D2,(),rfl,by rw[aq];exact congrArg (λz=>ι (HO.lst z)) (show _=(es.map aA++Tx.bar::(ss.map aA++[Tx.bar,aA (n:Int)])).map V.str by simp),by rw[jG];exact jo,?_};rw[jG];exact q _ (g6.upd fD _)
theorem aIw(F:Fn K mg "tell_closed" XI ["said"])(Cz:kz M)(gO:xU M)(xg:Sw M):KO M:=by
 delta ae ae
 intros k was o l xs rfl hw hl hp ok q h;obtain rfl:=vo (k':=.closed) hw;refine{_,#[(),(au 1 ae.nd (gj Cz hr rfl #[-0])),(aV (tQ (Ar (1:))) (aJ (aF fR)) aW),(au 2 ae.nd (dI #[(aC gO hr #[-1])])),(fY (PX K (2:) (fu (sc:=aIF) (N:=["part"]) (ix:=[ν]) cV rfl (d7 K (-1:)) (λ_ _ _ _ _=>{(bH 0 cR),dg,((aC gO hr #[-0])+""+(aC xg hr #[-0]):)})))),(aF (oX K qO yE yq za fR (2:)))],?_};cases ok with
 |@closed s r h1=>
  obtain⟨v,_,rfl,hR,hp⟩:=jy hp;refine{(),_,v,.inl (ak.of hl),at0,GW h1 hR q (λ_ _ q H1 g1=>?_) λbot ps ok q t lp ys H1 g1 ht hlp hy=>?_}
  .exact{(),(),eO (q H1 g1)}
  intros f1 f2 ok.few;have h4:=ok.2.1;have jo:=aH0 ok;refine{(),(),bK ?_};refine{(),!ht,rfl,(),f1,(bG 1),λD hD=>?_};obtain⟨H2,uu,g2,h2⟩:=nw hD (.lst [.str (aA bot)]);rw[uu];obtain⟨ts,e1,e2,hts⟩:=hy.same g2;have ym:H2 lp=ι (.lst (ts.map λq=>V.ref q.1)):=by rw[<-e1];exact g2 _ _ hlp
  have lt:ts.length=ps.length:=by rw[e2,aB]
  refine{(),.inl {rfl,_,ak.of h2},(),!(g2 _ _ ht),rfl,lp,rfl,.inl {{_,ak.of ym},OV (ou (ak.of ym)) ⋯ rfl (λq=>.str (zf q.2.2)) ?_ ?_}}
  .intro H3 z g3 hz k hk;obtain⟨z1,z2⟩:=hts z hz;have z1:=g3 _ _ z1;have fz:=f2 z.2.2 (by rw[e2];exact List.mem_map_of_mem (f:=λq:Addr×Addr×Int×ζ=>q.2.2) hz);have l1:=fz.1.len;have l2:=Mv fz.2.2 fz.2.1;refine{(),!z1,rfl,(),fz.1,by rw[rH.1];exact cM (⋯:_<=10000) ∅,(),_,_,.inr (ao.of z1),rfl,z.2.1,z.2.2.2,rfl,.inl (g3 _ _ z2),by have:=fz.2.1;lia,fz.2.2,λH4 g4=>?_};exact{by rw[dU,rH.1];exact cM (⋯:_<=30000) ∅,hk H4 g4}
  .intro D3 H3 yN g3 h3;have h23:=g3 _ _ h2;refine{D,D3,"",h23,h3,by rw[aB];exact cM (⋯:1+ts.length<=10) ∅,?_};have fD:H D=ν:=g1.free hD;refine{rfl,(),_,D,aA bot::ps.map zf,rfl,rfl,?_,jo,q _ ((g1.trans (g2.trans g3)).upd fD _)};rw[aq,e2,ji,dD,dD];rfl
theorem aSH(F:Fn K mg "tell_divisor" pb ["said"])(gO:xU M)(Ed:Vs M):Se M:=by
 delta aO2 aO2
 intros k was o l xs rfl hw hl hp ok q h;obtain rfl:=vo (k':=.divisor) hw;exists _,(aJ (aF (aC gO hr #[(gj Ed hr rfl #[-0])])));cases ok with
 |@divisor s r h1=>
  obtain⟨v,_,rfl,hR,hp⟩:=jy hp;unfold Kc at q;refine{(),_,v,.inl (ak.of hl),at0,v,r,rfl,hR,λz=>?_,λz=>by rw[if_neg z]at q;exact q};rw[if_pos z]at q;exact{(),GH h1 ∅,q H (Same.refl _)}
theorem aLr(F:Fn K mg "tell_divides" Vy ["said"])(qM:Jm M)(Dz:kK M)(gO:xU M):Ha M:=by
 delta bp bp
 intros k was o l xs rfl hw hl hp ok q h;obtain rfl:=vo (k':=.divides) hw;exists _,#[(),(fY (gj qM hr rfl #[-0])),(aV (-0<_:) (aJ (uF M.eK rfl #[""])) aW),(au 1 bp.nd (gj Dz hr rfl #[-0,-0,-0,-0])),(aF (C2 (tQ (Ar (1:))) fR (""+(aC gO hr #[1]):)))];cases ok with
 |@divides s r x y z h1 x0 x1=>
  obtain⟨v,_,rfl,hR,hp⟩:=jy hp;obtain⟨v2,_,rfl,rfl,hp2⟩:=jy hp;obtain⟨v3,_,rfl,rfl,hp3⟩:=jy hp2;obtain⟨v4,_,rfl,rfl,_⟩:=jy hp3;unfold G4 at q;refine{(),_,v,.inl (ak.of hl),at0,v,r,rfl,hR,λe=>?_,λe=>by rw[if_neg e]at q;exact q};rw[if_pos e]at q;exists (),¬hl,at1,"",();rw[decide_eq_false (⋯:¬x<1)];refine bK {(),_,v,.inl (ak.of hl),at0,(),¬hl,at1,(),¬hl,at2,(),¬hl,nZ (j:=3) rfl,v,r,x,y,z,480,rfl,hR,h1,∅,x0,x1,λw=>absurd e w,λ_ w=>by rw[if_neg w]at q;exact q,λ_ w H1 g1=>?_};rw[if_pos w]at q;have q:=q H1 g1;have few:=λn=>xh (r:=r) (d:=x) (s:=y) (e:=z) (n:=n) (by have:=h1.wf.l4;lia);generalize Bs r x y z=o at q few;cases o with
  |none=>exact{(),(),eO q}
  |some n=>
   have:=(few n rfl).len;exact{(),(),bK {(),(),few n rfl,cM (show(cP "no ").length+(aA (n:Int)).length<=5000 by rw[lno];lia) ∅,q}}
theorem aFe(F:Fn K mg "make_row" W6 ["said"]):xl M:=by
 delta aI6
 intros k was r l xs rfl hw hl hp ok q h;obtain rfl:=mk_inj (k':=.row) hw;exists _,(aJ (aF (-0:)));cases ok with
 |row=>
  obtain⟨v,_,rfl,hR,hp⟩:=jy hp;exact{(),¬hl,at0,q v H (Same.refl _) hR}
theorem aQU(F:Fn K mg "make_scale" ui ["said"])(EB:ng M)(cN:lG M):Kb M:=by
 delta aKN
 intros k was r l xs rfl hw hl hp ok q h;obtain rfl:=mk_inj (k':=.scale) hw;exists _,(aJ (aF (aC EB hr #[-0,(aC cN hr #[(aK K (-0:) aP),-0])])));cases ok with
 |@scale s r h1=>
  obtain⟨v,_,rfl,hR,hp⟩:=jy hp;obtain⟨v2,_,rfl,rfl,hp⟩:=jy hp;obtain⟨a,p1,p2,rfl,hA,_⟩:=id hR;exact{(),¬hl,at0,(),¬hl,at0,!hA,rfl,(),¬hl,at1,_,(),h1.wf.hB.lo,.ref a,r,_,480,rfl,hR,h1,∅,bd2 h1.wf.hB,λv' H' g hR' _=>q v' H' g hR'}
theorem aPR(F:Fn K mg "make_on" VG ["said"])(Dg:vE M):Po M:=by
 delta aAD
 intros k was r l xs rfl hw hl hp ok q h;obtain rfl:=mk_inj (k':=.on) hw;exists _,(aJ (aF (aC Dg hr #[-0,-0])));cases ok with
 |@on s r h1=>
  obtain⟨v,_,rfl,hR,hp⟩:=jy hp;obtain⟨v2,_,rfl,rfl,hp⟩:=jy hp;exact{(),¬hl,at0,(),¬hl,at1,v,r,1,480,rfl,hR,h1,∅,Bd.of ∅ ∅,λz=>absurd (zb _) z,λ_=>q}
theorem azq(F:vO K cY "say" "Desk.say" se ["self","row"])(Y8:IP M)(fh:yT M)(Zm:GO M)(sf:Ha M)(Vc:Se M)(U4:KO M)(Us:Sz M)(ir:OE M)(Wn:IS M)(Zr:DU M)(rk:OR M)(Xe:PM M)(Vj:Po M)(Ye:Kb M)(ck:xl M):Ex P w K mg base cY cC cF cD cG:=by
 refine F.gh QF (λvs H Q E h=>?_) (λ_ _ _ _ _ H _ Q E hr h=>?_)
 .intros p d t w' was M' N rfl _ h;rfl
 .intros p d t w' was M' N rfl hD hN hS hK hA h10 hok qS h;refine{_,#[(),(iw (i:=2) QF.nd rfl (fX rfl) (aC Y8 hr #[1])),(iw (i:=3) QF.nd rfl (fX rfl) (aC fh hr #[2])),(nU (i:=4) (hN:=QF.nd) (hi':=rfl) (hx:=(jj rfl)) (sc:=aH9) (N:=["k","kinds","self","words"]) (ix:=[ν,ι 3,ι 0,ι 2]) cV rfl (gH rfl B.fj #[(cL K B.cJ #[3])]) (λ_ _ _ _ _=>{(bH 0 cR),dg,(aC Zm hr #[(SS K (2:) rfl),(aK K (1:) (0:)),(aK K (3:) (0+_:))])})),(aV (tQ (OY D.Lv K rfl (-2:))) (aJ (aF (yb D.Lv (jh.of (sp:=(uN M.ad)) D.FE (jh.cons Xe (jh.cons rk (jh.cons Zr (jh.cons Wn (jh.cons ir (jh.cons Us (jh.cons U4 (jh.cons Vc (jh.cons sf jh.nil)))))))))) hr rfl (-2:) (λ_ _=>rfl) #[4]))) aW),(aV (tQ (OY D.Y2 K rfl (-2:))) (aJ (DF hr.hu (SS K (0:) rfl) (-2:) (yb D.Y2 (jh.of (sp:=(S8)) D.Xs (jh.cons ck (jh.cons Ye (jh.cons Vj jh.nil)))) hr rfl (-2:) (λ_ _=>rfl) #[(jT (m6 K) (4:) (jC aP) jZ)]) rfl)) (aJ jO)),(aF fR)],?_};refine{(),t,(),hS,λl1 H1 g1 h1=>?_};refine{(),l1,w',was.map Wa.word,was.map Wa.kind,rfl,h1,hK,hA,by rw[aB,aB],by rw[aB];exact h10,λt2 H2 g2 h2=>?_};have lk:((was.map Wa.kind).map V.str).length=was.length:=by rw[aB,aB]
  have dZ:=g1.trans g2;have h12:=g2 _ _ h1;exists (),.ref t2,was.length,rfl,.inr {_,h2,lk.symm},(was.length:Int),rfl,⋯,⋯;rw[dB];refine aSR (xs:=was) ⋯ rfl (λx v H=>x.V H v) (λx y H' H2 g h=>WaV.tup g h) ?_ ?_
  .intro H3 k x g3 hx kk hkk;have D3:=hD.same (dZ.trans g3);intros dx hp3 D3.ob;have e1:je ((was.map Wa.kind).map V.str) (0+(k:Int))=ι (.str x.kind):=by
    rw[jL];exact nZ (by rw[List.getElem?_map,List.getElem?_map,hx];rfl)
   have e2:je ((w'::was.map Wa.word).map V.str) (0+(k:Int)+1)=ι (.str x.word):=by
    rw[(⋯:(0+(k:Int)+1)=((k+1:Nat):Int))];exact nZ (by rw[List.getElem?_map,List.getElem?_cons_succ,List.getElem?_map,hx];rfl)
   exact{(),p,cY,dx,_,(),hp3,D.Ij.cl,D.V1,M3,(),(),_,_,.inr (g3.Rz h2),e1,(),(),¬(g3 _ _ h12),e2,d,x,M',N,rfl,hok x (List.mem_of_getElem? hx),D3.kp,hkk}
  .intro l3 H3 ys hl3 g3 h3 hp;have j9:=dZ.trans g3;have h13:=g3 _ _ h12;have D3:=hD.same j9;intros dx hp3 D3.ob;cases qS with
   |@tell k was o ok q=>
    obtain⟨u,hu⟩:=D.FE.is_ _ (Cf k);refine{(),¬h13,at0,_,(),hu,(),eO ?_};exact{(),¬h13,at0,(),Cf k,(),k,was,o,l3,ys,rfl,rfl,h3,hp,ok,q.up j9}
   |@make k n aQS r ok q=>
    obtain⟨v0,ys',rfl,_,hp'⟩:=jy hp;refine{(),¬h13,at0,_,(),D.jb.at_ _ (aRo k),(),bK ?_};obtain⟨u,hu⟩:=D.Xs.is_ _ (DH k);refine{(),¬h13,at0,_,(),hu,(),eO ?_};refine{(),¬h13,at0,(),DH k,(),(),.inl {_,ak.of h3,λl4 yU=>?_}};rw[show fO (v0::ys') (ι 1) ν=ys' from cy _ 1];have g4:=Same.new yU (.lst ys');exists k,aQS,r,l4,ys',rfl,rfl,aq,Paired.GC hp' λx y z=>WaV.tup (λb ts e=>g4 _ _ e) z,ok;generalize upd H3 l4 (.lst ys')=H4 at g4;have EA:=j9.trans g4;intro v5 H5 g5 hR;have Al:=EA.trans g5;have D5:=hD.same Al;intros dx5 MN D5.ob;obtain⟨H6,wQ,sd,D6⟩:=D5.put hN (n:=n) hR;exists (),p,cY,dx5,_,(),MN,D.Ij.cl,D.V1,M3,(),¬(g5 _ _ (g4 _ _ h13)),at1,d,H6,rfl,wQ;exact q H6 (sd.of Al) D6
theorem awP(F:Fn K mg "_law_cell_at" qo ["_law_script","_law_k"]):Sa M:=by
 delta aTz
 intros a ns k rfl hS h0 q h;exists _,#[(),(aV (1<(cL K B.cJ #[0]):) (aJ (aF (aK K (0:) (1:)))) aW),(aF aP)];have hl:(ns.map V.int).length=ns.length:=aB _;exists (),(),.ref a,ns.length,rfl,.inl {_,hS,hl.symm},"",();refine cu (λc=>?_) (λc=>?_)
 .have c':k<(ns.length:Int):=dec_true c;exists (),(),ns.map V.int,.int (ns.getD k.toNat 0),.inl hS,dH h0 c';have e:cellAt ns k=ns.getD k.toNat 0:=if_pos c';rw[e]at q;exact q
 .have c':¬k<(ns.length:Int):=dec_false c;have e:cellAt ns k=0:=if_neg c';rw[e]at q;exact q
theorem aTW(F:Fn K mg "_law_mix" ZD ["_law_cell","_law_k"]):k9 M:=by
 delta aAj
 intros c k rfl h0 h1 q h;exists _,(aJ (aF ((0%_+_)*(_+_*1)%_:)));have b1:0<=c%MM:=rK _ ∅;have b2:c%MM<MM:=qT _ ∅;exists (),"",(∅:(0:Int)<2147483647),(),mulL ∅ ∅,mulL (by show -(2^64)<c%2147483647+1;lia) (by show c%2147483647+1<2^64;lia),_,_,rfl,rfl,(∅:(0:Int)<2147483647);exact q
theorem axg(F:Fn K mg "_law_by" oy ["_law_number_here"]):Cb M:=by
 delta ze
 intros n rfl q h;refine{_,#[(),(au 1 ze.nd (aK K (dI #[_,_,_,_,_,_,_,_]) (0/_%_:))),(aF (aK K (dI #[_,_,_,_,_,_,_,_,1,_]) (0%_:)))],(bG 8),λp hp=>?_};refine{(),"",{∅,∅},"",(∅:(0:Int)<8),¬aq,dH (ns:=SX) (gY _ ∅) (iG _ ∅),(),(bG 10),λp2 hp2=>?_};exists (),"",(∅:(0:Int)<10),¬aq,dH (ns:=byM (SX.getD (n/10%8).toNat 0)) (gY _ ∅) (iG _ ∅);exact q _ ((Same.new hp _).trans (Same.new hp2 _))
theorem awV(F:Fn K mg "_law_number" iN ["_law_by_here","_law_number_here"]):AG M:=by
 delta HR
 intros b n rfl h0 h1 q h;have h1':n<2147483647:=h1;exists _,#[(),(aV (0>_:) (aJ (aF (1%0:))) aW),(au 2 HR.nd (1%_:)),(aV (2<_:) (aJ (aF aP)) aW),(aV (2<_:) (aJ (aF (1/_%_-_:))) aW),(aV (2<_:) (aJ (aF (1/_%_-_:))) aW),(aF ((lZ Qv (1/_:) aP)%(lZ Qv aP aP)*(_-_*(1/_%_)):))],(),"",();refine cu (λc=>?_) (λc=>?_)
 .have c':0<b:=dec_true c;exists (),(),"",c';have e:oJ b n=n%b:=if_pos c';rw[e]at q;exact q
 .have c':¬b>0:=dec_false c;exists (),"",(∅:(0:Int)<8),(),"",();refine cu (λc1=>?_) (λc1=>?_)
  .have e:oJ b n=0:=by rw[oJ,if_neg c',if_pos (dec_true c1)]
   rw[e]at q;exact q
  .exists (),"",();refine cu (λc2=>?_) (λc2=>?_)
   .exists (),"",{∅,∅},"",(∅:(0:Int)<5),"";have e:oJ b n=n/8%5-2:=by rw[oJ,if_neg c',if_neg (dec_false c1),if_pos (dec_true c2)]
    rw[e]at q;exact q
   .exists (),"",();refine cu (λc3=>?_) (λc3=>?_)
    .exists (),"",{∅,∅},"",(∅:(0:Int)<41),"";have e:oJ b n=n/8%41-20:=by rw[oJ,if_neg c',if_neg (dec_false c1),if_neg (dec_false c2),if_pos (dec_true c3)]
     rw[e]at q;exact q
    .exists (),"",{∅,∅},"",{∅,∅,⋯};exists "",{∅,∅,∅},"",(∅:(0:Int)<10^(20:Int).toNat),(),"",{∅,∅},"",(∅:(0:Int)<2);have b2:0<=n/16%2:=gY _ ∅;have b3:n/16%2<2:=iG _ ∅;refine{mulL ∅ ∅,"",mulR (by show -(2^64)<1-2*(n/16%2);lia) (by show 1-2*(n/16%2)<2^64;lia),?_};have e:oJ b n=(n/8)^3%10^20*(1-2*(n/16%2)):=by rw[oJ,if_neg c',if_neg (dec_false c1),if_neg (dec_false c2),if_neg (dec_false c3)]
     rw[e]at q;exact q
theorem aMq(F:Fn K mg "_law_numbers" X5 ["_law_by_here","_law_cell","_law_many"])(Xm:AG M):Pp M:=by
 delta Ih
 intros b c m rfl hc0 hc1 hm0 hm1 q h;refine{_,#[(),(au 3 Ih.nd (dI iW)),(au 4 Ih.nd (1:)),(iC PassesOwn.never rfl (gH rfl B.fj #[2]) (bH 5 Ih.nd) #[(),(au 4 Ih.nd (4*_%_:)),(fY (nq K (3:) (aC Xm hr #[0,4])))]),(aF (3:))],cZ _,λl hl=>?_};exists (),(),m,rfl,(⋯:-(2^62)<=m),(⋯:m<2^62);refine kI (lo:=0) (n:=m.toNat) (λi σ' H'=>∃o,σ'=[ι (.int b),ι (.int c),ι (.int m),ι (.ref l),ι (.int (yW c i)),o]/\H' l=ι (.lst ((rY b c i).map V.int))/\Same H H') {ν,rfl,aq,Same.new hl _} ?_ ?_
 .rintro i σ' H' hi ⟨o,rfl,hL,g⟩;have hr:0<=yW c i/\yW c i<2147483647:=TB hc0 hc1 i;have hr1:=TB hc0 hc1 (i+1);refine{(),mulL ⋯ ⋯,"",(∅:(0:Int)<2147483647),(),.inl {rfl,_,ak.of hL},(),(),b,(),hr1.1,hr1.2,l,"",hL,?_,?_}
  .rw[aB,Pr];exact gJ (⋯:i<1001) ∅
  .refine{(),?_,g.upd hl _};rw[aq];show _=ι (HO.lst ((rY b c i++[oJ b (yW c (i+1))]).map V.int));rw[fH];rfl
 .rintro σ' H' ⟨o,rfl,hL,g⟩;exists ();exact q l H' g hl hL
theorem aIP(F:Fn K mg "_law_rest" jv ["_law_by_here","_law_number_here"]):Rp M:=by
 delta aw8
 intros b n rfl h0 q h;exists _,#[(),(aV (0>_:) (aJ (aF (1%0:))) aW),(aF (1:))],(),"",();refine cu (λc=>?_) (λc=>?_)
 .have c':0<b:=dec_true c;exists (),(),"",c';rw[oB ⋯]at q;exact q
 .have c':b=0:=by have:=dec_false c;lia
  exists ();rw[c',dj]at q;exact q
theorem aMs(F:Fn K mg "_law_pool" WZ ["_law_cell","_law_turn"]):UP M:=by
 delta rD
 intros c t rfl q h;refine{_,#[(),(iw (i:=2) rD.nd rfl (fX rfl) fR),(au 3 rD.nd (_+0%_:)),(au 0 rD.nd (0/_:)),(au 4 rD.nd (dI iW)),(iC PassesOwn.never rfl (gH rfl B.fj #[3]) (bH 5 rD.nd) #[(),(fY (nq K (4:) (0%_:))),(au 0 rD.nd (0/_:))]),(iw (i:=6) rD.nd rfl (fX rfl) (oX K qO yE yq za fR (fu (sc:=aSN) (N:=["_law_k","_law_signs"]) (ix:=[ν,ι 2]) cV rfl (d7 K (4:)) (λ_ _ _ _ _=>{(bH 0 cR),dg,(aK K (1:) (0:))})))),(aV (1/_%_==_:) (aJ (aF (fu (sc:=aD8) (N:=["_law_k","_law_word_here"]) (ix:=[ν,ι 6]) cV rfl (Ot rfl B.fj #[_,_]) (λ_ _ _ _ _=>{(bH 0 cR),dg,(jT R0 (lZ aRF aP (1:)) jZ (jC (0:)))})))) aW),(au 7 rD.nd (1%3:)),(au 8 rD.nd (dI iW)),(iC PassesOwn.never rfl (gH rfl B.fj #[_]) (bH 5 rD.nd) #[(),(au 9 rD.nd (aK K (2:) (((aK K (4:) (7:))+_*5)%_:))),(fY (nq K (8:) ((jT R0 (6:) jZ (jC (7:)))+9+(jT R0 (6:) (jC (7+_:)) jZ):)))]),(aF (8:))],?_};have h100:(100000:Nat)<=sizeLine:=∅;exists (),"",(∅:(0:Int)<8);have z0:=gY c (∅:(0:Int)<8);have z1:=iG c (∅:(0:Int)<8);obtain⟨n,hn⟩:∃n:Nat,1+c%8=(n:Int):={(1+c%8).toNat,⋯};have n1:1<=n:=⋯;have n8:n<=8:=⋯;refine{(),"",{∅,∅},cZ _,λl hl=>?_};exists (),1+c%8,rfl,(⋯:-(2^62)<=1+c%8),(⋯:1+c%8<2^62);rw[hn,dB];have g0:=Same.new hl (.lst []);refine kI (lo:=0) (n:=n) (λi σ' H'=>sJ λ(c':Int) (o:Option V) (xs:ζ)=>B4 (σ'=[ι (.int c'),ι (.int t),ι (.str "abcdefghijklmnopqrstuvwxyz0123456789"),ι (.int n),ι (.ref l),o,ν,ν,ν,ν]) (H' l=ι (.lst (xs.map V.int))) (xs.length=i) ((∀x∈xs,0<=x/\x<36)) (Same H H')) {_,ν,[],rfl,aq,rfl,(λ_ z=>nomatch z),g0} ?_ ?_
 .rintro i σ' H' hi ⟨c',o,xs,rfl,hL,hx,ha,g⟩;refine{(),.inl {rfl,_,ak.of hL},(),"",(∅:(0:Int)<36),l,"",hL,by rw[aB];lia,?_};refine{(),"",{∅,∅},_,_,xs++[c'%36],rfl,by rw[aq,fH];rfl,by rw[gk,hx];rfl,λx hx'=>?_,g.upd hl _};rcases ig.mp hx' with h'|h'
  .exact ha x h'
  .rw[eN.mp h'];exact{gY _ ∅,iG _ ∅}
 .rintro σ' H1 ⟨c',o,xs,rfl,hL,hx,ha,g1⟩;refine{rfl,(),l,rfl,.inl {{_,ak.of hL},DJ (ou (ak.of hL)) (by rw[aB];lia) rfl (λ_ y _=>∃s,y=.str s/\Sg 1 s) (λ_ _ _ _ _ h=>h) ?_ ?_}}
  .intro H2 x g2 hx' k hk;obtain⟨i,hi,rfl⟩:=bO.mp hx';obtain⟨a0,a1⟩:=ha i hi;obtain⟨ch,e1,e2⟩:=Nw i a0 a1;exact{(),(),ch,Bz,e1,hk _ _ (Same.refl _) {(),rfl,λz hz=>by rw[eN.mp (show z∈[ch]from hz)];exact e2}}
  intro D1 H2 ys hD1 g2 hD hy1 hy2;obtain⟨ws,rfl,hws⟩:=P8 λy hy=>by obtain⟨_,_,z⟩:=hy2 y hy;exact z
  rw[aB,aB,hx]at hy1;have hW:Sg n (Ao (cP "") ws):=by
   rw[UT];have key:∀vs:List Str,(∀s∈vs,Sg 1 s)->((vs.map λw=>w.cps.toList).flatten).length=vs.length/\∀c∈(vs.map λw=>w.cps.toList).flatten,c∈zy:=λvs=>by
    induction vs with
    |nil=>intro _;exact{rfl,λ_ z=>nomatch z}
    |cons v r ih=>
     intro h;obtain⟨i1,i2⟩:=ih λs hs=>h s (fM _ hs);have hv:=h v iY;rw[ji,Dq];refine{by rw[gk,i1,hv.len,j8];lia,λc hc=>?_};rcases ig.mp hc with z|z
     .exact hv.all c z
     .exact i2 c z
   obtain⟨k1,k2⟩:=key ws hws;exact{by rw[oi,k1,hy1],by rw[oi];exact k2}
  have hJ:u6 (cP "") ws=true:=by
   unfold u6;rw[dm (B:=1) (λs hs=>by rw[show s.length=s.cps.toList.length by simp[vY],(hws s hs).len];exact aZ _) (by rw[UT,hy1];show n*(1+0)<=_;lia)];rfl
  exists _,D1,ws,rfl,rfl,hD,hJ;generalize Ao (cP "") ws=w at hW;have dZ:=g1.trans g2;have hL2:=g2 _ _ hL;have wl:w.length=n:=by rw[<-hW.len];simp[vY]
  refine{(),"",{∅,∅},"",(∅:(0:Int)<3),(),cu (λ_=>?_) (λ_=>?_)}
  .exists 1,9,rfl,{∅,∅,∅,∅};refine DJ BF (by rw[aB,mq];exact cM ∅ h100) rfl (λ_ y _=>∃s,y=.str s/\jk s) (λ_ _ _ _ _ h=>h) ?_ ?_
   .intro H3 x g3 hx' k hk;obtain⟨j,hj,rfl⟩:=bO.mp hx';have hj8:j<8:=gZ.mp hj;have er:=xA w 8 #[];have el:((iy 8 w.cps.toList).flatten).length=8*n:=by rw[ye,List.map_replicate,hW.len];show n+(n+(n+(n+(n+(n+(n+(n+0)))))))=_;lia
    refine{(),w,8,rfl,rfl,∅,∅,⋯,⋯,(),(),(),?_,?_}
    .show((iy 8 w.cps).foldl (·++·) #[]).size<=_;rw[<-Qd,er,gk,el];show 0+_<=_;lia
    .refine hk _ _ (Same.refl _) {(),?_};have e2:=Ee ({(iy 8 w.cps).foldl (·++·) #[]}:Str) (j+1);rw[(⋯:((j+1:Nat):Int)=1+(j:Int))]at e2;rw[show({(iy 8 w.cps).foldl (·++·) #[]}:Str).cps.toList=(iy 8 w.cps.toList).flatten by rw[er];rfl]at e2;refine Sg.nm (n:=j+1) {by rw[e2,m9,el];lia,λc hc=>?_} ⋯ ⋯;rw[e2]at hc;obtain⟨l',hl',hc'⟩:=x5.mp (CP hc);rw[(List.mem_replicate.mp hl').2]at hc';exact hW.all c hc'
   .intro D2 H3 ys hD2 g3 hD' hz1 hz2;obtain⟨vs,rfl,hvs⟩:=P8 λy hy=>by obtain⟨_,_,z⟩:=hz2 y hy;exact z
    rw[aB,aB,mq]at hz1;exact q D2 H3 vs (dZ.trans g3) hD' hz1 hvs
  .exists (),(),"",(⋯:(0:Int)<n);have t0:=gY t (⋯:(0:Int)<n);have t1:=iG t (⋯:(0:Int)<n);obtain⟨m,hm⟩:∃m:Nat,t%(n:Int)=(m:Int):={(t%n).toNat,⋯};have mn:m<n:=⋯;rw[hm];refine{cZ _,λl2 hl2=>?_};have g3:=Same.new hl2 (.lst []);exists 8,rfl,∅,∅;refine kI (lo:=0) (n:=8) (λi σ' H'=>sJ λ(o o2:Option V) (vs:List Str)=>B4 (σ'=[ι (.int c'),ι (.int t),ι (.str "abcdefghijklmnopqrstuvwxyz0123456789"),ι (.int n),ι (.ref l),o,ι (.str w),ι (.int m),ι (.ref l2),o2]) (H' l2=ι (.lst (vs.map V.str))) (vs.length=i) ((∀s∈vs,jk s)) (Same H2 H')) {_,ν,[],rfl,aq,rfl,(λ_ z=>nomatch z),g3} ?_ ?_
   .rintro i σ' H3 hi ⟨o,o2,vs,rfl,j6,hv1,hv2,g4⟩;have hmx:m<xs.length:=⋯;have ex:je (xs.map V.int) (m:Int)=ι (.int xs[m]):=nZ (by rw[List.getElem?_map,List.getElem?_eq_getElem hmx];rfl);exists (),(),(),¬(g4 _ _ hL2),ex;obtain⟨ch,e1,e2⟩:=Nw ((xs[m]+4*(0+(i:Int)))%36) (gY _ ∅) (iG _ ∅);exists (),mulL ∅ ∅,"",(∅:(0:Int)<36),ch,Bz,e1,(),.inl {rfl,_,ak.of j6};have wle:w.length<=sizeLine:=⋯;have s1:=Ee w m;have s2:=NH w (m+1);rw[(⋯:((m+1:Nat):Int)=(m:Int)+1)]at s2;have e3:∀a b:Str,(a++b).cps.toList=a.cps.toList++b.cps.toList:=λa b=>Qa;have l3:∀a:Str,a.length=a.cps.toList.length:=λa=>by simp[vY]
    have k1:(w.cps.toList.take m).length=m:=by rw[m9,hW.len];lia
    have k2:(w.cps.toList.drop (m+1)).length=n-(m+1):=by rw[xX,hW.len]
    have hS:Sg n (yf w ν (ι (m:Int))++{{([ch])}}++yf w (ι ((m:Int)+1)) ν):=by
     refine{?_,λc hc=>?_}
     .rw[e3,e3,s1,s2,gk,gk,k1,k2];show m+1+_=n;lia
     .rw[e3,e3,s1,s2]at hc;rcases ig.mp hc with hc|hc
      .rcases ig.mp hc with hc|hc
       .exact hW.all c (CP hc)
       .rw[eN.mp (show c∈[ch]from hc)];exact e2
      .exact hW.all c (YR hc)
    refine{(),(),(),w,rfl,wle,(),?_,(),(),(),w,rfl,wle,?_,l2,"",j6,?_,?_}
    .rw[l3,s1,k1];show m+1<=_;lia
    .rw[l3,e3,s1,l3,s2,gk,k1,k2];show m+1+_<=_;lia
    .rw[aB,hv1];lia
    .refine{_,_,vs++[_],rfl,by rw[aq,fH];rfl,by rw[gk,hv1];rfl,λs hs=>?_,g4.upd hl2 _};rcases ig.mp hs with h'|h'
     .exact hv2 s h'
     .rw[eN.mp h'];exact hS.nm n1 n8
   .rintro σ' H3 ⟨o,o2,vs,rfl,j6,hv1,hv2,g4⟩;exact{(),q l2 H3 vs (dZ.trans g4) j6 hv1 hv2}
theorem aNB(F:Fn K mg "_law_small_row" Xr ["_law_by_here","_law_cell","_law_most"])(yQ:k9 M)(Nv:Pp M)(v8:Rp M):tI M:=by
 delta Cr
 intros b c mo rfl hbs m0 m4 m2 q h;have hb:=Tb hbs;refine{_,#[(),(au 3 Cr.nd ((aC yQ hr #[1,_])%(2+_):)),(au 4 Cr.nd (aC Nv hr #[((eX (Mc rfl) rfl B.AS boot_max #[0,_])*(dW K9 rfl B.Bv boot_int #[(nQ O1 (0:) aP (pq _))]):),(aC yQ hr #[1,_]),3])),(au 5 Cr.nd (aC Nv hr #[0,(aC yQ hr #[1,_]),3])),(mX (aV (0==_:) #[(),(nU (i:=4) (hN:=Cr.nd) (hi':=rfl) (hx:=(jj rfl)) (sc:=aQ7) (N:=["_law_number_here"]) (ix:=[ν]) cV rfl (d7 K (4:)) (λ_ _ _ _ _=>{(bH 0 cR),dg,(0%_-_:)})),(nU (i:=5) (hN:=Cr.nd) (hi':=rfl) (hx:=(jj rfl)) (sc:=aCR) (N:=["_law_number_here"]) (ix:=[ν]) cV rfl (d7 K (5:)) (λ_ _ _ _ _=>{(bH 0 cR),dg,(0%_-_:)}))] aW)),(aF (dG #[0,(dW (mV K) rfl B.j5 boot_tuple #[(fu (sc:=aNy) (N:=["_law_number_here","_law_by_here"]) (ix:=[ν,ι 0]) cV rfl (d7 K (4:)) (λ_ _ _ _ _=>{(bH 0 cR),dg,(aC v8 hr #[1,0])}))]),(dW (mV K) rfl B.j5 boot_tuple #[5])]))],?_};have b0:=hb.lo;have b1:=hb.hi;have k0:=gY (qu c 11) (⋯:(0:Int)<mo+1);have k1:=iG (qu c 11) (⋯:(0:Int)<mo+1);exists (),c,11,rfl,∅,∅,(),"",(⋯:(0:Int)<mo+1);generalize qu c 11%(mo+1)=m at k0 k1;refine{(),b,5,rfl,(),"",.inr {(),?_}};refine{mulR (by split<;>decide) (by split<;>decide),(),c,12,rfl,∅,∅,(),_,_,m,rfl,YT _ _,nk _ _,k0,⋯,λl4 H4 g4 _ h4=>?_};generalize eb':(if 5>b then 5 else b)*(if decide (b>0)=true then(1:Int)else 0)=b' at h4;have aH5:0<=b':=by
  rw[<-eb'];split<;>split<;>lia
 have aTZ:b'<1000:=by
  rw[<-eb'];split<;>split<;>lia
 have aGc:b'=0->b=0:=λz=>by
  rw[<-eb']at z;by_cases c0:0<b
  .rw[decide_eq_true c0,if_pos rfl]at z;split at z<;>lia
  .lia
 refine{(),(),c,13,rfl,∅,∅,(),_,_,m,rfl,YT _ _,nk _ _,k0,⋯,λl5 H5 g5 _ h5=>?_};have QM:=g5 _ _ h4;have lr:(rY b' (qu c 12) m.toNat).length=m.toNat:=Pr ..;have ls:(rY b (qu c 13) m.toNat).length=m.toNat:=Pr ..;have nr:=Uz aH5 (qu c 12) m.toNat;have ns:=Uz hb.lo (qu c 13) m.toNat;generalize rY b' (qu c 12) m.toNat=rl at QM lr nr;generalize rY b (qu c 13) m.toNat=st at h5 ls ns;refine lW.by (λσ' H'=>WM λ(RT Ph:Addr)(rl' st':ζ)=>FP (σ'=[ι (.int b),ι (.int c),ι (.int mo),ι (.int m),ι (.ref RT),ι (.ref Ph)]) (Same H H') (H' RT=ι (.lst (rl'.map V.int))) (H' Ph=ι (.lst (st'.map V.int))) (rl'.length=m.toNat) (st'.length=m.toNat) ((∀x∈rl',Bd 10 x/\(b=0->x.natAbs<=3))) (∀x∈st',jU b x/\Bd 10 x)) (λNN d8=>?_) ?_
 .refine{(),(),cu (λz=>?_) (λz=>?_)}
  .have z':b=0:=dec_true z;refine{(),l4,rfl,.inl {{_,ak.of QM},EJ (ou (ak.of QM)) ⋯ rfl (λx=>x%7-3) ?_ ?_}}
   .intro H6 x g6 hx kk hkk;exact{(),"",(∅:(0:Int)<7),"",hkk}
   intro D1 hD1;have g6:=Same.new hD1 (.lst ((rl.map λx=>x%7-3).map V.int));have XY:=g6 _ _ h5;have h61:(upd H5 D1 (.lst ((rl.map λx=>x%7-3).map V.int))) D1=ι (.lst ((rl.map λx=>x%7-3).map V.int)):=aq;generalize upd H5 D1 (.lst ((rl.map λx=>x%7-3).map V.int))=H6 at g6 XY h61;refine{(),l5,rfl,.inl {{_,ak.of XY},EJ (ou (ak.of XY)) ⋯ rfl (λx=>x%15-5) ?_ ?_}}
   .intro H7 x g7 hx kk hkk;exact{(),"",(∅:(0:Int)<15),"",hkk}
   intro D2 hD2;have g7:=Same.new hD2 (.lst ((st.map λx=>x%15-5).map V.int));refine d8 _ _ {D1,D2,_,(),g4.trans (g5.trans (g6.trans g7)),g7 _ _ h61,aq,by rw[aB,lr],by rw[aB,ls],λx hx=>?_,λx hx=>?_}
   .obtain⟨y,_,rfl⟩:=bO.mp hx;have:=gY y (∅:(0:Int)<7);have:=iG y (∅:(0:Int)<7);exact{Bd.of ⋯ ⋯,λ_=>⋯}
   .obtain⟨y,_,rfl⟩:=bO.mp hx;have:=gY y (∅:(0:Int)<15);have:=iG y (∅:(0:Int)<15);exact{.inl z',Bd.of ⋯ ⋯}
  .have z':b≠0:=dec_false z;refine d8 _ _ {l4,l5,rl,st,rfl,g4.trans g5,QM,h5,lr,ls,λx hx=>?_,λx hx=>?_}
   .rcases nr x hx with e|⟨e1,e2⟩
    .exact absurd (aGc e) z'
    .exact{Bd.of ⋯ ⋯,λz=>absurd z z'}
   .rcases ns x hx with e|⟨e1,e2⟩
    .exact absurd e z'
    .exact{.inr {e1,(e2)},Bd.of ⋯ ⋯}
 .rintro σ' H6 ⟨RT,Ph,rl',st',rfl,g6,h6,h6',lr',ls',br,bs⟩;refine{(),(),RT,rfl,.inl {{_,ak.of h6},EJ (ou (ak.of h6)) ⋯ rfl (tk b) ?_ ?_}}
  .intro H7 x g7 hx kk hkk;exact{(),(),b,x,rfl,b0,hkk}
  intro D1 hD1;have g7:=Same.new hD1 (.lst ((rl'.map (tk b)).map V.int));have h71:=g7 _ _ h6';have h72:(upd H6 D1 (.lst ((rl'.map (tk b)).map V.int))) D1=ι (.lst ((rl'.map (tk b)).map V.int)):=aq;generalize upd H6 D1 (.lst ((rl'.map (tk b)).map V.int))=H7 at g7 h71 h72;refine{D1,(),.inl {ak.of h72,λt1 ht1=>?_}};have g8:=Same.new ht1 (.tup ((rl'.map (tk b)).map V.int));have h81:=g8 _ _ h71;have K6:(upd H7 t1 (.tup ((rl'.map (tk b)).map V.int))) t1=ι (.tup ((rl'.map (tk b)).map V.int)):=aq;generalize upd H7 t1 (.tup ((rl'.map (tk b)).map V.int))=H8 at g8 h81 K6;refine{(),Ph,(),.inl {ak.of h81,λt2 lY=>?_}};have g9:=Same.new lY (.tup (st'.map V.int));have h92:(upd H8 t2 (.tup (st'.map V.int))) t2=ι (.tup (st'.map V.int)):=aq;replace K6:=g9 _ _ K6;generalize upd H8 t2 (.tup (st'.map V.int))=H9 at g9 K6 h92;refine{(bG 3),λt3 Ah=>?_};have mK:=Same.new Ah (.tup [.int b,.ref t1,.ref t2]);refine q (.ref t3) {b,rl'.map (tk b),st'} _ (g6.trans (g7.trans (g8.trans (g9.trans mK)))) {t3,t1,t2,rfl,aq,mK _ _ K6,mK _ _ h92} ?_ rfl;have lm:(rl'.map (tk b)).length=m.toNat:=by rw[aB,lr']
  refine{{hbs,λz=>by show(rl'.map _).length<=2;have:=m2 z;lia,by show(rl'.map _).length=st'.length;lia,by show(rl'.map _).length<=4;lia,λx hx=>?_,λx hx=>(bs x hx).1},λx hx=>?_,λx hx=>(bs x hx).2,λz=>?_}
  .obtain⟨y,_,rfl⟩:=bO.mp hx;exact wA b0 _
  .obtain⟨y,hy,rfl⟩:=bO.mp hx;exact(Hq hb ∅ (br y hy).1).mono ∅
  .have z':b=0:=z;show pN (rl'.map (tk b));rw[z',As];exact aDz ⋯ λx hx=>(br x hx).2 z'
theorem aQg(F:Fn K mg "_law_word" Y7 ["_law_e"]):UW M:=by
 refine F.aAR GZ (λvs H Q E h=>?_) (λ_ _ _ _ _ H _ Q hq h=>?_)
 .intros a c rfl _ h;rfl
 .intros a c rfl hA q h;refine{_,#[(),(au 1 GZ.nd (dI #[(dG #[(eX (w6 K) rfl B.nD boot_isinstance #[0,(yC rfl M.aSW)]),""]),(dG #[(eX (w6 K) rfl B.nD boot_isinstance #[0,(yC rfl M.aO7)]),""]),(dG #[(eX (w6 K) rfl B.nD boot_isinstance #[0,(yC rfl M.aIl)]),""])])),(au 1 GZ.nd (1+(dI #[(dG #[(eX (w6 K) rfl B.nD boot_isinstance #[0,(yC rfl M.aNk)]),""]),(dG #[(eX (w6 K) rfl B.nD boot_isinstance #[0,(yC rfl M.aSk)]),""]),(dG #[(eX (w6 K) rfl B.nD boot_isinstance #[0,(yC rfl M.ayC)]),""])]):)),(au 1 GZ.nd (1+(dI #[(dG #[(eX (w6 K) rfl B.nD boot_isinstance #[0,(yC rfl M.aQF)]),""]),(dG #[(eX (w6 K) rfl B.nD boot_isinstance #[0,(yC rfl M.aSU)]),""])]):)),(aEL (i:=2) (hN:=GZ.nd) (hi':=rfl) (hx:=(jj rfl)) (sc:=aNF) (N:=["_law_said","_law_word_here"]) (ix:=[ν,ν]) cV hq (aHq K (1:)) (λcl C s₀ H₀ ex hq=>{(aDK K (n:=2) hq (RN (bH 0 cR) (RN (bH 1 cR) B2))),(Tt (iD (0:))),(1:)})),(aV (PW.pt (lH (BQ YI (cL K B.cJ #[2]) aP) (qj (jF (iD (eX (w6 K) rfl B.nD boot_isinstance #[0,(yg rfl B.aA6 aJn)])))))) (aJ (aF fR)) aW),(aF (-2:))],?_};obtain⟨hI,hV,b1,b2,b3,b4,b5,b6,b7,b8,eb,k1,k2,k3,k4,k5,k6,k7,k8⟩:qt K (M.ad c)/\bB K (.ref (M.ad c)) (.type "ValueError")=ι true/\∃b1 b2 b3 b4 b5 b6 b7 b8,y6 c=[b1,b2,b3,b4,b5,b6,b7,b8]/\
    bB K (.ref (M.ad c)) (.ref iz)=ι b1/\bB K (.ref (M.ad c)) (.ref cC)=ι b2/\bB K (.ref (M.ad c)) (.ref jl)=ι b3/\bB K (.ref (M.ad c)) (.ref cD)=ι b4/\
    bB K (.ref (M.ad c)) (.ref cG)=ι b5/\bB K (.ref (M.ad c)) (.ref cF)=ι b6/\bB K (.ref (M.ad c)) (.ref jg)=ι b7/\bB K (.ref (M.ad c)) (.ref jq)=ι b8:=by
   cases c
   .exact{M.ay1,M.qa,_,_,_,_,_,_,_,(),M.Yn,M.nV,M.kc,M.Vl,M.rS,M.qh,M.ja,M.Z4}
   .exact{M.avq,M.Xi,_,_,_,_,_,_,_,(),M.gN,M.kH,M.mh,M.X3,M.vj,M.fg,M.Yb,M.nN}
   .exact{M.aNv,M.rp,_,_,_,_,_,_,_,(),M.dQ,M.kG,M.V5,M.uC,M.i7,M.Wx,M.eQ,M.Wm}
   .exact{M.azG,M.u7,_,_,_,_,_,_,_,(),M.rL,M.Xn,M.YS,M.mi,M.sF,M.Yw,M.Y0,M.Ud}
  have ew:=aGK c;rw[eb]at ew;generalize M.ad c=C at hA hI hV k1 k2 k3 k4 k5 k6 k7 k8;refine zE hA hI k1 λt1 H1 g1 h1=>zE (uW g1 hA) hI k2 λt2 H2 g2 h2=>zE (uW g2 (uW g1 hA)) hI k3 λt3 H3 g3 h3=>?_;have j9:=g1.trans (g2.trans g3);replace h1:=g3 _ _ (g2 _ _ h1);replace h2:=g3 _ _ h2;refine{(bG 3),λl1 hl1=>?_};have g4:=j9.trans (Same.new hl1 (.lst [.ref t1,.ref t2,.ref t3]));have f1:=Same.new hl1 (.lst [.ref t1,.ref t2,.ref t3]);have hl:(upd H3 l1 (.lst [.ref t1,.ref t2,.ref t3])) l1=ι (.lst [.ref t1,.ref t2,.ref t3]):=aq;replace h1:=f1 _ _ h1;replace h2:=f1 _ _ h2;replace h3:=f1 _ _ h3;generalize upd H3 l1 (.lst [.ref t1,.ref t2,.ref t3])=H4 at g4 hl h1 h2 h3;have Zi:=uW g4 hA;refine{(),zE Zi hI k4 λt4 H5 g5 h4=>zE (uW g5 Zi) hI k5 λt5 H6 g6 h5=>zE (uW g6 (uW g5 Zi)) hI k6 λt6 H7 g7 h6=>?_};refine{(bG 3),λl2 hl2=>?_};have f2:=g5.trans (g6.trans (g7.trans (Same.new hl2 (.lst [.ref t4,.ref t5,.ref t6]))));have f3:=Same.new hl2 (.lst [.ref t4,.ref t5,.ref t6]);refine .inl {_,_,f2 _ _ hl,aq,(bG 6),λl3 hl3=>?_};have f4:=Same.new hl3 (.lst ([V.ref t1,.ref t2,.ref t3]++[.ref t4,.ref t5,.ref t6]));have f5:=f2.trans f4;replace h1:=f5 _ _ h1;replace h2:=f5 _ _ h2;replace h3:=f5 _ _ h3;replace h4:=f4 _ _ (f3 _ _ (g7 _ _ (g6 _ _ h4)));replace h5:=f4 _ _ (f3 _ _ (g7 _ _ h5));replace h6:=f4 _ _ (f3 _ _ h6);replace hl:(upd (upd H7 l2 (.lst [.ref t4,.ref t5,.ref t6])) l3 (.lst ([V.ref t1,.ref t2,.ref t3]++[.ref t4,.ref t5,.ref t6]))) l3=ι (.lst ([V.ref t1,.ref t2,.ref t3]++[.ref t4,.ref t5,.ref t6])):=aq;have g8:=g4.trans f5;generalize upd (upd H7 l2 (.lst [.ref t4,.ref t5,.ref t6])) l3 (.lst ([V.ref t1,.ref t2,.ref t3]++[.ref t4,.ref t5,.ref t6]))=H8 at g8 hl h1 h2 h3 h4 h5 h6;have hA8:=uW g8 hA;refine{(),zE hA8 hI k7 λt7 H9 g9 h7=>zE (uW g9 hA8) hI k8 λt8 nH mK h8=>?_};refine{(bG 2),λl4 yU=>?_};have f6:=Same.new yU (.lst [.ref t7,.ref t8]);have f7:=g9.trans (mK.trans f6);refine .inl {_,_,f7 _ _ hl,aq,(bG 8),λl5 hl5=>?_};have f8:=Same.new hl5 (.lst ([V.ref t1,.ref t2,.ref t3]++[.ref t4,.ref t5,.ref t6]++[.ref t7,.ref t8]));have f9:=f7.trans f8;replace h1:=f9 _ _ h1;replace h2:=f9 _ _ h2;replace h3:=f9 _ _ h3;replace h4:=f9 _ _ h4;replace h5:=f9 _ _ h5;replace h6:=f9 _ _ h6;replace h7:=f8 _ _ (f6 _ _ (mK _ _ h7));replace h8:=f8 _ _ (f6 _ _ h8);replace hl:(upd (upd nH l4 (.lst [.ref t7,.ref t8])) l5 (.lst ([V.ref t1,.ref t2,.ref t3]++[.ref t4,.ref t5,.ref t6]++[.ref t7,.ref t8]))) l5=ι (.lst [V.ref t1,.ref t2,.ref t3,.ref t4,.ref t5,.ref t6,.ref t7,.ref t8]):=aq;have M4:=g8.trans f9;generalize upd (upd nH l4 (.lst [.ref t7,.ref t8])) l5 (.lst ([V.ref t1,.ref t2,.ref t3]++[.ref t4,.ref t5,.ref t6]++[.ref t7,.ref t8]))=H11 at M4 hl h1 h2 h3 h4 h5 h6 h7 h8;refine{(),l5,rfl,{_,ak.of hl},aOL (bw:=[b1,b2,b3,b4,b5,b6,b7,b8].zip xC) hl (.cons {(),h1} (.cons {(),h2} (.cons {(),h3} (.cons {(),h4} (.cons {(),h5} (.cons {(),h6} (.cons {(),h7} (.cons {(),h8} .nil)))))))) (by show 8<=1000;decide) rfl (λH' b w kk hk=>{(),(),hk}) (λH' b w kk hk=>{(),hk}) λD H12 dZ hD=>?_};rw[ew]at hD;have gz:=M4.trans dZ;refine{(),.ref D,1,rfl,.inl {_,ak.of hD,rfl},rfl,(),bK ?_};refine{(),a,C,_,true,rfl,uW gz hA,hI,.inr (.inl {(),hV}),(),bK ?_};exact{(),¬hD,rfl,q H12 gz}
theorem aJf(F:Fn K mg "_law_told" Zy ["_law_desk","_law_text_here"])(Z9:Ex P w K mg base cY cC cF cD cG)(Dp:UW M):vy P w K mg base cY cC cF cD cG:=by
 delta JR
 obtain⟨p,t,rfl,⟨dx,fs,hp,hf⟩,q⟩:=h;refine{_,#[(),(au 2 JR.nd zu),(au 3 JR.nd fR),(RY (i:=2) (j:=4) (aDH D.Ij.cl Z9 hr (0:) #[1]) rfl rfl rfl JR.nd rfl (jj rfl) rfl rfl rfl M.xw (λa=>(aJ (au 3 JR.nd (WS Dp hr rfl #[4]))))),(aV (PW.pt (vK (3=="":) (yX (jF (iD (eX Bw rfl B.nD boot_isinstance #[2,(yg rfl B.nM boot_str)])))))) (aJ (aF (dG #["",zu]))) aW),(aV (3=="":) (aJ (aF (dG #["",2]))) aW),(aF (dG #["",3]))],?_};refine{(),p,dx,fs,rfl,hp,hf,(),q _ _ (λs H1 q1=>?_) (λc H1 q1=>?_)}
 .exists (),();rw[decide_eq_true rfl];refine eO {(),.str s,"str","str",rfl,rfl,by simp,(),bK ?_};exists (),();rw[decide_eq_true rfl];exact eO {(),(bG 2),λt1 ht1=>q1 t1 _ (Same.new ht1 _) aq}
 .refine{(),FA M c,λa ob ha hcm=>?_};have g1:=Same.new ha (.gP ob (xJ a (M.ad c)));refine{(),ob,_,aq,hcm,a,c,rfl,.inr {ob,(aq)},λH2 g2=>?_};exists (),();rw[decide_eq_false (n9 c)];refine bK {(),(),?_};rw[decide_eq_false (n9 c)];exact bK {(),(bG 2),λt1 ht1=>q1 t1 _ (g1.trans (g2.trans (Same.new ht1 _))) aq}
theorem aFH(F:Fn K mg "_law_spaced" ph ["_law_numbers_here"]):Rt M:=by
 delta aQE
 intros l ns rfl hl hz hf q h;refine{_,(aJ (aF (oX K qO yE yq za fR (fu (sc:=aOt) (N:=["_law_number_here"]) (ix:=[ν]) cV rfl (d7 K (0:)) (λ_ _ _ _ _=>{(bH 0 cR),dg,(dW (CV rfl) rfl B.nM boot_str #[0])}))))),?_};refine{rfl,(),NQ hl hz rfl ?_ ?_}
 .intro H' x g hx k hk;exact{(),x,rfl,p7 (hf x hx) wH,hk}
 .intro D H' hD g h';refine{_,D,(),rfl,h',by rw[jG];exact De hf hz,?_};rw[jG];exact q H' g
theorem aSK(F:Fn K mg "_law_closed_text" VW ["_law_form"])(ud:Rt M):OH M:=by
 delta MJ
 intros v o rfl h q h;exists _,#[(),(aV (tQ (Ar (0:))) (aJ (aF fR)) aW),(au 1 MJ.nd (dW (CV rfl) rfl B.nM boot_str #[-0])),(iC PassesOwn.never rfl (d7 K (-0:)) (aNY K (n:=2) rfl (RN (bH 2 MJ.nd) (RN (bH 3 MJ.nd) B2))) (aJ (au 1 MJ.nd (1+""+(dW (CV rfl) rfl B.nM boot_str #[2])+""+(aC ud hr #[3]):)))),(aF (1:))];rcases h with⟨rfl,rfl⟩|⟨bot,ps,t,lp,ys,rfl,ok,rfl,ht,hlp,ts,e1,e2,hts⟩
 .exact{(),(),eO (q H (Same.refl _))}
 refine{(),(),bK ?_};intros f1 f2 ok.few;have h4:=ok.2.1;have lt:ts.length=ps.length:=by rw[e2,aB]
 rw[e1]at hlp;refine{(),!ht,rfl,bot,rfl,p7 f1 wH,(),!ht,rfl,lp,rfl,.inl {{_,ak.of hlp},?_}};have q:∀H',Same H H'->Q (.str ((ps.map zf).foldl (λf x=>f++cP "; " ++ x) (aA bot))) H':=λH' g=>by rw[<-Be];exact q H' g
 have big:200000<=sizeLine:=∅;refine NK (xs:=ts.map λq=>V.ref q.1) (λi σ' H'=>sJ λ(o2 o3:Option V) (f:Str)=>Dy (σ'=[ι (.ref t),ι (.str f),o2,o3]) (Same H H') (f=((ps.take i).map zf).foldl (λf x=>f++cP "; " ++ x) (aA bot)) (f.length<=4001+i*20110)) {_,_,(),Same.refl _,rfl,by have:=f1.len;exact cM this ∅} (λi σ' H' ⟨_,_,_,_,g,_,_⟩=>ak.of (g _ _ hlp)) ?_ ?_
 .rintro i x σ' H1 hx ⟨o2,o3,f,rfl,g1,ef,lf⟩;rw[List.getElem?_map]at hx;cases e:ts[i]? with
  |none=>rw[e]at hx;cases hx
  |some z=>
   rw[e]at hx;cases hx;have hi:i<ts.length:=(List.getElem?_eq_some_iff.mp e).1;have hz:=List.mem_of_getElem? e;obtain⟨z1,z2⟩:=hts z hz;have ep:ps[i]?=ι z.2.2:=by rw[e2,List.getElem?_map,e];rfl
   have fz:=f2 z.2.2 (List.mem_of_getElem? ep);have l1:(cP (toString z.2.2.1)).length<=4001:=fz.1.len;have l2:=Mv fz.2.2 fz.2.1;have lp4:=fz.2.1;refine{z.1,(),ao.of (g1 _ _ z1),rfl,_,(),"",(),by rw[rH.2];lia,(),z.2.2.1,rfl,p7 fz.1 wH,by rw[dU,rH.2];lia,by rw[dU,dU,rH.1,rH.2];lia,(),z.2.1,z.2.2.2,rfl,.inl (g1 _ _ z2),⋯,fz.2.2,λH2 g2=>?_};refine{by rw[dU,dU,dU,rH.1,rH.2];lia,_,_,(),g1.trans g2,?_,by rw[dU,dU,dU,dU,rH.1,rH.2];lia};rw[take_one ep,fH,LL,<-ef];show f++cP "; " ++ aA z.2.2.1++cP ": " ++ mR z.2.2.2=f++cP "; " ++ (aA z.2.2.1++cP ": " ++ mR z.2.2.2);simp only[qb]
 .rintro σ' H1 ⟨o2,o3,f,rfl,g1,ef,lf⟩;rw[aB,oA ⋯]at ef;rw[<-ef]at q;exact{(),q H1 g1}
theorem azL(F:Fn K mg "_law_where_text" b9 ["_law_told_here"])(ud:Rt M):af8 M:=by
 delta Qp
 intros t le ls es ss n rfl ht he hs l1 l2 f1 f2 f3 q h;exists _,#[(),(au 1 Qp.nd fR),(mX (aV (-0!=(dI iW):) (aJ (au 1 Qp.nd ((aC ud hr #[-0])+"":))) aW)),(mX (aV (-0!=(dI iW):) (aJ (au 1 Qp.nd (1+(aC ud hr #[-0])+"":))) aW)),(aF (1+""+(dW (CV rfl) rfl B.nM boot_str #[-0]):))];rw[ax6]at q;have big:10000000<=sizeLine:=∅;have k1:=Mv f1 l1;have k2:=Mv f2 l2;have k3:(cP (toString n)).length<=4001:=f3.len;have b1:(cP "| ").length=2/\(cP " | ").length=3/\(cP " ").length=1:=by decide +kernel
 refine lW.by (λσ' H'=>∃f:Str,σ'=[ι (.ref t),ι (.str f)]/\Same H H'/\f=(if es=[]then cP "| " else mR es++cP " | ")/\f.length<=4002*1000+3) (λNN d8=>?_) ?_
 .refine{(),!ht,rfl,cZ _,λD hD=>?_};obtain⟨H1,uu,g1,h1⟩:=nw hD (.lst []);rw[uu];refine zk (ns:=es) (ms:=[]) (ak.of (g1 _ _ he)) (ak.of h1) {(),?_};by_cases c:es=[]
  .rw[decide_eq_true c];exact bK (d8 _ _ {(),g1,by rw[if_pos c],by rw[b1.1];decide})
  .rw[decide_eq_false c];refine eO {(),!(g1 _ _ ht),rfl,le,es,rfl,.inl (g1 _ _ he),l1,f1,λH2 g2=>{by rw[b1.2.1];lia,?_}};exact d8 _ _ {(),g1.trans g2,by rw[if_neg c],by rw[dU,b1.2.1];lia}
 rintro σ' H1 ⟨f,rfl,g1,ef,lf⟩;rw[<-ef]at q;refine lW.by (λσ' H'=>∃f':Str,σ'=[ι (.ref t),ι (.str f')]/\Same H H'/\f'=f++(if ss=[]then ur else mR ss++Tx.one 32)/\f'.length<=2*4002*1000+4) (λNN d8=>?_) ?_
 .refine{(),!(g1 _ _ ht),rfl,cZ _,λD hD=>?_};obtain⟨H2,uu,g2,h2⟩:=nw hD (.lst []);rw[uu];have dZ:=g1.trans g2;refine zk (ns:=ss) (ms:=[]) (ak.of (dZ _ _ hs)) (ak.of h2) {(),?_};by_cases c:ss=[]
  .rw[decide_eq_true c];exact bK (d8 _ _ {(),dZ,by rw[if_pos c,OI],⋯})
  .rw[decide_eq_false c];refine eO {(),(),!(dZ _ _ ht),rfl,ls,ss,rfl,.inl (dZ _ _ hs),l2,f2,λH3 g3=>{⋯,by rw[dU,b1.2.2];lia,?_}};exact d8 _ _ {(),dZ.trans g3,by rw[if_neg c,jG,qb],by rw[dU,dU,b1.2.2];lia}
 rintro σ' H2 ⟨f',rfl,g2,ef',lf'⟩;rw[<-ef']at q;refine{(),by rw[b1.1];lia,(),_,_,.inr (ao.of (g2 _ _ ht)),rfl,n,rfl,p7 f3 wH,by rw[dU,b1.1];lia,q H2 g2}
theorem aMa(F:Fn K mg "_law_by_words" Xj ["_law_word_here","_law_one","_law_other","_law_numbers_here"])(qH:GY M)(ud:Rt M)(Dl:YQ M)(Cv:kD M)(Fj:WT M)(CY:Yr M)(ko:af8 M)(Cm:ZV M)(v8:Rp M)(X8:OH M)(Cz:kz M)(Ed:Vs M)(Dz:kK M):Rl M:=by
 delta Ut Ut
 intros k v1 v2 l a b r s n0 n1 n2 n3 n4 o rfl hl hR hS ok q h;exists _,#[(),(aV (0=="":) (aJ (aF (aC qH hr #[1]))) aW),(aV (0=="":) (aJ (aF (aC ud hr #[(gj Dl hr rfl #[1,-3])]))) aW),(aV (0=="":) (aJ (aF (dW (Tj rfl) rfl B.nM boot_str #[(gj Cv hr rfl #[1,-3])]))) aW),(aV (0=="":) #[(),(au 4 Ut.nd (gj Fj hr rfl #[1,2])),(aF (aK K (dI #[(dW (Tj rfl) rfl B.nM boot_str #[4]),""]) (dW K9 rfl B.Bv boot_int #[(TL (Ar (4:)))])))] aW),(aV (0=="":) (aJ (aF (aC ud hr #[(gj CY hr rfl #[1])]))) aW),(aV (0=="":) (aJ (aF (aC ko hr #[(gj Cm hr rfl #[1,(aC v8 hr #[-1,-3])])]))) aW),(aV (0=="":) (aJ (aF (aC X8 hr #[(gj Cz hr rfl #[1])]))) aW),(aV (0=="":) (aJ (aF (dW (Tj rfl) rfl B.nM boot_str #[(gj Ed hr rfl #[1])]))) aW),(au 4 Ut.nd (gj Dz hr rfl #[1,-3,-3,-3])),(aF (aK K (dI #[(""+(dW (Tj rfl) rfl B.nM boot_str #[4]):),""]) (dW K9 rfl B.Bv boot_int #[(TL (Ar (4:)))])))];obtain⟨ra,p1,p2,rv,hA,_⟩:=id hR;subst rv;cases k with
 |gW=>
  refine vZ .gW rfl ?_;cases ok with|gW h1=>exact{(),.ref ra,r,rfl,hR,h1.tq ∅,q}
 |places=>
  refine eU (k:=.places) .gW nofun rfl (vZ .places rfl ?_);cases ok with
  |places h1=>
   unfold Gv at q;refine{(),(),¬hl,at0,.ref ra,r,n0,480,rfl,hR,h1,∅,λz l1 H1 g1 _ hl1=>?_,λz=>by rw[if_neg z]at q;exact q};rw[if_pos z]at q;exact{l1,(),.inl hl1,by rw[Rw.m7];lia,h1.zr ∅ ⋯,λH2 g2=>q H2 (g1.trans g2)}
 |at_=>
  refine eU (k:=.at_) .gW nofun rfl (eU (k:=.at_) .places nofun rfl (vZ .at_ rfl ?_));cases ok with
  |at_ h1 hx hb=>
   unfold Hr at q;refine{(),(),¬hl,at0,.ref ra,r,n0,480,rfl,hR,h1,∅,hb,λz=>by rw[if_neg z]at q;exact q,λz H1 g1=>?_};rw[if_pos z]at q;exact .inl {(),p7 (h1.few ∅ (λe=>by have:=hx e;lia)) wH,q H1 g1}
 |part=>
  refine eU (k:=.part) .gW nofun rfl (eU (k:=.part) .places nofun rfl (eU (k:=.part) .at_ nofun rfl (vZ .part rfl ?_)));cases ok with
  |part h1 h2=>
   unfold JQ at q;refine{(),(),.ref ra,v2,r,s,480,rfl,hR,hS,h1,h2,∅,λz H1 g1=>?_,λz=>by rw[if_neg z]at q;exact q};rw[if_pos z]at q;have few:=λn=>Dx (r:=r) (s:=s) (n:=n) (by have:=h1.wf.l4;have:=h2.wf.l4;lia);generalize Br r s=o at q few;cases o with
   |none=>exact{(),.inr {rfl,(bG 2),λD hD=>{(),.inr {(),¬aq,at1,q _ (g1.trans (Same.new hD _))}}}}
   |some n=>exact{(),.inl {(),p7 (few n rfl) wH,(bG 2),λD hD=>{(),.inr {(),¬aq,at0,q _ (g1.trans (Same.new hD _))}}}}
 |round=>
  refine eU (k:=.round) .gW nofun rfl (eU (k:=.round) .places nofun rfl (eU (k:=.round) .at_ nofun rfl (eU (k:=.round) .part nofun rfl (vZ .round rfl ?_))));cases ok with
  |round h1=>
   refine{(),.ref ra,r,480,rfl,hR,h1,∅,Nt q λq p H1 g1 hp1 hz=>?_};exact{p,[_,_],rfl,.inr hp1,(by show 2<=1000;decide),OC hz,λH2 g2=>q H2 (g1.trans g2)}
 |where_=>
  refine eU (k:=.where_) .gW nofun rfl (eU (k:=.where_) .places nofun rfl (eU (k:=.where_) .at_ nofun rfl (eU (k:=.where_) .part nofun rfl (eU (k:=.where_) .round nofun rfl (vZ .where_ rfl ?_)))));cases ok with
  |where_ h1=>
   refine{(),(),!hA,rfl,(),¬hl,at1,_,(),h1.wf.hB.lo,.ref ra,r,_,480,rfl,hR,h1,∅,Nt q λq p le ls H1 g1 hp1 he hs hz=>?_};have l1:=R3 (jA (sh r).at (tk r.b n1)) 0 (eE (sh r)).1;have l2:=R3 (jA (sh r).at (tk r.b n1)) (eE (sh r)).1 (eE (sh r)).2;exact{p,le,ls,_,_,(),hp1,he,hs,⋯,⋯,Ou ⋯,Ou ⋯,Bu ⋯,λH2 g2=>q H2 (g1.trans g2)}
 |closed=>
  refine eU (k:=.closed) .gW nofun rfl (eU (k:=.closed) .places nofun rfl (eU (k:=.closed) .at_ nofun rfl (eU (k:=.closed) .part nofun rfl (eU (k:=.closed) .round nofun rfl (eU (k:=.closed) .where_ nofun rfl (vZ .closed rfl ?_))))));cases ok with
  |closed h1=>
   refine{(),GW h1 hR q (λ_ _ q H1 g1=>?_) λbot ps ok q t lp ys H1 g1 ht hlp hy=>?_}
   .exact{_,ν,rfl,.inl {rfl,(rfl)},λH2 g2=>q H2 (g1.trans g2)}
   .exact{_,ι (bot,ps),rfl,.inr {bot,ps,t,lp,ys,rfl,ok,rfl,ht,hlp,(hy)},λH2 g2=>q H2 (g1.trans g2)}
 |divisor=>
  refine eU (k:=.divisor) .gW nofun rfl (eU (k:=.divisor) .places nofun rfl (eU (k:=.divisor) .at_ nofun rfl (eU (k:=.divisor) .part nofun rfl (eU (k:=.divisor) .round nofun rfl (eU (k:=.divisor) .where_ nofun rfl (eU (k:=.divisor) .closed nofun rfl (vZ .divisor rfl ?_)))))));cases ok with
  |divisor h1=>
   unfold Kc at q;refine{(),.ref ra,r,rfl,hR,λz=>?_,λz=>by rw[if_neg z]at q;exact q};rw[if_pos z]at q;exact .inl {(),p7 (GH h1 ∅) wH,q H (Same.refl _)}
 |divides=>
  refine eU (k:=.divides) .gW nofun rfl (eU (k:=.divides) .places nofun rfl (eU (k:=.divides) .at_ nofun rfl (eU (k:=.divides) .part nofun rfl (eU (k:=.divides) .round nofun rfl (eU (k:=.divides) .where_ nofun rfl (eU (k:=.divides) .closed nofun rfl (eU (k:=.divides) .divisor nofun rfl ?_)))))));cases ok with
  |divides h1 x0 x1=>
   unfold G4 at q;refine{(),(),¬hl,at2,(),¬hl,nZ (j:=3) rfl,(),¬hl,nZ (j:=4) rfl,.ref ra,r,n2,n3,n4,480,rfl,hR,h1,∅,x0,x1,λw=>by rw[if_neg w]at q;exact q,λz w=>by rw[if_pos z,if_neg w]at q;exact q,λz w H1 g1=>?_};rw[if_pos z,if_pos w]at q;have few:=λn=>xh (r:=r) (d:=n2) (s:=n3) (e:=n4) (n:=n) (by have:=h1.wf.l4;lia);generalize Bs r n2 n3 n4=o at q few;cases o with
   |none=>exact{(),.inr {rfl,(by decide +kernel),(bG 2),λD hD=>{(),.inr {(),¬aq,at1,q _ (g1.trans (Same.new hD _))}}}}
   |some n=>
    have:=(few n rfl).len;exact{(),.inl {(),p7 (few n rfl) wH,cM (show(cP "no ").length+(aA (n:Int)).length<=5000 by rw[lno];lia) ∅,(bG 2),λD hD=>{(),.inr {(),¬aq,at0,q _ (g1.trans (Same.new hD _))}}}}
theorem av4(F:Fn K mg "_law_due" XC ["_law_word_here","_law_one","_law_other","_law_numbers_here"])(eI:Rl M)(Dp:UW M):PH M:=by
 delta Ga
 intros w' v1 v2 l rfl q h;refine{_,#[(),(au 4 Ga.nd zu),(au 5 Ga.nd fR),(RY (i:=4) (j:=6) (aIf eI hr rfl #[0,1,2,3] ∅ ∅ rfl rfl) rfl rfl rfl Ga.nd rfl (jj rfl) rfl rfl rfl M.xw (λa=>(aJ (au 5 Ga.nd (WS Dp hr rfl #[6]))))),(aV (5!="":) (aJ (aF (dG #["",5]))) aW),(aF (dG #["",4]))],?_};refine{(),(),(),(),q _ _ (λv H1 q1=>?_) (λc H1 q1=>?_)}
 .exists (),();rw[decide_eq_true rfl];exact bK {(),(bG 2),λt1 ht1=>q1 t1 _ (Same.new ht1 _) aq}
 .refine{(),FA M c,λa ob ha hcm=>?_};have g1:=Same.new ha (.gP ob (xJ a (M.ad c)));refine{(),ob,_,aq,hcm,a,c,rfl,.inr {ob,(aq)},λH2 g2=>?_};exists (),();rw[decide_eq_false (n9 c)];exact eO {(),(bG 2),λt1 ht1=>q1 t1 _ (g1.trans (g2.trans (Same.new ht1 _))) aq}
theorem aJm(F:Fn K mg "_law_drawn_numbers" Vv ["_law_number_here"]):zx M:=by
 delta Ss
 intros n rfl q h;exists _,#[(),(au 1 Ss.nd (aK K (dI #[(0%_:),(0%_:),(0%_-_:),(0%_:)]) (0/_%_:))),(au 2 Ss.nd (aK K (dI #[(0/_%_:),(0/_%_-_:)]) (0/_%_:))),(au 3 Ss.nd (aK K (dI #[(_+0/_%_:),(0/_%_-_:)]) (0/_%_:))),(aF (dI #[1,(0/_%_-_:),(_+0/_%_:),2,3]))];have lo:∀(y z:Int),0<z->0<=y%z:=λy z h=>gY y h;have hi:∀(y z:Int),0<z->y%z<z:=λy z h=>iG y h;refine{(),"",(∅:(0:Int)<25),(),"",(∅:(0:Int)<25),(),"",(∅:(0:Int)<310),"",(),"",(∅:(0:Int)<25),(bG 4),λa1 ha1=>?_};exists (),"",{∅,∅},"",(∅:(0:Int)<4),¬aq,dH (ns:=[n%25,n%25,n%310-6,n%25]) (gY _ ∅) (iG _ ∅);have g1:=Same.new ha1 (.lst (([n%25,n%25,n%310-6,n%25]:ζ).map V.int));generalize ex:([n%25,n%25,n%310-6,n%25]:ζ).getD (n/310%4).toNat 0=x;have hx:x.natAbs<=303:=by
  have:=lo n 25 ∅;have:=hi n 25 ∅;have:=lo n 310 ∅;have:=hi n 310 ∅;have:=lo (n/310) 4 ∅;have:=hi (n/310) 4 ∅;obtain h|h|h|h:(n/310%4).toNat=0∨(n/310%4).toNat=1∨(n/310%4).toNat=2∨(n/310%4).toNat=3:=⋯
  .rw[h]at ex;change n%25=x at ex;lia
  .rw[h]at ex;change n%25=x at ex;lia
  .rw[h]at ex;change n%310-6=x at ex;lia
  .rw[h]at ex;change n%25=x at ex;lia
 refine{(),"",{∅,∅},"",(∅:(0:Int)<101),(),"",{∅,∅},"",(∅:(0:Int)<110),"",(bG 2),λa2 ha2=>?_};exists (),"",{∅,∅},"",(∅:(0:Int)<2),¬aq,dH (ns:=[n/7%101,n/7%110-5]) (gY _ ∅) (iG _ ∅);have g2:=g1.trans (Same.new ha2 (.lst (([n/7%101,n/7%110-5]:ζ).map V.int)));generalize ey:([n/7%101,n/7%110-5]:ζ).getD (n/1300%2).toNat 0=y;have hy:y.natAbs<=1000:=by
  have:=lo (n/7) 101 ∅;have:=hi (n/7) 101 ∅;have:=lo (n/7) 110 ∅;have:=hi (n/7) 110 ∅;have:=lo (n/1300) 2 ∅;have:=hi (n/1300) 2 ∅;obtain h|h:(n/1300%2).toNat=0∨(n/1300%2).toNat=1:=⋯
  .rw[h]at ey;change n/7%101=y at ey;lia
  .rw[h]at ey;change n/7%110-5=y at ey;lia
 refine{(),"",{∅,∅},"",(∅:(0:Int)<10),(),"",{∅,∅},"",(∅:(0:Int)<13),"",(bG 2),λa3 ha3=>?_};exists (),"",{∅,∅},"",(∅:(0:Int)<2),¬aq,dH (ns:=[1+n/11%10,n/11%13-1]) (gY _ ∅) (iG _ ∅);have g3:=g2.trans (Same.new ha3 (.lst (([1+n/11%10,n/11%13-1]:ζ).map V.int)));generalize ez:([1+n/11%10,n/11%13-1]:ζ).getD (n/2700%2).toNat 0=z;have hz:z.natAbs<=1000:=by
  have:=lo (n/11) 10 ∅;have:=hi (n/11) 10 ∅;have:=lo (n/11) 13 ∅;have:=hi (n/11) 13 ∅;have:=lo (n/2700) 2 ∅;have:=hi (n/2700) 2 ∅;obtain h|h:(n/2700%2).toNat=0∨(n/2700%2).toNat=1:=⋯
  .rw[h]at ez;change 1+n/11%10=z at ez;lia
  .rw[h]at ez;change n/11%13-1=z at ez;lia
 refine{(),(),"",{∅,∅},"",(∅:(0:Int)<43),"",(),"",{∅,∅},"",(∅:(0:Int)<12),(),(),(bG 5),λl hl=>?_};have b1:=lo (n/13) 43 ∅;have b2:=hi (n/13) 43 ∅;have b3:=lo (n/17) 12 ∅;have b4:=hi (n/17) 12 ∅;exact q l _ x _ _ y z (g3.trans (Same.new hl _)) (g3.free hl) aq {tH ⋯,tH ⋯,{⋯,⋯},hy,hz} ⋯
theorem aD3(F:Fn K mg "_law_text" dk ["_law_word_here","_law_one","_law_other","_law_numbers_here"]):CI M:=by
 delta DM
 intros k l a b n0 n1 n2 n3 n4 rfl hl ha hb d q h;refine{_,#[(),(au 4 DM.nd (dI iW)),(mX (aV (AE (av8 K) (0:) (dG #["",""]) (by with_unfolding_all rfl)) (aJ (au 4 DM.nd (dI #[(dW Nx rfl B.nM boot_str #[-3])]))) aW)),(mX (aV (0=="":) (aJ (au 4 DM.nd (dI #[2]))) aW)),(mX (aV (0=="":) (aJ (au 4 DM.nd (dI #[(dW Nx rfl B.nM boot_str #[-3])]))) aW)),(mX (aV (0=="":) (aJ (nU (i:=4) (hN:=DM.nd) (hi':=rfl) (hx:=(jj rfl)) (sc:=ax1) (N:=["_law_number_here"]) (ix:=[ν]) cV rfl (d7 K (jT (m6 K) (3:) (jC aP) jZ)) (λ_ _ _ _ _=>{(bH 0 cR),dg,(dW Nx rfl B.nM boot_str #[0])}))) aW)),(aF (oX K qO yE yq za fR ((dI #[0,1])+4:)))],?_};obtain⟨w1,w2⟩:=Mb ha hb d k;have s2:=tH (x:=n2) (by have:=d.a2;lia);refine{cZ _,λl6 hl6=>?_};obtain⟨H1,uu,g1,h1⟩:=nw hl6 (.lst []);rw[uu];refine lW.by (Qq k a b l H (tail3 n0 k)) (λNN d8=>?_) ?_
 .refine{(),(bG 2),λt2 lY=>{t2,(),.inr (ao.of aq),rfl,rfl,?_}};have g3:=Same.new lY (.tup [.str "places",.str "at"]);exists ();change if inV (.str k.word) [.str "places",.str "at"]=true then _ else _;rw[aHb];have j9:=g1.trans g3;cases e3:isAt k with
  |true=>
   refine eO {(),¬(j9 _ _ hl),at0,n0,rfl,Rr d.a0,(bG 1),λl7 hl7=>?_};exact d8 _ _ {l7,rfl,j9.trans (Same.new hl7 _),by rw[show tail3 n0 k=[aA n0]by cases k<;>first|rfl|cases e3];exact aq}
  |false=>
   exact bK (d8 _ _ {l6,rfl,j9,by rw[show tail3 n0 k=[]by cases k<;>first|rfl|cases e3];exact g3 _ _ h1})
 rintro σ3 H3 ⟨l7,rfl,g3,h7⟩;refine lW.by (Qq k a b l H (cx b n0 k)) (λNN d8=>?_) ?_
 .refine tS .part rfl (λe=>?_) (λe=>?_)
  .subst e;refine{(),(bG 1),λl8 xZ=>?_};exact d8 _ _ {l8,rfl,g3.trans (Same.new xZ _),aq}
  .exact d8 _ _ {l7,rfl,g3,by rw[show cx b n0 k=tail3 n0 k by cases k<;>first|rfl|exact absurd rfl e];exact h7}
 rintro σ4 H4 ⟨l8,rfl,g4,h8⟩;refine lW.by (Qq k a b l H (Zw b n0 n1 k)) (λNN d8=>?_) ?_
 .refine tS .where_ rfl (λe=>?_) (λe=>?_)
  .subst e;refine{(),¬(g4 _ _ hl),at1,n1,rfl,Rr d.a1,(bG 1),λl9 hl9=>?_};exact d8 _ _ {l9,rfl,g4.trans (Same.new hl9 _),aq}
  .exact d8 _ _ {l8,rfl,g4,by rw[show Zw b n0 n1 k=cx b n0 k by cases k<;>first|rfl|exact absurd rfl e];exact h8}
 rintro σ5 H5 ⟨l9,rfl,g5,h9⟩;refine lW.by (Qq k a b l H (sV b n0 n1 n2 n3 n4 k)) (λNN d8=>?_) ?_
 .refine tS .divides rfl (λe=>?_) (λe=>?_)
  .subst e;refine{(),(),.inl {_,ak.of (g5 _ _ hl),λD hD=>?_}};rw[show fO [V.int n0,.int n1,.int n2,.int n3,.int n4] (ι 2) ν=[n2,n3,n4].map V.int from cy _ 2];obtain⟨H6,uu,g6,h6⟩:=nw hD (.lst ([n2,n3,n4].map V.int));rw[uu];refine{D,rfl,.inl {{_,ak.of h6},Zv (ou (ak.of h6)) (by show 3<=1000;decide) rfl ?_ ?_}}
   .intro H7 x g7 hx k hk;refine{(),x,rfl,Rr ?_,hk};rcases c7.mp hx with rfl|hx
    .exact s2
    rcases c7.mp hx with rfl|hx
    .exact tH d.a3
    .rw[eN.mp hx];exact tH d.a4
   .intro D2 H7 hD2 g7 h7;exact d8 _ _ {D2,rfl,g5.trans (g6.trans g7),h7}
  .exact d8 _ _ {l9,rfl,g5,by rw[show sV b n0 n1 n2 n3 n4 k=Zw b n0 n1 k by cases k<;>first|rfl|exact absurd rfl e];exact h9}
 rintro σ6 H6 ⟨l10,rfl,g6,h10⟩;have lt:=(xi hb d k).1;refine{rfl,(),(),(bG 2),λlz hlz=>?_};have g7:=Same.new hlz (.lst [.str k.word,.str a]);refine{(),.inl {_,_,aq,g7 _ _ h10,by rw[aB];exact cM (⋯:2+_<=10) ∅,λl' hl'=>{_,l',k.word::a::sV b n0 n1 n2 n3 n4 k,rfl,rfl,aq,by rw[jG];exact Je 32 (B:=61) (λw hw=>(w1 w hw).1) ⋯,?_}}};rw[jG];exact q _ (g6.trans (g7.trans (Same.new hl' _)))
theorem aIZ(F:Fn K mg "_law_changed" V0 ["_law_desk","_law_kept","_law_one","_law_number_here"])(Dg:vE M)(EB:ng M)(v8:Rp M)(CQ:tI M)(qH:GY M)(vJ:vy P w K mg base cY cC cF cD cG):Zp P w K mg base cY:=by
 delta Ek
 intros p d e s n M' N N2 r c rfl hD hN hE hN2 ne os hm qm c1 c2 q h;refine{_,#[(),(au 4 Ek.nd (uf hr.hu (1:) (2:) (λ_ _=>rfl))),(au 5 Ek.nd (3/_%_:)),(au 6 Ek.nd (""+2+""+2+"":)),(aV (5==_:) (aJ (DF hr.hu (1:) (2:) (aC Dg hr #[4,_]) rfl)) (aJ (mX (aV (5==_:) #[(),(DF hr.hu (1:) (2:) (aC EB hr #[4,(aC v8 hr #[-4,_])]) rfl),(au 6 Ek.nd (""+2+""+2+"":))] #[(),(DF hr.hu (1:) (2:) (aC CQ hr #[-4,(3/_:),(aK K (dI #[_,_]) (dW K9 rfl B.Bv boot_int #[(nQ O1 (-4:) aP (pq _))]))]) rfl),(au 6 Ek.nd (""+2+""+(aC qH hr #[(uf hr.hu (1:) (2:) (λ_ _=>rfl))]):))])))),(aF (nQ (wD K hr) (aC vJ hr #[0,6]) (dG #["",""]) (pq _)))],?_};obtain⟨v,hg,hR⟩:=hE.get hm;obtain⟨ra,p1,p2,rfl,hA,vg,Ad⟩:=id hR;have big:10000<=sizeLine:=∅;intros z1 z2 z3 z4 z5 z6 z7 LH;have ls:=os.hi;have Bi:=qm.mono (⋯:c<=480);have stay:Sm (c+37) r:=qm.mono ⋯;refine{(),(),e,(),hg,(),"",{∅,∅},"",(∅:(0:Int)<4),(),by rw[z1];lia,by rw[dU,z1,z2];lia,(),by rw[dU,dU,z1,z2];lia,by rw[dU,dU,dU,z1,z2,z3];lia,?_};have fin:∀(t:Addr) (r':Rw) (H1 H2 H3:Hp),Same H H1->jM e H1 H2->gR H2 e (M'.put s r') (N2+1)->Sm (c+37) r'->r'.b=r.b->jM d H2 H3->eY cY H2 p d M' N->eY cY H3 p d (M'.put s r') (N+1)->H3 t=ι (.tup [.str "told",.str "ok"])->OQ.ble 2=OQ.ble 2->∀t2,H3 t2=ν->pC K id (.ref t) (.ref t2) (upd H3 t2 (.tup [.str "told",.str "ok"])) Q:=λt r' H1 H2 H3 g1 g2 E2 s2 eb g3 D2 D3 h3 _ t2 lY=>by
  have g4:=Same.new lY (.tup [.str "told",.str "ok"]);intros kd hd _ D2.kp.ex;refine Jg (pK rfl).ok (pK rfl).ok (g4 _ _ h3) aq ?_;exact q _ r' (λb' o hb1 hb2 e0=>g4 _ _ (g3 _ _ hb1 (g2 _ _ hb2 (g1 _ _ e0)))) (D3.same g4) ((E2.XF ne.symm g3 hd).same g4) s2 eb
 refine{(),(),cu (λc0=>?_) (λc0=>?_)}
 .refine{(),.ref ra,r,1,c,rfl,hR,qm,⋯,Bd.of ∅ ∅,λz=>absurd (zb _) z,λ_ v' H1 g1 iJ=>?_};obtain⟨H2,wQ,sd,E2⟩:=(hE.same g1).put hN2 (n:=s) iJ;obtain⟨kvs,he,_⟩:=(hE.same g1).ex;have D2:=(hD.same g1).R5 ne sd he;refine{(),(),e,H2,rfl,wQ,(),(),X9 (k:=.on) (x:=1) D2 hN os nofun (by decide +kernel) hm (.on Bi) (λt H3 g3 D3 h3=>?_) ?_}
  .exact{(bG 2),fin t _ H1 H2 H3 g1 sd E2 (qm.on c1 ⋯) rfl g3 D2 D3 h3 rfl}
  .intros y1 y2 y3 y4 LU;rw[y1,y3,jG,join_cons,join_cons,join_cons,n5];simp only[qb];rfl
 .refine lW.by (λσ' H'=>sJ λ(t:Str) (r':Rw) (H1:Hp)=>FP (σ'=[ι (.ref p),ι (.ref e),ι (.str s),ι (.int n),ι (.ref ra),ι (.int (n/12%4)),ι (.str t)]) (Same H H1) (jM e H1 H') (gR H' e (M'.put s r') (N2+1)) (eY cY H' p d M' N) (Sm (c+37) r') (r'.b=r.b) (∀(Q':VK) (E':XK),(∀t H3,jM d H' H3->eY cY H3 p d (M'.put s r') (N+1)->H3 t=ι (.tup [.str "told",.str "ok"])->Q' (.ref t) H3)->zG cY (adr cC cG cD cF) [.ref p,.str t] H' Q' E')) (λNN d8=>?_) ?_
  .refine{(),(),cu (λ_=>?_) (λ_=>?_)}
   .refine{(),(),!hA,at0,_,(),qm.wf.hB.lo,.ref ra,r,_,c,rfl,hR,qm,⋯,bd2 qm.wf.hB,λv' H1 g1 iJ sk=>?_};obtain⟨H2,wQ,sd,E2⟩:=(hE.same g1).put hN2 (n:=s) iJ;obtain⟨kvs,he,_⟩:=(hE.same g1).ex;have D2:=(hD.same g1).R5 ne sd he;refine{(),(),e,H2,rfl,wQ,(),by rw[z4];lia,by rw[dU,z4,z2];lia,(),by rw[dU,dU,z4,z2];lia,by rw[dU,dU,dU,z4,z2,z5];lia,?_};refine d8 _ _ {_,_,H1,rfl,g1,sd,E2,D2,sk.sm (qm.tw c1),sk.by_,λQ' E' k1=>X9 (k:=.scale) (x:=2) D2 hN os nofun (by decide +kernel) hm (.scale Bi) k1 ?_};intros y1 y2 y3 y4 LU;rw[y2,y4,jG,join_cons,join_cons,join_cons,n5];simp only[qb];rfl
   .refine{(),!hA,at0,(),"",{∅,∅},(bG 2),λl1 hl1=>?_};have g0:=Same.new hl1 (.lst [.int 4,.int 2]);obtain⟨m0,m4,m2⟩:=NX r.b;refine{(),!(g0 _ _ hA),at0,"",.inr {(),¬aq,FR r.b,_,_,(),qm.wf.hb,m0,m4,m2,λv' r' H1 g1 iJ s1 eb=>?_}};have Oh:=g0.trans g1;obtain⟨H2,wQ,sd,E2⟩:=(hE.same Oh).put hN2 (n:=s) iJ;obtain⟨kvs,he,_⟩:=(hE.same Oh).ex;have D2:=(hD.same Oh).R5 ne sd he;exists (),(),e,H2,rfl,wQ;obtain⟨v2,hg2,oG⟩:=E2.get (s:=s) (r:=r') (by unfold eZ.put;rw[if_pos rfl]);have t8:=s1.t8;have tl:=t8.SM;refine{(),by rw[z6];lia,by rw[dU,z6,z2];lia,(),(),e,v2,rfl,hg2,v2,r',rfl,oG,s1.tq ∅,λH3 g3=>{by rw[dU,dU,z6,z2];lia,?_}};exact d8 _ _ {_,r',H1,rfl,Oh,sd.then g3,E2.same g3,D2.same g3,s1.mono ⋯,eb,λQ' E' k1=>told_row (D2.same g3) hN os t8 k1}
  rintro σ' H2 ⟨t,r',H1,rfl,g1,sd,E2,D2,s2,eb,ht⟩;exact{(),(),ht _ _ λt H3 g3 D3 h3=>{(bG 2),fin t _ H1 H2 H3 g1 sd E2 s2 eb g3 D2 D3 h3 rfl}}
theorem aKF{f:Addr}{fd:FuncData}(F:vf K "law" "law" BJ f fd)(dP:UP M)(yI:Sa M)(fq:Cb M)(lj:BA P w K mg base cY)(CQ:tI M)(vJ:vy P w K mg base cY cC cF cD cG)(qH:GY M)(yQ:k9 M)(Yi:zx M)(S6:PH M)(Oi:CI M)(ue:Zp P w K mg base cY):kj P w K mg base (jX P w) Yg f fd ["_law_script"] (sR K):=by
 refine F.okN (k:=23) mC (λvs H Q E h=>?_) (λcdv A outer s H vs Q E hr h=>?_)
 .intros a ns rfl _ h;rfl
 .intros a ns rfl hS hlen hbt q h;refine{_,#[(),(au 1 mC.nd (jT (m6 K) (aC dP hr #[(aC yI hr #[0,_]),(aC yI hr #[0,_])]) jZ (jC aP))),(au 2 mC.nd (aC fq hr #[(aC yI hr #[0,_])])),(au 3 mC.nd (axt D.Ij lj hr rfl)),(au 4 mC.nd PU),(iC PassesOwn.never rfl (gH rfl B.fj #[_]) (bH 5 mC.nd) #[(),(au 6 mC.nd (aK K (dI #[2,2,2,_]) ((aC yI hr #[0,(_+5:)])%_:))),(DF hr.hu (4:) (aK K (1:) (5:)) (aC CQ hr #[6,((aC yI hr #[0,(_+5:)])+5:),(aK K (dI #[_,_]) (dW K9 rfl B.Bv boot_int #[(nQ O1 (6:) aP (pq _))]))]) rfl),(aV ((aC vJ hr #[3,(""+(aK K (1:) (5:))+""+(aC qH hr #[(uf hr.hu (4:) (aK K (1:) (5:)) (λ_ _=>rfl))]):)])!=(dG #["",""]):) (aJ (aF lF)) aW)]),(au 7 mC.nd (dI #["","","","","","","","",""])),(iC PassesOwn.never rfl (gH rfl B.fj #[_]) (bH 5 mC.nd) #[(),(au 8 mC.nd (aC yQ hr #[((aC yI hr #[0,(_+5:)])+5*5:),5])),(au 9 mC.nd (aK K (7:) (8%_:))),(au 10 mC.nd (aK K (1:) (8/_%_:))),(au 11 mC.nd (aK K (1:) (8/_%_:))),(au 12 mC.nd (aC Yi hr #[(8/_:)])),(au 13 mC.nd ((lZ Qv (8+_:) aP)%(lZ Qv aP aP):)),(mX (aV (PW.pt (vK (9=="":) (vK ((aK K (uf hr.hu (4:) (10:) (λ_ _=>rfl)) aP)>_:) (yX (8/_%_==_:))))) (aJ (vU (13:) (vD (12:) aP set_list))) aW)),(mX (aV (PW.pt (vK (9=="":) (yX (8/_%_==_:)))) (aJ (vU (aK K (dI #[13,(_-13:)]) (8/_%_:)) (vD (12:) aP set_list))) aW)),(au 14 mC.nd (aC S6 hr #[9,(uf hr.hu (4:) (10:) (λ_ _=>rfl)),(uf hr.hu (4:) (11:) (λ_ _=>rfl)),12])),(aV ((aC vJ hr #[3,(aC Oi hr #[9,10,11,12])])!=14:) (aJ (aF lF)) aW),(mX (aV (8/_%_==_:) #[(),(aV (jF (iD (aC ue hr #[3,4,10,8]))) (aJ (aF lF)) aW),(au 14 mC.nd (aC S6 hr #[9,(uf hr.hu (4:) (10:) (λ_ _=>rfl)),(uf hr.hu (4:) (11:) (λ_ _=>rfl)),12])),(aV ((aC vJ hr #[3,(aC Oi hr #[9,10,11,12])])!=14:) (aJ (aF lF)) aW)] aW)),(aV ((aC vJ hr #[3,(""+10:)])!=(dG #["",(aC qH hr #[(uf hr.hu (4:) (10:) (λ_ _=>rfl))])]):) (aJ (aF lF)) aW)]),(aF lF)],?_};refine{(),a,ns,0,rfl,hS,∅,(),a,ns,1,rfl,hS,∅,_,(),λl0 H1 U8 g1 hl0 l8 ok8=>?_};refine{(),.inl {_,ak.of hl0,λl1 hl1=>?_}};rw[show fO (U8.map V.str) ν (ι 3)=(U8.map V.str).take 3 from zQ _ 3,<-uX];obtain⟨nm,Zq⟩:∃nm,U8.take 3=nm:={()};have l3:nm.length=3:=by rw[<-Zq,m9];lia
  have okn:∀s∈nm,jk s:=λs hs=>ok8 s (CP (Zq▸hs));rw[Zq];have g2:=g1.trans (Same.new hl1 (.lst (nm.map V.str)));have h1:(upd H1 l1 (.lst (nm.map V.str))) l1=ι (.lst (nm.map V.str)):=aq;generalize upd H1 l1 (.lst (nm.map V.str))=H2 at g2 h1⊢;have hS2:=g2.seq hS;refine{(),a,ns,2,rfl,hS2,∅,(),λH3 g3=>?_};have hb:=awM (cellAt ns 2);generalize Y6 (cellAt ns 2)=b at hb;have hS3:=g3.seq hS2;have h13:=g3 _ _ h1;intro p dx hp hdx hne;refine{p,dx,rfl,aq,λd H4 hd D4 same=>{rfl,?_}};have g4:Same H3 H4:=λb' o e0=>same b' o (by rw[cH (jz e0 hp),cH (jz e0 hdx)];exact e0) (jz e0 hp);intro e he;have g5:=g4.trans (Same.new he (.dK []));have L5:LI K cY (upd H4 e (.dK [])) a l1 p d e ns nm (λ_=>ν) 0:=by
   intros kd hd4 _ D4.kp.ex;exact{g5.seq hS3,g5 _ _ h13,D4.same (Same.new he _),gR.none_ aq,jz hd4 he}
  generalize upd H4 e (.dK [])=H5 at L5⊢;clear g5 hS h1 hS2 hS3 h13 g1 g2 g3 g4 D4 same;intros z1 s1 z3 z4 z5 s4 s5 LH;have big:10000<=sizeLine:=∅;have afK:A9 ("told":Str)=true:=(pK rfl).ok;have sOk:A9 ("ok":Str)=true:=(pK rfl).ok;exists 3,rfl,∅,∅;refine kI (lo:=0) (n:=3) (λi σ' H'=>sJ λo5 o6 M=>Rh (σ'=[ι (.ref a),ι (.ref l1),ι (.int b),ι (.ref p),ι (.ref e),o5,o6,ν,ν,ν,ν,ν,ν,ν,ν]) (LI K cY H' a l1 p d e ns nm M i) (AllK (nm.take i) M 10)) {ν,ν,(),L5,by rw[Y4];exactλ_ z=>nomatch z} ?_ ?_
  .rintro i σ' H6 hi ⟨o5,o6,M',rfl,L6,sm⟩;refine{(),(),(),(bG 4),λlo hlo=>?_};generalize eH:upd H6 lo _=H7;have g7:Same H6 H7:=eH▸Same.new hlo _;have h7:H7 lo=ι (.lst (([b,b,b,0]:ζ).map V.int)):=by rw[<-eH];exact aq
   clear eH;have L7:=L6.same g7;exists (),(),a,ns,(),L7.hS,(⋯:(0:Int)<=3+(0+(i:Int)));have e0:=gY (cellAt ns (3+(0+(i:Int)))) (∅:(0:Int)<4);have e1:=iG (cellAt ns (3+(0+(i:Int)))) (∅:(0:Int)<4);exists "",(∅:(0:Int)<4),¬h7,dH (ns:=[b,b,b,0]) e0 e1;have hown:(([b,b,b,0]:ζ).getD (cellAt ns (3+(0+(i:Int)))%4).toNat 0)∈bys:=by
    have b0:(0:Int)∈bys:=∅;obtain z|z|z|z:(cellAt ns (3+(0+(i:Int)))%4).toNat=0∨(cellAt ns (3+(0+(i:Int)))%4).toNat=1∨(cellAt ns (3+(0+(i:Int)))%4).toNat=2∨(cellAt ns (3+(0+(i:Int)))%4).toNat=3:=⋯
    .rw[z];exact hb
    .rw[z];exact hb
    .rw[z];exact hb
    .rw[z];exact b0
   generalize ([b,b,b,0]:ζ).getD (cellAt ns (3+(0+(i:Int)))%4).toNat 0=own at hown;have hin:i<nm.length:=⋯;obtain⟨s,hs,es,et⟩:∃s∈nm,je (nm.map V.str) (0+(i:Int))=ι (.str s)/\nm.take (i+1)=nm.take i++[s]:={nm[i],sE hin,by rw[jL];exact nZ (by rw[List.getElem?_map,List.getElem?_eq_getElem hin];rfl),NZ hin};have os:=okn s hs;have ls:=os.hi;obtain⟨m0,m4,m2⟩:=NX own;refine{(),(),(),a,ns,(),L7.hS,(⋯:(0:Int)<=3+(0+(i:Int))),(),(bG 2),λlm hlm=>?_};have gm:=Same.new hlm (.lst [.int 4,.int 2]);refine{(),"",.inr {(),¬aq,FR own,_,_,(),hown,m0,m4,m2,λv r H8 g8 hR qm _=>?_}};have L8:=L7.same (gm.trans g8);obtain⟨H9,wQ,sd,E9⟩:=L8.E.put ⋯ (n:=s) hR;intros kvs he8 _ L8.E.ex;have D9:=L8.D.R5 L8.ne sd he8;exists (),(),(),_,_,.inl (ak.of L8.h1),es,e,H9,rfl,wQ;have h19:=sd _ _ (uR L8.h1 he8 (by intro z;cases z)) L8.h1;have t8:=qm.t8;have tl:=t8.SM;obtain⟨v',hg,hR'⟩:=E9.get (s:=s) (r:=r) (by unfold eZ.put;rw[if_pos rfl]);refine{(),(),(),¬h19,es,by rw[s4];lia,by rw[dU,s4,s1];lia,(),(),(),_,_,.inl (ak.of h19),es,e,v',rfl,hg,v',r,rfl,hR',qm.tq ∅,λnH mK=>?_};refine{by rw[dU,dU,s4,s1];lia,told_row (D9.same mK) ⋯ os t8 λt11 H11 M4 D11 h11=>?_};refine{(bG 2),λqQ aDe=>?_};have dZ:=Same.new aDe (.tup [.str "told",.str "ok"]);refine Jg afK sOk (dZ _ _ h11) aq {(),bK ?_};obtain⟨kd,aTS,_⟩:=(D9.same mK).kp.ex;have E11:=(E9.same mK).XF L8.ne.symm M4 aTS;refine{_,_,M'.put s r,rfl,L8.de (λb' o hb1 hb2 e0=>dZ _ _ (M4 _ _ hb1 (mK _ _ (sd _ _ hb2 e0)))) (D11.same dZ) (E11.same dZ),sm.put (aZ _) qm λx hx=>?_};rw[et]at hx;rcases ig.mp hx with hx|hx
   .exact .inr hx
   .exact .inl (eN.mp hx)
  .rintro σ' H6 ⟨o5,o6,M6,rfl,L6,sm6⟩;rw[oA ⋯]at sm6;refine{(bG 9),λlw hlw=>?_};generalize eH:upd H6 lw _=H60;have g60:Same H6 H60:=eH▸Same.new hlw _;have hw0:H60 lw=ι (.lst (E5.map V.str)):=by rw[<-eH];exact aq
   clear eH;exists 12,rfl,∅,∅;refine kI (lo:=0) (n:=12) (λi σ' H'=>Ex9 λo5 o8 o9 o10 aj iK BP tU M=>Dy (σ'=[ι (.ref a),ι (.ref l1),ι (.int b),ι (.ref p),ι (.ref e),o5,o6,ι (.ref lw),o8,o9,o10,aj,iK,BP,tU]) (LI K cY H' a l1 p d e ns nm M (3+i)) (H' lw=ι (.lst (E5.map V.str))) (AllK nm M (10+37*i))) {_,_,_,_,_,_,_,_,M6,rfl,L6.same g60,hw0,sm6} ?_ ?_
   .rintro i σ' H7 hi ⟨o5,o8,o9,o10,aj,iK,BP,tU,M7,rfl,L7,Wc,Cu⟩;obtain⟨c,ec⟩:∃c,10+37*i=c:={()};have c10:10<=c:=⋯;have c48:c+37<=480:=⋯;rw[ec]at Cu;exists (),(),a,ns,(),L7.hS,(⋯:(0:Int)<=6+(0+(i:Int))),(),(),mulL ⋯ ⋯,(),_,(),(⋯:(0:Int)<=0+(i:Int)),(⋯:(0+(i:Int))<=1000);have m0:=YT (cellAt ns (6+(0+(i:Int)))+(0+(i:Int))*(0+(i:Int))) (0+(i:Int));have m1:=nk (cellAt ns (6+(0+(i:Int)))+(0+(i:Int))*(0+(i:Int))) (0+(i:Int));generalize qu (cellAt ns (6+(0+(i:Int)))+(0+(i:Int))*(0+(i:Int))) (0+(i:Int))=n at m0 m1;replace m1:n<2147483647:=m1;obtain⟨w',hw',ew⟩:=fN (ws:=E5) (k:=n%9) (gY _ ∅) (iG _ ∅);obtain⟨k,rfl⟩:=ayH hw';have l3':((nm.length:Nat):Int)=3:=⋯;obtain⟨na,ha,ea⟩:=fN (ws:=nm) (k:=n/9%3) (gY _ ∅) (by rw[l3'];exact iG _ ∅);obtain⟨nb,hb',eb⟩:=fN (ws:=nm) (k:=n/27%3) (gY _ ∅) (by rw[l3'];exact iG _ ∅);have oa:=okn na ha;have ob:=okn nb hb';have la:=oa.hi;refine{(),(),"",(∅:(0:Int)<9),¬Wc,ew,(),(),"",{∅,∅},"",(∅:(0:Int)<3),_,_,.inl (ak.of L7.h1),ea,(),(),"",{∅,∅},"",(∅:(0:Int)<3),_,_,.inl (ak.of L7.h1),eb,(),"",{∅,∅},n/81,rfl,λl H8 n0 n1 n2 n3 n4 g8 TV xZ Mw aBA=>?_};exists (),"",{∅,∅,⋯},"",{∅,∅,∅},"",(∅:(0:Int)<10^(60:Int).toNat);have gt:=aSu ((n+982451653)^(7:Int).toNat);have gt0:0<=(n+982451653)^(7:Int).toNat%10^(60:Int).toNat:=gY _ ∅;generalize (n+982451653)^(7:Int).toNat%10^(60:Int).toNat=gr at gt gt0;obtain⟨ra,Oa,sra⟩:=Cu na ha;obtain⟨rb,mrb,srb⟩:=Cu nb hb';refine lW.by (λσ' H'=>∃n0',σ'=LS a l1 p e lw l b n gr i k na nb o6 tU/\Same H7 H'/\H' l=ι (.lst [.int n0',.int n1,.int n2,.int n3,.int n4])/\Dn n0' n1 n2 n3 n4/\(ra.b=0->n0'<=303)) (λNN d8=>?_) ?_
    .have stay:∀H',Same H8 H'->NN (LS a l1 p e lw l b n gr i k na nb o6 tU) H':=λH' g=>d8 _ _ {n0,rfl,g8.trans g,g _ _ xZ,Mw,λ_=>aBA};refine{(),(),cu (λ_=>?_) (λ_=>bK (stay _ (Same.refl _)))};obtain⟨v,hg,aa,p1,p2,rfl,hA,_⟩:=(L7.E.same g8).get Oa;refine{(),(),e,(),hg,!hA,at0,"",(),cu (λc2=>?_) (λ_=>bK (stay _ (Same.refl _)))};refine{(),"",{∅,∅},"",(∅:(0:Int)<3),(),cu (λ_=>?_) (λ_=>stay _ (Same.refl _))};exists (),(),l,_,0,0,rfl,rfl,xZ,rfl;exact d8 _ _ {gr,rfl,g8.upd TV _,aq,{gt,Mw.a1,Mw.a2,Mw.a3,(Mw.a4)},λz=>by have:=dec_true c2;lia}
    rintro σ' H9 ⟨nA,rfl,g9,hl9,IY,d9⟩;refine lW.by (λσ' H'=>∃nB,σ'=LS a l1 p e lw l b n gr i k na nb o6 tU/\Same H7 H'/\H' l=ι (.lst [.int nA,.int nB,.int n2,.int n3,.int n4])/\Dn nA nB n2 n3 n4) (λNN d8=>?_) ?_
    .have stay:NN (LS a l1 p e lw l b n gr i k na nb o6 tU) H9:=d8 _ _ {n1,rfl,g9,hl9,(IY)};refine{(),(),cu (λ_=>?_) (λ_=>bK stay)};refine{(),"",{∅,∅},"",(∅:(0:Int)<8),(),cu (λ_=>?_) (λ_=>stay)};refine{(),(),"",(bG 2),λl2 hl2=>?_};have q0:=gY (n/40) (∅:(0:Int)<2);have q1:=iG (n/40) (∅:(0:Int)<2);have gl:=Same.new hl2 (.lst (([gr,0-gr]:ζ).map V.int));exists (),"",{∅,∅},"",(∅:(0:Int)<2),¬aq,dH (ns:=[gr,0-gr]) q0 q1,(),l,_,1,1,rfl,rfl,gl _ _ hl9,rfl;refine d8 _ _ {(),(g9.trans gl).upd TV _,aq,{IY.a0,?_,IY.a2,IY.a3,IY.a4}};generalize 10^60=P at gt;obtain z|z:(n/40%2).toNat=0∨(n/40%2).toNat=1:=⋯
     .rw[z];show gr.natAbs<P;exact gt
     .rw[z];show(0-gr).natAbs<P;lia
    rintro σ' HA ⟨nB,rfl,gA,hlA,Fi⟩;have LA:=L7.same gA;have hwA:=gA _ _ Wc;have Zx:=okT (a:=na) (b:=nb) (sra.mono ⋯) (srb.mono ⋯) Fi d9 k;obtain⟨v1,hg1,iJ⟩:=LA.E.get Oa;obtain⟨v2,hg2,oG⟩:=LA.E.get mrb;refine{(),(),(),e,v1,rfl,hg1,(),(),e,v2,rfl,hg2,(),OM hlA iJ oG Zx λta Hxa gxa hxa=>?_};refine{(),(),(),(),(),k,l,na,nb,nA,nB,n2,n3,n4,rfl,gxa _ _ hlA,oa,ob,Fi,λHya gya=>bo (LA.D.same (gxa.trans gya)) ⋯ oa ob Fi Oa mrb Zx λua Hza gza hza=>{(),VM Zx hza (gza _ _ (gya _ _ hxa)) {(),bK ?_}}};have gqa:=gxa.trans (gya.trans gza);have LB:=LA.same gqa;have hwB:=gqa _ _ hwA;have hlB:=gqa _ _ hlA;refine lW.by (λσ' H'=>Ex2 λo M=>Dy (σ'=LS a l1 p e lw l b n gr i k na nb o6 o) (LI K cY H' a l1 p d e ns nm M (3+i+1)) (H' lw=ι (.lst (E5.map V.str))) (AllK nm M (c+37))) (λNN d8=>?_) ?_
    .refine{(),"",{∅,∅},"",(∅:(0:Int)<4),(),cu (λ_=>?_) (λ_=>d8 _ _ {_,M7,rfl,LB.up (Nat.le_succ _),hwB,Cu.mono ⋯})};refine{(),(),(),(),p,d,e,na,n,M7,3+i,3+i,ra,c,rfl,LB.D,⋯,LB.E,⋯,LB.ne,oa,Oa,sra,c10,c48,λHC rc UO DC EC sC eC=>{(),bK ?_}};have LC:=LB.de UO DC EC;have hlC:=LB.lst UO hlB;have hwC:=LB.lst UO hwB;have smC:AllK nm (M7.put na rc) (c+37):=Cu.put ⋯ sC λx hx=>.inr hx;have mrc:M7.put na rc na=ι rc:=by unfold eZ.put;rw[if_pos rfl]
     obtain⟨rd,Gz,Vq⟩:=smC nb hb';have Va:=okT (a:=na) (b:=nb) (sC.mono ⋯) (Vq.mono ⋯) Fi (λz=>d9 (eC▸z)) k;obtain⟨v1,hg1,iJ⟩:=LC.E.get mrc;obtain⟨v2,hg2,oG⟩:=LC.E.get Gz;refine{(),(),(),e,v1,rfl,hg1,(),(),e,v2,rfl,hg2,(),OM hlC iJ oG Va λtc Hxc gxc hxc=>?_};refine{(),(),(),(),(),k,l,na,nb,nA,nB,n2,n3,n4,rfl,gxc _ _ hlC,oa,ob,Fi,λHyc gyc=>bo (LC.D.same (gxc.trans gyc)) ⋯ oa ob Fi mrc Gz Va λuc Hzc gzc hzc=>{(),VM Va hzc (gzc _ _ (gyc _ _ hxc)) {(),bK ?_}}};have gqc:=gxc.trans (gyc.trans gzc);exact d8 _ _ {_,(),LC.same gqc,gqc _ _ hwC,smC}
    rintro σ' HD ⟨oD,MD,rfl,LD,hwD,smD⟩;obtain⟨rd,Gz,Vq⟩:=smD na ha;have VU:=Vq.mono (⋯:c+37<=480);refine{(),(),by rw[s5];lia,aLZ LD.D ⋯ oa Gz VU λte HE gE hE=>?_};have LE:=LD.same gE;obtain⟨v1,hg1,iJ⟩:=LE.E.get Gz;refine{(),(),e,v1,rfl,hg1,v1,rd,rfl,iJ,VU.tq ∅,λHF gF=>{(bG 2),λtf htf=>?_}};have gG:=Same.new htf (.tup [.str "told",.str (txt rd)]);refine Jg afK (ON rd).ok (gG _ _ (gF _ _ hE)) aq {(),bK ?_};have gz:=gF.trans gG;exact{_,_,_,_,_,_,_,_,MD,rfl,LE.same gz,gz _ _ (gE _ _ hwD),by rw[(⋯:10+37*(i+1)=c+37)];exact smD}
   .rintro σ' H7 ⟨o5,o8,o9,o10,aj,iK,BP,tU,M7,rfl,L7,Wc,Cu⟩;exact q _
end
def all_mk{P:Program}{w:World}{K:aD}{h:Heap}{mg:μ}{fa:Addr}(X:K.In h)(G:h.Ns mainGlobals mg)(hfa:mg "law"=ι (.ref fa)){qR pW qx cY cC jq iz jg jl jf cF cD cG:Addr}(Pd:bJ K mainGlobals "NoBy"=ι (ι (.ref cC)))(ayp:bJ K mainGlobals "NoName"=ι (ι (.ref jq)))(Zs:bJ K mainGlobals "NoNumber"=ι (ι (.ref iz)))(aSP:bJ K mainGlobals "NoRow"=ι (ι (.ref jg)))(aIt:bJ K mainGlobals "NoText"=ι (ι (.ref jl)))(ayq:bJ K mainGlobals "RuleError"=ι (ι (.ref jf)))(TC:bJ K mainGlobals "TooBig"=ι (ι (.ref cF)))(NB:bJ K mainGlobals "TooFar"=ι (ι (.ref cD)))(II:bJ K mainGlobals "TooLong"=ι (ι (.ref cG)))(Qi:uQ K jf "BaseException" = true)(aAY:A8 K cC [.type "ValueError",.type "Exception",.type "BaseException",.type "object"] "ValueError.__new__" = true)(DB:uQ K cC "BaseException" = true)(aQO:DP K cC jf=true)(aNW:gK K (.ref cC) "__getattribute__"=ι (ι (.builtin "BaseException.__getattribute__")))(aC5:gK K (.ref cC) "__getattr__"=ι ν)(aIu:gK K (.ref cC) "__class__"=ι (ι (.builtin "object.__class__")))(aOT:rP K cC (.type "BaseException")=ι true)(aPx:rP K cC (.type "object")=ι true)(aNc:(BL K cC).isSome=true)(nV:bB K (.ref cC) (.ref cC)=ι true)(Z4:bB K (.ref cC) (.ref jq)=ι false)(Yn:bB K (.ref cC) (.ref iz)=ι false)(ja:bB K (.ref cC) (.ref jg)=ι false)(kc:bB K (.ref cC) (.ref jl)=ι false)(qh:bB K (.ref cC) (.ref cF)=ι false)(Vl:bB K (.ref cC) (.ref cD)=ι false)(rS:bB K (.ref cC) (.ref cG)=ι false)(qa:bB K (.ref cC) (.type "ValueError")=ι true)(aIG:A8 K iz [.type "ValueError",.type "Exception",.type "BaseException",.type "object"] "ValueError.__new__" = true)(eK:uQ K iz "BaseException" = true)(aL1:A8 K cF [.type "ValueError",.type "Exception",.type "BaseException",.type "object"] "ValueError.__new__" = true)(PY:uQ K cF "BaseException" = true)(awY:DP K cF jf=true)(aRr:gK K (.ref cF) "__getattribute__"=ι (ι (.builtin "BaseException.__getattribute__")))(aQl:gK K (.ref cF) "__getattr__"=ι ν)(aF3:gK K (.ref cF) "__class__"=ι (ι (.builtin "object.__class__")))(aLI:rP K cF (.type "BaseException")=ι true)(aCX:rP K cF (.type "object")=ι true)(azz:(BL K cF).isSome=true)(Xn:bB K (.ref cF) (.ref cC)=ι false)(Ud:bB K (.ref cF) (.ref jq)=ι false)(rL:bB K (.ref cF) (.ref iz)=ι false)(Y0:bB K (.ref cF) (.ref jg)=ι false)(YS:bB K (.ref cF) (.ref jl)=ι false)(Yw:bB K (.ref cF) (.ref cF)=ι true)(mi:bB K (.ref cF) (.ref cD)=ι false)(sF:bB K (.ref cF) (.ref cG)=ι false)(u7:bB K (.ref cF) (.type "ValueError")=ι true)(aE0:A8 K cD [.type "ValueError",.type "Exception",.type "BaseException",.type "object"] "ValueError.__new__" = true)(Ay:uQ K cD "BaseException" = true)(aIC:DP K cD jf=true)(aQ6:gK K (.ref cD) "__getattribute__"=ι (ι (.builtin "BaseException.__getattribute__")))(aJv:gK K (.ref cD) "__getattr__"=ι ν)(aRE:gK K (.ref cD) "__class__"=ι (ι (.builtin "object.__class__")))(aMU:rP K cD (.type "BaseException")=ι true)(aEf:rP K cD (.type "object")=ι true)(aza:(BL K cD).isSome=true)(kG:bB K (.ref cD) (.ref cC)=ι false)(Wm:bB K (.ref cD) (.ref jq)=ι false)(dQ:bB K (.ref cD) (.ref iz)=ι false)(eQ:bB K (.ref cD) (.ref jg)=ι false)(V5:bB K (.ref cD) (.ref jl)=ι false)(Wx:bB K (.ref cD) (.ref cF)=ι false)(uC:bB K (.ref cD) (.ref cD)=ι true)(i7:bB K (.ref cD) (.ref cG)=ι false)(rp:bB K (.ref cD) (.type "ValueError")=ι true)(aDc:A8 K cG [.type "ValueError",.type "Exception",.type "BaseException",.type "object"] "ValueError.__new__" = true)(R7:uQ K cG "BaseException" = true)(axH:DP K cG jf=true)(aMI:gK K (.ref cG) "__getattribute__"=ι (ι (.builtin "BaseException.__getattribute__")))(axC:gK K (.ref cG) "__getattr__"=ι ν)(aN7:gK K (.ref cG) "__class__"=ι (ι (.builtin "object.__class__")))(aRA:rP K cG (.type "BaseException")=ι true)(aHX:rP K cG (.type "object")=ι true)(aQH:(BL K cG).isSome=true)(kH:bB K (.ref cG) (.ref cC)=ι false)(nN:bB K (.ref cG) (.ref jq)=ι false)(gN:bB K (.ref cG) (.ref iz)=ι false)(Yb:bB K (.ref cG) (.ref jg)=ι false)(mh:bB K (.ref cG) (.ref jl)=ι false)(fg:bB K (.ref cG) (.ref cF)=ι false)(X3:bB K (.ref cG) (.ref cD)=ι false)(vj:bB K (.ref cG) (.ref cG)=ι true)(Xi:bB K (.ref cG) (.type "ValueError")=ι true)(aNs:bJ K mainGlobals "FORMS"=ι (ι (.ref qR))){kL:List DictEntry}{aTQ:Nat}(axV:K.lookup qR=ι {.type "dict",ν,.dict {(kL)} aTQ,#[]})(aJt:kL.map (λe=>({Jf w.params (wz e.key),.str (wz e.key) (IL e.key),e.val}:DictEntry))=kL)(aBq:(qR==sysModules)=false)(aJ2:zR.all (iA K qR)=true)(Co:(IH.all λs=>match bJ K qR s with|some ν=>true|_=>false)=true)(az5:bJ K mainGlobals "MAKERS"=ι (ι (.ref pW))){Xa:List DictEntry}{aFp:Nat}(avt:K.lookup pW=ι {.type "dict",ν,.dict {(Xa)} aFp,#[]})(aII:Xa.map (λe=>({Jf w.params (wz e.key),.str (wz e.key) (IL e.key),e.val}:DictEntry))=Xa)(aHM:(pW==sysModules)=false)(aPH:JG.map (λp=>bJ K pW p.1)=JG.map λp=>bJ K mainGlobals p.2)(aAL:(JG.all λp=>match bJ K pW p.1 with|some (ι _)=>true|_=>false)=true)(NL:(OF.all λs=>match bJ K pW s with|some ν=>true|_=>false)=true)(aGF:bJ K mainGlobals "TELLERS"=ι (ι (.ref qx))){iP:List DictEntry}{aL5:Nat}(aRz:K.lookup qx=ι {.type "dict",ν,.dict {(iP)} aL5,#[]})(aDC:iP.map (λe=>({Jf w.params (wz e.key),.str (wz e.key) (IL e.key),e.val}:DictEntry))=iP)(aLu:(qx==sysModules)=false)(aAr:Mg.map (λp=>bJ K qx p.1)=Mg.map λp=>bJ K mainGlobals p.2)(aCU:(Mg.all λp=>match bJ K qx p.1 with|some (ι _)=>true|_=>false)=true)(jb:(Xf.all λs=>match bJ K qx s with|some ν=>true|_=>false)=true)(aCf:bJ K mainGlobals "Desk"=ι (ι (.ref cY)))(aOM:LQ K cY Str.empty=true)(aPh:TQ K cY=true)(aSb:cz K cY=true)(aDx:gK K (.ref cY) "__setattr__"=ι (ι (.builtin "object.__setattr__")))(ayX:TY K cY=true)(aP6:oR K (.ref cY)=true)(aPs:gK K (.ref cY) "kept"=ι ν)(F0:aM K "is_whole" XH)(F1:aM K "is_prime" Yp)(F2:aM K "is_by" Uy)(F3:aM K "is_number" Yc)(F4:aM K "taken" V9)(F5:aM K "inverse" Wu)(F6:aM K "over" bu)(F7:aM K "are_numbers" fE)(F8:aM K "is_row" nc)(F9:aM K "shared_by" Vf)(F10:aM K "refuse_prime" dS)(F11:aM K "next_place" UG)(F12:aM K "first_places" sj)(F13:aM K "refuse_far" YM)(F14:aM K "places" Uu)(F15:aM K "trimmed" VR)(F16:aM K "number_at" Uj)(F17:aM K "times" YF)(F18:aM K "divided" cq)(F19:aM K "monic" rh)(F20:aM K "greatest" Wv)(F21:aM K "of_rule" qv)(F22:aM K "rule_of" km)(F23:aM K "sum_at" ax)(F24:aM K "prime_above" eu)(F25:aM K "divides" gu)(F26:aM K "taken_poly" Zc)(F27:aM K "nearest" VF)(F28:aM K "joined" fT)(F29:aM K "whole_greatest" oP)(F30:aM K "shared_divisor" gX)(F31:aM K "top_of" rf)(F32:aM K "least_of" Ul)(F33:aM K "shortest" dC)(F34:aM K "parting" oj)(F35:aM K "refuse_far_steps" fS)(F36:aM K "told_row" ai)(F37:aM K "scaled" Wg)(F38:aM K "line_taken" XU)(F39:aM K "head_line" Zo)(F40:aM K "bring_up" c8)(F41:aM K "freed" Xl)(F42:aM K "clear" Zd)(F43:aM K "common_divisor" Zu)(F44:aM K "lowest" XR)(F45:aM K "solution" dy)(F46:aM K "solved" W9)(F47:aM K "rest_row" Vd)(F48:aM K "divisor_of" Uw)(F49:aM K "undivided" Ub)(F50:aM K "refuse_far_jump" uk)(F51:aM K "power_left" WL)(F52:aM K "jump" ik)(F53:aM K "place_at" Uo)(F54:aM K "onward" XJ)(F55:aM K "refuse_big" cn)(F56:aM K "whole_divisors" tx)(F57:aM K "perhaps_roots" UU)(F58:aM K "divided_out" rg)(F59:aM K "whole_roots" YH)(F60:aM K "power" Xu)(F61:aM K "form_line" fc)(F62:aM K "parts_of" Yo)(F63:aM K "closed" fe)(F64:aM K "refuse_wide" Z5)(F65:aM K "round_row" r6)(F66:aM K "came_round" a7)(F67:aM K "round_of" YV)(F68:aM K "where" W5)(F69:aM K "above_all_shown" Z6)(F70:aM K "number_shown" a9)(F71:aM K "shown" iF)(F72:aM K "is_written" oS)(F73:aM K "read_number" Vu)(F74:aM K "read_prime" Wj)(F75:aM K "read_words" X6)(F76:aM K "read" uA)(F77:aM K "words_of" ZP)(F78:aM K "kinds_of" nI)(F79:aM K "read_name" Ys)(F80:aM K "row_named" bE)(F81:aM K "read_word" nE)(F82:aM K "make_row" W6)(F83:aM K "make_scale" ui)(F84:aM K "make_on" VG)(F85:aM K "numbers_shown" az)(F86:aM K "tell_show" Z0)(F87:aM K "tell_places" UC)(F88:aM K "tell_at" XD)(F89:aM K "tell_part" iL)(F90:aM K "tell_round" vt)(F91:aM K "tell_where" gv)(F92:aM K "tell_closed" XI)(F93:aM K "tell_divisor" pb)(F94:aM K "tell_divides" Vy)(F95:vO K cY "__init__" "Desk.__init__" VZ ["self"])(F96:vO K cY "say" "Desk.say" se ["self","row"])(F97:aM K "_law_cell_at" qo)(F98:aM K "_law_pool" WZ)(F99:aM K "_law_mix" ZD)(aDD:aM K "_law_by" oy)(aHY:aM K "_law_number" iN)(aEu:aM K "_law_numbers" X5)(aBQ:aM K "_law_rest" jv)(aBt:aM K "_law_small_row" Xr)(aTN:aM K "_law_word" Y7)(aJe:aM K "_law_told" Zy)(aAf:aM K "_law_spaced" ph)(aF2:aM K "_law_closed_text" VW)(aIA:aM K "_law_where_text" b9)(aJl:aM K "_law_by_words" Xj)(aJa:aM K "_law_due" XC)(aOf:aM K "_law_drawn_numbers" Vv)(aGO:aM K "_law_text" dk)(aIo:aM K "_law_changed" V0)(FL:aM K "law" BJ)(awv:bJ K mainGlobals "ValueError"=ι ν)(ay6:bJ K mainGlobals "abs"=ι ν)(aHg:bJ K mainGlobals "all"=ι ν)(aMj:bJ K mainGlobals "any"=ι ν)(aNh:bJ K mainGlobals "bool"=ι ν)(aH6:bJ K mainGlobals "int"=ι ν)(aNO:bJ K mainGlobals "isinstance"=ι ν)(aKq:bJ K mainGlobals "len"=ι ν)(aPV:bJ K mainGlobals "list"=ι ν)(aLN:bJ K mainGlobals "max"=ι ν)(azv:bJ K mainGlobals "min"=ι ν)(aTA:bJ K mainGlobals "pair_place"=ι ν)(aJj:bJ K mainGlobals "range"=ι ν)(aJJ:bJ K mainGlobals "reversed"=ι ν)(aQ3:bJ K mainGlobals "str"=ι ν)(aMA:bJ K mainGlobals "sum"=ι ν)(aRS:bJ K mainGlobals "tuple"=ι ν)(fi:∃t,bJ K mainGlobals "ABOVE_ALL_BYS"=ι (ι (.int 1000 t)))(U6:∃t,bJ K mainGlobals "ABOVE_ALL_NUMBERS"=ι (ι (.int 1000000 t)))(pM:∃t,bJ K mainGlobals "BELOW_THE_PRIMES"=ι (ι (.int 1000000 t)))(ft:∃t,bJ K mainGlobals "FARTHEST"=ι (ι (.int 300 t)))(ba:∃t,bJ K mainGlobals "FARTHEST_BY_0"=ι (ι (.int 400 t)))(nh:∃t,bJ K mainGlobals "FARTHEST_START"=ι (ι (.int 100 t)))(mv:∃t,bJ K mainGlobals "FIGURES"=ι (ι (.str "0123456789" t)))(mE:∃t,bJ K mainGlobals "LONGEST"=ι (ι (.int 12 t)))(UQ:∃t,bJ K mainGlobals "LONGEST_NAME"=ι (ι (.int 8 t)))(VD:∃t,bJ K mainGlobals "MOST_AHEAD"=ι (ι (.int 12 t)))(Xc:∃t,bJ K mainGlobals "MOST_FIGURES_READ"=ι (ι (.int 60 t)))(Yd:∃t,bJ K mainGlobals "MOST_WINDOWS"=ι (ι (.int 4096 t)))(me:∃t,bJ K mainGlobals "NAME_SIGNS"=ι (ι (.str "abcdefghijklmnopqrstuvwxyz0123456789" t)))(Wz:∃t,bJ K mainGlobals "WIDEST_STEP"=ι (ι (.int 10 t))):
  ∃fd:FuncData,(∀(s:Shared) (v:Value),BindsTo s fd {[v],([])} [("_law_script",v)])/\∀base:Heap,K.In base->base.Ns mainGlobals mg->kj P w K mg base (jX P w) Yg fa fd ["_law_script"] (sR K):=by
 intros f oc od kV doc pm an cdv ct sl e1 e2 e3 e4 FL.ex;have e:=hfa.symm.trans (fZ X G e1);cases e;have FF:=kF (st:=BJ) e2 e3 e4;have B:Bt mg:={mO X G awv,mO X G ay6,mO X G aHg,mO X G aMj,mO X G aNh,mO X G aH6,mO X G aNO,mO X G aKq,mO X G aPV,mO X G aLN,mO X G azv,mO X G aTA,mO X G aJj,mO X G aJJ,mO X G aQ3,mO X G aMA,mO X G aRS,(let⟨t,q⟩:=fi;{t,fZ X G q}),(let⟨t,q⟩:=U6;{t,fZ X G q}),(let⟨t,q⟩:=pM;{t,fZ X G q}),(let⟨t,q⟩:=ft;{t,fZ X G q}),(let⟨t,q⟩:=ba;{t,fZ X G q}),(let⟨t,q⟩:=nh;{t,fZ X G q}),(let⟨t,q⟩:=mv;{t,fZ X G q}),(let⟨t,q⟩:=mE;{t,fZ X G q}),(let⟨t,q⟩:=UQ;{t,fZ X G q}),(let⟨t,q⟩:=VD;{t,fZ X G q}),(let⟨t,q⟩:=Xc;{t,fZ X G q}),(let⟨t,q⟩:=Yd;{t,fZ X G q}),(let⟨t,q⟩:=me;{t,fZ X G q}),(let⟨t,q⟩:=Wz;{t,fZ X G q})};refine{qD "law" "law" (mz BJ) (iZ BJ) (aG BJ) .none kV doc pm an cdv ct,λs v=>.of_eq rfl,λbase kB gB=>?_};have M:Ms P w K mg base cC jq iz jg jl jf cF cD cG:={fZ X G Pd,fZ X G ayp,fZ X G Zs,fZ X G aSP,fZ X G aIt,fZ X G ayq,fZ X G TC,fZ X G NB,fZ X G II,KR kB gB Pd aAY DB CB ∅,Qw kB aQO DB Qi,{aNW,aC5,aIu,aOT,aPx,(aNc)},nV,Z4,Yn,ja,kc,qh,Vl,rS,qa,KR kB gB Zs aIG eK CB ∅,KR kB gB TC aL1 PY CB ∅,Qw kB awY PY Qi,{aRr,aQl,aF3,aLI,aCX,(azz)},Xn,Ud,rL,Y0,YS,Yw,mi,sF,u7,KR kB gB NB aE0 Ay CB ∅,Qw kB aIC Ay Qi,{aQ6,aJv,aRE,aMU,aEf,(aza)},kG,Wm,dQ,eQ,V5,Wx,uC,i7,rp,KR kB gB II aDc R7 CB ∅,Qw kB axH R7 Qi,{aMI,axC,aN7,aRA,aHX,(aQH)},kH,nN,gN,Yb,mh,fg,X3,vj,Xi};have D:Dk w K mg qR pW qx cY:={{{_,_,axV,aJt},aBq,fZ X G aNs},aGG aJ2,dq Co,{{_,_,avt,aII},aHM,fZ X G az5},GA X G aPH aAL,dq NL,{{_,_,aRz,aDC},aLu,fZ X G aGF},GA X G aAr aCU,dq jb,{{aOM,aPh,aSb,(aDx)},ayX,aP6,fZ X G aCf},aPs};have CF:=aAH B M D (F0.aO X G);have DL:=aHp B M D (F1.aO X G);have Eh:=aNA B M D (F2.aO X G) CF DL;have hZ:=ayZ B M D (F3.aO X G) CF;have cN:=aNr B M D (F4.aO X G);have Wh:=aLf B M D (F5.aO X G) cN;have Ea:=aI5 B M D (F6.aO X G) cN Wh;have QK:=aQw B M D (F7.aO X G) hZ;have kS:=aBF B M D (F8.aO X G) QK Eh;have uj:=aIY B M D (F9.aO X G);have qM:=aFU B M D (F10.aO X G);have Du:=azr B M D (F11.aO X G) cN;have nJ:=aJg B M D (F12.aO X G) Du;have fk:=aTw B M D (F13.aO X G);have Dl:=azJ B M D (F14.aO X G) fk nJ;have qw:=aQu B M D (F15.aO X G);have i9:=azl B M D (F16.aO X G);have O5:=aHn B M D (F17.aO X G) cN qw;have mj:=aGZ B M D (F18.aO X G) cN qw;have Lq:=aKC B M D (F19.aO X G) Ea;have Fx:=axl B M D (F20.aO X G) Lq mj;have Cq:=aGh B M D (F21.aO X G) cN;have kU:=aBW B M D (F22.aO X G) cN
 have CM:=aJA B M D (F23.aO X G) cN;have sq:=aN1 B M D (F24.aO X G) DL;have Ox:=aIe B M D (F25.aO X G) mj;have Qn:=aFO B M D (F26.aO X G) qw cN;have Dd:=aEk B M D (F27.aO X G);have Vn:=aKz B M D (F28.aO X G) Ea cN Dd;have Ua:=azx B M D (F29.aO X G) Ox sq Fx Qn Dd Vn;have eJ:=aNI B M D (F30.aO X G) Ua Fx;have iO:=avr B M D (F31.aO X G) cN qw;have C9:=aKm B M D (F32.aO X G) Cq iO mj eJ;have Df:=aOc B M D (F33.aO X G) C9 kU;have Fj:=aBe B M D (F34.aO X G) uj nJ;have pj:=avs B M D (F35.aO X G);have Y9:=aNJ B M D (F36.aO X G) cN Df;have EB:=aDZ B M D (F37.aO X G) Y9;have du:=aLV B M D (F38.aO X G) cN;have YB:=axI B M D (F39.aO X G);have nX:=aSZ B M D (F40.aO X G) cN;have sT:=aJC B M D (F41.aO X G);have i8:=aRR B M D (F42.aO X G) YB nX sT;have C1:=aP3 B M D (F43.aO X G);have fm:=aEI B M D (F44.aO X G) C1;have md:=aGy B M D (F45.aO X G) du i8 fm;have Xk:=aRt B M D (F46.aO X G) md;have Xh:=aDp B M D (F47.aO X G) cN;have Ed:=aJP B M D (F48.aO X G) qM C1;have Dz:=aM4 B M D (F49.aO X G) qM pj nJ Xh;have ij:=aKZ B M D (F50.aO X G);have Uv:=aKn B M D (F51.aO X G) mj O5;have DQ:=aze B M D (F52.aO X G) ij Uv Cq i9;have Cv:=aAa B M D (F53.aO X G) CM DQ;have Dg:=aMy B M D (F54.aO X G) DQ nJ CM;have ZF:=aFw B M D (F55.aO X G);have vk:=aDE B M D (F56.aO X G);have Vi:=azW B M D (F57.aO X G) vk;have j0:=aJM B M D (F58.aO X G) mj;have ny:=aR4 B M D (F59.aO X G) ZF Vi j0;have OB:=aFo B M D (F60.aO X G);have a8:=aAB B M D (F61.aO X G) OB;have om:=aKU B M D (F62.aO X G);have Cz:=aA3 B M D (F63.aO X G) qM ny C9 a8 Xk om;have my:=aHw B M D (F64.aO X G);have Ci:=aMP B M D (F65.aO X G) Df my;have Ew:=aLg B M D (F66.aO X G) Du;have CY:=ayk B M D (F67.aO X G) Ew Ci;have Cm:=ay7 B M D (F68.aO X G) Ci Ew nJ;have ib:=aGl B M D (F69.aO X G);have gO:=ay4 B M D (F70.aO X G) ib;have qH:=aQz B M D (F71.aO X G) gO;have ZL:=aPj B M D (F72.aO X G);have uE:=aDt B M D (F73.aO X G) ZL;have C4:=avT B M D (F74.aO X G) uE Eh;have Q0:=aH3 B M D (F75.aO X G) uE kS;have cp:=aF5 B M D (F76.aO X G) Q0 C4;have Y8:=aJy B M D (F77.aO X G);have fh:=aTE B M D (F78.aO X G);have Dh:=aJr B M D (F79.aO X G);have Ze:=aCq B M D (F80.aO X G) Dh;have Zm:=aCe B M D (F81.aO X G) Dh Ze uE C4 cp;have ck:=aFe B M D (F82.aO X G);have Ye:=aQU B M D (F83.aO X G) EB cN;have Vj:=aPR B M D (F84.aO X G) Dg;have xg:=axc B M D (F85.aO X G) gO;have Xe:=ax0 B M D (F86.aO X G) qH;have rk:=aKh B M D (F87.aO X G) xg Dl;have Zr:=aPq B M D (F88.aO X G) gO Cv;have Wn:=aCF B M D (F89.aO X G) Fj gO;have ir:=aGE B M D (F90.aO X G) xg CY;have Us:=aAN B M D (F91.aO X G) Cm cN gO;have U4:=aIw B M D (F92.aO X G) Cz gO xg;have Vc:=aSH B M D (F93.aO X G) gO Ed;have sf:=aLr B M D (F94.aO X G) qM Dz gO
 have lj:=aK2 B M D F95;have Z9:=azq B M D F96 Y8 fh Zm sf Vc U4 Us ir Wn Zr rk Xe Vj Ye ck;have yI:=awP B M D (F97.aO X G);have dP:=aMs B M D (F98.aO X G);have yQ:=aTW B M D (F99.aO X G);have fq:=axg B M D (aDD.aO X G);have Xm:=awV B M D (aHY.aO X G);have Nv:=aMq B M D (aEu.aO X G) Xm;have v8:=aIP B M D (aBQ.aO X G);have CQ:=aNB B M D (aBt.aO X G) yQ Nv v8;have Dp:=aQg B M D (aTN.aO X G);have vJ:=aJf B M D (aJe.aO X G) Z9 Dp;have ud:=aFH B M D (aAf.aO X G);have X8:=aSK B M D (aF2.aO X G) ud;have ko:=azL B M D (aIA.aO X G) ud;have eI:=aMa B M D (aJl.aO X G) qH ud Dl Cv Fj CY ko Cm v8 X8 Cz Ed Dz;have S6:=av4 B M D (aJa.aO X G) eI Dp;have Yi:=aJm B M D (aOf.aO X G);have Oi:=aD3 B M D (aGO.aO X G);have ue:=aIZ B M D (aIo.aO X G) Dg EB v8 CQ qH vJ;exact aKF B M D FF dP yI fq lj CQ vJ qH yQ Yi S6 Oi ue
end K53
namespace L2
open PySem PySem.W W.X
def avZ{q:Program}{loose:List Str}{XP:(μ)->Heap->Prop}{K:Params->Frag}{as:List Addr}{n t:Nat}{r:RowW}{d:DefRec}{kwd:List (Str×PySem.Expr)}{run:Value->List Value->Sem Value}(keys:∀P,as=(K P).map (·.1))
  (W:WalkO q loose XP (λw h=>(K w.params).In h) r d kwd run):WalkX q loose XP (obsZ as) (valZ K n t) r d kwd run:=
 λw s0 s1 mg mb G y a o pm cd doc dV kV h1 h2 h3 h4 h5 h6 args vals as' L p1 p2 p3 p4 p5=>W w s0 s1 mg mb G (InK.keeps w _ _ (z_facts keys y).2.1 L.keeps) a o pm cd doc dV kV h1 h2 h3 h4 h5 h6 args vals as' p1 p2 p3 p4 p5
end L2
open PySem PySem.W PyProof.Rows
set_option maxRecDepth 100000 in
set_option maxHeartbeats 0 in
theorem PySem.Challenge.cw_nextbyrule_k53_desk_answers_holds : PySem.Challenge.rw_nextbyrule_k53_desk_answers.Holds := by
 change K53.rwL.Holds
 w_on;o_law;rename_i said
 refine holds_openX (d:=?d) (kwd:=?kwd) K53.H.left (λs h=>xl_of s (K0.mp h).1) XL.keeps (by rfl) (by rfl) (by rfl) (λs h=>recFacts_of (K0.mp h).2) (by rfl) said (by decide +kernel) ⟨rfl,rfl,rfl,rfl,rfl,by decide +kernel⟩ ?hw ?hc;case hw=>w_witness2
 k_fill
 refine L2.avZ (λ_=>by kernel_rfl) ?_;refine L2.aS1 (l:=K53.rwL) (n:=63) (k:=K53.Yg) (x:="_law_script") (CX:=λw=>L2.jX K53.rwL.prog w) (sp:=λ_=>K53.sR _) rfl (by decide) rfl ⟨rfl,by decide,by decide⟩ (by kernel_rfl) rfl (λw h Y=>Y) ?F (λw H a ns hl hb _ hS=>⟨a,ns,rfl,hS,hl,hb,λ_=>rfl⟩) (λ_ _ _ _ _ z=>L2.W2 z);case F=>
  intro w mg fa h KX G hmg;apply K53.all_mk KX G hmg;all_goals first|(refine' L2.aKu ?a ?l ?c ?k;(case a|l|c|k=>k_is))|(refine' L2.aGD ?a ?i ?l ?c ?k;(case a|i|l|c|k=>k_is))|k_is|exact⟨_,by k_is⟩|k_exc|kernel_rfl|kit_is
