import PyProof.Rows.All
import Wide.All
import OpenK.AllK
import Wide.FinOn
import Lean
import PyProof.EqAt
import PyProof.EqKinds
import PyProof.TupleCall
import PySem.Challenge.RW_nextbyrule_k52_desk_makes_rows
local macro_rules | `(tactic| lia)=>`(tactic| first|lia -trace|omega)
local macro_rules | `(⋯)=>`(by lia)
local macro_rules | `(∅)=>`(by decide)
local macro_rules | `({$x:term,*}) => do
  let mut a:=#[]
  for e in x.getElems do
    if e matches `(()) then a:=(a.push (<-`(_))).push (<-`(rfl))
    else if e matches `("") then a:=(((a.push (<-`(_))).push (<-`(_))).push (<-`(rfl))).push (<-`(rfl))
    else a:=a.push e
  `(⟨$a,*⟩)
local macro_rules | `(tactic|exists $x,*) => do
  let mut a:=#[]
  for e in x.getElems do
    if e matches `(()) then a:=(a.push (<-`(_))).push (<-`(rfl))
    else if e matches `("") then a:=(((a.push (<-`(_))).push (<-`(_))).push (<-`(rfl))).push (<-`(rfl))
    else a:=a.push e
  `(tactic|refine ⟨$a,*, ?_⟩)
local macro_rules | `(tactic|intros $x*) => do
  let a:=x.raw
  let mut p:=#[]
  for e in a.pop do
    p:=p.push (<-if e.isIdent then `(Lean.Parser.Tactic.rcasesPatLo|$(⟨e⟩):ident) else `(Lean.Parser.Tactic.rcasesPatLo|_))
  `(tactic|obtain ⟨$p,*⟩:=$(⟨a.back!⟩):ident)
set_option hygiene false
local macro_rules | `(tactic|delta $x) => `(tactic|refine F.cal $x λH Q E hr h=>?_)
local macro_rules | `(tactic|delta $x $_) => `(tactic|refine F.dN $x λH Q E hr h=>?_)
local macro_rules | `(($i:num :)) => `(pv $i)
local macro_rules | `((-$i:num :)) => `(aL K (pv $i) aN)
set_option hygiene true
set_option Elab.async false
set_option linter.all false
set_option compiler.extract_closed false
set_option maxRecDepth 100000
noncomputable section
def PySem.W.Fast.tw15448085346247202080:PySem.Program:=PySem.Challenge.pw_nextbyrule_k52_desk_makes_rows
theorem PySem.W.Fast.te15448085346247202080:PySem.Challenge.pw_nextbyrule_k52_desk_makes_rows=PySem.W.Fast.tw15448085346247202080:=rfl
open List renaming length_map->aC,mem_cons_of_mem->eN,mem_singleton->dX,replicate->cO,mem_map->cA,length_append->fP,size_toArray->fj,mem_cons->cX,mem_cons_self->fX,mem_append->gP,map_append->gR,eq_nil_of_length_eq_zero->rY,mem_append_right->mW,map_map->gh,all_eq_true->jU,length_cons->kO,take_of_length_le->tM,length_take->nK,map_cons->kI,length_pos_iff->tD,append_nil->pG,filter_eq_self->tX,filter_cons->pZ,mem_iff_getElem->wk,replicate_succ->wV,mem_range->qd,range->kj,map_congr_left->xG,length_range->wA,mem_append_left->BF,mem_filter->wj,drop_eq_nil_of_le->Ey,length_drop->yL,take_length->zG,filter_append->BZ,map_take->vH,take_succ_eq_append_getElem->Vt,nodup_cons->yg,flatten_cons->AK,filterMap_cons->FN,getElem_mem->Cy,length_filter_le->Lh,mem_of_mem_take->Ma,drop_zero->Ae,mem_map_of_mem->LD,lookup->xW,take_add_one->Pg,length_replicate->acf,length_singleton->XH,count_eq_zero_of_not_mem->al3,take_append_of_le_length->aoh,any_cons->Hi,dropLast_concat_getLast->agh,of_mem_zip->Ks,length_set->La,mem_filterMap->aaI,map->uw,append_assoc->abD,filter_cons_of_neg->aj1,filter_cons_of_pos->ad9,length_eq_zero_iff->amI,not_mem_nil->acj,filter_eq_nil_iff->aik,foldl_cons->abG,forIn_cons->VW,range_succ->Vm,take_eq_take_iff->ai2,take_succ_cons->aoB,range'->MP,all_cons->U8,map_replicate->adf,foldl->NW,map_nil->Yo,range'_succ->aqQ,nil_append->amX,length_nil->an7,take_zero->amF,take_nil->aiE,length->ak7,map_id->anS
open Nat renaming le_refl->bO,le_trans->cT,lt_of_lt_of_le->gO,add_sub_cancel->ji,zero_le->dW,le_of_lt->gW,mul_le_mul_left->pU,ne_of_lt->iG,pow_le_pow_right->qW,mul_le_mul_right->qp,pow_succ->lZ,lt_irrefl->pI,toDigits_of_lt_base->Aj,mul_comm->oF,succ_mul->oW,toDigits->oK,mul_le_mul->tW,lt_of_le_of_lt->A9,sub_zero->vD,le_of_dvd->wL,add_sub_cancel_left->Nk,toDigits_append_toDigits->Xi,le_succ->uL,pow_add->tO,strongRecOn->CJ,mod_eq_of_lt->Gx,mul_add->yx,lt_trans->Bw,le_of_eq->IX,sub_self->CY,mul_succ->EY,add_mul_mod_self_left->acN,pow_lt_pow_iff_right->agE,pow_pos->Ej,one_mul->IG,digitChar->MV,min_eq_right->WC,pow_zero->Qh,not_lt_zero->Rb,div_add_mod->YM,min_eq_left->Yb,pow_le_pow_left->acF,add_le_add_left->aja,mul_assoc->R9,dvd_trans->ZV,add_assoc->Zt,gcd_dvd_right->aj6,dvd_mul_right->amS,gcd->xJ,add_comm->YC,mul_zero->aaB,lt_succ_self->ane,min_le_right->aoK,le_of_not_lt->aoc,gcd_dvd_left->ag2,succ_ne_zero->apY,add_mul->QW,mul_one->abY,toList_repr->ao5,pow_mul->YJ,ne_of_gt->aku,zero_mul->aiP,min_self->amc,beq->Nv,add->Ku
open PySem.W renaming Frag->au,kitOne->aZ,nsIn->bI,mg_none_of->lQ,findIn->fW,mg_of->eY,kia_one->m8,hideAll->pK,emptyDict->tV,keepIn->mV,callWith_K->Cz,instObj->vK,looks_findIn->O6,mroIn->qR,cellsFrom_some->Tz,fnOf->nD,plainGet->JB,hasDictIn->KZ,hideAll_get->Zj,plainGet_of->aat,codeIn->Aa,clsIn->xX,excIn->za,of_hideAll->VZ,methodObj->Wh,plainOver->SJ,makesIn->N6,byRow2->aic,lookIn->Lq,ktsIn->IL,takerIn->aaD
open Int renaming toNat_natCast->d7,mul_zero->fB,add_zero->gj,zero_add->ig,mul_assoc->iU,emod_emod_of_dvd->ql,mul_comm->iT,zero_mul->ju,emod_lt_of_pos->qI,mul_one->jG,emod_nonneg->qF,natCast_mul->sX,dvd_refl->rA,pow_succ->qg,mul_emod->sG,dvd_of_emod_eq_zero->Mp,mul_le_mul_of_nonneg_left->WT,natAbs_mul->yN,dvd_add->uM,dvd_mul_right->Jo,toNat_of_nonneg->Pu,one_mul->wu,eq_ofNat_of_zero_le->Yl,natAbs_add_le->Ng,sub_zero->zK,dvd_trans->Em,ofNat_dvd->C6,mul_add->Ax,mul_eq_zero->Mr,mul_ne_zero->Kz,fdiv_eq_ediv_of_nonneg->acI,add_comm->FZ,emod_eq_of_lt->Ss,mul_ediv_cancel_left->aph,mul_sub->GD,pow_zero->LV,zero_sub->Kr,sub_self->LX,dvd_self_sub_emod->aqR,natAbs_neg->UJ,mul_le_mul->QK,add_mul->M5,neg_mul->Od,add_assoc->aaP,natAbs_natCast->adI,sub_eq_add_neg->amf,mul_left_comm->afW,ediv_one->Ze,le_trans->TN,dvd_mul_left->aeG,ediv_le_ediv->aqu,mul_neg->ZS,sub_mul->Qz,natCast_pow->ajk,natCast_add->aoZ
open Bool renaming false_ne_true->fO,and_eq_true->pH,false_eq_true->Fq,eq_iff_iff->E1,or_eq_true->Ia,eq_false_iff->SR,and_eq_true_iff->al1,true_and->Z4,not_eq_true'->ajr,false_and->am6
open PySem.Heap renaming lt_size->cU,SameBut->xY,ExtBut->B7,FlyingW->Gy,size_push->aft,MadeExcOf->ajn
open PySem.Str renaming ofString->jq,join->mJ,length->vh,empty->C7
open PySem.Builtin.Int renaming intBits->vJ
open PySem.F renaming plainAttrs_str->uY,excBase_ValueError->B6,slot_str_join->Ea,type_str_join->Gq,plainAttrs_list->Ph,slot_tuple_mul->Bm,slot_dict_getitem->abx,args_tuple_add_2->Xv,entry_tuple_add->Ud,args_tuple_mul_2->Mg,slot_tuple_add->aac,entry_tuple_mul->Oa,slot_dict_get->Rq,typeOf_object_class->Uv,slot_int_rmul->N5,slot_str_startswith->akn,type_str_startswith->adG,args_str_split_2->Ub,entry_str_split->Tc,args_dict_get_3->ahL,plainAttrs_dict->anU,slot_int_index->Y4,slot_str_split->Yy,entry_dict_get->amu,slot_str_split->ajQ,type_str_split->apx,fills_int_mul->Z1,slot_dict_pop->agL,excAttr_ValueError->akV,slot_gs_get->aaA,args_int_rmul_2->acV,slot_tuple_rmul->aeL,entry_int_rmul->alW,slot_int_mul->aj7
open PyProof.Rows renaming slot_tuple_getitem->Bs,callWith_type1->NT,isStrOf->apu,callWith_builtin1->auk,signs_ofString->aBy
open Option.some renaming inj->m7
open Classical renaming byContradiction->xQ,not_forall->MX,skolem->afd
open PySem renaming mem_of_lookup->vO,JoinOk->Az,Within->acn,passOn->Vp,seqSlot_of->aiH,call->amL
open PySem.PyData renaming strOk->nj,depthAll->Gn,canLayAll0->OX,keyHash->Ht,eqv->yq,canLay0->NP,depth->NQ,int->Xz
open Or renaming inr->eG,inl->lE
open Ne renaming symm->je
open PySem.Obj renaming mapFields->wI,data_mapFields->Ik,isFreed_of_fields->PB,mapSeq->GN,cls_mapFields->apZ
open Array renaming toList_append->Ep,length_toList->K1,append_assoc->KH,toList_inj->KL,size_append->ahP,toList->aew
open PySem.Calls renaming callWith_builtin->PK,evalArgs_plain->KR,spliced_cons->NK,Name_function_global->anu,spliced_nil->R5
open PySem.Txt renaming split->FT,slice->ak6
open PySem.StrLaws renaming joinFits->Uu,join_length_le->am3,sumLen_le->af6,found_one->agx
open Option renaming getD_none->PN,map_some->PJ,isSome_iff_exists->afP,isSome_map->Xk,isSome_none->adv,getD_some->adN,none->ana
open List.cons renaming inj->FP
open PyProof renaming noPylong_small->anD
open Sum renaming inr->tQ,inl->yG
open PySem.Around renaming under->Xp
open Sum.inr renaming inj->RD
open PySem.EqNone renaming eq_none_none->aND,eq_none_bool->aHQ,eq_bool_none->aG4,ne_none_none->asR,ne_none_bool->azS,ne_bool_none->aIb,eq_none_int->aMF,eq_none_str->aNY,eq_int_none->arx,eq_str_none->auf,ne_none_int->awG,ne_none_str->aIt,ne_int_none->awT,ne_str_none->auG
open PySem.EqMixed renaming eq_bool_str->avu,eq_str_bool->aOU,ne_bool_str->aAa,ne_str_bool->aut,eq_int_str->aFf,eq_str_int->aLs,ne_int_str->aCk,ne_str_int->aKU
open PySem.Builtin.Str renaming tooLong->aNf
open PySem.W.X renaming obsZ->afq,valZ->ank
open Eq renaming trans->Qa
open PySem.Heap.UpToSlots renaming refl->aIK
open PySem.Heap.IsSliceOf renaming new->aye
open PySem.Within renaming cons->aKm
open List.Pairwise renaming nil->aCb
open PySem.Heap.SameBut renaming refl->axg
namespace L2
open PySem PySem.Spec PyProof.Rows
def inClass(s:Stmt)(j:Nat):Stmt:=match s with
 |.ClassDef _ _ _ body _ _ _ _ _ _ _=>body.getD j (.Pass {0,0,0,(0)})
 |_=> .Pass {0,0,0,(0)}
def j4(s:Stmt):Arguments:=match s with
 |.FunctionDef _ a _ _ _ _ _ _ _ _=>a
 |_=>{ posonlyargs:=[],args:=[],vararg:=none,kwonlyargs:=[],kw_defaults:=[],kwarg:=none,defaults:=[] }
def gK(s:Stmt):List Stmt:=match s with
 |.FunctionDef _ _ b _ _ _ _ _ _ _=>b
 |_=>[]
def aF(s:Stmt):Scope:=match s with
 |.FunctionDef _ _ _ _ _ _ sc _ _ _=>sc
 |_=>{ kind:= .function,names:=[],isGenerator:=false,isCoroutine:=false }
end L2
namespace K52
def topF(i:Nat):PySem.Stmt:=PySem.Challenge.pw_nextbyrule_k52_desk_makes_rows.main.body.getD i (.Pass {0,0,0,(0)})
def pwL:PySem.Program:={ PySem.Challenge.pw_nextbyrule_k52_desk_makes_rows with main:={ PySem.Challenge.pw_nextbyrule_k52_desk_makes_rows.main with body:=[topF 0,topF 1,topF 2,topF 3,topF 4,topF 5,topF 6,topF 7,topF 8,topF 9,topF 10,topF 11,topF 12,topF 13,topF 14,topF 15,topF 16,topF 17,topF 18,topF 19,topF 20,topF 21,topF 22,topF 23,topF 24,topF 25,topF 26,topF 27,topF 28,topF 29,topF 30,topF 31,topF 32,topF 33,topF 34,topF 35,topF 36,topF 37,topF 38,topF 39,topF 40,topF 41,topF 42,topF 43,topF 44,topF 45,topF 46,topF 47,topF 48,topF 49,topF 50,topF 51,topF 52,topF 53,topF 54,topF 55,topF 56,topF 57,topF 58,topF 59,topF 60,topF 61,topF 62,topF 63,topF 64,topF 65,topF 66,topF 67,topF 68,topF 69,topF 70,topF 71,topF 72,topF 73,topF 74,topF 75,topF 76,topF 77,topF 78,topF 79,topF 80,topF 81,topF 82,topF 83,topF 84,topF 85,topF 86,topF 87,topF 88,topF 89,topF 90,topF 91,topF 92,topF 93,topF 94,topF 95,topF 96,topF 97,topF 98,topF 99,topF 100,topF 101,topF 102,topF 103,topF 104,topF 105,topF 106,topF 107,topF 108,topF 109,topF 110,topF 111,topF 112,topF 113,topF 114,topF 115,topF 116,topF 117,topF 118,topF 119,topF 120,topF 121,topF 122,topF 123,topF 124,topF 125,topF 126,topF 127,topF 128,topF 129,topF 130,topF 131,topF 132,topF 133,topF 134,topF 135,topF 136,topF 137,topF 138,topF 139,topF 140,topF 141,topF 142,topF 143,topF 144,topF 145,topF 146,topF 147,topF 148,topF 149,topF 150,topF 151,topF 152,topF 153,topF 154,topF 155,topF 156,topF 157,topF 158,topF 159,topF 160,topF 161,topF 162,topF 163,topF 164,topF 165,topF 166,topF 167,topF 168,topF 169,topF 170,topF 171,topF 172,topF 173,topF 174,topF 175,topF 176,topF 177,topF 178,topF 179,topF 180,topF 181,topF 182,topF 183] } }
def rwL:PySem.W.OpenLaw:={ PySem.Challenge.rw_nextbyrule_k52_desk_makes_rows with prog:=pwL }
end K52
namespace K52
namespace H
noncomputable section
open PySem PySem.W PySem.Calls PyProof.Rows
abbrev kh:=Ht
abbrev tt(i:Nat):Stmt:=topF i
def zs(n:Nat):Str:={{Nat.rec (motive:=λ_=>Nat->List Nat) (λ_=>[]) (λ_ f n=>cond (Nv n 0) [] (Nat.mod n 128::f (Nat.div n 128))) 64 n}}
def z0:=zs 0xbf7f2edc3bafdf
def z1:=zs 0x39f7dfcaff3cbaf0edbfaf9e5c97d935d77f2ecebcbce2e9e32eebfdf0ec
def z2:=zs 421105403244511
def z3:=zs 0x17efe5cf875e3c3c2fdf
def z4:=zs 0x2fdfe597261dfb2fdf
def z5:=zs 0xbf7f1e5e1cefdf
def z6:=zs 0x17eff3ddbf4f4c3d37eedd86fdf
def z7:=zs 0xbf7f9eed3d3669eb8afdf
def z8:=zs 0xbf7f2ecd39afdf
def z9:=zs 0x79e0bba75c6bf6e9c3b31af
def Ot:=zs 0x2fdfc997463c38efdf
def dg:=zs 0x72dfcb945cbb3ad2
def uI:=zs 0xe59716deb3b7ce
def uK:=zs 254851022
def vB:=zs 4018155108302
def ur:=zs 3943197046740
def vA:=zs 456808319416276
def u6:=zs 3567379019732
def uX:=zs 32177960910
def uV:=zs 3499797755854
def VQ:=zs 0x53b30afcc9906fc5ad3e141
def Dp:=zs 0xcbb37e8ef7f9e9
def JY:=zs 0xcbb74f2e17f9e9
def Ho:=zs 32687782377
def Kd:=zs 0x72cb8b6f5dd7f9e9
def EW:=zs 29741478132
def Jj:=zs 448184882935657
def C4:=zs 240745327
def z28:=zs 372306437449676
def VP:=zs 0xa94e2c8a94a0c6
def DX:=zs 0x1cf965c5b7aeebf97961
def J1:=zs 4118845848041
def DQ:=zs 0x79c57f265e587473
def Ed:=zs 0xcbb74f2e17f2f3eb9b2f2
def Gb:=zs 0x32e3c3b385fe9e32ee
def Fz:=zs 0xe7971e1d9c2ff4e7cb4e6
def G5:=zs 0x3961cd7f2f3eb9b2f2
def uE:=zs 3978691114608
def C8:=zs 443304474474868
def Hy:=zs 0x74c37f965c5b7aee
def HN:=zs 31083689204
def CW:=zs 443302050378980
def HX:=zs 26797127661
def Jx:=zs 0xe9cf2f4c397967
def Dy:=zs 447945196958575
def DM:=zs 452440390056690
def DV:=zs 4011968920307
def W9:=zs 0xa7166c9a542fc59152fd79f322c2
def JW:=zs 0x197b6fc586fe5dba7970
def qt:=zs 509272748045540
def Km:=zs 0x3cecdfc2feecbaf0f4
def HY:=zs 514152117859054
def C9:=zs 3463318239210
def Fe:=zs 0x3a73cbd30e5e59efe5d9bf477
def Es:=zs 0x396fe7a7b69c97f265e587473
def Ih:=zs 3534690727924
def IW:=zs 0xcdbeff4e7872ec
def Fg:=zs 0xe9cf2f4e5bf473
def Jl:=zs 456806792737008
def Gi:=zs 0xe9cf969cd7f26ed3a32e2
def GB:=zs 0x39edebceff2cbdf7f0
def Eu:=zs 0xe7b7af3bf9b7dfcbb3af2
def Vu:=zs 0x2a5283529dfa94e2c8a94a0c6
def Zw:=zs 0x1422d4a77ea538b124d7
def JG:=zs 0x19f76fd97f2f3eb9b2f2
def Er:=zs 0xe7c32f4e77f961cd7f2f3eb9b2f2
def Dw:=zs 0xefbf95fc9b37f4
def EV:=zs 0x65c787670bfb7af3
def Fl:=zs 0x65c787670bfd31f5c9bf970
def JQ:=zs 0xcb8f0ece17f265d9b37f2
def Df:=zs 0xefbf95fe5a70f0
def Fd:=zs 0x77dfcaff4dda77ea
def DN:=zs 27057009249
def J4:=zs 3463314094066
def FD:=zs 0x3265d3b3869e9b3aed
def C0:=zs 3463313912307
def Ga:=zs 3463316208371
def u5:=zs 32721435493
def JK:=zs 0x64c397461bfd3af0
def Gr:=zs 0x3765d787a5fcbbb4ec
def Ij:=zs 0x65dda765fc9872e8
def Ib:=zs 0xe1d6fe7dda7962
def Ie:=zs 27057027430
def JN:=zs 30806734435
def JH:=zs 0x396fe7a7b69c97f76fdbb77e3
def IK:=zs 4016813504492
def Hw:=zs 0xe7cb2e2dbd775fcb97966
def DW:=zs 0xddbf4f4ebb37f3
def Ka:=zs 0x66df7f76debb37e3
def Kc:=zs 0x74e7bb4e1cf86ff2cbc30f0
def Jc:=zs 3463335065587
def Jd:=zs 0xefbf95fe9cf2f2
def C5:=zs 0x336fbfcb7f3d3db4e4
def CQ:=zs 0x64cb934f6d393775
def Iv:=zs 0xcbb74f2e17fce2
def Vy:=zs 0x30bf6615fa94e2c8a94a0c6
def JV:=zs 0x1c36f5d57f961cd7f2f3eb9b2f2
def HW:=zs 0x3a66cbb2ff2cbdf7f0
def JZ:=zs 236681962
def GZ:=zs 0xe986fe5c787670
def Hf:=zs 3466780866415
def aa9:=zs 0x53a51614dab3afcc9906fc5ad3e141
def Ig:=zs 0x33e9c57f2f3eb9b2f2
def G4:=zs 0x39f2dfcf4f6d392fe5d9bf477
def HJ:=zs 0x73e9bf7f2bfcf861d1cb2f0
def JD:=zs 0x1d3aefbf932e4d3db4e4
def Gz:=zs 0x1cfa6fdfcafe5d9bf477
def zO:=zs 30815418352
def Ge:=zs 0x65dda765fdbcb7e6
def Ei:=zs 0xcdbeff3e9cb0f0
def qJ:=zs 3463328822883
def U0:=zs 0xa75e7c49d26bdfa94e7cd
def DB:=zs 0x197269ef7f2f3eb9b2f2
def G6:=zs 0x77dfcafe4ddd77f2
def Gg:=zs 0x326eebbf95fcbb70e3
def DC:=zs 0xcdbefe4ddd77f2
def qG:=zs 27352724599
def Vr:=zs 367430873507014
def axn:=zs 0x1cb86ed9ab466c98b0
def TR:=zs 0x44831695fa7169558f2635fa94e7cd
def DK:=zs 0x1bbbefd1cefecd986fe5edbf161
def DG:=zs 0xdddf7e8e77f965c5b7aee
def Hg:=zs 29779293299
def Jk:=zs 0x3765e9d34f2ef7f9e9
def Dh:=zs 0x1cb2e2dbd775fc9872f2
def Hr:=zs 0x32edd3cb85fc9872f2
def J2:=zs 0x39e4e5bfbdfc9872f2
def Kf:=zs 211317490
def Zc:=zs 0x29ce8f269df8b360ce
def aGE:=zs 0x72e1bb66ad19b262c3d79f1dfb75e9cf971e1bf76dd9af569d19f365c98f161
def abC:=zs 0x8b360cebf529c58f3a7cc
def abf:=zs 0x22418b220dfa94e7cd
def agP:=zs 22442977222
def IB:=zs 0xcdbeff3c9cb7f7
def Je:=zs 0xcdbeff3c9bb4eb
def Hu:=zs 0x65db8775fc9872f2
def GX:=zs 0x64cbb70eebfdf7f2
def FY:=zs 0x64e5bfbdfc9872f2
def DY:=zs 0xefbf95fcbaf0ed
def Fo:=zs 0x3a72dfa39dfcbaf0ed
def Hv:=zs 0xc9930dfcbaf0ed
def Im:=zs 0x79d9c34f4d9d76dfcbaf0ed
def J0:=zs 0x6cd9bf95fcbaf0ed
def Jf:=zs 0x32ecc38f9dfcbaf0ed
def Iz:=zs 0xdbd79dfcbaf0ed
def GQ:=zs 0x3cf2cbdb2dfcbaf0ed
def Js:=zs 0x3261cba30dfcbaf0ed
def Jz:=zs 487624762126573
def Jw:=zs 0x74e79795fcbaf0ed
def Fj:=zs 0x6eefbf473bfcf965c5b7aee
def FW:=zs 0x77dfa39dfd9b32f4
def Io:=zs 0x1cf2e3c3b385fd9b32f4
def Jy:=zs 513532019553012
def FJ:=zs 0x74e58785fd9b32f4
def Ir:=zs 0x326eebbf95fd9b32f4
def GK:=zs 0x32f2cba3bdfd9b32f4
def Kl:=zs 0x1932f3dfb31dfd9b32f4
def Dq:=zs 0xe5bf9e9eda725fd9b32f4
def Dz:=zs 0xe797269eda725fd9b32f4
def aks:=zs 2874015932621
def afc:=zs 367874041651924
def tK:=zs 226292420
def Ji:=zs 0xe986fecd9971dfef8765f
def G9:=zs 0x6cdfbf85fef8765f
def Gj:=zs 0xf1a76dfef8765f
def EB:=zs 535556634736223
def Il:=zs 0x1cb2e2dbd775fef8765f
def Ja:=zs 0xe7cb2e2dbd775fef8765f
def Fp:=zs 0x3befe57f66cc3b79dfef8765f
def G7:=zs 0x74e79795fef8765f
def Jp:=zs 0x64e5bfbdfef8765f
def Ew:=zs 0x64d9bfa5fef8765f
def JF:=zs 0x73c9cb7f7bfe715fef8765f
def DL:=zs 0xcbd725fef8765f
def EA:=zs 0x39f2cb8b6f5dd7f777c3cb25fef8765f
def Gf:=zs 0x74f197a5fef8765f
def CP:=zs 0x6cd9876f3bfcf4dfef8765f
def CZ:=zs 0x1cf26ec3d39dfef8765f
def CT:=zs 0x65ddbf25fef8765f
def Pq:=zs 1962220
def afY:=zs 0x7d97675c9bf6bc
def aPz:=zs 0xbf7f769c3b6fdf
def dh:=zs 0x2fdfcbb3ae4dfb6fdf
def dY:=zs 0x73e5bf972cabb2ecebcbce2e9e32ee
def iV:=zs 0xbf7f2edc3bb661ebc6fdf
def dw:=zs 0x17efefdd97769d9d39f2d39afdf
def dj:=zs 0x5fbfcf2f4eb8b4f2e9d30dfc7a7a61e9cefdf
def Ck:=zs 0x17efe6cbcb5e1cbdefdf
def Lw:=zs 27881272436
def vP:=zs 0x39f2cb8b6f5dcbb2ecebcbce2e9e32ee
def uN:=zs 3944329476846
def uJ:=zs 505222325449956
def jR:=zs 15586
def Ii:=zs 27342305648
def avW:=zs 3501140572403
def zq:=zs 244953836
def qY:=zs 1668975
def qX:=zs 30815173231
def v7:=zs 0x1cfbefe4bb2ecebcbce2e9e32ee
def wJ:=zs 213596914
def adX:=zs 3982749104755
def jZ:=zs 1964018
def aKS:=zs 3501169685218
def akB:=zs 29196367860
def wR:=zs 107
def Hs:=zs 31371130851
def Pj:=zs 27076163558
def xu:=zs 110
def ahC:=zs 509719678253806
def Xu:=zs 1652581
def sE:=zs 0xe7e766fe0bb2ecebcbce2e9e32ee
def yh:=zs 255539184
def WZ:=zs 105
def Xe:=zs 1849332
def apI:=zs 29741626223
def aFH:=zs 31354156147
def aGO:=zs 3947051413734
def W2:=zs 31343606119
def aaw:=zs 29219124979
def wQ:=zs 0x73cbb37e8eebb2ecebcbce2e9e32ee
def aOO:=zs 0x65ddbefe3d3bb7ed
def aex:=zs 509824676214765
def zR:=zs 245166834
def auc:=zs 213694445
def Yq:=zs 0x1d39e5e9cb7e8e6bb2ecebcbce2e9e32ee
def VF:=zs 31381287660
def Ly:=zs 243055343
def Og:=zs 3982193423476
def aDW:=zs 0xcbaf4ecc2bb2ecebcbce2e9e32ee
def aaM:=zs 0x73e597befe0bb2ecebcbce2e9e32ee
def ady:=zs 242973427
def aC4:=zs 1817583
def SW:=zs 3604769125100
def jE:=zs 0xe797c69dabb2ecebcbce2e9e32ee
def R7:=zs 31379192435
def akR:=zs 236550771
def aKR:=zs 0x32e3c3b385fe5a70f0
def oX:=zs 0x73cbb3161e8bb2ecebcbce2e9e32ee
def an6:=zs 31083705580
def abT:=zs 29749801698
def aoF:=zs 3809077835747
def ajK:=zs 213464311
def aFj:=zs 31081394920
def aHT:=zs 245166316
def Ip:=zs 14945
def avx:=zs 27340091636
def aPI:=zs 3463305819383
def En:=zs 0x1cf96fe7a7b69c8bb2ecebcbce2e9e32ee
def axz:=zs 31115244274
def IZ:=zs 0x3961ccbb2ecebcbce2e9e32ee
def aMA:=zs 3501182285030
def aDw:=zs 443304183166948
def sV:=zs 0xe7d37efe4bb2ecebcbce2e9e32ee
def adx:=zs 27057092980
def anp:=zs 245102578
def an9:=zs 31115180018
def aBo:=zs 0xe9bb2eedfc3c65
def au8:=zs 513606627883376
def amE:=zs 232569588
def aFM:=zs 243021812
def aM0:=zs 31115227376
def aFa:=zs 240808176
def aJP:=zs 509894165509367
def IV:=zs 0x73c9bbaefe4bb2ecebcbce2e9e32ee
def aCm:=zs 4118816732407
def aMR:=zs 232354547
def ud:=zs 0xe7d3c65e8bb2ecebcbce2e9e32ee
def PZ:=zs 211597303
def anL:=zs 245248756
def SY:=zs 31081674743
def aOB:=zs 1880290
def ay0:=zs 3465723654882
def K3:=zs 31379420275
def Qi:=zs 1651297
def Ln:=zs 0xf3b3869e9b3aed
def Ow:=zs 228276210
def Ml:=zs 27340075507
def KW:=zs 1800947
def KN:=zs 27048637537
def Qj:=zs 14191
def acW:=zs 236714340
def Mq:=zs 251393139
def O4:=zs 245149936
def K6:=zs 27076163570
def qb:=zs 1434318
def aKi:=zs 177611476
def gG:=zs 65
def rm:=zs 2836160277198
def ayO:=zs 11458
def dO:=zs 0x1af9e5c8bb2ecebcbce2e9e32ee
def aAd:=zs 31081608427
def QB:=zs 245117675
def aMT:=zs 213610734
def aAz:=zs 211530987
def jJ:=zs 211448051
def ax8:=zs 27321202288
def zF:=zs 0xbf7fa69dda6fdf
def yJ:=zs 1994995
def axX:=zs 215692019
def VN:=zs 0x5fbfd34eed37efaed7cf2c4
def WQ:=zs 0xf3879aed7cf2c4
def Wq:=zs 0xbf7fa63d392fdf
def aFq:=zs 0x1d3869e58f9dfef8765f
def abA:=zs 3702244537951
def ahG:=zs 0x6cd9971dfef8765f
def Jr:=zs 0xcbcb2e8bfcb2e2dbd775fef8765f
def aL5:=zs 0x3965d1d37dfef8765f
def Lp:=zs 0xcbcb2e8bfe715fef8765f
def aCA:=zs 0x64dda75dfef8765f
def aIf:=zs 0x79dd876dfef8765f
def Kv:=zs 0x326eebbf35fef8765f
def ZQ:=zs 0x6be79725fef8765f
def aGI:=zs 0x32f2cba2ff4f197a5fef8765f
def Z0:=zs 0x32f2cba2fe4e5bfbdfef8765f
def akm:=zs 3496086107743
def aDF:=zs 0x73efbf95fef8765f
def ajq:=zs 0x65e59745fe7cb2e2dbd775fef8765f
def azZ:=zs 0xc9979f5cd9795fef8765f
def aoM:=zs 0x74e1975dfef8765f
def apb:=zs 0x39e5db8775fef8765f
def axW:=zs 0x65db8775fef8765f
def aga:=zs 0x65e59745fcbd725fef8765f
def aN8:=zs 0x39e4e5bfbdfef8765f
def aHF:=zs 0x65dbbf9dfef8765f
noncomputable abbrev t0:String:=PySem.W.SL.s14018661285674007319x4
noncomputable abbrev t1:String:=PySem.W.SL.s7097527257260152453x26
noncomputable abbrev t2:String:=PySem.W.SL.s2766695959194262286x5
noncomputable abbrev t3:String:=PySem.W.SL.s5856160107412720595x4
noncomputable abbrev t4:String:=PySem.W.SL.s658472552662922059x5
noncomputable abbrev t5:String:=PySem.W.SL.s6070975301684473832x10
noncomputable abbrev t6:String:=PySem.W.SL.s11030030927630378310x26
noncomputable abbrev t7:String:=PySem.W.SL.s10062305145149207511x16
noncomputable abbrev t8:String:=PySem.W.SL.s17162191345867700912x4
noncomputable abbrev t9:String:=PySem.W.SL.s4209523147560561109x18
noncomputable abbrev t10:String:=PySem.W.SL.s5946037652744460706x9
noncomputable abbrev t11:String:=PySem.W.SL.s4278001404047624695x13
noncomputable abbrev iZ:String:=PySem.W.SL.s2742458400755230247x6
noncomputable abbrev OJ:String:=PySem.W.SL.s14755015743595814543x17
noncomputable abbrev t14:String:=PySem.W.SL.s10220274742760427390x26
noncomputable abbrev sJ:String:=PySem.W.SL.s4290257624100764138x5
noncomputable abbrev rG:String:=PySem.W.SL.s4860613602091757760x24
noncomputable abbrev Zu:String:=PySem.W.SL.s7174869446012820540x8
noncomputable abbrev t18:String:=PySem.W.SL.s11443829558043349243x14
noncomputable abbrev t19:String:=PySem.W.SL.s6511155373996960695x17
noncomputable abbrev t20:String:=PySem.W.SL.s12411053484034534018x21
def cd(z:Str)(i:Nat):Obj:={.none,.none,.func {z,z,L2.j4 (tt i),.stmts (L2.gK (tt i)),L2.aF (tt i),0,[],.none,.none,.none,.none,.none,.none,.none,0},{([])}}
def fo(z:Str)(i:Nat)(y:Str)(t c:Nat):Obj:={.type Zu,.none,.func {z,z,L2.j4 (tt i),.stmts (L2.gK (tt i)),L2.aF (tt i),3,[],.none,.none,.none,.str y t,.none,.ref c,.none,0},{([])}}
def cf(z:Str)(a:Nat)(l n:Int)(r:Nat)(x y:Value)(c e:Nat):Obj:={.type t3,.none,.fields {[.str z a,.str z (a+1),.str z9 (a+2),.int l 0,.int n 0,.int 0 0,.int 0 0,.int 3 0,.ref r,.bool true,.int 181 0,.ref (r+1),.none,x,y,.ref c,.int e 0,.int l 0,.str z9 (e+1)]},{([])}}
def cg(z:Str)(a:Nat)(l n:Int)(r c e:Nat):Obj:=cf z a l n r (.ref (r+2)) (.ref (r+3)) c e
def ts(l:List Str)(a:Nat):Obj:={.type t2,.none,.seq {List.rec (motive:=λ_=>Nat->List Value) (λ_=>[]) (λz _ f a=> .str z a::f (a+1)) l a} 0,{([])}}
def er(P:Params)(z:Str)(t r:Nat):DictEntry:={kh P z,.str z t,.ref r}
def l3(P:Params):List DictEntry:=[{kh P z0,.str z0 165,.str z1 1535},{kh P z2,.str z2 166,.none},{kh P z3,.str z3 167,.none},{kh P z4,.str z4 168,.builtin t1},{kh P z5,.str z5 169,.none},er P z6 170 6,er P z7 171 4,{kh P z8,.str z8 173,.str z9 172},{kh P Ot,.str Ot 174,.none},er P dg 206 24,er P uI 222 37,er P uK 238 49,er P vB 254 61,er P ur 270 73,er P vA 286 85,er P u6 302 97,er P uX 318 109,er P uV 334 121,{kh P VQ,.str VQ 338,.int 1000 337},er P Dp 345 130,er P JY 353 137,er P Ho 360 144,er P Kd 368 151,er P EW 376 158,er P Jj 387 165,er P C4 396 172,{kh P z28,.str z28 400,.int 12 399},{kh P VP,.str VP 402,.int 300 401},er P DX 408 177,er P J1 418 184,er P DQ 426 191,er P Ed 433 198,er P Gb 444 205,er P Fz 456 212,er P G5 463 219,er P uE 471 226,er P C8 481 233,er P Hy 489 240,er P HN 501 247,er P CW 516 254,er P HX 522 259,er P Jx 534 266,er P Dy 540 271,er P DM 546 276,er P DV 552 281,{kh P W9,.str W9 556,.int 1000000 555},er P JW 564 288,er P qt 572 295,er P Km 578 300,er P HY 587 307,er P C9 598 314,er P Fe 604 319,er P Es 613 326,er P Ih 621 331,er P IW 631 338,er P Fg 640 345,er P Jl 654 352,er P Gi 662 357,er P GB 673 364,er P Eu 682 371,{kh P Vu,.str Vu 686,.int 100 685},{kh P Zw,.str Zw 688,.int 10 687},er P JG 695 378,er P Er 703 385,er P Dw 709 390,er P EV 718 397,er P Fl 727 404,er P JQ 733 409,er P Df 739 414,er P Fd 752 421,er P DN 760 428,er P J4 768 435,er P FD 774 440,er P C0 780 445,er P Ga 786 450,er P u5 792 455,er P JK 802 462,er P Gr 810 467,er P Ij 820 474,er P Ib 826 479,er P Ie 832 484,er P JN 847 491,er P JH 858 498,er P IK 864 503,er P Hw 870 508,er P DW 876 513,er P Ka 882 518,er P Kc 888 523,er P Jc 899 530,er P Jd 907 535,er P C5 916 542,er P CQ 929 549,er P Iv 937 556,{kh P Vy,.str Vy 941,.int 400 940},er P JV 949 563,er P HW 961 570,er P JZ 967 575,er P GZ 975 582,er P Hf 981 587,{kh P aa9,.str aa9 985,.int 1000000 984},er P Ig 991 592,er P G4 1001 599,er P HJ 1007 604,er P JD 1018 611,er P Gz 1029 618,er P zO 1039 625,er P Ge 1045 630,er P Ei 1057 637,er P qJ 1063 642,{kh P U0,.str U0 1067,.int 4096 1066},er P DB 1077 649,er P G6 1085 656,er P Gg 1097 663,er P DC 1104 670,er P qG 1110 675,{kh P Vr,.str Vr 1114,.str axn 1113},{kh P TR,.str TR 1116,.int 60 1115},er P DK 1122 682,er P DG 1129 689,er P Hg 1135 694,er P Jk 1141 699,er P Dh 1148 706,er P Hr 1156 713,er P J2 1162 718,er P Kf 1173 725,{kh P Zc,.str Zc 1177,.str aGE 1176},{kh P abC,.str abC 1179,.int 8 1178},{kh P abf,.str abf 1181,.int 12 1180},er P agP 1272 726,er P IB 1280 755,er P Je 1289 762,er P Hu 1295 767,er P GX 1304 774,er P FY 1313 781,er P DY 1320 788,er P Fo 1327 795,er P Hv 1334 802,er P Im 1341 809,er P J0 1348 816,er P Jf 1355 823,er P Iz 1362 830,er P GQ 1369 837,er P Js 1375 842,er P Jz 1382 849,er P Jw 1389 856,er P Fj 1395 861,er P FW 1402 868,er P Io 1409 875,er P Jy 1416 882,er P FJ 1424 889,er P Ir 1431 896,er P GK 1437 901,er P Kl 1443 906,er P Dq 1450 913,er P Dz 1458 920,er P aks 1481 921,er P afc 1500 922,er P tK 1534 944,er P Ji 1544 955,er P G9 1550 960,er P Gj 1558 967,er P EB 1566 974,er P Il 1575 981,er P Ja 1587 988,er P Fp 1593 993,er P G7 1601 1000,er P Jp 1607 1005,er P Ew 1618 1012,er P JF 1624 1017,er P DL 1636 1024,er P EA 1642 1029,er P Gf 1648 1034,er P CP 1654 1039,er P CZ 1665 1046,er P CT 1682 1053,er P Pq 1688 1058]
def hv(P:Params)(z:Str)(t n:Nat):Obj:={.type t0,.none,.dict {{kh P z0,.str z0 165,.str z t}::((l3 P).take n).drop 1} n,{([])}}
def o3(P:Params):Obj:={.type t0,.none,.dict {l3 P} 176,{([])}}
def aMa(P:Params):=hv P dY 187 10
def aCX(P:Params):=hv P dY 187 11
def aEi(P:Params):=hv P dY 187 12
def ar0(P:Params):=hv P dY 187 13
def aEm(P:Params):=hv P dY 187 14
def aEh(P:Params):=hv P dY 187 15
def aGq(P:Params):=hv P dY 187 16
def aGs(P:Params):=hv P dY 187 17
def atm(P:Params):=hv P vP 335 24
def ar5(P:Params):=hv P sE 472 37
def azE(P:Params):=hv P wQ 553 50
def axd(P:Params):=hv P jE 683 63
def axo(P:Params):=hv P jE 683 76
def at5(P:Params):=hv P En 900 89
def aEa(P:Params):=hv P sV 982 103
def aMH(P:Params):=hv P ud 1111 117
def aE2(P:Params):=hv P dO 1174 128
def ayd(P:Params):=hv P dO 1174 129
def aFN(P:Params):=hv P dO 1174 142
def atJ(P:Params):=hv P dO 1174 155
def aOM(P:Params):=hv P dO 1174 157
def ar9(P:Params):Obj:={.type t0,.none,.dict {(l3 P).take 162} 162,{([])}}
def aM1(P:Params):Obj:={.type t0,.none,.dict {(l3 P).take 175} 175,{([])}}
def aj:Obj:={.type t2,.none,.seq {([])} 0,{([])}}
def fl(l:List (Int×Nat)):List Value:=l.flatMap λx=>[.int x.1 0,.int 0 0,.ref x.2]
noncomputable def cL:=fl [(2,20),(4,33),(6,45),(8,57),(10,69),(12,81),(14,93),(16,105),(18,117),(22,129),(24,136),(33,143),(37,150),(41,157),(45,164),(55,171),(64,176),(68,183),(77,190),(81,197),(84,204),(89,211),(97,218),(100,225),(104,232),(109,239),(111,246),(117,253),(127,258),(132,265),(140,270),(144,275),(147,280),(151,287),(156,294),(158,299),(160,306),(163,313),(166,318),(184,325),(187,330),(195,337),(200,344),(205,351),(215,356),(218,363),(224,370),(232,377),(235,384),(238,389),(242,396),(244,403),(246,408),(248,413),(253,420),(260,427),(262,434),(264,439),(274,444),(276,449),(284,454),(292,461),(298,466),(300,473),(305,478),(310,483),(318,490),(332,497),(340,502),(349,507),(356,512),(370,517),(372,522),(378,529),(384,534),(388,541),(394,548),(405,555),(410,562),(413,569),(421,574),(427,581),(429,586),(437,591),(440,598),(451,603),(456,610),(465,617),(475,624),(480,629),(485,636),(493,641),(505,648),(511,655),(517,662),(527,669),(529,674),(541,681),(543,688),(547,693),(555,698),(562,705),(566,712),(571,717),(578,724),(595,754),(602,761),(612,766),(616,773),(621,780),(631,787),(633,794),(635,801),(637,808),(639,815),(641,822),(643,829),(645,836),(647,841),(649,848),(651,855),(653,860),(655,867),(657,874),(659,881),(661,888),(664,895),(666,900),(674,905),(681,912),(683,919),(691,928),(708,954),(712,959),(729,966),(731,973),(734,980),(745,987),(752,992),(760,999),(764,1004),(772,1011),(784,1016),(805,1023),(815,1028),(820,1033),(834,1038),(836,1045),(844,1052),(870,1057)]
def jT:Obj:={.none,.none,.fields {(cL)},{([])}}
def ha0(a:Nat):Obj:={.none,.none,.fields {cL.take a},{([])}}
def adF:=ha0 0
def asV:=ha0 3
def aOv:=ha0 6
def aG8:=ha0 9
def aE4:=ha0 12
def aKj:=ha0 15
def arX:=ha0 18
def au1:=ha0 21
def aul:=ha0 24
def aDr:=ha0 42
def aA5:=ha0 75
def ar3:=ha0 111
def ayW:=ha0 144
def aCW:=ha0 183
def aE7:=ha0 222
def aHN:=ha0 258
def auJ:=ha0 291
def aoq:=ha0 315
def aD8:=ha0 354
def ahQ:=ha0 393
def aDs:=ha0 408
def aNo:=ha0 447
def ha4(a:Str)(b d:Nat)(c e:Int):Obj:={.type t3,.none,.fields {[.str a b,.str a (b+1),.str z9 (b+2),.int c 0,.int 0 0,.int 0 0,.int 0 0,.int 0 0,.ref d,.bool false,.int 181 0,.ref (d+1),.none,.none,.none,.none,.int e 0,.int c 0,.str z9 (b+4)]},{([])}}
def QL:=ha4 afY 182 11 1 185
def ha5(c:Str)(a b d:Nat):Obj:={.type t4,.none,.plain,{[.some (.ref a),.some (.ref 3),.some (.ref b),.none,.some (.str c d),.none,.some (.ref 0)]}}
def RB:=ha5 aPz 13 3 164
def o15:Obj:={.type t2,.none,.seq {[.type t5]} 0,{([])}}
def sY:Obj:={.type t6,.none,.fields {[.builtin t7,.type t8]},{([])}}
def ha6(P:Params)(b:Str)(a d:Nat)(c:Int):Obj:={.type t0,.none,.dict {[{kh P dh,.str dh a,.str dY 187},{kh P iV,.str iV (a+2),.str b (a+1)},{kh P dw,.str dw (a+4),.int c (a+3)},{kh P dj,.str dj (a+5),.ref d}]} 4,{([])}}
def o17(P:Params):=ha6 P dg 196 22 2
def aB:Obj:={.none,.none,.fields {([])},{([])}}
def o20:=ha4 dg 191 18 2 194
def o21:=ha5 dY 20 17 187
def o23(P:Params):Obj:={.type t0,.none,.dict {[{kh P dh,.str dh 196,.str dY 187},{kh P dw,.str dw 200,.int 2 199},{kh P dj,.str dj 201,.ref 22},{kh P Ck,.str Ck 203,.ref 25},{kh P z2,.str z2 204,.none}]} 3,{([])}}
def o24:Obj:={.type t8,.none,.cls {dg,[.type t5],[.ref 24,.type t5,.type t10,.type t11,.type iZ],23,dg,true,[],[.ref 37,.ref 49,.ref 61,.ref 73,.ref 85,.ref 97,.ref 109,.ref 121],false,.none,false},{[.some (.ref 15),.none,.some (.str dg 189),.some (.str dg 197),.some (.builtin t9),.some (.bool true)]}}
def awj:Obj:={.type t8,.none,.cls {dg,[.type t5],[.ref 24,.type t5,.type t10,.type t11,.type iZ],23,dg,true,[],[],false,.none,false},{[.some (.ref 15),.none,.some (.str dg 189),.some (.str dg 197),.some (.builtin t9),.some (.bool true)]}}
def aC0:Obj:={.type t8,.none,.cls {dg,[.type t5],[.ref 24,.type t5,.type t10,.type t11,.type iZ],23,dg,true,[],[.ref 37],false,.none,false},{[.some (.ref 15),.none,.some (.str dg 189),.some (.str dg 197),.some (.builtin t9),.some (.bool true)]}}
def avA:Obj:={.type t8,.none,.cls {dg,[.type t5],[.ref 24,.type t5,.type t10,.type t11,.type iZ],23,dg,true,[],[.ref 37,.ref 49],false,.none,false},{[.some (.ref 15),.none,.some (.str dg 189),.some (.str dg 197),.some (.builtin t9),.some (.bool true)]}}
def avP:Obj:={.type t8,.none,.cls {dg,[.type t5],[.ref 24,.type t5,.type t10,.type t11,.type iZ],23,dg,true,[],[.ref 37,.ref 49,.ref 61],false,.none,false},{[.some (.ref 15),.none,.some (.str dg 189),.some (.str dg 197),.some (.builtin t9),.some (.bool true)]}}
def aDd:Obj:={.type t8,.none,.cls {dg,[.type t5],[.ref 24,.type t5,.type t10,.type t11,.type iZ],23,dg,true,[],[.ref 37,.ref 49,.ref 61,.ref 73],false,.none,false},{[.some (.ref 15),.none,.some (.str dg 189),.some (.str dg 197),.some (.builtin t9),.some (.bool true)]}}
def aIw:Obj:={.type t8,.none,.cls {dg,[.type t5],[.ref 24,.type t5,.type t10,.type t11,.type iZ],23,dg,true,[],[.ref 37,.ref 49,.ref 61,.ref 73,.ref 85],false,.none,false},{[.some (.ref 15),.none,.some (.str dg 189),.some (.str dg 197),.some (.builtin t9),.some (.bool true)]}}
def aGG:Obj:={.type t8,.none,.cls {dg,[.type t5],[.ref 24,.type t5,.type t10,.type t11,.type iZ],23,dg,true,[],[.ref 37,.ref 49,.ref 61,.ref 73,.ref 85,.ref 97],false,.none,false},{[.some (.ref 15),.none,.some (.str dg 189),.some (.str dg 197),.some (.builtin t9),.some (.bool true)]}}
def arw:Obj:={.type t8,.none,.cls {dg,[.type t5],[.ref 24,.type t5,.type t10,.type t11,.type iZ],23,dg,true,[],[.ref 37,.ref 49,.ref 61,.ref 73,.ref 85,.ref 97,.ref 109],false,.none,false},{[.some (.ref 15),.none,.some (.str dg 189),.some (.str dg 197),.some (.builtin t9),.some (.bool true)]}}
def o25:Obj:={.type OJ,.none,.fields {[.str Ck 202,.ref 24,.builtin t14,.none]},{([])}}
def ha7(a:Nat):Obj:={.type sJ,.none,.fields {[.ref a,.ref a,.ref a]},{([])}}
def o26:=ha7 24
def ha8(a:Nat):Obj:={.type t6,.none,.fields {[.builtin rG,.ref a]},{([])}}
def o27:=ha8 24
def lB:Obj:={.type t2,.none,.seq {[.ref 24]} 0,{([])}}
def o30(P:Params):=ha6 P uI 214 35 4
def o33:=ha4 uI 209 31 4 212
def o34:=ha5 dY 33 30 187
def ha9(P:Params)(a c:Nat)(b:Int):Obj:={.type t0,.none,.dict {[{kh P dh,.str dh a,.str dY 187},{kh P dw,.str dw (a+4),.int b (a+3)},{kh P dj,.str dj (a+5),.ref c},{kh P z2,.str z2 (a+6),.none}]} 2,{([])}}
def o36(P:Params):=ha9 P 214 35 4
def haa(a:Str)(b c:Nat):Obj:={.type t8,.none,.cls {a,[.ref 24],[.ref (b+9),.ref 24,.type t5,.type t10,.type t11,.type iZ],(b+8),a,true,[],[],false,.none,false},{[.some (.ref b),.none,.some (.str a c),.some (.str a (c+8)),.some (.builtin t9),.some (.bool true)]}}
def o37:=haa uI 28 207
def o38:=ha7 37
def o39:=ha8 37
def o42(P:Params):=ha6 P uK 230 47 6
def o45:=ha4 uK 225 43 6 228
def o46:=ha5 dY 45 42 187
def o48(P:Params):=ha9 P 230 47 6
def o49:=haa uK 40 223
def o50:=ha7 49
def o51:=ha8 49
def o54(P:Params):=ha6 P vB 246 59 8
def o57:=ha4 vB 241 55 8 244
def o58:=ha5 dY 57 54 187
def o60(P:Params):=ha9 P 246 59 8
def o61:=haa vB 52 239
def o62:=ha7 61
def o63:=ha8 61
def o66(P:Params):=ha6 P ur 262 71 10
def o69:=ha4 ur 257 67 10 260
def o70:=ha5 dY 69 66 187
def o72(P:Params):=ha9 P 262 71 10
def o73:=haa ur 64 255
def o74:=ha7 73
def o75:=ha8 73
def o78(P:Params):=ha6 P vA 278 83 12
def o81:=ha4 vA 273 79 12 276
def o82:=ha5 dY 81 78 187
def o84(P:Params):=ha9 P 278 83 12
def o85:=haa vA 76 271
def o86:=ha7 85
def o87:=ha8 85
def o90(P:Params):=ha6 P u6 294 95 14
def o93:=ha4 u6 289 91 14 292
def o94:=ha5 dY 93 90 187
def o96(P:Params):=ha9 P 294 95 14
def o97:=haa u6 88 287
def o98:=ha7 97
def o99:=ha8 97
def aK5(P:Params):=ha6 P uX 310 107 16
def aM5:=ha4 uX 305 103 16 308
def aDf:=ha5 dY 105 102 187
def agg(P:Params):=ha9 P 310 107 16
def anf:=haa uX 100 303
def aOu:=ha7 109
def o111:=ha8 109
def aNG(P:Params):=ha6 P uV 326 119 18
def aHk:=ha4 uV 321 115 18 324
def aLY:=ha5 dY 117 114 187
def aji(P:Params):=ha9 P 326 119 18
def agf:=haa uV 112 319
def auE:=ha7 121
def aEO:=ha8 121
def aDQ:=ts [Lw] 342
def aBb:=cd Dp 12
def aon:=cg Dp 339 22 1 124 128 343
def apF:=fo Dp 12 vP 335 129
def aID:=ts [uN,uJ] 349
def aHA:=cd JY 13
def aij:=cg JY 346 24 1 131 135 351
def aju:=fo JY 13 vP 335 136
def aCg:=ts [Lw] 357
def aCT:=cd Ho 14
def aei:=cg Ho 354 33 1 138 142 358
def ai5:=fo Ho 14 vP 335 143
def aCH:=ts [jR,Lw] 364
def aNu:=cd Kd 15
def adE:=cg Kd 361 37 2 145 149 366
def afz:=fo Kd 15 vP 335 150
def awl:=ts [jR,uN] 372
def aHo:=cd EW 16
def ai4:=cg EW 369 41 2 152 156 374
def aiD:=fo EW 16 vP 335 157
def aKK:=ts [Ii,uN,zO,avW,zq] 380
def aAk:=cd Jj 17
def aip:=cg Jj 377 45 2 159 163 385
def akj:=fo Jj 17 vP 335 164
def aPd:=ts [jR,qY,qX] 391
def aMG:=cd C4 18
def amC:=cg C4 388 55 3 166 170 394
def af8:=fo C4 18 vP 335 171
def aKp:=cd DX 22
def anZ:=cf DX 403 64 2 173 .none .none 175 406
def af5:=fo DX 22 v7 397 176
def aH5:=ts [Lw,jR,wJ,adX] 412
def azx:=cd J1 23
def aqA:=cg J1 409 68 1 178 182 416
def akW:=fo J1 23 v7 397 183
def awv:=ts [qY,qX] 422
def atd:=cd DQ 24
def ap4:=cg DQ 419 77 2 185 189 424
def adW:=fo DQ 24 v7 397 190
def aw7:=ts [jZ] 430
def auF:=cd Ed 25
def af0:=cg Ed 427 81 1 192 196 431
def akf:=fo Ed 25 v7 397 197
def aKy:=ts [jR,wJ,aKS,akB,wR] 437
def aNN:=cd Gb 26
def ac7:=cg Gb 434 84 3 199 203 442
def agb:=fo Gb 26 v7 397 204
def aIJ:=ts [jZ,Hs,jR,wJ,adX,Pj] 448
def ayC:=cd Fz 27
def agc:=cg Fz 445 89 2 206 210 454
def akO:=fo Fz 27 v7 397 211
def auL:=ts [xu] 460
def aJb:=cd G5 28
def aoA:=cg G5 457 97 1 213 217 461
def adu:=fo G5 28 v7 397 218
def aIP:=ts [jZ,Hs] 467
def aF8:=cd uE 29
def apz:=cg uE 464 100 2 220 224 469
def aqZ:=fo uE 29 v7 397 225
def azo:=ts [ahC,Xu] 477
def auC:=cd C8 31
def aml:=cg C8 474 104 1 227 231 479
def amU:=fo C8 31 sE 472 232
def aKL:=ts [yh,wR] 485
def ayU:=cd Hy 32
def ap1:=cg Hy 482 109 2 234 238 487
def ame:=fo Hy 32 sE 472 239
def aDV:=ts [jR,qY,qX,akB,WZ,wR] 493
def ax4:=cd HN 33
def aiY:=cg HN 490 111 3 241 245 499
def ahs:=fo HN 33 sE 472 246
def aNk:=ts [jR,qY,qX,Xe,apI,zq,aFH,aGO,wR] 505
def aCZ:=cd CW 34
def aiJ:=cg CW 502 117 3 248 252 514
def apk:=fo CW 34 sE 472 253
def aq9:=cd HX 35
def apq:=cf HX 517 127 2 255 .none .none 257 520
def aeU:=fo HX 35 sE 472 258
def aFm:=ts [jR,qY,qX,W2,aaw,zq] 526
def aJN:=cd Jx 36
def ac1:=cg Jx 523 132 3 260 264 532
def aky:=fo Jx 36 sE 472 265
def aLr:=cd Dy 37
def anv:=cf Dy 535 140 2 267 .none .none 269 538
def amw:=fo Dy 37 sE 472 270
def aGj:=cd DM 38
def akN:=cf DM 541 144 2 272 .none .none 274 544
def aiG:=fo DM 38 sE 472 275
def aH7:=cd DV 39
def agQ:=cf DV 547 147 4 277 .none .none 279 550
def apD:=fo DV 39 sE 472 280
def aJ7:=ts [uN,Pj] 560
def aGW:=cd JW 42
def aki:=cg JW 557 151 1 282 286 562
def adJ:=fo JW 42 wQ 553 287
def aPv:=ts [aOO,yh] 568
def aOF:=cd qt 43
def adl:=cg qt 565 156 2 289 293 570
def aeB:=fo qt 43 wQ 553 294
def aMd:=cd Km 44
def air:=cf Km 573 158 2 296 .none .none 298 576
def o300:=fo Km 44 wQ 553 299
def awx:=ts [aex,uN,zR] 582
def aJn:=cd HY 45
def ags:=cg HY 579 160 2 301 305 585
def aoT:=fo HY 45 wQ 553 306
def aDv:=ts [aex,uN,Ii,zR,auc] 591
def arS:=cd C9 46
def ajZ:=cg C9 588 163 4 308 312 596
def alM:=fo C9 46 wQ 553 313
def ase:=cd Fe 47
def acH:=cf Fe 599 166 2 315 .none .none 317 602
def ao8:=fo Fe 47 wQ 553 318
def aDA:=ts [jR,qY,qX] 608
def az2:=cd Es 48
def ai1:=cg Es 605 184 3 320 324 611
def ac4:=fo Es 48 wQ 553 325
def aIG:=cd Ih 50
def agd:=cf Ih 616 187 2 327 .none .none 329 619
def afH:=fo Ih 50 Yq 614 330
def auo:=ts [jZ,jR,yh,Xe] 625
def aDY:=cd IW 51
def akk:=cg IW 622 195 1 332 336 629
def alX:=fo IW 51 Yq 614 337
def aty:=ts [jZ,VF,wJ] 635
def aEq:=cd Fg 52
def aop:=cg Fg 632 200 1 339 343 638
def afL:=fo Fg 52 Yq 614 344
def aIE:=ts [qY,qX,Hs,Ly,Og,xu] 646
def arz:=cd Jl 54
def alV:=cg Jl 643 205 2 346 350 652
def adB:=fo Jl 54 aDW 641 351
def ayf:=cd Gi 56
def apy:=cf Gi 657 215 3 353 .none .none 355 660
def ajG:=fo Gi 56 aaM 655 356
def auY:=ts [wJ,Hs,ady,wR,aC4] 666
def aH6:=cd GB 57
def aqG:=cg GB 663 218 2 358 362 671
def agy:=fo GB 57 aaM 655 363
def aJl:=ts [ady,wJ,wR] 677
def aOH:=cd Eu 58
def aqy:=cg Eu 674 224 1 365 369 680
def aos:=fo Eu 58 aaM 655 370
def aAh:=ts [SW] 692
def aHw:=cd JG 62
def o377:=cg JG 689 232 1 372 376 693
def ain:=fo JG 62 jE 683 377
def aMf:=ts [R7,akR] 699
def aI7:=cd Er 63
def adz:=cg Er 696 235 2 379 383 701
def agZ:=fo Er 63 jE 683 384
def aHm:=cd Dw 64
def ahf:=cf Dw 704 238 3 386 .none .none 388 707
def af9:=fo Dw 64 jE 683 389
def aBl:=ts [Ly,Og,xu] 713
def awJ:=cd EV 65
def ahh:=cg EV 710 242 3 391 395 716
def aeY:=fo EV 65 jE 683 396
def o400:=ts [Ly,Og,xu] 722
def ayx:=cd Fl 66
def ao3:=cg Fl 719 244 3 398 402 725
def al2:=fo Fl 66 jE 683 403
def atH:=cd JQ 67
def alO:=cf JQ 728 246 3 405 .none .none 407 731
def akG:=fo JQ 67 jE 683 408
def awu:=cd Df 68
def amx:=cf Df 734 248 4 410 .none .none 412 737
def acM:=fo Df 68 jE 683 413
def avB:=ts [qY,qX,aKR,jR,Ly,Og,yh] 743
def aGC:=cd Fd 69
def apH:=cg Fd 740 253 3 415 419 750
def ajM:=fo Fd 69 jE 683 420
def azy:=ts [qY,qX] 756
def aHp:=cd DN 70
def apU:=cg DN 753 260 2 422 426 758
def anW:=fo DN 70 jE 683 427
def aN3:=ts [qY,qX] 764
def aKT:=cd J4 71
def anG:=cg J4 761 262 2 429 433 766
def afn:=fo J4 71 jE 683 434
def avI:=cd FD 72
def aif:=cf FD 769 264 2 436 .none .none 438 772
def aqt:=fo FD 72 jE 683 439
def aBe:=cd C0 73
def o444:=cf C0 775 274 2 441 .none .none 443 778
def ahZ:=fo C0 73 jE 683 444
def aBK:=cd Ga 74
def afQ:=cf Ga 781 276 1 446 .none .none 448 784
def aqB:=fo Ga 74 jE 683 449
def atg:=cd u5 75
def ahr:=cf u5 787 284 3 451 .none .none 453 790
def aoy:=fo u5 75 jE 683 454
def aIk:=ts [jZ,ahC,VF,wJ] 796
def asS:=cd JK 76
def adh:=cg JK 793 292 2 456 460 800
def akF:=fo JK 76 jE 683 461
def asG:=cd Gr 78
def adt:=cf Gr 805 298 2 463 .none .none 465 808
def aia:=fo Gr 78 oX 803 466
def ayi:=ts [an6,abT,aoF,WZ] 814
def asn:=cd Ij 79
def apd:=cg Ij 811 300 3 468 472 818
def adg:=fo Ij 79 oX 803 473
def aOm:=cd Ib 80
def aqr:=cf Ib 821 305 4 475 .none .none 477 824
def aep:=fo Ib 80 oX 803 478
def aMi:=cd Ie 81
def ani:=cf Ie 827 310 5 480 .none .none 482 830
def ahF:=fo Ie 81 oX 803 483
def atL:=ts [jR,ajK,an6,aFj,aHT,aoF,Xe,Ip,WZ] 836
def ay9:=cd JN 82
def ajA:=cg JN 833 318 3 485 489 845
def amV:=fo JN 82 oX 803 490
def aPc:=ts [qY,qX,W2,aaw,zq] 851
def aBk:=cd JH 83
def ajI:=cg JH 848 332 2 492 496 856
def ae6:=fo JH 83 oX 803 497
def aGY:=cd IK 84
def aqa:=cf IK 859 340 3 499 .none .none 501 862
def akK:=fo IK 84 oX 803 502
def aPg:=cd Hw 85
def ajR:=cf Hw 865 349 5 504 .none .none 506 868
def alf:=fo Hw 85 oX 803 507
def aML:=cd DW 86
def ap3:=cf DW 871 356 4 509 .none .none 511 874
def afy:=fo DW 86 oX 803 512
def ayz:=cd Ka 87
def ah6:=cf Ka 877 370 2 514 .none .none 516 880
def aqK:=fo Ka 87 oX 803 517
def aGm:=cd Kc 88
def akI:=cf Kc 883 372 4 519 .none .none 521 886
def an8:=fo Kc 88 oX 803 522
def aDo:=ts [jR,ajK,avx,aPI,Pj] 892
def aMU:=cd Jc 89
def afM:=cg Jc 889 378 4 524 528 897
def ahu:=fo Jc 89 oX 803 529
def aw8:=cd Jd 91
def ah1:=cf Jd 902 384 2 531 .none .none 533 905
def aqV:=fo Jd 91 En 900 534
def aHX:=ts [jZ,uJ,R7] 911
def aOP:=cd C5 92
def ajJ:=cg C5 908 388 1 536 540 914
def aq1:=fo C5 92 En 900 541
def atw:=ts [jZ,uJ,R7,akR,SW,axz,wR] 920
def aDg:=cd CQ 93
def ajg:=cg CQ 917 394 4 543 547 927
def aov:=fo CQ 93 En 900 548
def aFZ:=ts [jZ,Ii] 933
def aJU:=cd Iv 94
def o555:=cg Iv 930 405 2 550 554 935
def af7:=fo Iv 94 En 900 555
def aNb:=ts [jR,xu] 945
def aIc:=cd JV 97
def acO:=cg JV 942 410 2 557 561 947
def ada:=fo JV 97 IZ 938 562
def ati:=ts [jR,yh,xu,zq,aMA,aDw] 953
def aIy:=cd HW 98
def akh:=cg HW 950 413 3 564 568 959
def amR:=fo HW 98 IZ 938 569
def aEj:=cd JZ 99
def aqi:=cf JZ 962 421 2 571 .none .none 573 965
def acS:=fo JZ 99 IZ 938 574
def aLi:=ts [jZ,xu] 971
def aC9:=cd GZ 100
def ajp:=cg GZ 968 427 2 576 580 973
def aq5:=fo GZ 100 IZ 938 581
def aBW:=cd Hf 101
def ag3:=cf Hf 976 429 2 583 .none .none 585 979
def anr:=fo Hf 101 IZ 938 586
def aLn:=cd Ig 104
def ami:=cf Ig 986 437 1 588 .none .none 590 989
def acU:=fo Ig 104 sV 982 591
def ayV:=ts [uN,aaw,W2,adx] 995
def aDM:=cd G4 105
def amA:=cg G4 992 440 1 593 597 999
def afr:=fo G4 105 sV 982 598
def aD7:=cd HJ 106
def adP:=cf HJ 1002 451 1 600 .none .none 602 1005
def alH:=fo HJ 106 sV 982 603
def aHq:=ts [yh,anp,apI,zq,adx] 1011
def awL:=cd JD 107
def amO:=cg JD 1008 456 2 605 609 1016
def ao0:=fo JD 107 sV 982 610
def azb:=ts [yh,an9,zq,anp,Pj] 1022
def ayM:=cd Gz 108
def aeP:=cg Gz 1019 465 1 612 616 1027
def ais:=fo Gz 108 sV 982 617
def awF:=ts [uN,aBo,au8,amE] 1033
def ax9:=cd zO 109
def apJ:=cg zO 1030 475 2 619 623 1037
def aeJ:=fo zO 109 sV 982 624
def aFl:=cd Ge 110
def ajP:=cf Ge 1040 480 2 626 .none .none 628 1043
def afS:=fo Ge 110 sV 982 629
def aEe:=ts [an9,aFM,aM0,abT,aFa,Xu] 1049
def ath:=cd Ei 111
def alq:=cg Ei 1046 485 2 631 635 1055
def ahx:=fo Ei 111 sV 982 636
def az0:=cd qJ 112
def ag5:=cf qJ 1058 493 1 638 .none .none 640 1061
def aom:=fo qJ 112 sV 982 641
def atc:=ts [Ii,SW,aJP,amE] 1071
def aEk:=cd DB 115
def aq0:=cg DB 1068 505 2 643 647 1075
def ahv:=fo DB 115 IV 1064 648
def aKC:=ts [jZ,VF] 1081
def av3:=cd G6 116
def aog:=cg G6 1078 511 1 650 654 1083
def afh:=fo G6 116 IV 1064 655
def aPk:=ts [jZ,jR,wJ,aCm,aMR,abT] 1089
def aB4:=cd Gg 117
def amN:=cg Gg 1086 517 1 657 661 1095
def aqj:=fo Gg 117 IV 1064 662
def o666:=ts [jZ] 1101
def aM6:=cd DC 118
def ap6:=cg DC 1098 527 1 664 668 1102
def aea:=fo DC 118 IV 1064 669
def ayl:=cd qG 119
def ahm:=cf qG 1105 529 2 671 .none .none 673 1108
def ait:=fo qG 119 IV 1064 674
def aFt:=cd DK 123
def aiu:=cg DK 1117 541 0 676 680 1120
def alQ:=fo DK 123 ud 1111 681
def aEG:=ts [uN] 1126
def atE:=cd DG 124
def ail:=cg DG 1123 543 1 683 687 1127
def aiQ:=fo DG 124 ud 1111 688
def aKk:=cd Hg 125
def ajl:=cf Hg 1130 547 1 690 .none .none 692 1133
def alA:=fo Hg 125 ud 1111 693
def asK:=cd Jk 126
def aqT:=cf Jk 1136 555 1 695 .none .none 697 1139
def aeg:=fo Jk 126 ud 1111 698
def aA7:=ts [PZ] 1145
def aFh:=cd Dh 127
def acG:=cg Dh 1142 562 1 700 704 1146
def aiy:=fo Dh 127 ud 1111 705
def aws:=ts [PZ,Ii] 1152
def aBg:=cd Hr 128
def alB:=cg Hr 1149 566 1 707 711 1154
def ajy:=fo Hr 128 ud 1111 712
def aKZ:=cd J2 129
def alb:=cf J2 1157 571 3 714 .none .none 716 1160
def ahp:=fo J2 129 ud 1111 717
def aA6:=ts [anL,SY,aOB,ay0,Xu] 1166
def aNA:=cd Kf 130
def ajN:=cg Kf 1163 578 1 719 723 1171
def aoH:=fo Kf 130 ud 1111 724
def aiO(P:Params):Obj:={.type t0,.none,.dict {[{kh P jZ,.str jZ 1182,.ref 727},{kh P K3,.str K3 1186,.ref 728},{kh P Qi,.str Qi 1190,.ref 729},{kh P Ln,.str Ln 1195,.ref 730},{kh P Ow,.str Ow 1200,.ref 731},{kh P Ml,.str Ml 1205,.ref 732},{kh P KW,.str KW 1210,.ref 733},{kh P u5,.str u5 1214,.ref 734},{kh P KN,.str KN 1220,.ref 735},{kh P Qj,.str Qj 1225,.ref 736},{kh P zR,.str zR 1230,.ref 737},{kh P acW,.str acW 1235,.ref 738},{kh P Mq,.str Mq 1238,.ref 739},{kh P uE,.str uE 1241,.ref 740},{kh P Ip,.str Ip 1245,.ref 741},{kh P O4,.str O4 1249,.ref 742},{kh P K6,.str K6 1253,.ref 743},{kh P qG,.str qG 1256,.ref 745},{kh P qJ,.str qJ 1259,.ref 746},{kh P uJ,.str uJ 1261,.ref 747},{kh P qt,.str qt 1263,.ref 748}]} 21,{([])}}
def aiB:=ts [qb,aKi] 1183
def apg:=ts [qb,gG] 1187
def aqL:=ts [qb,gG,gG] 1191
def aiZ:=ts [qb,gG,gG] 1196
def ahd:=ts [qb,gG,gG] 1201
def acT:=ts [qb,gG,rm] 1206
def ahX:=ts [qb,gG] 1211
def agY:=ts [qb,gG,rm,rm] 1215
def aoz:=ts [qb,gG,rm] 1221
def afx:=ts [qb,gG,rm] 1226
def am8:=ts [qb,gG,ayO] 1231
def anw:=ts [gG] 1236
def afI:=ts [gG] 1239
def alv:=ts [gG,rm] 1242
def ap0:=ts [gG,rm] 1246
def ahA:=ts [gG,gG] 1250
def an1:=ts [gG] 1254
def arv(P:Params):Obj:={.type t0,.none,.dict {[{kh P qG,.str qG 1256,.ref 745},{kh P qJ,.str qJ 1259,.ref 746},{kh P uJ,.str uJ 1261,.ref 747},{kh P qt,.str qt 1263,.ref 748}]} 4,{([])}}
def aqb:=ts [gG,rm] 1257
def ahS:=ts [gG] 1260
def ake:=ts [gG] 1262
def anN:=ts [gG,rm,rm,rm] 1264
def awk:=ts [anL,SY] 1276
def aD5:=cd IB 136
def aiW:=cg IB 1273 595 1 749 753 1278
def o755:=fo IB 136 dO 1174 754
def aL2:=ts [SY,aAd,Hs] 1284
def aw5:=cd Je 137
def aj3:=cg Je 1281 602 1 756 760 1287
def agV:=fo Je 137 dO 1174 761
def awo:=cd Hu 138
def afo:=cf Hu 1290 612 1 763 .none .none 765 1293
def aeT:=fo Hu 138 dO 1174 766
def aM3:=ts [QB,PZ,aMT] 1299
def aIa:=cd GX 139
def aii:=cg GX 1296 616 2 768 772 1302
def anh:=fo GX 139 dO 1174 773
def o777:=ts [QB,aAz,PZ] 1308
def avG:=cd FY 140
def akd:=cg FY 1305 621 3 775 779 1311
def ajY:=fo FY 140 dO 1174 780
def aCP:=ts [jJ] 1317
def azB:=cd DY 141
def alE:=cg DY 1314 631 1 782 786 1318
def ajt:=fo DY 141 dO 1174 787
def aIN:=ts [jJ] 1324
def au6:=cd Fo 142
def adM:=cg Fo 1321 633 1 789 793 1325
def aiA:=fo Fo 142 dO 1174 794
def aKN:=ts [jJ] 1331
def aGL:=cd Hv 143
def aqq:=cg Hv 1328 635 1 796 800 1332
def aiv:=fo Hv 143 dO 1174 801
def aI0:=ts [jJ] 1338
def aue:=cd Im 144
def ajd:=cg Im 1335 637 1 803 807 1339
def akE:=fo Im 144 dO 1174 808
def aq8:=ts [jJ] 1345
def atj:=cd J0 145
def alZ:=cg J0 1342 639 1 810 814 1346
def ac5:=fo J0 145 dO 1174 815
def ark:=ts [jJ] 1352
def aNe:=cd Jf 146
def afD:=cg Jf 1349 641 1 817 821 1353
def alz:=fo Jf 146 dO 1174 822
def aIl:=ts [jJ] 1359
def aES:=cd Iz 147
def af3:=cg Iz 1356 643 1 824 828 1360
def acD:=fo Iz 147 dO 1174 829
def aBY:=ts [jJ] 1366
def aC6:=cd GQ 148
def an0:=cg GQ 1363 645 1 831 835 1367
def ajC:=fo GQ 148 dO 1174 836
def aF3:=cd Js 149
def amh:=cf Js 1370 647 1 838 .none .none 840 1373
def akr:=fo Js 149 dO 1174 841
def aDk:=ts [jJ] 1379
def azA:=cd Jz 150
def al5:=cg Jz 1376 649 1 843 847 1380
def aey:=fo Jz 150 dO 1174 848
def aDt:=ts [jJ] 1386
def aBI:=cd Jw 151
def aok:=cg Jw 1383 651 1 850 854 1387
def aeS:=fo Jw 151 dO 1174 855
def aJI:=cd Fj 152
def amn:=cf Fj 1390 653 1 857 .none .none 859 1393
def alo:=fo Fj 152 dO 1174 860
def aLP:=ts [jJ] 1399
def aGK:=cd FW 153
def afb:=cg FW 1396 655 1 862 866 1400
def ai8:=fo FW 153 dO 1174 867
def aPG:=ts [jJ] 1406
def aPs:=cd Io 154
def aq3:=cg Io 1403 657 1 869 873 1407
def alx:=fo Io 154 dO 1174 874
def atV:=ts [jJ] 1413
def aNP:=cd Jy 155
def ang:=cg Jy 1410 659 1 876 880 1414
def al7:=fo Jy 155 dO 1174 881
def asr:=ts [jJ,ax8] 1420
def aG6:=cd FJ 156
def ael:=cg FJ 1417 661 1 883 887 1422
def amt:=fo FJ 156 dO 1174 888
def azN:=ts [jJ] 1428
def aDN:=cd Ir 157
def agH:=cg Ir 1425 664 1 890 894 1429
def am0:=fo Ir 157 dO 1174 895
def axt:=cd GK 158
def alg:=cf GK 1432 666 1 897 .none .none 899 1435
def ahH:=fo GK 158 dO 1174 900
def aET:=cd Kl 159
def ac6:=cf Kl 1438 674 1 902 .none .none 904 1441
def amv:=fo Kl 159 dO 1174 905
def ax7:=ts [jJ] 1447
def aDP:=cd Dq 160
def amb:=cg Dq 1444 681 1 907 911 1448
def ac0:=fo Dq 160 dO 1174 912
def aF7:=ts [jJ,wR] 1454
def aE0:=cd Dz 161
def apR:=cg Dz 1451 683 1 914 918 1456
def ak3:=fo Dz 161 dO 1174 919
def ajH(P:Params):Obj:={.type t0,.none,.dict {[{kh P jZ,.str jZ 1459,.ref 788},{kh P K3,.str K3 1460,.ref 795},{kh P Qi,.str Qi 1461,.ref 802},{kh P Ln,.str Ln 1462,.ref 809},{kh P Ow,.str Ow 1463,.ref 816},{kh P Ml,.str Ml 1464,.ref 823},{kh P KW,.str KW 1465,.ref 830},{kh P u5,.str u5 1466,.ref 837},{kh P KN,.str KN 1467,.ref 842},{kh P Qj,.str Qj 1468,.ref 849},{kh P zR,.str zR 1469,.ref 856}]} 11,{([])}}
def akt(P:Params):Obj:={.type t0,.none,.dict {[{kh P Mq,.str Mq 1482,.ref 868},{kh P uE,.str uE 1483,.ref 875},{kh P Ip,.str Ip 1484,.ref 882},{kh P O4,.str O4 1485,.ref 889},{kh P K6,.str K6 1486,.ref 896},{kh P qG,.str qG 1487,.ref 901},{kh P qJ,.str qJ 1488,.ref 906},{kh P uJ,.str uJ 1489,.ref 913},{kh P qt,.str qt 1490,.ref 920}]} 9,{([])}}
def aGQ(P:Params):Obj:={.type t0,.none,.dict {[{kh P dh,.str dh 1508,.str dO 1174},{kh P iV,.str iV 1510,.str tK 1509},{kh P dw,.str dw 1512,.int 691 1511},{kh P zF,.str zF 1519,.ref 936},{kh P yJ,.str yJ 1525,.ref 941},{kh P dj,.str dj 1527,.ref 942}]} 6,{([])}}
def aBC:Obj:={.none,.none,.fields {[.int 693 0,.int 4 0,.ref 935,.int 696 0,.int 4 0,.ref 940]},{([])}}
def aN4:=ha4 tK 1503 926 691 1506
def aun:=ha5 dO 928 925 1174
def aMP:=ts [axX] 1516
def ac2:Obj:={.none,.none,.func {zF,VN,L2.j4 (L2.inClass (tt 164) 0),.stmts (L2.gK (L2.inClass (tt 164) 0)),L2.aF (L2.inClass (tt 164) 0),0,[],.none,.none,.none,.none,.none,.none,.none,0},{([])}}
def aiT:Obj:={.type t3,.none,.fields {[.str zF 1513,.str VN 1514,.str z9 1515,.int 693 0,.int 1 0,.int 0 0,.int 0 0,.int 3 0,.ref 930,.bool true,.int 181 0,.ref 931,.none,.ref 932,.ref 933,.ref 934,.int 1517 0,.int 693 0,.str z9 1518]},{([])}}
def ahj:Obj:={.type Zu,.none,.func {zF,VN,L2.j4 (L2.inClass (tt 164) 0),.stmts (L2.gK (L2.inClass (tt 164) 0)),L2.aF (L2.inClass (tt 164) 0),3,[],.none,.none,.none,.str dO 1174,.none,.ref 935,.none,0},{([])}}
def anA:Obj:={.none,.none,.func {yJ,WQ,L2.j4 (L2.inClass (tt 164) 1),.stmts (L2.gK (L2.inClass (tt 164) 1)),L2.aF (L2.inClass (tt 164) 1),0,[],.none,.none,.none,.none,.none,.none,.none,0},{([])}}
def adp:Obj:={.type t3,.none,.fields {[.str yJ 1520,.str WQ 1521,.str z9 1522,.int 696 0,.int 2 0,.int 0 0,.int 0 0,.int 3 0,.ref 937,.bool true,.int 181 0,.ref 938,.none,.none,.none,.ref 939,.int 1523 0,.int 696 0,.str z9 1524]},{([])}}
def afu:Obj:={.type Zu,.none,.func {yJ,WQ,L2.j4 (L2.inClass (tt 164) 1),.stmts (L2.gK (L2.inClass (tt 164) 1)),L2.aF (L2.inClass (tt 164) 1),3,[],.none,.none,.none,.str dO 1174,.none,.ref 940,.none,0},{([])}}
def aG7:=ts [QB] 1526
def alF(P:Params):Obj:={.type t0,.none,.dict {[{kh P dh,.str dh 1508,.str dO 1174},{kh P dw,.str dw 1512,.int 691 1511},{kh P zF,.str zF 1519,.ref 936},{kh P yJ,.str yJ 1525,.ref 941},{kh P dj,.str dj 1527,.ref 942},{kh P Wq,.str Wq 1529,.ref 945},{kh P Ck,.str Ck 1531,.ref 946},{kh P z2,.str z2 1532,.none}]} 4,{([])}}
def aeN:Obj:={.type t8,.none,.cls {tK,[.type iZ],[.ref 944,.type iZ],943,tK,true,[],[],false,.none,false},{[.none,.none,.some (.str tK 1501),.some (.str tK 1509),.some (.builtin t18),.some (.bool true)]}}
def ama:Obj:={.type OJ,.none,.fields {[.str Wq 1528,.ref 944,.builtin t19,.builtin t20]},{([])}}
def aqf:Obj:={.type OJ,.none,.fields {[.str Ck 1530,.ref 944,.builtin t14,.none]},{([])}}
def aCe:=ha7 944
def aBp:=ha8 944
def aFS:=ts [aFq,abA] 1540
def aOg:=cd Ji 166
def apS:=cg Ji 1537 708 2 949 953 1542
def am5:=fo Ji 166 z1 1535 954
def azf:=cd G9 167
def ae5:=cf G9 1545 712 2 956 .none .none 958 1548
def aoU:=fo G9 167 z1 1535 959
def aEU:=ts [ahG,abA] 1554
def aGd:=cd Gj 168
def ak0:=cg Gj 1551 729 2 961 965 1556
def agk:=fo Gj 168 z1 1535 966
def aO9:=ts [Jr,aL5] 1562
def aAG:=cd EB 169
def ag8:=cg EB 1559 731 1 968 972 1564
def agD:=fo EB 169 z1 1535 973
def aK1:=ts [Lp,Jr,aCA] 1570
def aE6:=cd Il 170
def adZ:=cg Il 1567 734 2 975 979 1573
def anc:=fo Il 170 z1 1535 980
def atF:=ts [Lp,ahG,aIf,Kv,Jr,abA] 1579
def atp:=cd Ja 171
def apM:=cg Ja 1576 745 3 982 986 1585
def aob:=fo Ja 171 z1 1535 987
def axv:=cd Fp 172
def aec:=cf Fp 1588 752 3 989 .none .none 991 1591
def aoS:=fo Fp 172 z1 1535 992
def aAU:=ts [Lp,Jr] 1597
def aE8:=cd G7 173
def aqd:=cg G7 1594 760 2 994 998 1599
def o1000:=fo G7 173 z1 1535 999
def aIq:=cd Jp 174
def al9:=cf Jp 1602 764 1 1001 .none .none 1003 1605
def akq:=fo Jp 174 z1 1535 1004
def ayt:=ts [ZQ,aGI,Kv,Z0,akm] 1611
def aJp:=cd Ew 175
def amG:=cg Ew 1608 772 2 1006 1010 1616
def ahW:=fo Ew 175 z1 1535 1011
def aHD:=cd JF 176
def aem:=cf JF 1619 784 3 1013 .none .none 1015 1622
def apV:=fo JF 176 z1 1535 1016
def aPh:=ts [Z0,aDF,ajq,Kv,azZ,akm] 1628
def aPi:=cd DL 177
def adT:=cg DL 1625 805 3 1018 1022 1634
def amy:=fo DL 177 z1 1535 1023
def aAm:=cd EA 178
def aqH:=cf EA 1637 815 1 1025 .none .none 1027 1640
def alS:=fo EA 178 z1 1535 1028
def azu:=cd Gf 179
def ajx:=cf Gf 1643 820 3 1030 .none .none 1032 1646
def aoY:=fo Gf 179 z1 1535 1033
def aFx:=cd CP 180
def aee:=cf CP 1649 834 1 1035 .none .none 1037 1652
def aj4:=fo CP 180 z1 1535 1038
def aCd:=ts [ZQ,aoM,apb,axW,aga] 1658
def aED:=cd CZ 181
def alp:=cg CZ 1655 836 3 1040 1044 1663
def anC:=fo CZ 181 z1 1535 1045
def aIj:=ts [ZQ,aoM,apb,Jr,Lp,aN8,Z0,aHF,Kv,ajq,aga] 1669
def aEZ:=cd CT 182
def ao9:=cg CT 1666 844 5 1047 1051 1680
def akP:=fo CT 182 z1 1535 1052
def auw:=cd Pq 183
def ahy:=cf Pq 1683 870 1 1054 .none .none 1056 1686
def aie:=fo Pq 183 z1 1535 1057
noncomputable def HL(P:Params):List Obj:=[PySem.W.boot_o_0 P,PySem.W.boot_o_1 P,PySem.W.boot_o_2 P,o3 P,PySem.W.boot_o_4 P,PySem.W.boot_o_5 P,PySem.W.boot_o_6 P,PySem.W.boot_o_7 P,PySem.W.boot_o_8 P,PySem.W.boot_o_9 P,PySem.W.boot_o_10 P,aj,jT,QL,RB,o15,sY,o17 P,aj,aB,o20,o21,aj,o23 P,o24,o25,o26,o27,lB,sY,o30 P,aj,aB,o33,o34,aj,o36 P,o37,o38,o39,lB,sY,o42 P,aj,aB,o45,o46,aj,o48 P,o49,o50,o51,lB,sY,o54 P,aj,aB,o57,o58,aj,o60 P,o61,o62,o63,lB,sY,o66 P,aj,aB,o69,o70,aj,o72 P,o73,o74,o75,lB,sY,o78 P,aj,aB,o81,o82,aj,o84 P,o85,o86,o87,lB,sY,o90 P,aj,aB,o93,o94,aj,o96 P,o97,o98,o99,lB,sY,aK5 P,aj,aB,aM5,aDf,aj,agg P,anf,aOu,o111,lB,sY,aNG P,aj,aB,aHk,aLY,aj,aji P,agf,auE,aEO,aj,aB,aDQ,aj,aBb,aon,apF,aj,aB,aID,aj,aHA,aij,aju,aj,aB,aCg,aj,aCT,aei,ai5,aj,aB,aCH,aj,aNu,adE,afz,aj,aB,awl,aj,aHo,ai4,aiD,aj,aB,aKK,aj,aAk,aip,akj,aj,aB,aPd,aj,aMG,amC,af8,aj,aB,aKp,anZ,af5,aj,aB,aH5,aj,azx,aqA,akW,aj,aB,awv,aj,atd,ap4,adW,aj,aB,aw7,aj,auF,af0,akf,aj,aB,aKy,aj,aNN,ac7,agb,aj,aB,aIJ,aj,ayC,agc,akO,aj,aB,auL,aj,aJb,aoA,adu,aj,aB,aIP,aj,aF8,apz,aqZ,aj,aB,azo,aj,auC,aml,amU,aj,aB,aKL,aj,ayU,ap1,ame,aj,aB,aDV,aj,ax4,aiY,ahs,aj,aB,aNk,aj,aCZ,aiJ,apk,aj,aB,aq9,apq,aeU,aj,aB,aFm,aj,aJN,ac1,aky,aj,aB,aLr,anv,amw,aj,aB,aGj,akN,aiG,aj,aB,aH7,agQ,apD,aj,aB,aJ7,aj,aGW,aki,adJ,aj,aB,aPv,aj,aOF,adl,aeB,aj,aB,aMd,air,o300,aj,aB,awx,aj,aJn,ags,aoT,aj,aB,aDv,aj,arS,ajZ,alM,aj,aB,ase,acH,ao8,aj,aB,aDA,aj,az2,ai1,ac4,aj,aB,aIG,agd,afH,aj,aB,auo,aj,aDY,akk,alX,aj,aB,aty,aj,aEq,aop,afL,aj,aB,aIE,aj,arz,alV,adB,aj,aB,ayf,apy,ajG,aj,aB,auY,aj,aH6,aqG,agy,aj,aB,aJl,aj,aOH,aqy,aos,aj,aB,aAh,aj,aHw,o377,ain,aj,aB,aMf,aj,aI7,adz,agZ,aj,aB,aHm,ahf,af9,aj,aB,aBl,aj,awJ,ahh,aeY,aj,aB,o400,aj,ayx,ao3,al2,aj,aB,atH,alO,akG,aj,aB,awu,amx,acM,aj,aB,avB,aj,aGC,apH,ajM,aj,aB,azy,aj,aHp,apU,anW,aj,aB,aN3,aj,aKT,anG,afn,aj,aB,avI,aif,aqt,aj,aB,aBe,o444,ahZ,aj,aB,aBK,afQ,aqB,aj,aB,atg,ahr,aoy,aj,aB,aIk,aj,asS,adh,akF,aj,aB,asG,adt,aia,aj,aB,ayi,aj,asn,apd,adg,aj,aB,aOm,aqr,aep,aj,aB,aMi,ani,ahF,aj,aB,atL,aj,ay9,ajA,amV,aj,aB,aPc,aj,aBk,ajI,ae6,aj,aB,aGY,aqa,akK,aj,aB,aPg,ajR,alf,aj,aB,aML,ap3,afy,aj,aB,ayz,ah6,aqK,aj,aB,aGm,akI,an8,aj,aB,aDo,aj,aMU,afM,ahu,aj,aB,aw8,ah1,aqV,aj,aB,aHX,aj,aOP,ajJ,aq1,aj,aB,atw,aj,aDg,ajg,aov,aj,aB,aFZ,aj,aJU,o555,af7,aj,aB,aNb,aj,aIc,acO,ada,aj,aB,ati,aj,aIy,akh,amR,aj,aB,aEj,aqi,acS,aj,aB,aLi,aj,aC9,ajp,aq5,aj,aB,aBW,ag3,anr,aj,aB,aLn,ami,acU,aj,aB,ayV,aj,aDM,amA,afr,aj,aB,aD7,adP,alH,aj,aB,aHq,aj,awL,amO,ao0,aj,aB,azb,aj,ayM,aeP,ais,aj,aB,awF,aj,ax9,apJ,aeJ,aj,aB,aFl,ajP,afS,aj,aB,aEe,aj,ath,alq,ahx,aj,aB,az0,ag5,aom,aj,aB,atc,aj,aEk,aq0,ahv,aj,aB,aKC,aj,av3,aog,afh,aj,aB,aPk,aj,aB4,amN,aqj,aj,aB,o666,aj,aM6,ap6,aea,aj,aB,ayl,ahm,ait,aj,aB,aj,aj,aFt,aiu,alQ,aj,aB,aEG,aj,atE,ail,aiQ,aj,aB,aKk,ajl,alA,aj,aB,asK,aqT,aeg,aj,aB,aA7,aj,aFh,acG,aiy,aj,aB,aws,aj,aBg,alB,ajy,aj,aB,aKZ,alb,ahp,aj,aB,aA6,aj,aNA,ajN,aoH,aiO P,aiB,apg,aqL,aiZ,ahd,acT,ahX,agY,aoz,afx,am8,anw,afI,alv,ap0,ahA,an1,arv P,aqb,ahS,ake,anN,aj,aB,awk,aj,aD5,aiW,o755,aj,aB,aL2,aj,aw5,aj3,agV,aj,aB,awo,afo,aeT,aj,aB,aM3,aj,aIa,aii,anh,aj,aB,o777,aj,avG,akd,ajY,aj,aB,aCP,aj,azB,alE,ajt,aj,aB,aIN,aj,au6,adM,aiA,aj,aB,aKN,aj,aGL,aqq,aiv,aj,aB,aI0,aj,aue,ajd,akE,aj,aB,aq8,aj,atj,alZ,ac5,aj,aB,ark,aj,aNe,afD,alz,aj,aB,aIl,aj,aES,af3,acD,aj,aB,aBY,aj,aC6,an0,ajC,aj,aB,aF3,amh,akr,aj,aB,aDk,aj,azA,al5,aey,aj,aB,aDt,aj,aBI,aok,aeS,aj,aB,aJI,amn,alo,aj,aB,aLP,aj,aGK,afb,ai8,aj,aB,aPG,aj,aPs,aq3,alx,aj,aB,atV,aj,aNP,ang,al7,aj,aB,asr,aj,aG6,ael,amt,aj,aB,azN,aj,aDN,agH,am0,aj,aB,axt,alg,ahH,aj,aB,aET,ac6,amv,aj,aB,ax7,aj,aDP,amb,ac0,aj,aB,aF7,aj,aE0,apR,ak3,ajH P,akt P,aj,sY,aGQ P,aj,aBC,aN4,aun,aj,aB,aMP,aj,ac2,aiT,ahj,aj,aB,anA,adp,afu,aG7,alF P,aeN,ama,aqf,aCe,aBp,aj,aB,aFS,aj,aOg,apS,am5,aj,aB,azf,ae5,aoU,aj,aB,aEU,aj,aGd,ak0,agk,aj,aB,aO9,aj,aAG,ag8,agD,aj,aB,aK1,aj,aE6,adZ,anc,aj,aB,atF,aj,atp,apM,aob,aj,aB,axv,aec,aoS,aj,aB,aAU,aj,aE8,aqd,o1000,aj,aB,aIq,al9,akq,aj,aB,ayt,aj,aJp,amG,ahW,aj,aB,aHD,aem,apV,aj,aB,aPh,aj,aPi,adT,amy,aj,aB,aAm,aqH,alS,aj,aB,azu,ajx,aoY,aj,aB,aFx,aee,aj4,aj,aB,aCd,aj,aED,alp,anC,aj,aB,aIj,aj,aEZ,ao9,akP,aj,aB,auw,ahy,aie]
def ev(l:List Obj):Bool->List Obj:=List.rec (motive:=λ_=>Bool->List Obj) (λ_=>[]) (λo _ f b=>cond b (o::f false) (f true)) l
def bt(n:Nat):List Obj->BT:=Nat.rec (motive:=λ_=>List Obj->BT) (λ_=> .nil) (λ_ f l=>List.casesOn l .nil λo l=> .node o (f (ev l true)) (f (ev l false))) n
def TF(P:Params):BT:=bt 16 (HL P)
def HF(P:Params):Heap:={{HL P},{}}
section
local macro_rules | `(#[]) => `([])
local macro_rules | `(#[$i:num,$o]) => `((nat_lit $i,$o)::[])
local macro_rules | `(#[$i:num,$o,$x,*]) => `((nat_lit $i,$o)::#[$x,*])
noncomputable def K(P:Params):Frag:=#[0,PySem.W.boot_o_0 P,1,PySem.W.boot_o_1 P,2,PySem.W.boot_o_2 P,3,o3 P,4,PySem.W.boot_o_4 P,5,PySem.W.boot_o_5 P,6,PySem.W.boot_o_6 P,7,PySem.W.boot_o_7 P,8,PySem.W.boot_o_8 P,9,PySem.W.boot_o_9 P,10,PySem.W.boot_o_10 P,11,aj,12,jT,13,QL,14,RB,15,o15,22,aj,23,o23 P,24,o24,25,o25,28,lB,35,aj,36,o36 P,37,o37,40,lB,47,aj,48,o48 P,49,o49,52,lB,59,aj,60,o60 P,61,o61,64,lB,71,aj,72,o72 P,73,o73,76,lB,83,aj,84,o84 P,85,o85,88,lB,95,aj,96,o96 P,97,o97,100,lB,107,aj,108,agg P,109,anf,112,lB,119,aj,120,aji P,121,agf,129,aon,130,apF,136,aij,137,aju,143,aei,144,ai5,150,adE,151,afz,157,ai4,158,aiD,164,aip,165,akj,171,amC,172,af8,176,anZ,177,af5,183,aqA,184,akW,190,ap4,191,adW,197,af0,198,akf,204,ac7,205,agb,211,agc,212,akO,218,aoA,219,adu,225,apz,226,aqZ,232,aml,233,amU,239,ap1,240,ame,246,aiY,247,ahs,253,aiJ,254,apk,258,apq,259,aeU,265,ac1,266,aky,270,anv,271,amw,275,akN,276,aiG,280,agQ,281,apD,287,aki,288,adJ,294,adl,295,aeB,299,air,300,o300,306,ags,307,aoT,313,ajZ,314,alM,318,acH,319,ao8,325,ai1,326,ac4,330,agd,331,afH,337,akk,338,alX,344,aop,345,afL,351,alV,352,adB,356,apy,357,ajG,363,aqG,364,agy,370,aqy,371,aos,377,o377,378,ain,384,adz,385,agZ,389,ahf,390,af9,396,ahh,397,aeY,403,ao3,404,al2,408,alO,409,akG,413,amx,414,acM,420,apH,421,ajM,427,apU,428,anW,434,anG,435,afn,439,aif,440,aqt,444,o444,445,ahZ,449,afQ,450,aqB,454,ahr,455,aoy,461,adh,462,akF,466,adt,467,aia,473,apd,474,adg,478,aqr,479,aep,483,ani,484,ahF,490,ajA,491,amV,497,ajI,498,ae6,502,aqa,503,akK,507,ajR,508,alf,512,ap3,513,afy,517,ah6,518,aqK,522,akI,523,an8,529,afM,530,ahu,534,ah1,535,aqV,541,ajJ,542,aq1,548,ajg,549,aov,555,o555,556,af7,562,acO,563,ada,569,akh,570,amR,574,aqi,575,acS,581,ajp,582,aq5,586,ag3,587,anr,591,ami,592,acU,598,amA,599,afr,603,adP,604,alH,610,amO,611,ao0,617,aeP,618,ais,624,apJ,625,aeJ,629,ajP,630,afS,636,alq,637,ahx,641,ag5,642,aom,648,aq0,649,ahv,655,aog,656,afh,662,amN,663,aqj,669,ap6,670,aea,674,ahm,675,ait,681,aiu,682,alQ,688,ail,689,aiQ,693,ajl,694,alA,698,aqT,699,aeg,705,acG,706,aiy,712,alB,713,ajy,717,alb,718,ahp,724,ajN,725,aoH,726,aiO P,727,aiB,728,apg,729,aqL,730,aiZ,731,ahd,732,acT,733,ahX,734,agY,735,aoz,736,afx,737,am8,738,anw,739,afI,740,alv,741,ap0,742,ahA,743,an1,745,aqb,746,ahS,747,ake,748,anN,754,aiW,755,o755,761,aj3,762,agV,766,afo,767,aeT,773,aii,774,anh,780,akd,781,ajY,787,alE,788,ajt,794,adM,795,aiA,801,aqq,802,aiv,808,ajd,809,akE,815,alZ,816,ac5,822,afD,823,alz,829,af3,830,acD,836,an0,837,ajC,841,amh,842,akr,848,al5,849,aey,855,aok,856,aeS,860,amn,861,alo,867,afb,868,ai8,874,aq3,875,alx,881,ang,882,al7,888,ael,889,amt,895,agH,896,am0,900,alg,901,ahH,905,ac6,906,amv,912,amb,913,ac0,919,apR,920,ak3,921,ajH P,922,akt P,934,ac2,935,aiT,936,ahj,939,anA,940,adp,941,afu,943,alF P,944,aeN,945,ama,946,aqf,954,apS,955,am5,959,ae5,960,aoU,966,ak0,967,agk,973,ag8,974,agD,980,adZ,981,anc,987,apM,988,aob,992,aec,993,aoS,999,aqd,1000,o1000,1004,al9,1005,akq,1011,amG,1012,ahW,1016,aem,1017,apV,1023,adT,1024,amy,1028,aqH,1029,alS,1033,ajx,1034,aoY,1038,aee,1039,aj4,1045,alp,1046,anC,1052,ao9,1053,akP,1057,ahy,1058,aie]
end
noncomputable def as:List Nat:=[0,1,2,3,4,5,6,7,8,9,10,11,12,13,14,15,22,23,24,25,28,35,36,37,40,47,48,49,52,59,60,61,64,71,72,73,76,83,84,85,88,95,96,97,100,107,108,109,112,119,120,121,129,130,136,137,143,144,150,151,157,158,164,165,171,172,176,177,183,184,190,191,197,198,204,205,211,212,218,219,225,226,232,233,239,240,246,247,253,254,258,259,265,266,270,271,275,276,280,281,287,288,294,295,299,300,306,307,313,314,318,319,325,326,330,331,337,338,344,345,351,352,356,357,363,364,370,371,377,378,384,385,389,390,396,397,403,404,408,409,413,414,420,421,427,428,434,435,439,440,444,445,449,450,454,455,461,462,466,467,473,474,478,479,483,484,490,491,497,498,502,503,507,508,512,513,517,518,522,523,529,530,534,535,541,542,548,549,555,556,562,563,569,570,574,575,581,582,586,587,591,592,598,599,603,604,610,611,617,618,624,625,629,630,636,637,641,642,648,649,655,656,662,663,669,670,674,675,681,682,688,689,693,694,698,699,705,706,712,713,717,718,724,725,726,727,728,729,730,731,732,733,734,735,736,737,738,739,740,741,742,743,745,746,747,748,754,755,761,762,766,767,773,774,780,781,787,788,794,795,801,802,808,809,815,816,822,823,829,830,836,837,841,842,848,849,855,856,860,861,867,868,874,875,881,882,888,889,895,896,900,901,905,906,912,913,919,920,921,922,934,935,936,939,940,941,943,944,945,946,954,955,959,960,966,967,973,974,980,981,987,988,992,993,999,1000,1004,1005,1011,1012,1016,1017,1023,1024,1028,1029,1033,1034,1038,1039,1045,1046,1052,1053,1057,1058]
def cut(n:Nat)(t:BT):Nat->Nat->BT:=BT.rec (motive:=λ_=>Nat->Nat->BT) (λ_ _=> .nil) (λv _ _ l r a b=>cond (Nat.blt b n) (.node v (l (Nat.mul 2 a) (Ku a b)) (r (Nat.mul 2 a) (Ku (Nat.mul 2 a) b))) .nil) t
def HA(P:Params):Heap:={{[PySem.W.boot_o_0 P,PySem.W.boot_o_1 P,PySem.W.boot_o_2 P,PySem.W.boot_o_3 P,PySem.W.boot_o_4 P,PySem.W.boot_o_5 P,PySem.W.boot_o_6 P,PySem.W.boot_o_7 P,PySem.W.boot_o_8 P,PySem.W.boot_o_9 P,PySem.W.boot_o_10 P,aj,adF,QL,RB]},{}}
def SA(w:World)(os:OsState):Shared:={HA w.params,{([])},{},187,os}
def T1(P:Params):BT:=((cut 15 (TF P) 1 0).set 3 λ_=>PySem.W.boot_o_3 P).set 12 λ_=>adF
def S1(w:World)(os:OsState):SharedT:={T1 w.params,15,{},{([])},{},187,os}
def T2(P:Params):BT:=(((cut 28 (TF P) 1 0).set 3 λ_=>aMa P).set 12 λ_=>asV).set 24 λ_=>awj
def S2(w:World)(os:OsState):SharedT:={T2 w.params,28,{},{([])},{},207,os}
def T3(P:Params):BT:=(((cut 40 (TF P) 1 0).set 3 λ_=>aCX P).set 12 λ_=>aOv).set 24 λ_=>aC0
def S3(w:World)(os:OsState):SharedT:={T3 w.params,40,{},{([])},{},223,os}
def T4(P:Params):BT:=(((cut 52 (TF P) 1 0).set 3 λ_=>aEi P).set 12 λ_=>aG8).set 24 λ_=>avA
def S4(w:World)(os:OsState):SharedT:={T4 w.params,52,{},{([])},{},239,os}
def T5(P:Params):BT:=(((cut 64 (TF P) 1 0).set 3 λ_=>ar0 P).set 12 λ_=>aE4).set 24 λ_=>avP
def S5(w:World)(os:OsState):SharedT:={T5 w.params,64,{},{([])},{},255,os}
def T6(P:Params):BT:=(((cut 76 (TF P) 1 0).set 3 λ_=>aEm P).set 12 λ_=>aKj).set 24 λ_=>aDd
def S6(w:World)(os:OsState):SharedT:={T6 w.params,76,{},{([])},{},271,os}
def T7(P:Params):BT:=(((cut 88 (TF P) 1 0).set 3 λ_=>aEh P).set 12 λ_=>arX).set 24 λ_=>aIw
def S7(w:World)(os:OsState):SharedT:={T7 w.params,88,{},{([])},{},287,os}
def T8(P:Params):BT:=(((cut 100 (TF P) 1 0).set 3 λ_=>aGq P).set 12 λ_=>au1).set 24 λ_=>aGG
def S8(w:World)(os:OsState):SharedT:={T8 w.params,100,{},{([])},{},303,os}
def T9(P:Params):BT:=(((cut 112 (TF P) 1 0).set 3 λ_=>aGs P).set 12 λ_=>aul).set 24 λ_=>arw
def S9(w:World)(os:OsState):SharedT:={T9 w.params,112,{},{([])},{},319,os}
def T10(P:Params):BT:=((cut 159 (TF P) 1 0).set 3 λ_=>atm P).set 12 λ_=>aDr
def S10(w:World)(os:OsState):SharedT:={T10 w.params,159,{},{([])},{},377,os}
def T11(P:Params):BT:=((cut 234 (TF P) 1 0).set 3 λ_=>ar5 P).set 12 λ_=>aA5
def S11(w:World)(os:OsState):SharedT:={T11 w.params,234,{},{([])},{},482,os}
def T12(P:Params):BT:=((cut 308 (TF P) 1 0).set 3 λ_=>azE P).set 12 λ_=>ar3
def S12(w:World)(os:OsState):SharedT:={T12 w.params,308,{},{([])},{},588,os}
def T13(P:Params):BT:=((cut 379 (TF P) 1 0).set 3 λ_=>axd P).set 12 λ_=>ayW
def S13(w:World)(os:OsState):SharedT:={T13 w.params,379,{},{([])},{},696,os}
def T14(P:Params):BT:=((cut 456 (TF P) 1 0).set 3 λ_=>axo P).set 12 λ_=>aCW
def S14(w:World)(os:OsState):SharedT:={T14 w.params,456,{},{([])},{},793,os}
def T15(P:Params):BT:=((cut 531 (TF P) 1 0).set 3 λ_=>at5 P).set 12 λ_=>aE7
def S15(w:World)(os:OsState):SharedT:={T15 w.params,531,{},{([])},{},902,os}
def T16(P:Params):BT:=((cut 605 (TF P) 1 0).set 3 λ_=>aEa P).set 12 λ_=>aHN
def S16(w:World)(os:OsState):SharedT:={T16 w.params,605,{},{([])},{},1008,os}
def T17(P:Params):BT:=((cut 676 (TF P) 1 0).set 3 λ_=>aMH P).set 12 λ_=>auJ
def S17(w:World)(os:OsState):SharedT:={T17 w.params,676,{},{([])},{},1117,os}
def T18(P:Params):BT:=((cut 726 (TF P) 1 0).set 3 λ_=>aE2 P).set 12 λ_=>aoq
def S18(w:World)(os:OsState):SharedT:={T18 w.params,726,{},{([])},{},1182,os}
def T19(P:Params):BT:=((cut 749 (TF P) 1 0).set 3 λ_=>ayd P).set 12 λ_=>aoq
def S19(w:World)(os:OsState):SharedT:={T19 w.params,749,{},{([])},{},1273,os}
def T20(P:Params):BT:=((cut 838 (TF P) 1 0).set 3 λ_=>aFN P).set 12 λ_=>aD8
def S20(w:World)(os:OsState):SharedT:={T20 w.params,838,{},{([])},{},1370,os}
def T21(P:Params):BT:=((cut 921 (TF P) 1 0).set 3 λ_=>atJ P).set 12 λ_=>ahQ
def S21(w:World)(os:OsState):SharedT:={T21 w.params,921,{},{([])},{},1459,os}
def T22(P:Params):BT:=((cut 923 (TF P) 1 0).set 3 λ_=>aOM P).set 12 λ_=>ahQ
def S22(w:World)(os:OsState):SharedT:={T22 w.params,923,{},{([])},{},1501,os}
def T23(P:Params):BT:=((cut 975 (TF P) 1 0).set 3 λ_=>ar9 P).set 12 λ_=>aDs
def S23(w:World)(os:OsState):SharedT:={T23 w.params,975,{},{([])},{},1567,os}
def T24(P:Params):BT:=((cut 1054 (TF P) 1 0).set 3 λ_=>aM1 P).set 12 λ_=>aNo
def S24(w:World)(os:OsState):SharedT:={T24 w.params,1054,{},{([])},{},1683,os}
def T25(P:Params):BT:=cut 1059 (TF P) 1 0
def S25(w:World)(os:OsState):SharedT:={T25 w.params,1059,{},{([])},{},1689,os}
def SF(w:World)(os:OsState):Shared:={HF w.params,{([])},{},1689,os}
def ann:Option Value:=some (.ref 6)
def env:Env:={ scope:=pwL.main.scope,locals:=mainNs,globals:=mainNs,cells:=[],code:= .ref 13,frame:=some 14 }
def cE:Code:= .body (behindTheImports pwL) env
abbrev BB:List Frame:=[topFrame {0,0,0,(0)}]
def LO:List Str:=[dg,uI,uK,vB,ur,vA,u6,uX,uV,VQ,Dp,JY,Ho,Kd,EW,Jj,C4,z28,VP,DX,J1,DQ,Ed,Gb,Fz,G5,uE,C8,Hy,HN,CW,HX,Jx,Dy,DM,DV,W9,JW,qt,Km,HY,C9,Fe,Es,Ih,IW,Fg,Jl,Gi,GB,Eu,Vu,Zw,JG,Er,Dw,EV,Fl,JQ,Df,Fd,DN,J4,FD,C0,Ga,u5,JK,Gr,Ij,Ib,Ie,JN,JH,IK,Hw,DW,Ka,Kc,Jc,Jd,C5,CQ,Iv,Vy,JV,HW,JZ,GZ,Hf,aa9,Ig,G4,HJ,JD,Gz,zO,Ge,Ei,qJ,U0,DB,G6,Gg,DC,qG,Vr,TR,DK,DG,Hg,Jk,Dh,Hr,J2,Kf,Zc,abC,abf,agP,IB,Je,Hu,GX,FY,DY,Fo,Hv,Im,J0,Jf,Iz,GQ,Js,Jz,Jw,Fj,FW,Io,Jy,FJ,Ir,GK,Kl,Dq,Dz,aks,afc,tK,Ji,G9,Gj,EB,Il,Ja,Fp,G7,Jp,Ew,JF,DL,EA,Gf,CP,CZ,CT]
noncomputable def q:Program:={ pwL with main:={ pwL.main with body:=[topF 183] } }
theorem a0:@segRunT=PySem.W.Fast.tw10110043849684766642:=PySem.W.Fast.te10110043849684766642
theorem a1:@treeTable=PySem.W.Fast.tw14364793385576792824:=PySem.W.Fast.te14364793385576792824
theorem a2:@topGo=PySem.W.Fast.tw15667345088766844465:=PySem.W.Fast.te15667345088766844465
theorem a3:@topRun=PySem.W.Fast.tw14082659384304107361:=PySem.W.Fast.te14082659384304107361
theorem a4:@segRun=PySem.W.Fast.tw14374325043358763698:=PySem.W.Fast.te14374325043358763698
theorem a5:@denote=PySem.W.Fast.tw11892475500146522536:=PySem.W.Fast.te11892475500146522536
theorem a11:@importedModules=PySem.W.Fast.tw5923862056798008813:=PySem.W.Fast.te5923862056798008813
theorem a12:@openSeen=PySem.W.Fast.tw4187177175401517315:=PySem.W.Fast.te4187177175401517315
theorem a13:@Heap.nsMap=PySem.W.Fast.tw8920871248978507458:=PySem.W.Fast.te8920871248978507458
set_option maxHeartbeats 0
theorem pre(w:World)(os:OsState):topGo treeTable pwL w 11 ann 12 {boot_heap w.params,{([])},boot_drawn,boot_toks,os} (topStub pwL)=some (SA w os,{denote treeTable cE,cE,{0,0,0,(0)},BB}):=by
 rw[a1,a2,a5];kernel_rfl
theorem blk(w:World)(os:OsState):segRun treeTable pwL w 11 ann 1 1 (SA w os) (blockOf (behindTheImports pwL) env cE {0,0,0,(0)} BB)=some (.next,(S1 w os).abs,cE,{0,0,0,(0)}):=by
 rw[a1,a4];kernel_rfl
abbrev c1:List Stmt:=[topF 0,topF 1]
abbrev hab(w:World)(o:OsState)(n:Nat)(s:World->OsState->SharedT)(c:List Stmt)(a:Pos)(t:World->OsState->SharedT)(b:Pos):Prop:=segRunT treeTable pwL w 11 ann 1 n (s w o) (piecesOf c env cE a BB)=some (.next,t w o,cE,b)
theorem p1(w:World)(os:OsState):hab w os 196 S1 c1 {0,0,0,(0)} S2 {2,0,3,(8)}:=by
 unfold hab c1;rw[a0,a1];kernel_rfl
abbrev c2:List Stmt:=[topF 2]
theorem p2(w:World)(os:OsState):hab w os 214 S2 c2 {2,0,3,(8)} S3 {4,0,5,(8)}:=by
 unfold hab c2;rw[a0,a1];kernel_rfl
abbrev c3:List Stmt:=[topF 3]
theorem p3(w:World)(os:OsState):hab w os 214 S3 c3 {4,0,5,(8)} S4 {6,0,7,(8)}:=by
 unfold hab c3;rw[a0,a1];kernel_rfl
abbrev c4:List Stmt:=[topF 4]
theorem p4(w:World)(os:OsState):hab w os 214 S4 c4 {6,0,7,(8)} S5 {8,0,9,(8)}:=by
 unfold hab c4;rw[a0,a1];kernel_rfl
abbrev c5:List Stmt:=[topF 5]
theorem p5(w:World)(os:OsState):hab w os 214 S5 c5 {8,0,9,(8)} S6 {10,0,11,(8)}:=by
 unfold hab c5;rw[a0,a1];kernel_rfl
abbrev c6:List Stmt:=[topF 6]
theorem p6(w:World)(os:OsState):hab w os 214 S6 c6 {10,0,11,(8)} S7 {12,0,13,(8)}:=by
 unfold hab c6;rw[a0,a1];kernel_rfl
abbrev c7:List Stmt:=[topF 7]
theorem p7(w:World)(os:OsState):hab w os 214 S7 c7 {12,0,13,(8)} S8 {14,0,15,(8)}:=by
 unfold hab c7;rw[a0,a1];kernel_rfl
abbrev c8:List Stmt:=[topF 8]
theorem p8(w:World)(os:OsState):hab w os 214 S8 c8 {14,0,15,(8)} S9 {16,0,17,(8)}:=by
 unfold hab c8;rw[a0,a1];kernel_rfl
abbrev c9:List Stmt:=[topF 9,topF 10,topF 11,topF 12,topF 13,topF 14,topF 15,topF 16]
theorem p9(w:World)(os:OsState):hab w os 380 S9 c9 {16,0,17,(8)} S10 {41,0,44,(22)}:=by
 unfold hab c9;rw[a0,a1];kernel_rfl
abbrev V9:List Stmt:=[topF 17,topF 18,topF 19,topF 20,topF 21,topF 22,topF 23,topF 24,topF 25,topF 26,topF 27,topF 28,topF 29,topF 30,topF 31]
theorem p10(w:World)(os:OsState):hab w os 374 S10 V9 {41,0,44,(22)} S11 {104,0,108,(31)}:=by
 unfold hab V9;rw[a0,a1];kernel_rfl
abbrev U9:List Stmt:=[topF 32,topF 33,topF 34,topF 35,topF 36,topF 37,topF 38,topF 39,topF 40,topF 41,topF 42,topF 43,topF 44,topF 45]
theorem p11(w:World)(os:OsState):hab w os 375 S11 U9 {104,0,108,(31)} S12 {160,0,162,(57)}:=by
 unfold hab U9;rw[a0,a1];kernel_rfl
abbrev c12:List Stmt:=[topF 46,topF 47,topF 48,topF 49,topF 50,topF 51,topF 52,topF 53,topF 54,topF 55,topF 56,topF 57,topF 58,topF 59,topF 60,topF 61,topF 62]
theorem p12(w:World)(os:OsState):hab w os 387 S12 c12 {160,0,162,(57)} S13 {232,0,234,(71)}:=by
 unfold hab c12;rw[a0,a1];kernel_rfl
abbrev X4:List Stmt:=[topF 63,topF 64,topF 65,topF 66,topF 67,topF 68,topF 69,topF 70,topF 71,topF 72,topF 73,topF 74,topF 75]
theorem p13(w:World)(os:OsState):hab w os 370 S13 X4 {232,0,234,(71)} S14 {284,0,291,(83)}:=by
 unfold hab X4;rw[a0,a1];kernel_rfl
abbrev c14:List Stmt:=[topF 76,topF 77,topF 78,topF 79,topF 80,topF 81,topF 82,topF 83,topF 84,topF 85,topF 86,topF 87,topF 88,topF 89,topF 90]
theorem p14(w:World)(os:OsState):hab w os 394 S14 c14 {284,0,291,(83)} S15 {383,0,383,(8)}:=by
 unfold hab c14;rw[a0,a1];kernel_rfl
abbrev Xg:List Stmt:=[topF 91,topF 92,topF 93,topF 94,topF 95,topF 96,topF 97,topF 98,topF 99,topF 100,topF 101,topF 102,topF 103,topF 104,topF 105,topF 106]
theorem p15(w:World)(os:OsState):hab w os 389 S15 Xg {383,0,383,(8)} S16 {451,0,455,(30)}:=by
 unfold hab Xg;rw[a0,a1];kernel_rfl
abbrev c16:List Stmt:=[topF 107,topF 108,topF 109,topF 110,topF 111,topF 112,topF 113,topF 114,topF 115,topF 116,topF 117,topF 118,topF 119,topF 120,topF 121,topF 122]
theorem p16(w:World)(os:OsState):hab w os 381 S16 c16 {451,0,455,(30)} S17 {540,0,540,(17)}:=by
 unfold hab c16;rw[a0,a1];kernel_rfl
abbrev Ug:List Stmt:=[topF 123,topF 124,topF 125,topF 126,topF 127,topF 128,topF 129,topF 130,topF 131,topF 132,topF 133,topF 134]
theorem p17(w:World)(os:OsState):hab w os 264 S17 Ug {540,0,540,(17)} S18 {593,0,593,(10)}:=by
 unfold hab Ug;rw[a0,a1];kernel_rfl
abbrev c18:List Stmt:=[topF 135]
theorem p18(w:World)(os:OsState):hab w os 426 S18 c18 {593,0,593,(10)} S19 {594,0,594,(5)}:=by
 revert w;refine @aic "special-get-raises" _ ?_ ?_<;>(intro w;unfold hab c18;rw[a0,a1];kernel_rfl)
abbrev Z7:List Stmt:=[topF 136,topF 137,topF 138,topF 139,topF 140,topF 141,topF 142,topF 143,topF 144,topF 145,topF 146,topF 147,topF 148]
theorem p19(w:World)(os:OsState):hab w os 382 S19 Z7 {594,0,594,(5)} S20 {645,0,646,(43)}:=by
 unfold hab Z7;rw[a0,a1];kernel_rfl
abbrev Uk:List Stmt:=[topF 149,topF 150,topF 151,topF 152,topF 153,topF 154,topF 155,topF 156,topF 157,topF 158,topF 159,topF 160,topF 161]
theorem mQ(w:World)(os:OsState):hab w os 368 S20 Uk {645,0,646,(43)} S21 {683,0,688,(58)}:=by
 unfold hab Uk;rw[a0,a1];kernel_rfl
abbrev c21:List Stmt:=[topF 162,topF 163]
theorem p21(w:World)(os:OsState):hab w os 341 S21 c21 {683,0,688,(58)} S22 {690,0,690,(7)}:=by
 revert w;refine @aic "special-get-raises" _ ?_ ?_<;>(intro w;unfold hab c21;rw[a0,a1];kernel_rfl)
abbrev c22:List Stmt:=[topF 164,topF 165,topF 166,topF 167,topF 168,topF 169]
theorem p22(w:World)(os:OsState):hab w os 375 S22 c22 {690,0,690,(7)} S23 {731,0,733,(76)}:=by
 unfold hab c22;rw[a0,a1];kernel_rfl
abbrev RK:List Stmt:=[topF 170,topF 171,topF 172,topF 173,topF 174,topF 175,topF 176,topF 177,topF 178,topF 179,topF 180,topF 181,topF 182]
theorem p23(w:World)(os:OsState):hab w os 391 S23 RK {731,0,733,(76)} S24 {844,0,869,(39)}:=by
 unfold hab RK;rw[a0,a1];kernel_rfl
abbrev c24:List Stmt:=[topF 183]
theorem p24(w:World)(os:OsState):hab w os 27 S24 c24 {844,0,869,(39)} S25 {870,0,888,(76)}:=by
 unfold hab c24;rw[a0,a1];kernel_rfl
theorem fin(w:World)(os:OsState):topRun treeTable pwL w 11 ann 2 (S25 w os).abs {doneF .next,cE,{870,0,888,(76)},BB}=some (SF w os):=by
 rw[a1,a3];kernel_rfl
theorem body:behindTheImports pwL=c1++(c2++(c3++(c4++(c5++(c6++(c7++(c8++(c9++(V9++(U9++(c12++(X4++(c14++(Xg++(c16++(Ug++(c18++(Z7++(Uk++(c21++(c22++(RK++(c24++([])))))))))))))))))))))))):=by
 kernel_rfl
theorem run(w:World)(os:OsState):topRun treeTable pwL w 11 ann (12+(1+(196+(214+(214+(214+(214+(214+(214+(214+(380+(374+(375+(387+(370+(394+(389+(381+(264+(426+(382+(368+(341+(375+(391+(27+(2))))))))))))))))))))))))))) {boot_heap w.params,{([])},boot_drawn,boot_toks,os} (topStub pwL)=some (SF w os):=
 go_top (pre w os) (piece_block (blk w os) (by rw[body];exact piece_app (segRun_of (p1 w os)) (piece_app (segRun_of (p2 w os)) (piece_app (segRun_of (p3 w os)) (piece_app (segRun_of (p4 w os)) (piece_app (segRun_of (p5 w os)) (piece_app (segRun_of (p6 w os)) (piece_app (segRun_of (p7 w os)) (piece_app (segRun_of (p8 w os)) (piece_app (segRun_of (p9 w os)) (piece_app (segRun_of (p10 w os)) (piece_app (segRun_of (p11 w os)) (piece_app (segRun_of (p12 w os)) (piece_app (segRun_of (p13 w os)) (piece_app (segRun_of (p14 w os)) (piece_app (segRun_of (p15 w os)) (piece_app (segRun_of (p16 w os)) (piece_app (segRun_of (p17 w os)) (piece_app (segRun_of (p18 w os)) (piece_app (segRun_of (p19 w os)) (piece_app (segRun_of (mQ w os)) (piece_app (segRun_of (p21 w os)) (piece_app (segRun_of (p22 w os)) (piece_app (segRun_of (p23 w os)) (piece_app (segRun_of (p24 w os)) (piece_nil (fin w os)))))))))))))))))))))))))))
theorem size(w:World):((boot_heap w.params).isNs mainGlobals&&(Array.mk ([]:List GenState)).size==0,(boot_heap w.params).objs.size,(boot_heap w.params).nsMap mainGlobals "__annotations__")=(true,11,ann):=by
 rw[a13];kernel_rfl
abbrev Xt(s:Shared):Bool:=xlAt q [] s&&recOk [] s
theorem lk1(w:World)(os:OsState):(staticsOk (importedModules pwL.main.body) (boot_heap w.params) (HF w.params)&&namesBound pwL (HF w.params)&&gensDone (SF w os)&&laidKept (boot_heap w.params) (HF w.params))=true:=by
 rw[a11];kernel_rfl
theorem lk2(w:World)(os:OsState):openSeen q LO (importedModules pwL.main.body) Xt true (SF w os)=openGood q LO:=by
 rw[a11,a12];kernel_rfl
theorem lk3(w:World)(os:OsState):afq as (SF w os)=ank K 1059 1689 w:=by
 kernel_rfl
theorem imports:opening pwL=plainProg pwL.main.scope.names:=by kernel_rfl
theorem left:LeftO pwL q LO Xt (afq as) (ank K 1059 1689) 14714:=
 LeftO.of_pieces (boot_open imports (by rfl) (λs=>by kernel_rfl)) size run (by rfl) λw=>funext λos=>looks_pair (lk1 w os) (looks_pair (lk2 w os) (lk3 w os))
end
end H
end K52
namespace L2
open PySem PySem.Spec PyProof.Rows
section
variable {H:Hp}{a b:Addr}{o u:HO}
abbrev Key:=Sum Int Str
def rK:Key->Value->Bool
 |.inl k,v=>Value.isInt k v
 |.inr x,v=>Value.isStrOf x v
def awD(w:World):Key->Int
 |.inl k=>hashInt k
 |.inr x=>hashStr w x
def rW:∀{k:Key} {v:Value},rK k v=true->(∃i t,k=yG i/\v=Value.int i t)∨(∃x t,k=tQ x/\v=Value.str x t)
 |.inl i,v,h=>by
  obtain⟨t,e⟩:=Value.isInt_shape (k:=i) (v:=v) h;exact .inl {i,t,rfl,(e)}
 |.inr x,v,h=>by
  obtain⟨t,e⟩:=Value.isStrOf_shape (x:=x) (v:=v) h;exact .inr {x,t,rfl,(e)}
def aPj(i:Int)(t:Tok):rK (.inl i) (.int i t)=true:=by simp[rK,Value.isInt]
def aeZ(x:Str)(t:Tok):rK (.inr x) (.str x t)=true:=by simp[rK,Value.isStrOf]
def aDD(a b:Int):decide ((yG a:Key)=yG b)=(a==b):=by
 by_cases e:a=b
 .subst e;simp
 .have h:¬(yG a:Key)=yG b:=λq=>e (Sum.inl.inj q);rw[decide_eq_false h];exact(beq_eq_false_iff_ne.mpr e).symm
def aIh(a b:Str):decide ((tQ a:Key)=tQ b)=decide (a=b):=by
 by_cases e:a=b
 .subst e;simp
 .have h:¬(tQ a:Key)=tQ b:=λq=>e (RD q);rw[decide_eq_false h,decide_eq_false e]
def aMt(a:Int)(b:Str):decide ((yG a:Key)=tQ b)=false:=decide_eq_false (λq=>nomatch q)
def aMe(a:Str)(b:Int):decide ((tQ a:Key)=yG b)=false:=decide_eq_false (λq=>nomatch q)
def gq(prog:Program)(w:World):PySem.KeyKind prog w Key where
 is:=rK
 hash:=awD w
 inj:=λv a b ha hb=>by
  rcases rW ha with⟨i,t,rfl,rfl⟩|⟨x,t,rfl,rfl⟩
  .rcases rW hb with⟨j,u,rfl,e⟩|⟨y,u,rfl,e⟩
   .injection e with e1 _;rw[e1]
   .exact nomatch e
  .rcases rW hb with⟨j,u,rfl,e⟩|⟨y,u,rfl,e⟩
   .exact nomatch e
   .injection e with e1 _;rw[e1]
 byValue:=λk v h=>by
  rcases rW h with⟨i,t,rfl,rfl⟩|⟨x,t,rfl,rfl⟩<;>rfl
 pyHash:=λhv h=>by
  rcases rW hv with⟨i,t,rfl,rfl⟩|⟨x,t,rfl,rfl⟩
  .exact wpAny_pyHash_int h
  .exact wpAny_pyHash_str h
 eqBool:=λhu hv h=>by
  rcases rW hu with⟨i,t,rfl,rfl⟩|⟨x,t,rfl,rfl⟩
  .rcases rW hv with⟨j,u,rfl,rfl⟩|⟨y,u,rfl,rfl⟩
   .rw[aDD]at h;exact wpAny_eqBool_int h
   .rw[aMt]at h;exact SeqAt.EqAt.int_str i t y u _ _ _ _ h
  .rcases rW hv with⟨j,u,rfl,rfl⟩|⟨y,u,rfl,rfl⟩
   .rw[aMe]at h;exact SeqAt.EqAt.str_int x t j u _ _ _ _ h
   .rw[aIh]at h;exact wpAny_eqBool_str h
 «strs»:=λk x t v h=>by
  rcases rW h with⟨i,u,rfl,e⟩|⟨y,u,rfl,e⟩
  .exact nomatch e
  .injection e with e1 _;subst e1;cases v<;>rfl
def aDl(prog:Program)(w:World)(i:Int)(t:Tok):(gq prog w).is (.inl i) (.int i t)=true:=aPj i t
def Jt(prog:Program)(w:World)(x:Str)(t:Tok):(gq prog w).is (.inr x) (.str x t)=true:=aeZ x t
inductive V where
 |non|bl (b:Bool)|int (i:Int)|str (x:Str)|mF (b:Array UInt8)|flt (b:UInt64)|ref (a:Addr)|ty (n:String)
 deriving DecidableEq
def RelV:V->Value->Prop
 |.non,u=>u=Value.none
 |.bl b,u=>u=Value.bool b
 |.int i,u=>∃t,u=Value.int i t
 |.str x,u=>∃t,u=Value.str x t
 |.mF b,u=>∃t,u=Value.bytes b t
 |.flt b,u=>∃t,u=Value.float b t
 |.ref a,u=>u=Value.ref a
 |.ty n,u=>u=Value.type n
abbrev Vals:List V->List Value->Prop:=Paired RelV
theorem Vals.length{xs:List V}{us:List Value}(r:Vals xs us):xs.length=us.length:=Paired.length r
theorem Vals.get:∀{xs:List V} {us:List Value} {i:Nat} {x:V},Vals xs us->xs[i]?=some x->∃u,us[i]?=some u/\RelV x u
 |_,_,_,_,.nil,e=>by simp at e
 |_,_,0,_,.cons r _,e=>by simp at e;subst e;exact{(),r}
 |_,_,i+1,x,.cons _ t,e=>by
  obtain⟨u,h1,h2⟩:=Vals.get (i:=i) (x:=x) t (by simpa using e);exact{u,by simpa using h1,h2}
theorem Vals.set{x:V}{u:Value}(r:RelV x u):∀{xs:List V} {us:List Value} (i:Nat),Vals xs us->Vals (xs.set i x) (us.set i u)
 |_,_,_,.nil=> .nil
 |_,_,0,.cons _ t=> .cons r t
 |_,_,i+1,.cons q t=> .cons q (Vals.set r i t)
theorem Vals.append:∀{xs ys:List V} {us ws:List Value},Vals xs us->Vals ys ws->Vals (xs++ys) (us++ws)
 |_,_,_,_,.nil,s=>s
 |_,_,_,_,.cons r t,s=> .cons r (Vals.append t s)
theorem Vals.take:∀{xs:List V} {us:List Value} (n:Nat),Vals xs us->Vals (xs.take n) (us.take n)
 |_,_,0,_=> .nil
 |_,_,_+1,.nil=> .nil
 |_,_,n+1,.cons r t=> .cons r (Vals.take n t)
theorem Vals.drop:∀{xs:List V} {us:List Value} (n:Nat),Vals xs us->Vals (xs.drop n) (us.drop n)
 |_,_,0,r=>r
 |_,_,_+1,.nil=> .nil
 |_,_,n+1,.cons _ t=>Vals.drop n t
def iH:Option V->Option Value->Prop
 |some v,some u=>RelV v u
 |none,none=>True
 |_,_=>False
def KV{κ:Type}:List (κ×V)->List (κ×Value)->Prop:=Paired λ(p:κ×V) (q:κ×Value)=>p.1=q.1/\RelV p.2 q.2
def kV:Key->V
 |.inl i=> .int i
 |.inr x=> .str x
inductive HO where
 /-- z list -/
 |lst (xs:List V)
 /-- z tuple (never changes) -/
 |tup (xs:List V)
 /-- z dict whose keys are ints and texts;one whose keys are tuples of ints and texts (the empty one is both) -/
 |dK (kvs:List (Key×V))|dT (kvs:List (List Key×V))
 /-- z set of ints: its members,its size -/
 |set (S:Int->Bool) (n:Nat)
 /-- an instance of the class at C,its dict at dx,its attributes -/
 |ins (C dx:Addr) (fs:List (Str×V))
 /-- the dict of the instance at x -/
 |own (x:Addr)
 /-- the dict of an exception -/
 |xd (fs:List (Str×V))
 /-- z bound method,f of x -/
 |met (f x:Addr)
 /-- z range object lo,lo+1,.. below hi -/
 |rng (lo hi:Int)
 /-- z thing that is known to the object (the script;z dict while z loop walks it): read,never written while it is so -/
 |cP (o:Obj) (u:HO)
 /-- z code object's table -/
 |nY (ps:Array Value)
 /-- any other thing,by what is true of its one object (z def of aP0 own: aQl z S n:=HO.ext λh=> ..) -/
 |ext (φ:Heap->Prop)
abbrev Hp:=Addr->Option HO
def upd(H:Hp)(a:Addr)(o:HO):Hp:=λb=>if b=a then some o else H b
def aq:upd H a o a=some o:=by unfold upd;rw[if_pos rfl]
def cI(h:b≠a):upd H a o b=H b:=by unfold upd;rw[if_neg h]
def avf:upd (upd H a o) a u=upd H a u:=by
 funext b;unfold upd;split<;>rfl
def mj(h:H a=some o)(h':H b=some u)(d:o≠u):a≠b:=by
 intro e;subst e;rw[h]at h';exact d (m7 h')
def jx(h:H a=some o)(h':H b=none):a≠b:=by
 intro e;subst e;rw[h]at h';cases h'
end
section
variable (P:Program) (w:World)
def cW(H:Hp)(h:Heap)(a:Addr):HO->Prop
 |.lst xs=>xs.length<=sizeLine/\∃(its:List Value) (n:Nat),Vals xs its/\h.get? a=some { cls:= .type "list",data:= .seq its.toArray n }
 |.tup xs=>xs.length<=sizeLine/\∃its:List Value,Vals xs its/\IsTup h a its.toArray
 |.dK kvs=>kvs.length<=sizeLine/\(a==sysModules)=false/\∃vs,KV kvs vs/\h.DictOf (gq P w) a vs
 |.dT kvs=>kvs.length<=sizeLine/\(a==sysModules)=false/\∃xs:List (List Key×Addr×Value),
   Paired (λ(p:List Key×V) (q:List Key×Addr×Value)=>p.1=q.1/\H q.2.1=some (.tup (p.1.map kV))/\RelV p.2 q.2.2) kvs xs/\
   ∃o es ep,h.get? a=some o/\o.ExactDict/\o.data = .dict es ep/\es.toList=xs.map (entryOfKey (tupleKind (gq P w)))/\(xs.map (·.1)).Nodup
 |.set S n=>h.SetOf (intKind P w) a S n
 |.ins C dx fs=>H dx=some (.own a)/\fs.length<=1000/\dx≠a/\h.get? a=some (vK C dx)/\
   ∃mA,h.Ns1 dx mA/\(∀f,iH (fs.lookup f) (mA f))/\acn mA (fs.map (·.1))
 |.own _=>∃o,h.get? a=some o
 |.xd fs=>∃mA,h.Ns1 a mA/\∀f,iH (fs.lookup f) (mA f)
 |.rng lo hi=>∃t u v,h.get? a=some { cls:= .type "range",data:= .fields #[.int lo t,.int hi u,.int 1 v] }
 |.cP o u=>h.get? a=some o/\cW H h a u
 |.nY ps=>h.get? a=some { cls:= .none,data:= .fields ps }
 |.met f x=>h.get? a=some (Wh (.ref f) (.ref x))
 |.ext φ=>φ h/\(∃o,h.get? a=some o)/\∀h1 h2:Heap,φ h1->(∀o,h1.get? a=some o->h2.get? a=some o)->φ h2
def d8(H:Hp)(h:Heap):Prop:=∀a o,H a=some o->cW P w H h a o
end
section
variable {P:Program} {w:World} {H H':Hp} {h h':Heap} {a:Addr} {o:HO}
theorem cW.lt(x:cW P w H h a o):a<h.objs.size:=by
 cases o with
 |lst xs=>intros _ _ _ _ e x;exact cU e
 |tup xs=>intros _ _ _ p x;exact p.lt
 |dK kvs=>intros _ _ _ _ o _ _ e _ x;exact cU e
 |dT kvs=>intros _ _ _ _ o _ _ e _ x;exact cU e
 |set S n=>intros o _ _ _ e _ x;exact cU e
 |ins C dx fs=>intros _ _ _ e _ x;exact cU e
 |own y=>intros _ e x;exact cU e
 |xd fs=>obtain⟨_,⟨_,_,_,e,_⟩,_⟩:=x;exact cU e
 |rng lo hi=>intros _ _ _ e x;exact cU e
 |cP ob u=>intros e _ x;exact cU e
 |nY ps=>exact cU (show h.get? a=some _ from x)
 |met f y=>exact cU (show h.get? a=some _ from x)
 |ext φ=>obtain⟨_,⟨_,e⟩,_⟩:=x;exact cU e
theorem Paired.FQ{α β:Type}{F G:α->β->Prop}:∀{l₁:List α} {l₂:List β},Paired F l₁ l₂->(∀a b,F a b->G a b)->Paired G l₁ l₂
 |_,_,.nil,_=> .nil
 |_,_,.cons r t,f=> .cons (f _ _ r) (Paired.FQ t f)
def cW.stay(x:cW P w H h a o)(k:∀b u,(b=a∨H b=some (.own a))->h.get? b=some u->h'.get? b=some u)
  (ho:∀b,H b=some (.own a)->H' b=some (.own a)) (ht:∀b xs,H b=some (.tup xs)->H' b=some (.tup xs)):cW P w H' h' a o:=by
 induction o with
 |lst xs=>intros z its n r e x;exact{z,its,n,r,k _ _ (.inl rfl) e}
 |tup xs=>intros z its r ob e c x;exact{z,its,r,ob,k _ _ (.inl rfl) e,c}
 |dK kvs=>intros z y vs r ob es ep e c x;exact{z,y,vs,r,ob,es,ep,k _ _ (.inl rfl) e,c}
 |dT kvs=>
  intros z y xs r ob es ep e c x;exact{z,y,xs,Paired.FQ r λp q z=>{z.1,ht _ _ z.2.1,z.2.2},ob,es,ep,k _ _ (.inl rfl) e,c}
 |set S n=>intros ob es ep t e c x;exact{ob,es,ep,t,k _ _ (.inl rfl) e,c}
 |ins C dx fs=>
  obtain⟨d,z,ne,e,mA,⟨od,es,ep,e2,c⟩,r⟩:=x;exact{ho _ d,z,ne,k _ _ (.inl rfl) e,mA,{od,es,ep,k _ _ (.inr d) e2,c},r}
 |own y=>intros ob e x;exact{ob,k _ _ (.inl rfl) e}
 |xd fs=>obtain⟨mA,⟨od,es,ep,e,c⟩,r⟩:=x;exact{mA,{od,es,ep,k _ _ (.inl rfl) e,c},r}
 |rng lo hi=>intros t u v e x;exact{t,u,v,k _ _ (.inl rfl) e}
 |cP ob u ih=>intros e q x;exact{k _ _ (.inl rfl) e,ih q}
 |nY ps=>
  have e:h.get? a=some { cls:= .none,data:= .fields ps }:=x;show h'.get? a=some { cls:= .none,data:= .fields ps };exact k a _ (.inl rfl) e
 |met f y=>
  have e:h.get? a=some (Wh (.ref f) (.ref y)):=x;show h'.get? a=some (Wh (.ref f) (.ref y));exact k a _ (.inl rfl) e
 |ext φ=>obtain⟨p,⟨o,e⟩,st⟩:=x;exact{st _ _ p λo q=>k _ _ (.inl rfl) q,{o,k _ _ (.inl rfl) e},st}
theorem d8.lt(x:d8 P w H h)(e:H a=some o):a<h.objs.size:=(x a o e).lt
def d8.fresh(x:d8 P w H h)(e:h.objs.size<=a):H a=none:=by
 cases q:H a with
 |none=>rfl
 |some u=>exact absurd (gO (x.lt q) e) (pI _)
def d8.kept(x:d8 P w H h)(k:∀b u,h.get? b=some u->h'.get? b=some u):d8 P w H h':=λa o e=>
 (x a o e).stay (λb u _ q=>k b u q) (λ_ q=>q) λ_ _ q=>q
def d8.laid(x:d8 P w H h)(k:∀b u,h.get? b=some u->h'.get? b=some u)(hp:h.objs.size<=a)(new:cW P w (upd H a o) h' a o):d8 P w (upd H a o) h':=λb u e=>by
 have hn:=x.fresh hp;by_cases hb:b=a
 .subst hb;rw[aq]at e;cases e;exact new
 .rw[cI hb]at e;exact(x b u e).stay (λc v _ q=>k c v q) (λc q=>by rw[cI (jx q hn)];exact q) λc xs q=>by rw[cI (jx q hn)];exact q
end
def Rd(H:Hp)(a:Addr)(u:HO):Prop:=H a=some u∨∃o,H a=some (.cP o u)
def Rd.ok{P:Program}{w:World}{H:Hp}{h:Heap}{a:Addr}{u:HO}(r:Rd H a u)(x:d8 P w H h):cW P w H h a u:=by
 rcases r with r|⟨o,r⟩
 .exact x a u r
 .obtain⟨_,q⟩:=x a _ r;exact q
def Hl:Option HO->Prop
 |some (.lst _)=>True
 |some (.dK _)=>True
 |some (.dT _)=>True
 |some (.set _ _)=>True
 |some (.ins _ _ _)=>True
 |some (.ext _)=>True
 |_=>False
section
variable {P:Program} {w:World} {H:Hp} {h h':Heap} {x e:Addr} {o':HO}
def d8.write(ok:d8 P w H h)(mu:Hl (H x))(he:e=x∨H e=some (.own x))(k:∀b u,b≠e->h.get? b=some u->h'.get? b=some u)(heo:∃u,h'.get? e=some u)
  (new:cW P w (upd H x o') h' x o'):d8 P w (upd H x o') h':=λb u q=>by
 have aoI:∀c y,H c=some (.own y)->c≠x:=λc y r z=>by subst z;rw[r]at mu;exact mu
 have aIU:∀c xs,H c=some (.tup xs)->c≠x:=λc xs r z=>by subst z;rw[r]at mu;exact mu
 by_cases hb:b=x
 .subst hb;rw[aq]at q;cases q;exact new
 .rw[cI hb]at q;by_cases hbe:b=e
  .have q':H b=some (.own x):=by
    rcases he with z|z
    .exact absurd (hbe.trans z) hb
    .rw[hbe];exact z
   rw[q]at q';cases q';intros v hv heo;exact{v,by rw[hbe];exact hv}
  .refine(ok b u q).stay (λc v hc r=>k c v ?_ r) (λc r=>by rw[cI (aoI c b r)];exact r) λc xs r=>by rw[cI (aIU c xs r)];exact r
   rcases hc with rfl|hc
   .exact hbe
   .rintro rfl;rcases he with z|z
    .exact aoI c b hc z
    .rw[hc]at z;cases z;exact hb rfl
end
structure Un(fs ex:List Addr)(H H':Hp)(h h':Heap):Prop where
 keep:∀b o,h.get? b=some o->H b=none->b∉fs->b∉ex->h'.get? b=some o
 slot:∀b o,h.get? b=some o->H b=none->b∈fs->b∉ex->∃sl,h'.get? b=some { o with slots:=sl }
 free:∀b o,h.get? b=some o->H b=none->b∉ex->H' b=none
 there:∀b o,h.get? b=some o->b∉ex->∃o',h'.get? b=some o'
 tups:∀b xs,H b=some (.tup xs)->H' b=some (.tup xs)
 gJ:∀b o u,H b=some (.cP o u)->H' b=some (.cP o u)
 iW:∀b ps,H b=some (.nY ps)->∃more,H' b=some (.nY (ps++more))
section
variable {fs fs' ex ex':List Addr} {H H1 H2:Hp} {h h1 h2 h':Heap} {a x e:Addr} {o:HO}
def Un.any(u:Un fs ex H H1 h h1){b:Addr}{ob:Obj}(q:h.get? b=some ob)(n:H b=none)(hx:b∉ex):∃sl,h1.get? b=some { ob with slots:=sl }:=by
 by_cases hb:b∈fs
 .exact u.slot b ob q n hb hx
 .exact{ob.slots,u.keep b ob q n hb hx}
def Un.kept(k:∀b u,h.get? b=some u->h'.get? b=some u):Un fs ex H H h h':=
 {λb ob q _ _ _=>k b ob q,λb ob q _ _ _=>{ob.slots,k b ob q},λ_ _ _ n _=>n,λb ob q _=>{ob,k b ob q},λ_ _ q=>q,λ_ _ _ q=>q,λ_ ps q=>{#[],by rw[q];simp}}
def Un.refl:Un fs ex H H h h:=Un.kept λ_ _ q=>q
def Un.laid(k:∀b u,h.get? b=some u->h'.get? b=some u)(hp:h.objs.size<=a)(hn:H a=none):Un fs ex H (upd H a o) h h' where
 keep:=λb u q _ _ _=>k b u q
 slot:=λb u q _ _ _=>{u.slots,k b u q}
 free:=λb u q n _=>by rw[cI (iG (gO (cU q) hp))];exact n
 there:=λb u q _=>{u,k b u q}
 tups:=λb xs q=>by rw[cI (jx q hn)];exact q
 gJ:=λb u xs q=>by rw[cI (jx q hn)];exact q
 iW:=λb ps q=>{#[],by rw[cI (jx q hn),q];simp}
def Un.write(mu:Hl (H x))(he:e=x∨H e=some (.own x))(k:∀b u,b≠e->h.get? b=some u->h'.get? b=some u)(heo:∃u,h'.get? e=some u):Un fs ex H (upd H x o) h h':=by
 have hx:∀b,H b=none->b≠x:=λb n z=>by subst z;rw[n]at mu;exact mu
 have hb:∀b,H b=none->b≠e:=λb n z=>by
  subst z;rcases he with r|r
  .exact hx b n r
  .rw[n]at r;cases r
 have hm:∀b u,H b=some u->¬Hl (some u)->b≠x:=λb u q nm z=>by subst z;rw[q]at mu;exact nm mu
 refine{λb u q n _ _=>k b u (hb b n) q,λb u q n _ _=>{u.slots,k b u (hb b n) q},λb u q n _=>by rw[cI (hx b n)];exact n,λb u q _=>?_,
  λb xs q=>by rw[cI (hm b _ q λz=>z)];exact q,λb u xs q=>by rw[cI (hm b _ q λz=>z)];exact q,λb ps q=>{#[],by rw[cI (hm b _ q λz=>z),q];simp}}
 by_cases hbe:b=e
 .subst hbe;exact heo
 .exact{u,k b u hbe q}
end
def ML(h:Heap)(H:Hp):List Addr:=(kj h.objs.size).filter λa=>(H a).isSome
def uP(h:Heap)(H:Hp):Heap:=pK h (ML h H)
def ayj(h:Heap)(H:Hp):(uP h H).objs.size=h.objs.size:=W.hideAll_size _ _
def aDx{h:Heap}{H:Hp}{b:Addr}{o:Obj}(e:h.get? b=some o)(n:H b=none):(uP h H).get? b=some o:=
 Zj _ e λhm=>by
  have q:(H b).isSome=true:=(wj.mp hm).2;rw[n]at q;simp at q
def aMS{h:Heap}{H:Hp}{b:Addr}{o:Obj}(e:(uP h H).get? b=some o):h.get? b=some o/\H b=none:=by
 have e':h.get? b=some o:=VZ (ML h H) e;exists e';cases q:H b with
 |none=>rfl
 |some x=>
  have hm:b∈ML h H:=wj.mpr {qd.mpr (cU e'),by simp[q]};have z:(uP h H).get? b=none:=W.hideAll_none (ML h H) hm;rw[z]at e;cases e
structure Mod(K:au)(mg:Str->Option Value)(base:Heap):Prop where
 vI:K.In base
 glob:base.Ns mainGlobals mg
 blt:∃mb,base.Ns builtinsNs mb/\∀x:Str,x≠ "__name__" -> mb x=bootBuiltins x
 nolimit:base.NoLimit
 digits:base.NoDigits
 seer:base.NoSeer
structure Cx where
 prog:Program
 w:World
 K:au
 mg:Str->Option Value
 base:Heap
 A:Around
 N:List Str
 s₀:Shared
 H₀:Hp
 env:Env
 outer:List Env
 stack:List Env
 ex:List Addr
 fn:Str->Bool
 calm:Bool
 pn:List (Addr×Obj)
 xe:Value->Shared->Prop
def frs(l:List Env):List Addr:=l.filterMap (·.frame)
abbrev Cx.fs(X:Cx):List Addr:=frs X.outer
def Nz(sc:Scope)(x:Str):Prop:=sc.names.lookup x=some .local∨sc.names.lookup x=some .cell∨sc.names.lookup x=some .free
def Loc(sc:Scope)(x:Str):Prop:=sc.names.lookup x=some .local∨sc.names.lookup x=some .cell
def Look(env:Env)(h:Heap)(m:Str->Option Value)(x:Str)(u:Value):Prop:=
 (env.kindOf x=some .local/\m x=some u)∨((env.kindOf x=some .cell∨env.kindOf x=some .free)/\∃c,env.cells.lookup x=some c/\h.IsCell c (some u))
structure Cx.Ok(X:Cx):Prop where
 mod:Mod X.K X.mg X.base
 kind:X.env.scope.kind = .function
 glob:X.env.globals=mainGlobals
 blt:X.env.builtins=builtinsNs
 above:X.s₀.heap.objs.size<=X.env.locals
 inj:∀x y c,X.env.cells.lookup x=some c->X.env.cells.lookup y=some c->x=y
 has:∀x,(X.env.kindOf x=some .cell∨X.env.kindOf x=some .free)->∃c,X.env.cells.lookup x=some c
 cab:∀x c,X.fn x=true->X.env.cells.lookup x=some c->X.s₀.heap.objs.size<=c
 hd:X.calm=true->X.A.handled=none
 frames:X.A.frames=some X.stack
 stk:X.stack=X.outer∨(X.stack=X.env::X.outer/\X.env.frame=some X.env.locals)
 exf:∀b∈X.ex,b≠X.env.locals/\∀x c,X.env.cells.lookup x=some c->c≠b
 bs:∀b o,X.base.get? b=some o->X.s₀.heap.get? b=some o/\X.H₀ b=none
 tE:X.base.objs.size<=X.s₀.heap.objs.size
 zQ:∀b o,X.base.get? b=some o->b∉X.ex
 Bg:∀b∈X.ex,b∉X.fs
 n6:X.s₀.heap.FunFrames X.base X.outer
 wC:∀b∈X.fs,X.H₀ b=none
 tree:X.prog.given.tree=none
 top:∃e l,X.stack=e::l/\e.scope.isGenerator=false/\e.scope.isCoroutine=false/\e.builtins=builtinsNs/\e.globals=mainGlobals
structure Inv(X:Cx)(pins:List (Addr×Obj))(σ:List (Option V))(H:Hp)(s:Shared):Prop where
 ok:X.Ok
 os:s.os=X.s₀.os
 bare:AllBare s.gens
 base:Un X.fs X.ex X.H₀ H X.s₀.heap s.heap
 loc:∃m,s.heap.Ns X.env.locals m/\∀(i:Nat) (x:Str) (v:V),X.N[i]?=some x->σ[i]?=some (some v)->Nz X.env.scope x->∃u,RelV v u/\Look X.env s.heap m x u
 cell:∀x c,X.env.cells.lookup x=some c->∃v,s.heap.IsCell c v
 free:H X.env.locals=none
 lY:∀x c,X.env.cells.lookup x=some c->H c=none
 pin:∀p∈X.pn++pins,s.heap.get? p.1=some p.2/\H p.1=none/\p.1≠X.env.locals/\p.1∉X.fs/\∀v,p.2.data≠ .cell v
 hok:d8 X.prog X.w H s.heap
 len:σ.length=X.N.length
section
variable {X:Cx} {pins:List (Addr×Obj)} {σ:List (Option V)} {H H':Hp} {s:Shared} {h':Heap}
section
variable {g':Array GenState}{t' i:Nat}{d':Drawn}{ch:List Addr}{M:Model}{A:Around}{E:Value->Shared->Prop}{x:Str}{v:V}{u:Value}{Q:Unit->Shared->Prop}
def Cx.Ok.aNW(ok:X.Ok){b:Addr}{o:Obj}(e:X.base.get? b=some o):b∉X.fs:=λhb=>by
 have:=(ok.n6.mem hb).1;rw[e]at this;cases this
theorem Inv.bs(I:Inv X pins σ H s):∀b o,X.base.get? b=some o->s.heap.get? b=some o/\H b=none:=λb o e=>
 {I.base.keep b o (I.ok.bs b o e).1 (I.ok.bs b o e).2 (I.ok.aNW e) (I.ok.zQ b o e),I.base.free b o (I.ok.bs b o e).1 (I.ok.bs b o e).2 (I.ok.zQ b o e)}
def Inv.bk(I:Inv X pins σ H s):∀b o,X.base.get? b=some o->s.heap.get? b=some o:=λb o e=>(I.bs b o e).1
theorem Inv.mod(I:Inv X pins σ H s):Mod X.K X.mg X.base:=I.ok.mod
def Inv.dz(I:Inv X pins σ H s):X.K.In s.heap:=I.ok.mod.vI.keeps I.bk
theorem Inv.lt(I:Inv X pins σ H s):X.env.locals<s.heap.objs.size:=let⟨_,hn,_⟩:=I.loc;hn.lt
def Inv.sz(I:Inv X pins σ H s):X.s₀.heap.objs.size<=s.heap.objs.size:=cT I.ok.above (gW I.lt)
def Inv.aFB(I:Inv X pins σ H s){a:Addr}(h:s.heap.objs.size<=a):a∉X.fs:=λhb=>by
 obtain⟨_,o,ho,_⟩:=I.ok.n6.mem hb;exact absurd (gO (cU ho) (cT I.sz h)) (pI _)
def Inv.uf(I:Inv X pins σ H s):∀x c,X.env.cells.lookup x=some c->c≠X.env.locals:=λx c e z=>by
 obtain⟨v,o,ho,hd⟩:=I.cell x c e;obtain⟨m,⟨o',es,ep,ho',hd',_⟩,_⟩:=I.loc;rw[z,ho']at ho;cases ho;rw[hd']at hd;cases hd
theorem Inv.n6(I:Inv X pins σ H s):s.heap.FunFrames X.base X.outer:=by
 have all:∀(l:List Env),(∀b∈frs l,b∈X.fs)->X.s₀.heap.FunFrames X.base l->s.heap.FunFrames X.base l:=by
  intro l;induction l with
  |nil=>intro _ _;trivial
  |cons env r ih=>
   intro hs hl;obtain⟨hk,⟨L,o,hf,hn,ho,hd⟩,hr⟩:=hl;have hL:L∈X.fs:=hs L (by unfold frs;rw[FN,hf];exact fX);obtain⟨sl,e⟩:=I.base.slot L o ho (I.ok.wC L hL) hL λz=>I.ok.Bg L z hL;exact{hk,{L,_,hf,hn,e,hd},ih (λb hb=>hs b (by unfold frs;rw[FN,hf];exact eN _ hb)) hr}
 exact all X.outer (λ_ hb=>hb) I.ok.n6
theorem Inv.stack(I:Inv X pins σ H s):s.heap.FunFrames X.base X.stack:=by
 rcases I.ok.stk with e|⟨e,hf⟩
 .rw[e];exact I.n6
 .rw[e];intros m hn _ I.loc;refine .cons (by rw[I.ok.kind];decide) hf hn ?_ I.n6;exact Heap.get?_none_of_le (cT I.ok.tE I.ok.above)
def Inv.JM(I:Inv X pins σ H s):∀b∈frs X.stack,b∈X.env.locals::X.fs:=λb hb=>by
 rcases I.ok.stk with e|⟨e,hf⟩
 .rw[e]at hb;exact eN _ hb
 .rw[e]at hb;unfold frs at hb;rw[FN,hf]at hb;exact hb
def Inv.YS(I:Inv X pins σ H s):∀b∈frs X.stack,H b=none:=λb hb=>by
 rcases cX.mp (I.JM b hb)with e|hb
 .rw[e];exact I.free
 .obtain⟨_,o,ho,_⟩:=I.ok.n6.mem hb;exact I.base.free b o ho (I.ok.wC b hb) λz=>I.ok.Bg b z hb
def Inv.step(I:Inv X pins σ H s)
  (hch:∀b∈ch,(b∈X.ex∨X.s₀.heap.objs.size<=b)/\b≠X.env.locals/\(∀x c,X.env.cells.lookup x=some c->c≠b)/\∀p∈X.pn++pins,p.1≠b)
  (keep:∀b o,b≠X.env.locals->b∉X.fs->b∉ch->s.heap.get? b=some o->H b=none->h'.get? b=some o)
  (slot:∀b o,b≠X.env.locals->b∈X.fs->b∉ch->s.heap.get? b=some o->H b=none->∃sl,h'.get? b=some { o with slots:=sl }) (free:∀b o,b∉ch->s.heap.get? b=some o->H b=none->H' b=none)
  (there:∀b o,b∉ch->s.heap.get? b=some o->∃o',h'.get? b=some o')
  (tups:∀b xs,H b=some (.tup xs)->H' b=some (.tup xs)) (gJ:∀b o u,H b=some (.cP o u)->H' b=some (.cP o u)) (iW:∀b ps,H b=some (.nY ps)->∃more,H' b=some (.nY (ps++more)))
  (ns:∀m,s.heap.Ns X.env.locals m->h'.Ns X.env.locals m) (hok:d8 X.prog X.w H' h') (hg:AllBare g'):
  Inv X pins σ H' { s with heap:=h',gens:=g',drawn:=d',toks:=t' }:=by
 have neL:∀b o,X.s₀.heap.get? b=some o->b≠X.env.locals:=λb o e=>iG (gO (cU e) I.ok.above);have MS:∀b o,X.s₀.heap.get? b=some o->b∉X.ex->b∉ch:=λb o e hx hb=>by
  rcases(hch b hb).1 with z|z
  .exact hx z
  .exact absurd (gO (cU e) z) (pI _)
 have cellK:∀x c,X.env.cells.lookup x=some c->∀v,s.heap.IsCell c v->h'.IsCell c v:=λx c e v ⟨o,ho,hd⟩=>by
  have Dn:c∉ch:=λz=>(hch c z).2.2.1 x c e rfl;by_cases hc:c∈X.fs
  .obtain⟨sl,q⟩:=slot c o (I.uf x c e) hc Dn ho (I.lY x c e);exact{_,q,hd}
  .exact{o,keep c o (I.uf x c e) hc Dn ho (I.lY x c e),hd}
 refine{I.ok,I.os,hg,{λb o e n hb hx=>?_,λb o e n hb hx=>?_,λb o e n hx=>?_,λb o e hx=>?_,λb xs e=>tups b xs (I.base.tups b xs e),λb o xs e=>gJ b o xs (I.base.gJ b o xs e),λb ps e=>?_},?_,λx c e=>?_,?_,λx c e=>?_,λp hp=>?_,hok,I.len}
 .exact keep b o (neL b o e) hb (MS b o e hx) (I.base.keep b o e n hb hx) (I.base.free b o e n hx)
 .obtain⟨sl,e1⟩:=I.base.slot b o e n hb hx;obtain⟨sl',e2⟩:=slot b _ (neL b o e) hb (MS b o e hx) e1 (I.base.free b o e n hx);exact{sl',(e2)}
 .obtain⟨o',e1⟩:=I.base.there b o e hx;exact free b o' (MS b o e hx) e1 (I.base.free b o e n hx)
 .obtain⟨o',e1⟩:=I.base.there b o e hx;exact there b o' (MS b o e hx) e1
 .obtain⟨m1,e1⟩:=I.base.iW b ps e;obtain⟨m2,e2⟩:=iW b _ e1;exact{m1++m2,by rw[e2,KH]}
 .intros m hn hl I.loc;refine{m,ns m hn,λi x v e1 e2 e3=>?_};obtain⟨u,r,l⟩:=hl i x v e1 e2 e3;exists u,r;rcases l with l|⟨k,c,e,z⟩
  .exact .inl l
  .exact .inr {k,c,e,cellK x c e _ z}
 .obtain⟨v,z⟩:=I.cell x c e;exact{v,cellK x c e v z}
 .obtain⟨m,⟨o,_,_,ho,_⟩,_⟩:=I.loc;exact free _ o (λz=>(hch _ z).2.1 rfl) ho I.free
 .obtain⟨v,o,ho,hd⟩:=I.cell x c e;exact free c o (λz=>(hch c z).2.2.1 x c e rfl) ho (I.lY x c e)
 .obtain⟨e,n,ne,nf,d⟩:=I.pin p hp;have Dn:p.1∉ch:=λz=>(hch p.1 z).2.2.2 p hp rfl;exact{keep p.1 p.2 ne nf Dn e n,free p.1 p.2 Dn e n,ne,nf,d}
def Inv.un(I:Inv X pins σ H s)(u:Un X.fs [] H H' s.heap h')(hok:d8 X.prog X.w H' h'):Inv X pins σ H' { s with heap:=h',toks:=t' }:=by
 obtain⟨m,⟨o,es,ep,ho,r⟩,_⟩:=id I.loc;obtain⟨sl,hL⟩:=u.any ho I.free (by simp);exact I.step (g':=s.gens) (d':=s.drawn) (ch:=[]) (λ_ z=>nomatch z) (λb o _ hb _ e n=>u.keep b o e n hb (by simp)) (λb o _ hb _ e n=>u.slot b o e n hb (by simp)) (λb o _ e n=>u.free b o e n (by simp)) (λb o _ e=>u.there b o e (by simp)) u.tups u.gJ u.iW (λm' hm=>by
  intros o' es' ep' ho' r' hm;rw[ho]at ho';cases ho';exact{_,es',ep',hL,r'}) hok I.bare
def Inv.call(I:Inv X pins σ H s)(u:Un (frs X.stack) ch H H' s.heap h')(hok:d8 X.prog X.w H' h')(hg:AllBare g')
  (hch:∀b∈ch,(b∈X.ex∨X.s₀.heap.objs.size<=b)/\b≠X.env.locals/\(∀x c,X.env.cells.lookup x=some c->c≠b)/\∀p∈X.pn++pins,p.1≠b):
  Inv X pins σ H' { s with heap:=h',gens:=g',drawn:=d',toks:=t' }:=by
 obtain⟨m,⟨o,es,ep,ho,r⟩,_⟩:=id I.loc;obtain⟨sl,hL⟩:=u.any ho I.free λz=>(hch _ z).2.1 rfl;exact I.step (ch:=ch) hch (λb o hL hb hc e n=>u.keep b o e n (λz=>(cX.mp (I.JM b z)).elim hL hb) hc) (λb o _ _ hc e n=>u.any e n hc) (λb o hc e n=>u.free b o e n hc) (λb o hc e=>u.there b o e hc) u.tups u.gJ u.iW (λm' hm=>by
  intros o' es' ep' ho' r' hm;rw[ho]at ho';cases ho';exact{_,es',ep',hL,r'}) hok hg
def Inv.turned{it:Addr}(I:Inv X pins σ H s)(k:∀b o,b≠it->s.heap.get? b=some o->h'.get? b=some o)(hn:H it=none)(hL:it≠X.env.locals)
  (h1:it∈X.ex∨X.s₀.heap.objs.size<=it) (h2:∀x c,X.env.cells.lookup x=some c->c≠it) (h3:∀p∈X.pn++pins,p.1≠it):Inv X pins σ H { s with heap:=h',toks:=t' }:=by
 have nit:∀b u,H b=some u->b≠it:=λb u e z=>by rw[z,hn]at e;cases e
 refine I.step (g':=s.gens) (d':=s.drawn) (ch:=[it]) (λb hb=>?_) (λb o _ _ hc e _=>k b o (λz=>hc (by simp[z])) e) (λb o _ _ hc e _=>{o.slots,k b o (λz=>hc (by simp[z])) e}) (λ_ _ _ _ n=>n)
  (λb o hc e=>{o,k b o (λz=>hc (by simp[z])) e}) (λ_ _ e=>e) (λ_ _ _ e=>e) (λb ps e=>{#[],by rw[e];simp}) (λm hm=>?_) (λb u e=>?_) I.bare
 .have e:b=it:=by simpa using hb
  subst e;exact{h1,hL,h2,(h3)}
 .intros o es ep ho r hm;exact{o,es,ep,k _ o (je hL) ho,r}
 .refine(I.hok b u e).stay (λc v hc q=>k c v ?_ q) (λ_ q=>q) λ_ _ q=>q;rcases hc with z|z
  .rw[z];exact nit b u e
  .exact nit c _ z
def Inv.tok(I:Inv X pins σ H s)(t:Nat):Inv X pins σ H { s with toks:=t }:=I.un (h':=s.heap) (t':=t) Un.refl I.hok
theorem Inv.kept{t':Nat}(I:Inv X pins σ H s)(k:∀b u,s.heap.get? b=some u->h'.get? b=some u):Inv X pins σ H { s with heap:=h',toks:=t' }:=I.un (Un.kept k) (I.hok.kept k)
theorem Inv.laid{a:Addr}{o:HO}{t':Nat}(I:Inv X pins σ H s)(k:∀b u,s.heap.get? b=some u->h'.get? b=some u)(hp:s.heap.objs.size<=a)(new:cW X.prog X.w (upd H a o) h' a o):
  Inv X pins σ (upd H a o) { s with heap:=h',toks:=t' }:=I.un (Un.laid k hp (I.hok.fresh hp)) (I.hok.laid k hp new)
theorem Inv.write{x e:Addr}{o:HO}{t':Nat}(I:Inv X pins σ H s)(mu:Hl (H x))(he:e=x∨H e=some (.own x))(k:∀b u,b≠e->s.heap.get? b=some u->h'.get? b=some u)(heo:∃u,h'.get? e=some u)
  (new:cW X.prog X.w (upd H x o) h' x o):Inv X pins σ (upd H x o) { s with heap:=h',toks:=t' }:=I.un (Un.write mu he k heo) (I.hok.write mu he k heo new)
def Inv.aoV{qZ:List (Addr×Obj)}(I:Inv X pins σ H s)(h:∀p∈qZ,s.heap.get? p.1=some p.2/\H p.1=none/\p.1≠X.env.locals/\p.1∉X.fs/\∀v,p.2.data≠ .cell v):Inv X qZ σ H s:=
 {I.ok,I.os,I.bare,I.base,I.loc,I.cell,I.free,I.lY,λp hp=>(gP.mp hp).elim (λz=>I.pin p (BF _ z)) (h p),I.hok,I.len}
def Tq{N:List Str}(hN:N.Nodup){i j:Nat}{x:Str}(a:N[i]?=some x)(b:N[j]?=some x):i=j:=by
 obtain⟨h1,e1⟩:=List.getElem?_eq_some_iff.mp a;obtain⟨h2,e2⟩:=List.getElem?_eq_some_iff.mp b;exact(List.getElem_inj hN).mp (e1.trans e2.symm)
def aHe(I:Inv X pins σ H s)(hN:X.N.Nodup)(hi:X.N[i]?=some x)(hx:Loc X.env.scope x)(r:RelV v u)
  (h:∀s',Inv X pins (σ.set i (some v)) H s'->(∃a,xY a s.heap s'.heap/\(a=X.env.locals∨X.env.cells.lookup x=some a))->Q () s') (hf:X.fn x=true∨X.env.scope.names.lookup x=some .local:=by first|exact .inl rfl|exact .inr rfl|assumption):wpAny M A (storeName X.env x u) Q E s:=by
 obtain⟨m,hn,hl⟩:=id I.loc;have hcls:(X.env.scope.kind== .class||(X.env.scope.kind== .module&&X.env.locals != X.env.globals))=false:=by rw[I.ok.kind];rfl
 have hiσ:i < σ.length:=by rw[I.len];exact(List.getElem?_eq_some_iff.mp hi).1
 have uf:=I.uf;have tracked:∀{a:Addr} {h':Heap},(∃o,s.heap.get? a=some o/\H a=none)->xY a s.heap h'->d8 X.prog X.w H h':=λ{a h'} ha hs b ob e=>by
  intros _ _ hfree ha;refine(I.hok b ob e).stay (λc w' hc q=>(hs.2 c ?_).trans q) (λ_ q=>q) λ_ _ q=>q;rintro rfl;rcases hc with rfl|hc
  .rw[hfree]at e;cases e
  .rw[hfree]at hc;cases hc
 rcases hx with hk|hk
 .refine wpAny_storeName_local hk hn (λh' hn' hs=>?_) hcls;obtain⟨oL,_,_,hoL,_⟩:=id hn;refine h _ {I.ok,I.os,I.bare,{λb o e n hb hx=>?_,λb o e n hb hx=>?_,I.base.free,λb o e hx=>?_,I.base.tups,I.base.gJ,I.base.iW},{_,hn',λj y v' e1 e2 e3=>?_},λy c e=>?_,I.free,I.lY,λp hp=>?_,tracked {oL,hoL,(I.free)} hs,by simpa using I.len} {_,hs,.inl rfl}
  .exact(hs.2 b (iG (gO (cU e) I.ok.above))).trans (I.base.keep b o e n hb hx)
  .obtain⟨sl,e1⟩:=I.base.slot b o e n hb hx;exact{sl,(hs.2 b (iG (gO (cU e) I.ok.above))).trans e1}
  .obtain⟨o',e1⟩:=I.base.there b o e hx;exact{o',(hs.2 b (iG (gO (cU e) I.ok.above))).trans e1}
  .by_cases hj:j=i
   .subst hj;rw[hi]at e1;cases e1;rw[List.getElem?_set_self hiσ]at e2;cases e2;exact{u,r,.inl {hk,by simp}}
   .rw[List.getElem?_set_ne (je hj)]at e2;obtain⟨u',r',q⟩:=hl j y v' e1 e2 e3;exists u',r';rcases q with⟨k,e⟩|⟨k,c,e,z⟩
    .refine .inl {k,?_};have:y≠x:=λe=>hj (Tq hN e1 (e▸hi));simp[this,e]
    .exact .inr {k,c,e,z.sameBut hs (uf y c e)}
  .obtain⟨w',z⟩:=I.cell y c e;exact{w',z.sameBut hs (uf y c e)}
  .obtain⟨e,n,ne,nf,d⟩:=I.pin p hp;exact{(hs.2 p.1 ne).trans e,n,ne,nf,d}
 .have hfn:X.fn x=true:=by
   rcases hf with z|z
   .exact z
   .rw[z]at hk;cases hk
  obtain⟨c,hc⟩:=I.ok.has x (.inl hk);obtain⟨w',z⟩:=I.cell x c hc;refine wpAny_storeName_cell I.ok.kind hk hc z (λh' hc' hs=>?_);obtain⟨oc,hoc,aNz⟩:=id z;refine h { s with heap:=h' } {I.ok,I.os,I.bare,{λb o e n hb hx=>?_,λb o e n hb hx=>?_,I.base.free,λb o e hx=>?_,I.base.tups,I.base.gJ,I.base.iW},{m,hn.sameBut hs (je (uf x c hc)),λj y v' e1 e2 e3=>?_},λy c' e=>?_,I.free,I.lY,λp hp=>?_,tracked {oc,hoc,I.lY x c hc} hs,by simpa using I.len} {c,hs,.inr hc}
  .exact(hs.2 b (iG (gO (cU e) (I.ok.cab x c hfn hc)))).trans (I.base.keep b o e n hb hx)
  .obtain⟨sl,e1⟩:=I.base.slot b o e n hb hx;exact{sl,(hs.2 b (iG (gO (cU e) (I.ok.cab x c hfn hc)))).trans e1}
  .obtain⟨o',e1⟩:=I.base.there b o e hx;exact{o',(hs.2 b (iG (gO (cU e) (I.ok.cab x c hfn hc)))).trans e1}
  .by_cases hj:j=i
   .subst hj;rw[hi]at e1;cases e1;rw[List.getElem?_set_self hiσ]at e2;cases e2;exact{u,r,.inr {.inl hk,c,hc,hc'}}
   .rw[List.getElem?_set_ne (je hj)]at e2;obtain⟨u',r',q⟩:=hl j y v' e1 e2 e3;exists u',r';rcases q with q|⟨k,c',e,z'⟩
    .exact .inl q
    .refine .inr {k,c',e,z'.sameBut hs ?_};rintro rfl;exact hj (Tq hN e1 (I.ok.inj _ _ _ e hc▸hi))
  .by_cases hcc:c'=c
   .subst hcc;exact{_,hc'}
   .obtain⟨w2,z2⟩:=I.cell y c' e;exact{w2,z2.sameBut hs hcc}
  .obtain⟨e,n,ne,nf,d⟩:=I.pin p hp;refine{(hs.2 p.1 ?_).trans e,n,ne,nf,d};intro q;rw[q,hoc]at e;have q':oc=p.2:=m7 e;exact d w' (by rw[<-q'];exact aNz)
def IY(I:Inv X pins σ H s)(hN:X.N.Nodup)(hi:X.N[i]?=some x)(hx:Loc X.env.scope x)(r:RelV v u)
  (h:∀s',Inv X pins (σ.set i (some v)) H s'->Q () s') (hf:X.fn x=true∨X.env.scope.names.lookup x=some .local:=by first|exact .inl rfl|exact .inr rfl|assumption):wpAny M A (storeName X.env x u) Q E s:=
 aHe I hN hi hx r (λs' I' _=>h s' I') hf
def Inv.aci{s':Shared}(I:Inv X pins σ H s)(ho:s'.os=s.os)(u:Un (frs X.stack) ch H H' s.heap s'.heap)(hok:d8 X.prog X.w H' s'.heap)(hg:AllBare s'.gens)
  (hch:∀b∈ch,(b∈X.ex∨X.s₀.heap.objs.size<=b)/\b≠X.env.locals/\(∀x c,X.env.cells.lookup x=some c->c≠b)/\∀p∈X.pn++pins,p.1≠b):Inv X pins σ H' s':=by
 intros h' g' d' t' o' s';have e:o'=s.os:=ho;subst e;exact I.call (g':=g') (t':=t') (d':=d') u hok hg hch
end
end
abbrev XK:=Value->Option Addr->Hp->Prop
abbrev St:=List (Option V)
abbrev VK:=V->Hp->Prop
abbrev TE:=St->Hp->VK->Prop
abbrev TT:=St->Hp->(Bool->Hp->Prop)->Prop
abbrev TA:=St->Hp->(List V->Hp->Prop)->Prop
structure Ends where
 nx:St->Hp->Prop
 rt:VK
 bk:St->Hp->Prop:=λ_ _=>False
 ct:St->Hp->Prop:=λ_ _=>False
abbrev TS:=Ends->St->Hp->Prop
def EP(X:Cx)(pins:List (Addr×Obj))(σ:St)(Q:VK)(u:Value)(s':Shared):Prop:=∃v H',Inv X pins σ H' s'/\RelV v u/\Q v H'
def TP(X:Cx)(pins:List (Addr×Obj))(σ:St)(Q:Bool->Hp->Prop)(b:Bool)(s':Shared):Prop:=∃H',Inv X pins σ H' s'/\Q b H'
def AP(X:Cx)(pins:List (Addr×Obj))(σ:St)(Q:List V->Hp->Prop)(us:List Value)(s':Shared):Prop:=∃vs H',Inv X pins σ H' s'/\Vals vs us/\Q vs H'
def SP(X:Cx)(pins:List (Addr×Obj))(D:Ends)(f:Flow)(s':Shared):Prop:=
 match f with
 |.next=>∃σ' H',Inv X pins σ' H' s'/\D.nx σ' H'
 |.brk=>∃σ' H',Inv X pins σ' H' s'/\D.bk σ' H'
 |.cont=>∃σ' H',Inv X pins σ' H' s'/\D.ct σ' H'
 |.ret u=>∃v σ' H',Inv X pins σ' H' s'/\RelV v u/\D.rt v H'
def PE(X:Cx)(e:Expr)(t:TE):Prop:=
 ∀(pins:List (Addr×Obj)) (s:Shared) (σ:St) (H:Hp) (Q:VK),Inv X pins σ H s->t σ H Q->wpAny (model X.prog X.w) X.A (eval e X.env) (EP X pins σ Q) X.xe s
def PT(X:Cx)(e:Expr)(t:TT):Prop:=
 ∀(pins:List (Addr×Obj)) (s:Shared) (σ:St) (H:Hp) (Q:Bool->Hp->Prop),Inv X pins σ H s->t σ H Q->wpAny (model X.prog X.w) X.A (isTrue e X.env (eval e X.env)) (TP X pins σ Q) X.xe s
def PW(X:Cx)(e:Expr)(t:TT):Prop:=
 ∀(whole:Sem Value) (pins:List (Addr×Obj)) (s:Shared) (σ:St) (H:Hp) (Q:Bool->Hp->Prop),Inv X pins σ H s->t σ H Q->wpAny (model X.prog X.w) X.A (isTrue e X.env whole) (TP X pins σ Q) X.xe s
def PW.pt{X:Cx}{e:Expr}{t:TT}(h:PW X e t):PT X e t:=h _
def PA(X:Cx)(es:List Expr)(t:TA):Prop:=
 ∀(pos:Pos) (pins:List (Addr×Obj)) (s:Shared) (σ:St) (H:Hp) (Q:List V->Hp->Prop),Inv X pins σ H s->t σ H Q->wpAny (model X.prog X.w) X.A (spliced (backTo pos (starEach es X.env))) (AP X pins σ Q) X.xe s
def PS(X:Cx)(st:Stmt)(t:TS):Prop:=
 ∀(pins:List (Addr×Obj)) (s:Shared) (σ:St) (H:Hp) (D:Ends),Inv X pins σ H s->t D σ H->wpAny (model X.prog X.w) X.A (exec st X.env) (SP X pins D) X.xe s
def iy(X:Cx)(st:List Stmt)(t:TS):Prop:=
 ∀(pins:List (Addr×Obj)) (s:Shared) (σ:St) (H:Hp) (D:Ends),Inv X pins σ H s->t D σ H->wpAny (model X.prog X.w) X.A (execs st X.env) (SP X pins D) X.xe s
def aP{α:Type}{t:Sem α}{Q Q':α->Shared->Prop}{M:Model}{A:Around}{E:Value->Shared->Prop}{s:Shared}(h:wpAny M A t Q E s)(hQ:∀a s,Q a s->Q' a s):wpAny M A t Q' E s:=wpAny_mono h hQ λ_ _ x=>x
section
variable {X:Cx}
section
variable {x:Str}{pos:Pos}{E Q:Value->Shared->Prop}{pins:List (Addr×Obj)}{s:Shared}{σ:St}{H:Hp}{u:Value}{v:V}
inductive aAe(i:Nat)(σ:St)(H:Hp)(Q:VK):Prop|mk (z:V) (h:σ[i]?=some (some z)) (q:Q z H)
def oJ(i:Nat):TE:=λσ H Q=>aAe i σ H Q
def tC(v:V):TE:=λ_ H Q=>Q v H
def aCC{i:Nat}(hN:X.N[i]?=some x)(hv:Nz X.env.scope x)(hd:(x==("__debug__" : Str))=false:=by decide)(hcd:(x==("__classdict__" : Str))=false:=by decide):PE X (.Name x pos) (oJ i):=by
 intro pins s σ H Q I h;intros v e h h;intros m hn hl I.loc;obtain⟨u,r,l⟩:=hl i x v hN e hv;have fin:EP X pins σ Q u s:={v,H,I,r,(h)};rcases l with⟨hk,hm⟩|⟨hk,c,hc,hcell⟩
 .exact wpAny_Name (wpAny_loadName_local I.ok.kind hk hn hm fin) hd
 .rcases hk with hk|hk
  .exact wpAny_Name (wpAny_loadName_cell I.ok.kind hk hc hcell fin) hd
  .exact wpAny_Name (wpAny_loadName_free I.ok.kind hk hc hcell fin hcd) hd
def aN{i j pos}:PE X (.Constant (.int i) j pos) (tC (.int i)):=λ_ _ _ H _ I h=>wpAny_Constant_int {.int i,H,I.tok _,{()},h}
def jy{b j pos}:PE X (.Constant (.bool b) j pos) (tC (.bl b)):=λ_ _ _ H _ I h=>Constant_bool {.bl b,H,I,rfl,h}
def MJ{j pos}:PE X (.Constant .none j pos) (tC .non):=λ_ _ _ H _ I h=>Constant_none {.non,H,I,rfl,h}
def iu{x j pos}:PE X (.Constant (.str x) j pos) (tC (.str x)):=λ_ _ _ H _ I h=>Calls.Constant_str {.str x,H,I.tok _,{()},h}
def Gl(X:Cx)(x:Str):Prop:=X.env.kindOf x=some .globalImplicit
def pB(I:Inv X pins σ H s)(hg:Gl X x)(hm:X.mg x=some u)(h:Q u s)
  (hd:(x==("__debug__" : Str))=false:=by decide):wpAny (model X.prog X.w) X.A (eval (.Name x pos) X.env) Q E s:=
 anu I.ok.kind hg (Calls.loadGlobal_global (by rw[I.ok.glob];exact I.mod.glob.keeps I.bk) hm h) hd
def Al(I:Inv X pins σ H s)(hg:Gl X x)(hm:X.mg x=none)(hv:bootBuiltins x=some u)(h:Q u s)
  (hn:x≠ "__name__" := by decide) (hd:(x==("__debug__" : Str))=false:=by decide):wpAny (model X.prog X.w) X.A (eval (.Name x pos) X.env) Q E s:=by
 intros mb h1 h2 I.mod.blt;exact anu I.ok.kind hg (Calls.loadGlobal_builtin (by rw[I.ok.glob];exact I.mod.glob.keeps I.bk) hm (by rw[I.ok.blt];exact h1.keeps I.bk) ((h2 x hn).trans hv) h) hd
def Ny(hg:Gl X x)(hm:X.mg x=some u)(r:RelV v u)(hd:(x==("__debug__" : Str))=false:=by decide):PE X (.Name x pos) (tC v):=
 λ_ _ _ H _ I h=>pB I hg hm {v,H,I,r,(h)} hd
def auW(hg:Gl X x)(hm:X.mg x=none)(hv:bootBuiltins x=some u)(r:RelV v u)(hn:x≠ "__name__" := by decide)(hd:(x==("__debug__" : Str))=false:=by decide):PE X (.Name x pos) (tC v):=
 λ_ _ _ H _ I h=>Al I hg hm hv {v,H,I,r,(h)} hn hd
end
variable {a b:Expr} {ta tb:TE} {pos:Pos}
def PC(X:Cx)(op:CmpOp)(a b:Expr)(t:TE):Prop:=
 ∀(pins:List (Addr×Obj)) (s:Shared) (σ:St) (H:Hp) (Q:VK),Inv X pins σ H s->t σ H Q->
  wpAny (model X.prog X.w) X.A (eval a X.env) (λv s₁=>wpAny (model X.prog X.w) X.A (eval b X.env) (λu s₂=>wpAny (model X.prog X.w) X.A (compareOp op v u) (EP X pins σ Q) X.xe s₂) X.xe s₁) X.xe s
def tB(t:TE):TT:=λσ H Q=>t σ H λx H1=>∃c,x = .bl c/\Q c H1
def vQ{op:CmpOp}{t:TE}(h:PC X op a b t)(h1:behindInMarks op b=false:=by first|exact aPS _ ∅ ∅ | rfl):PT X (.Compare a [op] [b] pos) (tB t):=by
 intro pins s σ H Q I hw;refine wpAny_isTrue_Compare1 (aP (h pins s σ H _ I hw) λv s1 h1=>aP h1 λu s2 h2=>aP h2 λc s3 ⟨x,H1,I1,r1,q1⟩=>?_) h1;intros d rfl q q1;cases r1;exact wpAny_truthy_bool {H1,I1,(q)}
def gw{e:Expr}{t:TE}(h:PE X e t)(he:∀whole,isTrue e X.env whole=(do let v<-whole;standAt e.pos;holding [v] (truthy v)):=by intro _;rfl):PT X e (tB t):=by
 intro pins s σ H Q I hw;refine isTrue_plain (aP (h pins s σ H _ I hw) λv s1 ⟨x,H1,I1,r1,q1⟩=>?_) (he _);intros d rfl q q1;cases r1;exact wpAny_truthy_bool {H1,I1,(q)}
variable {tA Nq:TT} {rest:List Expr}
def anz(t u:TT):TT:=λσ H Q=>t σ H λc H1=>if c=true then u σ H1 Q else Q false H1
def tOr(t u:TT):TT:=λσ H Q=>t σ H λc H1=>if c=true then Q true H1 else u σ H1 Q
def aGa(t:TT):TT:=λσ H Q=>t σ H λc H1=>Q (!c) H1
def uc(ha:PT X a tA):PW X (.BoolOp .And [a] pos) tA:=by
 intro wh pins s σ H Q I h;refine isTrue_and (aP (ha pins s σ H Q I h) λc s1 e=>?_);cases c with
 |true=>exact isTrue_and_nil e
 |false=>exact e
def oH(ha:PT X a tA):PW X (.BoolOp .Or [a] pos) tA:=by
 intro wh pins s σ H Q I h;refine isTrue_or (aP (ha pins s σ H Q I h) λc s1 e=>?_);cases c with
 |false=>exact isTrue_or_nil e
 |true=>exact e
def rP(ha:PT X a tA)(hb:PW X (.BoolOp .And (b::rest) pos) Nq):PW X (.BoolOp .And (a::b::rest) pos) (anz tA Nq):=by
 intro wh pins s σ H Q I h;refine isTrue_and (aP (ha pins s σ H _ I h) λc s1 ⟨H1,I1,q1⟩=>?_);cases c with
 |true=>exact hb wh pins s1 σ H1 Q I1 q1
 |false=>exact{H1,I1,(q1)}
def jX(ha:PT X a tA)(hb:PW X (.BoolOp .Or (b::rest) pos) Nq):PW X (.BoolOp .Or (a::b::rest) pos) (tOr tA Nq):=by
 intro wh pins s σ H Q I h;refine isTrue_or (aP (ha pins s σ H _ I h) λc s1 ⟨H1,I1,q1⟩=>?_);cases c with
 |true=>exact{H1,I1,(q1)}
 |false=>exact hb wh pins s1 σ H1 Q I1 q1
def gU(ha:PT X a tA):PT X (.UnaryOp .Not a pos) (aGa tA):=by
 intro pins s σ H Q I h;exact isTrue_not (ha pins s σ H (λc H1=>Q (!c) H1) I h)
def aNy(ta tb:TE):TE:=λσ H Q=>ta σ H λx H1=>∃c,x = .bl c/\if c=true then tb σ H1 Q else Q (.bl false) H1
def azG(ta tb:TE):TE:=λσ H Q=>ta σ H λx H1=>∃c,x = .bl c/\if c=true then Q (.bl true) H1 else tb σ H1 Q
def aNC(ta:TE):TE:=λσ H Q=>ta σ H λx H1=>∃c,x = .bl c/\Q (.bl (!c)) H1
def Qf{op}{t:TE}(h:PE X a t):PE X (.BoolOp op [a] pos) t:=λpins s σ H Q I hw=>BoolOp_one (h pins s σ H Q I hw)
def aIR(ha:PE X a ta)(hb:PE X (.BoolOp .And (b::rest) pos) tb):PE X (.BoolOp .And (a::b::rest) pos) (aNy ta tb):=by
 intro pins s σ H Q I h;refine BoolOp_and (aP (ha pins s σ H _ I h) λv s1 ⟨x,H1,I1,r1,q1⟩=>?_);intros c rfl q1 q1;cases r1;refine wpAny_truthy_bool ?_;cases c with
 |true=>exact hb pins s1 σ H1 Q I1 q1
 |false=>exact{.bl false,H1,I1,rfl,q1}
def RT(ha:PE X a ta)(hb:PE X (.BoolOp .Or (b::rest) pos) tb):PE X (.BoolOp .Or (a::b::rest) pos) (azG ta tb):=by
 intro pins s σ H Q I h;refine BoolOp_or (aP (ha pins s σ H _ I h) λv s1 ⟨x,H1,I1,r1,q1⟩=>?_);intros c rfl q1 q1;cases r1;refine wpAny_truthy_bool ?_;cases c with
 |false=>exact hb pins s1 σ H1 Q I1 q1
 |true=>exact{.bl true,H1,I1,rfl,q1}
def afi(ha:PE X a ta):PE X (.UnaryOp .Not a pos) (aNC ta):=by
 intro pins s σ H Q I h;refine UnaryOp_ (aP (ha pins s σ H _ I h) λv s1 ⟨x,H1,I1,r1,q1⟩=>?_);intros c rfl q1 q1;cases r1;exact not_of (wpAny_truthy_bool {.bl (!c),H1,I1,rfl,q1})
def tIf(t:TT)(ta tb:TE):TE:=λσ H Q=>t σ H λc H1=>if c=true then ta σ H1 Q else tb σ H1 Q
def JL{c:Expr}(hc:PT X c tA)(ha:PE X a ta)(hb:PE X b tb):PE X (.IfExp c a b pos) (tIf tA ta tb):=by
 intro pins s σ H Q I h;refine wpAny_IfExp (aP (hc pins s σ H _ I h) λd s1 ⟨H1,I1,q1⟩=>?_);cases d with
 |true=>exact ha pins s1 σ H1 Q I1 q1
 |false=>exact hb pins s1 σ H1 Q I1 q1
end
def ak(K:au)(H:Hp)(a:Addr)(xs:List V):Prop:=
 Rd H a (.lst xs)∨
  ∃(o:Obj) (its:Array Value) (n:Nat),K.lookup a=some o/\o.cls = .type "list" /\ o.dict=none/\o.data = .seq its n/\its.size<=sizeLine/\Vals xs its.toList
def ao(K:au)(H:Hp)(a:Addr)(xs:List V):Prop:=
 Rd H a (.tup xs)∨
  ∃(o:Obj) (its:Array Value) (n:Nat),K.lookup a=some o/\o.cls = .type "tuple" /\ o.data = .seq its n/\its.size<=sizeLine/\Vals xs its.toList
def awH:Value->Option V
 |.none=>some .non
 |.bool b=>some (.bl b)
 |.int i _=>some (.int i)
 |.str x _=>some (.str x)
 |.bytes b _=>some (.mF b)
 |.float b _=>some (.flt b)
 |.ref a=>some (.ref a)
 |.type n=>some (.ty n)
 |_=>none
def RelV.abs{x:V}{u:Value}(r:RelV x u):awH u=some x:=by
 cases x with
 |non=>cases r;rfl
 |bl _=>cases r;rfl
 |int _=>intros t rfl r;rfl
 |str _=>intros t rfl r;rfl
 |mF _=>intros t rfl r;rfl
 |flt _=>intros t rfl r;rfl
 |ref _=>cases r;rfl
 |ty _=>cases r;rfl
theorem RelV.inj{x y:V}{u:Value}(r:RelV x u)(q:RelV y u):x=y:=m7 (r.abs.symm.trans q.abs)
theorem Vals.inj{xs ys:List V}{us:List Value}(h:Vals xs us)(h':Vals ys us):xs=ys:=by
 induction h generalizing ys with
 |nil=>cases h';rfl
 |cons r t ih=>
  cases h' with
  |cons r' t'=>rw[r.inj r',ih t']
section
variable {X:Cx} {pins:List (Addr×Obj)} {σ:St} {H:Hp} {s:Shared} {a:Addr} {xs ys:List V}
def ak.of{K:au}(h:H a=some (.lst xs)):ak K H a xs:= .inl (.inl h)
def ao.of{K:au}(h:H a=some (.tup xs)):ao K H a xs:= .inl (.inl h)
def Inv.list(I:Inv X pins σ H s)(h:ak X.K H a xs):∃its:List Value,Vals xs its/\PlainL s.heap a its.toArray/\xs.length<=sizeLine:=by
 rcases h with h|⟨o,its,n,hk,hc,hd,hs,hz,r⟩
 .obtain⟨z,its,n,r,e⟩:=h.ok I.hok;exact{its,r,{_,n,e,rfl,rfl,rfl},z}
 .refine{its.toList,r,{o,n,I.dz a o hk,hc,hd,by simpa using hs},?_};have e:=r.length;simp only[K1]at e;lia
def Inv.tuple(I:Inv X pins σ H s)(h:ao X.K H a xs):∃its:List Value,Vals xs its/\IsTup s.heap a its.toArray/\xs.length<=sizeLine:=by
 rcases h with h|⟨o,its,n,hk,hc,hs,hz,r⟩
 .obtain⟨z,its,r,p⟩:=h.ok I.hok;exact{its,r,p,(z)}
 .refine{its.toList,r,{o,I.dz a o hk,hc,n,by simpa using hs},?_};have e:=r.length;simp only[K1]at e;lia
def Inv.acE(I:Inv X pins σ H s)(h:ak X.K H a xs)(h':ak X.K H a ys):xs=ys:=by
 obtain⟨its,r,⟨o,n,e,_,_,d⟩,_⟩:=I.list h;obtain⟨its',r',⟨o',n',e',_,_,d'⟩,_⟩:=I.list h';rw[e]at e';cases e';rw[d]at d';injection d' with d1 _;have:its=its':=by simpa using congrArg aew d1
 subst this;exact r.inj r'
def Inv.aO6(I:Inv X pins σ H s)(h:ao X.K H a xs)(h':ao X.K H a ys):xs=ys:=by
 obtain⟨its,r,⟨o,e,_,n,d⟩,_⟩:=I.tuple h;obtain⟨its',r',⟨o',e',_,n',d'⟩,_⟩:=I.tuple h';rw[e]at e';cases e';rw[d]at d';injection d' with d1 _;have:its=its':=by simpa using congrArg aew d1
 subst this;exact r.inj r'
end
abbrev Cx.wish(X:Cx)(E:Value->Shared->Prop):Cx:={ X with xe:=E }
abbrev Cx.pW(X:Cx):Cx:=X.wish λ_ _=>False
theorem Cx.Ok.wish{X:Cx}(ok:X.Ok)(E:Value->Shared->Prop):(X.wish E).Ok:=
 {ok.mod,ok.kind,ok.glob,ok.blt,ok.above,ok.inj,ok.has,ok.cab,ok.hd,ok.frames,ok.stk,ok.exf,ok.bs,ok.tE,ok.zQ,ok.Bg,ok.n6,ok.wC,ok.tree,(ok.top)}
def Cx.Ok.nR{X:Cx}{E:Value->Shared->Prop}(ok:(X.wish E).Ok):X.Ok:=
 {ok.mod,ok.kind,ok.glob,ok.blt,ok.above,ok.inj,ok.has,ok.cab,ok.hd,ok.frames,ok.stk,ok.exf,ok.bs,ok.tE,ok.zQ,ok.Bg,ok.n6,ok.wC,ok.tree,(ok.top)}
section
variable {X:Cx} {pins:List (Addr×Obj)} {σ:St} {H:Hp} {s:Shared} {E:Value->Shared->Prop}
theorem Inv.wish(I:Inv X pins σ H s)(E:Value->Shared->Prop):Inv (X.wish E) pins σ H s:={I.ok.wish E,I.os,I.bare,I.base,I.loc,I.cell,I.free,I.lY,I.pin,I.hok,I.len}
theorem Inv.nR(I:Inv (X.wish E) pins σ H s):Inv X pins σ H s:={I.ok.nR,I.os,I.bare,I.base,I.loc,I.cell,I.free,I.lY,I.pin,I.hok,(I.len)}
theorem SP.nR{D:Ends}{f:Flow}{s':Shared}(h:SP (X.wish E) pins D f s'):SP X pins D f s':=by
 cases f with
 |next=>intros σ' H' I q h;exact{σ',H',I.nR,(q)}
 |brk=>intros σ' H' I q h;exact{σ',H',I.nR,(q)}
 |cont=>intros σ' H' I q h;exact{σ',H',I.nR,(q)}
 |ret u=>intros v σ' H' I r q h;exact{v,σ',H',I.nR,r,(q)}
theorem iy.pW{st:List Stmt}{t:TS}(h:iy X.pW st t):iy X st t:=λpins s σ H D I hw=>
 wpAny_mono (h pins s σ H D (I.wish _) hw) (λ_ _ q=>q.nR) λ_ _ z=>False.elim z
end
section
variable {X:Cx} {st:Stmt} {rest:List Stmt} {t u:TS} {e:Expr} {te:TE} {pos:Pos}
def Ay:TS:=λD σ H=>D.nx σ H
def aIo(t u:TS):TS:=λD σ H=>t { D with nx:=u D } σ H
def bH:iy X [] Ay:=λ_ _ σ H _ I h=>wpAny_execs_nil {σ,H,I,(h)}
def anl(h1:PS X st t)(h2:iy X rest u):iy X (st::rest) (aIo t u):=by
 intro pins s σ H D I h;refine wpAny_execs_cons (aP (h1 pins s σ H { D with nx:=u D } I h) λf s1 q=>?_);cases f with
 |next=>
  intros σ' H' I' q q;exact h2 pins s1 σ' H' D I' q
 |ret v=>exact q
 |brk=>exact q
 |cont=>exact q
def aH(h1:PS X st t):iy X [st] t:=by
 intro pins s σ H D I h;refine wpAny_execs_cons (aP (h1 pins s σ H D I h) λf s1 q=>?_);cases f with
 |next=>exact wpAny_execs_nil q
 |ret v=>exact q
 |brk=>exact q
 |cont=>exact q
def Inv.quiet{pins:List (Addr×Obj)}{σ:St}{H:Hp}{s:Shared}(I:Inv X pins σ H s):interactive X.env=false:=by simp[interactive,I.ok.kind]
def aCp(te:TE):TS:=λD σ H=>te σ H λ_ H1=>D.nx σ H1
def iK(he:PE X e te)(hs:swapsWith e none pos.line X.env=pure false:=by rfl):PS X (.Expr e pos) (aCp te):=by
 intro pins s σ H D I h;exact wpAny_Expr_any (aP (he pins s σ H _ I h) λv s1 ⟨x,H1,I1,r1,q1⟩=>{σ,H1,I1,(q1)}) I.quiet hs
def aKI(te:TE):TS:=λD σ H=>te σ H D.rt
def aD(he:PE X e te):PS X (.Return (some e) pos) (aKI te):=by
 intro pins s σ H D I h;exact wpAny_Return_some (aP (he pins s σ H _ I h) λv s1 ⟨x,H1,I1,r1,q1⟩=>{x,σ,H1,I1,r1,(q1)})
def A8(c:TT)(t u:TS):TS:=λD σ H=>c σ H λb H1=>if b=true then t D σ H1 else u D σ H1
def bB{c:Expr}{a b:List Stmt}{tc:TT}(hc:PT X c tc)(ha:iy X a t)(hb:iy X b u):PS X (.If c a b pos) (A8 tc t u):=by
 intro pins s σ H D I h;refine wpAny_If (aP (hc pins s σ H _ I h) λd s1 ⟨H1,I1,q1⟩=>?_);cases d with
 |true=>exact ha pins s1 σ H1 D I1 q1
 |false=>exact hb pins s1 σ H1 D I1 q1
def axj:TS:=λ_ _ _=>False
def zf:PS X st axj:=λ_ _ _ _ _ _ h=>h.elim
end
abbrev TG:=V->St->Hp->(St->Hp->Prop)->Prop
abbrev sS:=List V->St->Hp->(St->Hp->Prop)->Prop
def PG(X:Cx)(target:Expr)(t:TG):Prop:=
 ∀(pins:List (Addr×Obj)) (s:Shared) (σ:St) (H:Hp) (v:V) (u:Value) (Q:St->Hp->Prop),Inv X pins σ H s->RelV v u->t v σ H Q->
  wpAny (model X.prog X.w) X.A (assign target X.env u) (λ_ s'=>∃σ' H',Inv X pins σ' H' s'/\Q σ' H') X.xe s
def AZ(X:Cx)(ts:List Expr)(t:sS):Prop:=
 ∀(pins:List (Addr×Obj)) (s:Shared) (σ:St) (H:Hp) (vs:List V) (us:List Value) (Q:St->Hp->Prop),Inv X pins σ H s->Vals vs us->t vs σ H Q->
  wpAny (model X.prog X.w) X.A (assignInOrder ((assignEach ts X.env).map (·.2)) us) (λ_ s'=>∃σ' H',Inv X pins σ' H' s'/\Q σ' H') X.xe s
abbrev WR:=V->V->V->Hp->(Hp->Prop)->Prop
def agU(X:Cx)(t:WR):Prop:=
 ∀(pins:List (Addr×Obj)) (s:Shared) (σ:St) (H:Hp) (o i v:V) (ov iv u:Value) (Q:Hp->Prop),Inv X pins σ H s->RelV o ov->RelV i iv->RelV v u->t o i v H Q->
  wpAny (model X.prog X.w) X.A (setItem ov iv u) (λ_ s'=>∃H',Inv X pins σ H' s'/\Q H') X.xe s
section
variable {X:Cx} {pos:Pos}
def gM(i:Nat):TG:=λv σ H Q=>Q (σ.set i (some v)) H
def TJ{i:Nat}{x:Str}(hN:X.N.Nodup)(hi:X.N[i]?=some x)(hx:Loc X.env.scope x)(hf:X.fn x=true∨X.env.scope.names.lookup x=some .local:=by first|exact .inl rfl|exact .inr rfl|assumption):PG X (.Name x pos) (gM i):=by
 intro pins s σ H v u Q I r h;exact wpAny_assign_Name (IY I hN hi hx r (λs' I'=>{_,H,I',h}) hf)
def aln:sS:=λvs σ H Q=>vs=[]/\Q σ H
inductive aFP(t:TG)(u:sS)(vs:List V)(σ:St)(H:Hp)(Q:St->Hp->Prop):Prop|mk (v:V) (r:List V) (h:vs=v::r) (q:t v σ H λσ' H'=>u r σ' H' Q)
def RZ(t:TG)(u:sS):sS:=λvs σ H Q=>aFP t u vs σ H Q
def Uo:AZ X [] aln:=by
 intro pins s σ H vs us Q I r h;intros e h h;subst e;cases r;exact assignInOrder_nil {σ,H,I,(h)}
def yV{e:Expr}{es:List Expr}{t:TG}{u:sS}(h1:PG X e t)(h2:AZ X es u)
  (hs:(assignEach (e::es) X.env).map (·.2)=assign e X.env::(assignEach es X.env).map (·.2):=by rfl):AZ X (e::es) (RZ t u):=by
 intro pins s σ H vs us Q I r h;intros v vr e1 h h;subst e1;cases r with
 |cons r rr=>
  rw[hs];refine assignInOrder_cons (aP (h1 pins s σ H _ _ _ I r h) λ_ s1 ⟨σ1,H1,I1,q1⟩=>?_);exact h2 pins s1 σ1 H1 _ _ Q I1 rr q1
def aq4(K:au)(n:Nat)(t:sS):TG:=λv σ H Q=>∃a xs,v = .ref a/\ao K H a xs/\xs.length=n/\t xs σ H Q
def aCO(to ti:TE)(t:WR):TG:=λv σ H Q=>to σ H λo H1=>ti σ H1 λi H2=>t o i v H2 λH3=>Q σ H3
def HS{o i:Expr}{to ti:TE}{t:WR}(ho:PE X o to)(hi:PE X i ti)(hs:agU X t)
  (ha:∀v,assign (.Subscript o i pos) X.env v=(do
   let ov<-holding [v] (eval o X.env)
   let iv<-holding [v,ov] (eval i X.env)
   standAt pos
   holding [v,ov,iv] (setItem ov iv v)
   release [v,ov,iv] []):=by intro _;rfl):PG X (.Subscript o i pos) (aCO to ti t):=by
 intro pins s σ H v u Q I r h;rw[ha];refine wpAny_bind (wpAny_holding (aP (ho pins s σ H _ I h) λov s1 ⟨x,H1,I1,r1,q1⟩=>?_));refine wpAny_bind (wpAny_holding (aP (hi pins s1 σ H1 _ I1 q1) λiv s2 ⟨y,H2,I2,r2,q2⟩=>?_));refine wpAny_bind (wpAny_standAt (wpAny_bind (wpAny_holding (aP (hs pins s2 σ H2 x y v ov iv u _ I2 r1 r2 r q2) λ_ s3 ⟨H3,I3,q3⟩=>?_))));exact wpAny_release {σ,H3,I3,(q3)}
def yu(te:TE)(g:TG):TS:=λD σ H=>te σ H λx H1=>g x σ H1 D.nx
def yO{tg e:Expr}{te:TE}{g:TG}(he:PE X e te)(hg:PG X tg g)(hs:swapsWithSole [tg] e pos.line X.env=pure false:=by rfl)(hw:swappedStores [tg] e X.env=pure none:=by rfl)
  (h1:(assignEach [tg] X.env).map (·.2)=[assign tg X.env]:=by rfl):PS X (.Assign [tg] e pos) (yu te g):=by
 intro pins s σ H D I h;refine wpAny_Assign_stores (aP (he pins s σ H _ I h) λv s1 ⟨x,H1,I1,r1,q1⟩=>?_) hs hw;rw[h1];exact aP (hg pins s1 σ H1 x v _ I1 r1 q1) λ_ s2 q=>q
def fQ{i:Nat}{x:Str}{e:Expr}{te:TE}{pos':Pos}(hN:X.N.Nodup)(hi:X.N[i]?=some x)(hx:Loc X.env.scope x)(he:PE X e te)(hs:swapsWith e (some (.Name x pos')) pos.line X.env=pure false:=by rfl)(hf:X.fn x=true∨X.env.scope.names.lookup x=some .local:=by first|exact .inl rfl|exact .inr rfl|assumption):
  PS X (.Assign [.Name x pos'] e pos) (yu te (gM i)):=by
 intro pins s σ H D I h;refine wpAny_Assign_Name (aP (he pins s σ H _ I h) λv s1 ⟨y,H1,I1,r1,q1⟩=>?_) hs;exact IY I1 hN hi hx r1 (λs2 I2=>{_,H1,I2,q1}) hf
end
section
variable {X:Cx} {pos:Pos}
def avp(c:TT)(tb:TS):TS:=λD σ H=>∃W:Nat->St->Hp->Prop,(∃m,W m σ H)/\∀m σ H,W m σ H->
 c σ H λb H1=>if b=true then ∃N:St->Hp->Prop,(∀σ' H',N σ' H'->∃m',m'<m/\W m' σ' H')/\tb { D with nx:=N,ct:=N,bk:=D.nx } σ H1 else D.nx σ H1
def yI{c:Expr}{body:List Stmt}{tc:TT}{tb:TS}(hp:PassesOwn (model X.prog X.w) X.A X.env X.xe)(hc:PT X c tc)(hb:iy X body tb):PS X (.While c body [] pos) (avp tc tb):=by
 intro pins s σ H D I h;obtain⟨W,⟨m0,w0⟩,turn⟩:=h;refine wpAny_While (codeAny_whileLoop (λn s'=>∃σ' H',Inv X pins σ' H' s'/\W n σ' H') ?_ m0 {σ,H,I,(w0)});rintro n s1 ⟨σ1,H1,I1,w1⟩;refine wpAny_passesOwn hp (aP (hc pins s1 σ1 H1 _ I1 (turn n σ1 H1 w1)) λb s2 ⟨H2,I2,q2⟩=>?_);cases b with
 |true=>
  intros N hN q2 q2;rw[if_pos rfl];refine wpAny_passesOwn hp (aP (hb pins s2 σ1 H2 _ I2 q2) λf s3 q3=>?_);cases f with
  |next=>
   intros σ3 H3 I3 n3 q3;obtain⟨m',hm,w3⟩:=hN σ3 H3 n3;exact{m',hm,σ3,H3,I3,(w3)}
  |cont=>
   intros σ3 H3 I3 n3 q3;obtain⟨m',hm,w3⟩:=hN σ3 H3 n3;exact{m',hm,σ3,H3,I3,(w3)}
  |brk=>exact q3
  |ret v=>exact q3
 |false=>
  rw[if_neg fO];exact wpAny_execs_nil {σ1,H2,I2,(q2)}
end
section
variable {s:Shared}{tg:Expr}{P:Program}{w:World}{K:au}
structure It where
 go:Nat->Hp->Prop
 mK:Nat->Hp->V->Hp->Prop
 stop:Nat->Hp->Prop
def oG(X:Cx)(pins:List (Addr×Obj))(H:Hp)(b:Addr):Prop:=
 H b=none/\b≠X.env.locals/\b∉X.fs/\(b∈X.ex∨X.s₀.heap.objs.size<=b)/\(∀x c,X.env.cells.lookup x=some c->c≠b)/\∀p∈X.pn++pins,p.1≠b
def Inv.tU{X:Cx}{pins:List (Addr×Obj)}{σ:St}{H H':Hp}{b:Addr}(I:Inv X pins σ H s)(hb:s.heap.objs.size<=b)(hn:H' b=none):oG X pins H' b:=by
 refine{hn,aku (gO I.lt hb),I.aFB hb,.inr (cT I.sz hb),λx c e z=>?_,λp hp z=>?_}
 .obtain⟨v,q⟩:=I.cell x c e;exact absurd (gO q.lt (by rw[z];exact hb)) (pI _)
 .exact absurd (gO (cU (I.pin p hp).1) (by rw[z];exact hb)) (pI _)
structure Turn(P:Program)(w:World)(K:au)(tg:Expr)(J:It)(fp:List Addr)(it:Addr)(tn:Nat->Heap->Prop)(cm:Cx->Prop:=λX=>X.calm=true):Prop where
 mem:it∈fp
 obj:∀i h,tn i h->∀b∈fp,∃o,h.get? b=some o/\∀v,o.data≠ .cell v
 keep:∀i h h',tn i h->(∀b∈fp,∀o,h.get? b=some o->h'.get? b=some o)->tn i h'
 item:∀(X:Cx),X.prog=P->X.w=w->X.K=K->cm X->∀(i:Nat) (pins:List (Addr×Obj)) (s:Shared) (σ:St) (H:Hp) (E:Value->Shared->Prop),Inv X pins σ H s->(∀b∈fp,oG X pins H b)->tn i s.heap->J.go i H->
  wpAny (model P w) X.A (pyNext (.ref it)) (λr s1=>∃u,r=some u/\
   wpAny (model P w) X.A (letOwnedTupleGo tg (.ref it) u) (λ_ s2=>∃x H',Inv X pins σ H' s2/\RelV x u/\J.mK i H x H'/\tn (i+1) s2.heap/\∀b∈fp,H' b=none) E s1) E s
 done:∀(X:Cx),X.prog=P->X.w=w->X.K=K->cm X->∀(i:Nat) (pins:List (Addr×Obj)) (s:Shared) (σ:St) (H:Hp) (E:Value->Shared->Prop),Inv X pins σ H s->(∀b∈fp,oG X pins H b)->tn i s.heap->J.stop i H->
  wpAny (model P w) X.A (pyNext (.ref it)) (λr s1=>r=none/\Inv X pins σ H s1) E s
 self:∀(A:Around) (i:Nat) (s:Shared) (Q:Value->Shared->Prop) (E:Value->Shared->Prop),tn i s.heap->Q (.ref it) s->wpAny (model P w) A (pyIter (.ref it)) Q E s
abbrev TI:=St->Hp->(It->Hp->Prop)->Prop
def agW(cm:Cx->Prop)(X:Cx)(pins:List (Addr×Obj))(σ:St)(tg:Expr)(R:It->Hp->Prop)(itv:Value)(s2:Shared):Prop:=
 ∃(it:Addr) (fp:List Addr) (tn:Nat->Heap->Prop) (J:It) (H':Hp),itv = .ref it/\Inv X pins σ H' s2/\Turn X.prog X.w X.K tg J fp it tn cm/\tn 0 s2.heap/\(∀b∈fp,oG X pins H' b)/\R J H'
abbrev PIE:=agW λX=>X.calm=true
def Eo(cm:Cx->Prop)(X:Cx)(tg iter:Expr)(wi:TI):Prop:=
 ∀(pins:List (Addr×Obj)) (s:Shared) (σ:St) (H:Hp) (R:It->Hp->Prop),Inv X pins σ H s->wi σ H R->
  wpAny (model X.prog X.w) X.A (eval iter X.env) (λv s1=>wpAny (model X.prog X.w) X.A (pyIter v) (agW cm X pins σ tg R) X.xe s1) X.xe s
def PI(X:Cx)(tg iter:Expr)(wi:TI):Prop:=Eo (λX=>X.calm=true) X tg iter wi
def vY{M:Model}{A:Around}{E:Value->Shared->Prop}{it:Addr}{u:Value}{o:Obj}{n:String}{vs:Array Value}{Q:Unit->Shared->Prop}(ho:s.heap.get? it=some o)(hc:o.cls = .type n)(hd:o.data = .fields vs)
  (hn:["enumerate","zip","dict_itemiterator","dict_reverseitemiterator","odict_iterator","itertools.zip_longest","itertools.pairwise"].contains n=false) (hQ:Q () s):wpAny M A (letOwnedTupleGo tg (.ref it) u) Q E s:=by
 unfold letOwnedTupleGo;cases tg<;>first
  |exact wpAny_pure hQ
  |(cases u<;>first
    |exact wpAny_pure hQ
    |(refine wpAny_bind (wpAny_load ho ?_);rw[hc,hd];show wpAny M A (if(["enumerate","zip","dict_itemiterator","dict_reverseitemiterator","odict_iterator","itertools.zip_longest","itertools.pairwise"].contains n&&vs[0]?==some (rawInt _))=true then _ else _) Q E s;rw[if_neg (by intro h;rw[hn,am6]at h;cases h)];exact wpAny_pure hQ))
def uo(K:au)(a:Addr):It:=
 {λi H=>∃xs x,ak K H a xs/\xs[i]?=some x,λi H x H'=>H'=H/\∀xs,ak K H a xs->xs[i]?=some x,λi H=>∃xs,ak K H a xs/\xs.length<=i}
def ED(K:au)(a:Addr):It:=
 {λi H=>∃xs x,ao K H a xs/\xs[i]?=some x,λi H x H'=>H'=H/\∀xs,ao K H a xs->xs[i]?=some x,λi H=>∃xs,ao K H a xs/\xs.length<=i}
def pL(lo:Int)(n:Nat):It:={λi _=>i<n,λi H x H'=>H'=H/\x = .int (lo+i),λi _=>n<=i}
def Ol(a it:Addr):Turn P w K tg (uo K a) [it] it (λi h=>h.IsListIter it a i) where
 mem:=by simp
 obj:=λi h st b hb=>by
  have e:b=it:=by simpa using hb
  subst e;intros o e c d st;exact{o,e,λv z=>by rw[d]at z;cases z}
 keep:=λi h h' st k=>st.at λo e=>k it (by simp) o e
 item:=by
  intro X hP hw hK hc i pins s σ H E I hf st hg;subst hP hw hK;intros xs x hq hx hg;obtain⟨its,rv,p,hz⟩:=I.list hq;obtain⟨u,hu,ru⟩:=rv.get hx;obtain⟨f0,f1,f2,f3,f4,f5⟩:=hf it (by simp);refine wpAny_pyNext_list_item st p.isList (x:=u) (by simpa using hu) λh' st' sb=>?_;have I1:Inv X pins σ H { s with heap:=h' }:=I.turned (t':=s.toks) (λb o hb e=>(sb.2 b hb).trans e) f0 f1 f3 f4 f5;obtain⟨o,e,c,d⟩:=id st';exact{u,rfl,vY (s:={ s with heap:=h' }) e c d ∅ {x,H,I1,ru,{rfl,λys hy=>by rw[I.acE hy hq];exact hx},st',λb hb=>(hf b hb).1}}
 done:=by
  intro X hP hw hK hc i pins s σ H E I hf st hg;subst hP hw hK;intros xs hq hx hg;obtain⟨its,rv,p,hz⟩:=I.list hq;obtain⟨f0,f1,f2,f3,f4,f5⟩:=hf it (by simp);have hl:=rv.length;exact wpAny_pyNext_list_end (I.ok.hd hc) st p.isList (by simp;lia) λh' eb=>{rfl,I.turned (t':=s.toks) (λb o hb e=>eb b o hb e) f0 f1 f3 f4 f5}
 self:=λ_ _ _ _ _ st h=>wpAny_pyIter_listiter st h
def aA8(a it:Addr):Turn P w K tg (ED K a) [it] it (λi h=>h.IsTupleIter it a i) where
 mem:=by simp
 obj:=λi h st b hb=>by
  have e:b=it:=by simpa using hb
  subst e;intros o e c d st;exact{o,e,λv z=>by rw[d]at z;cases z}
 keep:=λi h h' st k=>st.at λo e=>k it (by simp) o e
 item:=by
  intro X hP hw hK hc i pins s σ H E I hf st hg;subst hP hw hK;intros xs x hq hx hg;obtain⟨its,rv,p,hz⟩:=I.tuple hq;obtain⟨u,hu,ru⟩:=rv.get hx;obtain⟨f0,f1,f2,f3,f4,f5⟩:=hf it (by simp);refine wpAny_pyNext_tuple_item st (show s.heap.IsTuple a its.toArray from p) (x:=u) (by simpa using hu) λh' st' sb=>?_;have I1:Inv X pins σ H { s with heap:=h' }:=I.turned (t':=s.toks) (λb o hb e=>(sb.2 b hb).trans e) f0 f1 f3 f4 f5;obtain⟨o,e,c,d⟩:=id st';exact{u,rfl,vY (s:={ s with heap:=h' }) e c d ∅ {x,H,I1,ru,{rfl,λys hy=>by rw[I.aO6 hy hq];exact hx},st',λb hb=>(hf b hb).1}}
 done:=by
  intro X hP hw hK hc i pins s σ H E I hf st hg;subst hP hw hK;intros xs hq hx hg;obtain⟨its,rv,p,hz⟩:=I.tuple hq;obtain⟨f0,f1,f2,f3,f4,f5⟩:=hf it (by simp);have hl:=rv.length;exact wpAny_pyNext_tuple_end (I.ok.hd hc) st (show s.heap.IsTuple a its.toArray from p) (by simp;lia) λh' eb=>{rfl,I.turned (t':=s.toks) (λb o hb e=>eb b o hb e) f0 f1 f3 f4 f5}
 self:=λ_ _ _ _ _ st h=>wpAny_pyIter_tupleiter st h
def aCY(it:Addr)(lo:Int)(n:Nat):Turn P w K tg (pL lo n) [it] it (λi h=>IsRangeIter h it (lo+(i:Nat)*1) ((n:Int)-(i:Nat)) 1) where
 mem:=by simp
 obj:=λi h st b hb=>by
  have e:b=it:=by simpa using hb
  subst e;exact{_,st,λv z=>by
   have z':Data.fields _=Data.cell v:=z;cases z'}
 keep:=λi h h' st k=>k it (by simp) _ st
 item:=by
  intro X hP hw hK hc i pins s σ H E I hf st hg;subst hP hw hK;obtain⟨f0,f1,f2,f3,f4,f5⟩:=hf it (by simp);have W:=Walks.range (prog:=X.prog) (w:=X.w) (I.ok.hd hc) it lo 1 n;refine W.item i s _ _ hg st λv h' tk hv st' kk=>?_;intros t rfl hv;have I1:Inv X pins σ H { s with heap:=h',toks:=tk }:=I.turned (λb o hb e=>kk b o (by simpa using hb) e) f0 f1 f3 f4 f5;refine{(),vY (s:={ s with heap:=h',toks:=tk }) (n:= "range_iterator") st' rfl rfl ∅ {.int (lo+i),H,I1,{t,?_},{rfl,(rfl)},st',λb hb=>(hf b hb).1}};rw[jG]
 done:=by
  intro X hP hw hK hc i pins s σ H E I hf st hg;subst hP hw hK;obtain⟨f0,f1,f2,f3,f4,f5⟩:=hf it (by simp);exact wpAny_pyNext_range_end (I.ok.hd hc) st (by have:n<=i:=hg;lia) λh' eb=>{rfl,I.turned (t':=s.toks) (λb o hb e=>eb b o hb e) f0 f1 f3 f4 f5}
 self:=λ_ _ _ _ _ st h=>wpAny_pyIter_rangeiter st h
end
section
variable {X:Cx} {tg:Expr}
section
variable {pins:List (Addr×Obj)}{σ:St}{H:Hp}{s:Shared}{a:Expr}{ta:TA}{p pos:Pos}{fp:List Addr}{h:Heap}
def aK6(K:au)(tl:TE):TI:=λσ H R=>tl σ H λx H1=>∃a,x = .ref a/\(∃xs,ak K H1 a xs)/\R (uo K a) H1
def alw{R:It->Hp->Prop}{E:Value->Shared->Prop}{lo hi:Int}{t u v:Tok}{tk:Nat}(I:Inv X pins σ H s)(h1:-(2^62)<=lo)(h2:lo<2^62)(h3:-(2^62)<=hi)(h4:hi<2^62)
  (q:R (pL lo (hi-lo).toNat) H):wpAny (model X.prog X.w) X.A (pyIter (.ref s.heap.objs.size)) (PIE X pins σ tg R) E { s with heap:=s.heap.push { cls:= .type "range",data:= .fields #[.int lo t,.int hi u,.int 1 v] },toks:=tk }:=by
 refine wpAny_pyIter_range (IsRange.new ..) (small_one h1 h2 h3 h4) ?_;have I1:Inv X pins σ H { s with heap:=s.heap.push { cls:= .type "range",data:= .fields #[.int lo t,.int hi u,.int 1 v] },toks:=tk }:=I.kept λb o e=>Heap.get?_push_of_some _ e;refine{(s.heap.push { cls:= .type "range",data:= .fields #[.int lo t,.int hi u,.int 1 v] }).objs.size,[(s.heap.push { cls:= .type "range",data:= .fields #[.int lo t,.int hi u,.int 1 v] }).objs.size],_,_,H,rfl,
  I1.kept (t':=tk) λb o e=>Heap.get?_push_of_some _ e,aCY _ lo (hi-lo).toNat,?_,λb hb=>?_,q}
 .have e1:lo+((0:Nat):Int)*1=lo:=by simp
  have e2:(((hi-lo).toNat:Nat):Int)-((0:Nat):Int)=Builtin.Range.rangeSize lo hi 1:=by rw[rangeSize_one];split<;>lia
  show IsRangeIter _ _ (lo+((0:Nat):Int)*1) ((((hi-lo).toNat:Nat):Int)-((0:Nat):Int)) 1;rw[e1,e2];exact Heap.get?_push_size _ rfl
 .have e:b=(s.heap.push { cls:= .type "range",data:= .fields #[.int lo t,.int hi u,.int 1 v] }).objs.size:=by simpa using hb
  subst e;exact I1.tU (bO _) (I1.hok.fresh (bO _))
inductive aJY(vs:List V)(H:Hp)(R:It->Hp->Prop):Prop|mk (j:Int) (h:vs=[.int j]) (h1:-(2^62)<=j) (h2:j<2^62) (q:R (pL 0 j.toNat) H)
def aKD(ta:TA):TI:=λσ H R=>ta σ H λvs H1=>aJY vs H1 R
def aq6(ta:TA):TI:=λσ H R=>ta σ H λvs H1=>∃i j:Int,vs=[.int i,.int j]/\(-(2^62)<=i/\i<2^62/\-(2^62)<=j/\j<2^62)/\R (pL i (j-i).toNat) H1
def gH(hg:Gl X "range")(hm:X.mg "range" = none)(ha:PA X [a] ta)(hs:starEach [a] X.env=[(false,eval a X.env)]:=by rfl):PI X tg (.Call (.Name "range" p) [a] [] pos) (aKD ta):=by
 intro pins s σ H R I h;refine Call_ (Al I hg hm boot_range (NT (aP (ha pos pins s σ H _ I h) λus s1 ⟨vs,H1,I1,r1,q1⟩=>?_) hs rfl));intros j e q1 q2 q q1;subst e;cases r1 with
 |cons r rr=>
  cases rr;intros t rfl r;exact call_range_1 (alw I1 ⋯ ⋯ q1 q2 (by simpa using q))
def Jv{b:Expr}(hg:Gl X "range")(hm:X.mg "range" = none)(ha:PA X [a,b] ta)(hs:starEach [a,b] X.env=[(false,eval a X.env),(false,eval b X.env)]:=by rfl)(hs2:starEach [b] X.env=[(false,eval b X.env)]:=by rfl):
  PI X tg (.Call (.Name "range" p) [a,b] [] pos) (aq6 ta):=by
 intro pins s σ H R I h;refine Call_ (Al I hg hm boot_range (NT (aP (ha pos pins s σ H _ I h) λus s1 ⟨vs,H1,I1,r1,q1⟩=>?_) (by rw[hs,hs2]) (by rw[hs2];rfl)));obtain⟨i,j,e,⟨q1,q2,q3,q4⟩,q⟩:=q1;subst e;cases r1 with
 |cons r rr=>
  cases rr with
  |cons r' rr=>
   cases rr;intros t rfl r;intros t' rfl r';exact call_range_2 (alw I1 q1 q2 q3 q4 q)
def azr(wi:TI)(g:TG)(tb:TS):TS:=λD σ H=>wi σ H λJ H1=>∃W:Nat->Nat->St->Hp->Prop,(∃m,W 0 m σ H1)/\∀i m σ H,W i m σ H->
 (J.stop i H/\D.nx σ H)∨(J.go i H/\∃N:St->Hp->Prop,(∀σ' H',N σ' H'->∃m',m'<m/\W (i+1) m' σ' H')/\∀x H',J.mK i H x H'->g x σ H' λσ2 H2=>tb { D with nx:=N,ct:=N,bk:=D.nx } σ2 H2)
def Eb(fp:List Addr)(h:Heap):List (Addr×Obj):=fp.filterMap λb=>(h.get? b).map λo=>(b,o)
def El{b:Addr}{o:Obj}(hb:b∈fp)(e:h.get? b=some o):(b,o)∈Eb fp h:=aaI.mpr {b,hb,by rw[e];rfl}
def avT{p:Addr×Obj}(hp:p∈Eb fp h):p.1∈fp/\h.get? p.1=some p.2:=by
 obtain⟨b,hb,e⟩:=aaI.mp hp;cases q:h.get? b with
 |none=>rw[q]at e;cases e
 |some o=>
  rw[q]at e;have e':(b,o)=p:=m7 e;subst e';exact{hb,(q)}
def Inv.pinned(I:Inv X pins σ H s)(hf:∀b∈fp,oG X pins H b)(ho:∀b∈fp,∃o,s.heap.get? b=some o/\∀v,o.data≠ .cell v):Inv X (pins++Eb fp s.heap) σ H s:=
 I.aoV λp hp=>(gP.mp hp).elim (λz=>I.pin p (mW _ z)) λz=>by
  obtain⟨hb,e⟩:=avT z;obtain⟨f0,f1,f2,_⟩:=hf p.1 hb;obtain⟨o,e',d⟩:=ho p.1 hb;rw[e]at e';cases e';exact{e,f0,f1,f2,(d)}
def Inv.Ke{pl:List (Addr×Obj)}(I:Inv X (pins++pl) σ H s):Inv X pins σ H s:=I.aoV λp hp=>I.pin p (mW _ (BF _ hp))
def lU{iter:Expr}{body:List Stmt}{wi:TI}{g:TG}{tb:TS}(hp:PassesOwn (model X.prog X.w) X.A X.env X.xe)(hc:X.calm=true)(hi:PI X tg iter wi)(hg:PG X tg g)(hb:iy X body tb)
  (hs:∀x,foldedSetIterable iter X.env x=pure x:=by intro _;rfl):PS X (.For tg iter body [] pos) (azr wi g tb):=by
 intro pins s σ H D I h;refine wpAny_For (aP (hi pins s σ H _ I h) λv s1 h1=>aP h1 λitv s2 h2=>?_) hs;obtain⟨it,fp,tn,J,H2,e,I2,T,st2,f2,W,⟨m0,w0⟩,turn⟩:=h2;subst e;have stat:∀{H':Hp},(∀b∈fp,H' b=none)->∀b∈fp,oG X pins H' b:=λhn b hb=>{hn b hb,(f2 b hb).2};refine codeAny_forLoop_any (λn s'=>∃i σ' H',Inv X pins σ' H' s'/\tn i s'.heap/\(∀b∈fp,H' b=none)/\W i n σ' H') ?_ m0 {0,σ,H2,I2,st2,λb hb=>(f2 b hb).1,w0};rintro n s3 ⟨i,σ3,H3,I3,st3,fr3,w3⟩;rcases turn i n σ3 H3 w3 with⟨stop,qn⟩|⟨go,N,hN,step⟩
 .refine wpAny_passesOwn hp (aP (T.done X rfl rfl rfl hc i pins s3 σ3 H3 X.xe I3 (stat fr3) st3 stop) λr s4 ⟨hr,I4⟩=>?_);subst hr;exact wpAny_execs_nil {σ3,H3,I4,(qn)}
 .refine wpAny_passesOwn hp (aP (T.item X rfl rfl rfl hc i pins s3 σ3 H3 X.xe I3 (stat fr3) st3 go) λr s4 ⟨u,hr,h4⟩=>?_);subst hr;refine wpAny_passesOwn hp (aP h4 λ_ s5 ⟨x,H5,I5,r5,y5,Af,Ov⟩=>?_);have I5':=I5.pinned (stat Ov) (T.obj _ _ Af);refine wpAny_passesOwn hp (aP (hg _ s5 σ3 H5 x u _ I5' r5 (step x H5 y5)) λ_ s6 ⟨σ6,H6,I6,q6⟩=>?_);refine wpAny_passesOwn hp (aP (hb _ s6 σ6 H6 _ I6 q6) λf s7 q7=>?_);have again:∀{σ7:St} {H7:Hp},Inv X (pins++Eb fp s5.heap) σ7 H7 s7->N σ7 H7->∃m,m<n/\∃i σ' H',Inv X pins σ' H' s7/\tn i s7.heap/\(∀b∈fp,H' b=none)/\W i m σ' H':=λ{σ7 H7} I7 n7=>by
   obtain⟨m',hm,w7⟩:=hN σ7 H7 n7;refine{m',hm,i+1,σ7,H7,I7.Ke,T.keep _ _ _ Af λb hb o e=>(I7.pin (b,o) (mW _ (mW _ (El hb e)))).1,λb hb=>?_,w7};obtain⟨o,e,d⟩:=T.obj _ _ Af b hb;exact(I7.pin (b,o) (mW _ (mW _ (El hb e)))).2.1
  cases f with
  |next=>intros σ7 H7 I7 n7 q7;exact again I7 n7
  |cont=>intros σ7 H7 I7 n7 q7;exact again I7 n7
  |brk=>intros σ7 H7 I7 q7 q7;exact{σ7,H7,I7.Ke,(q7)}
  |ret v=>intros x7 σ7 H7 I7 r7 q7 q7;exact{x7,σ7,H7,I7.Ke,r7,(q7)}
end
end
def pX{lo:Int}{n:Nat}{g:TG}{tb:TS}{D:Ends}{σ:St}{H:Hp}(Pv:Nat->St->Hp->Prop)(h0:Pv 0 σ H)
  (hs:∀i σ H,i<n->Pv i σ H->g (.int (lo+i)) σ H λσ2 H2=>tb { D with nx:=Pv (i+1),ct:=Pv (i+1),bk:=D.nx } σ2 H2) (hd:∀σ H,Pv n σ H->D.nx σ H):
  ∃W:Nat->Nat->St->Hp->Prop,(∃m,W 0 m σ H)/\∀i m σ H,W i m σ H->
   ((pL lo n).stop i H/\D.nx σ H)∨((pL lo n).go i H/\∃N:St->Hp->Prop,(∀σ' H',N σ' H'->∃m',m'<m/\W (i+1) m' σ' H')/\∀x H',(pL lo n).mK i H x H'->g x σ H' λσ2 H2=>tb { D with nx:=N,ct:=N,bk:=D.nx } σ2 H2):=by
 refine{λi m σ H=>m=n-i/\i<=n/\Pv i σ H,{n,by simp,dW _,h0},?_};rintro i m σ H ⟨rfl,hi,p⟩;by_cases hlt:i<n
 .refine .inr {hlt,Pv (i+1),λσ' H' p'=>{n-(i+1),⋯,rfl,hlt,p'},λx H' y=>?_};intros e y y;subst e y;exact hs i σ _ hlt p
 .have e:i=n:=⋯;subst e;exact .inl {bO _,hd σ H p}
abbrev R2:=V->V->Hp->VK->Prop
def cG(X:Cx)(f:Value->Value->Sem Value)(r:R2):Prop:=
 ∀(pins:List (Addr×Obj)) (s:Shared) (σ:St) (H:Hp) (x y:V) (v u:Value) (Q:VK),Inv X pins σ H s->RelV x v->RelV y u->r x y H Q->
  wpAny (model X.prog X.w) X.A (f v u) (EP X pins σ Q) X.xe s
def SX(X:Cx)(f:Value->Sem Value)(r:V->Hp->VK->Prop):Prop:=
 ∀(pins:List (Addr×Obj)) (s:Shared) (σ:St) (H:Hp) (x:V) (v:Value) (Q:VK),Inv X pins σ H s->RelV x v->r x H Q->
  wpAny (model X.prog X.w) X.A (f v) (EP X pins σ Q) X.xe s
def iM(X:Cx)(f:Value)(r:List V->Hp->VK->Prop):Prop:=
 ∀(pins:List (Addr×Obj)) (s:Shared) (σ:St) (H:Hp) (xs:List V) (us:List Value) (Q:VK),Inv X pins σ H s->Vals xs us->r xs H Q->
  wpAny (model X.prog X.w) X.A (call f us) (EP X pins σ Q) X.xe s
def mZ(r:R2)(ta tb:TE):TE:=λσ H Q=>ta σ H λx H1=>tb σ H1 λy H2=>r x y H2 Q
def tUn(r:V->Hp->VK->Prop)(ta:TE):TE:=λσ H Q=>ta σ H λx H1=>r x H1 Q
inductive SII(C:Int->Int->Prop)(g:Int->Int->V)(x y:V)(H:Hp)(Q:VK):Prop|mk (i j:Int) (hx:x = .int i) (hy:y = .int j) (c:C i j) (q:Q (g i j) H)
def rI(C:Int->Int->Prop)(g:Int->Int->V):R2:=λx y H Q=>SII C g x y H Q
inductive SI0(g:Int->Int->V)(x y:V)(H:Hp)(Q:VK):Prop|mk (i j:Int) (hx:x = .int i) (hy:y = .int j) (q:Q (g i j) H)
def vN(g:Int->Int->V):R2:=λx y H Q=>SI0 g x y H Q
inductive SU(g:Int->V)(x:V)(H:Hp)(Q:VK):Prop|mk (i:Int) (hx:x = .int i) (q:Q (g i) H)
def rU(g:Int->V):V->Hp->VK->Prop:=λx H Q=>SU g x H Q
section
variable {X:Cx} {a b c:Expr} {ta tb tc:TE} {pos:Pos}
section
variable {f:Value->Value->Sem Value}{g:Int->Int->Int}
def aaf(ha:PE X a ta)(hb:PE X b tb){pins:List (Addr×Obj)}{s:Shared}{σ:St}{H:Hp}{R:V->V->Hp->Prop}(I:Inv X pins σ H s)
  (h:ta σ H λx H1=>tb σ H1 λy H2=>R x y H2) {Q:Value->Shared->Prop} {f:Value->Value->Sem Value}
  (hf:∀v u s2 x y H2,Inv X pins σ H2 s2->RelV x v->RelV y u->R x y H2->wpAny (model X.prog X.w) X.A (f v u) Q X.xe s2):
  wpAny (model X.prog X.w) X.A (eval a X.env) (λv s₁=>wpAny (model X.prog X.w) X.A (eval b X.env) (λu s₂=>wpAny (model X.prog X.w) X.A (f v u) Q X.xe s₂) X.xe s₁) X.xe s:=by
 refine aP (ha pins s σ H _ I h) λv s1 ⟨x,H1,I1,r1,q1⟩=>?_;refine aP (hb pins s1 σ H1 _ I1 q1) λu s2 ⟨y,H2,I2,r2,q2⟩=>?_;exact hf v u s2 x y H2 I2 r1 r2 q2
def jB{op:Operator}{r:R2}(ho:cG X (binaryOp op) r)(ha:PE X a ta)(hb:PE X b tb):PE X (.BinOp a op b pos) (mZ r ta tb):=by
 intro pins s σ H Q I h;exact wpAny_BinOp (aaf ha hb I h λv u s2 x y H2 I2 rx ry q=>ho pins s2 σ H2 x y v u Q I2 rx ry q)
def GF{op:UnaryOp}{r:V->Hp->VK->Prop}(ho:SX X (unaryOp op) r)(ha:PE X a ta):PE X (.UnaryOp op a pos) (tUn r ta):=by
 intro pins s σ H Q I h;exact UnaryOp_ (aP (ha pins s σ H _ I h) λv s1 ⟨x,H1,I1,r1,q1⟩=>ho pins s1 σ H1 x v Q I1 r1 q1)
def Ao{C:Int->Int->Prop}
  (rule:∀(i j:Int) (t u:Tok) (s:Shared) (Q:Value->Shared->Prop) (E:Value->Shared->Prop),C i j->Q (.int (g i j) s.toks) { s with toks:=s.toks+1 }->wpAny (model X.prog X.w) X.A (f (.int i t) (.int j u)) Q E s):
  cG X f (rI C λi j=> .int (g i j)):=by
 intro pins s σ H x y v u Q I rx ry h;intros i j rfl rfl hc q h;intros t rfl rx;intros t' rfl ry;exact rule i j t t' s _ _ hc {.int (g i j),H,I.tok _,{()},q}
def agC
  (rule:∀(i j:Int) (t u:Tok) (s:Shared) (Q:Value->Shared->Prop) (E:Value->Shared->Prop),Q (.int (g i j) s.toks) { s with toks:=s.toks+1 }->wpAny (model X.prog X.w) X.A (f (.int i t) (.int j u)) Q E s):
  cG X f (vN λi j=> .int (g i j)):=by
 intro pins s σ H x y v u Q I rx ry h;intros i j rfl rfl q h;intros t rfl rx;intros t' rfl ry;exact rule i j t t' s _ _ {.int (g i j),H,I.tok _,{()},q}
def MZ{g:Int->Int->Bool}
  (rule:∀(i j:Int) (t u:Tok) (s:Shared) (Q:Value->Shared->Prop) (E:Value->Shared->Prop),Q (.bool (g i j)) s->wpAny (model X.prog X.w) X.A (f (.int i t) (.int j u)) Q E s):
  cG X f (vN λi j=> .bl (g i j)):=by
 intro pins s σ H x y v u Q I rx ry h;intros i j rfl rfl q h;intros t rfl rx;intros t' rfl ry;exact rule i j t t' s _ _ {.bl (g i j),H,I,rfl,q}
def aAn(i j:Int):Prop:=0<j/\j<1073741824
def aKl(i j:Int):Prop:=0<=j/\j<=1000000/\i.natAbs<2^64
def arZ(k:Nat):(0:Int)<=2^k:=by
 rw[two_pow_cast];exact Int.natCast_nonneg _
def aD6:cG X (binaryOp .Add) (vN λi j=> .int (i+j)):=agC λ_ _ _ _ _ _ _ q=>add_int q
def aK7:cG X (binaryOp .Sub) (vN λi j=> .int (i-j)):=agC λ_ _ _ _ _ _ _ q=>sub_int q
def aCD:cG X (binaryOp .FloorDiv) (rI aAn λi j=> .int (i/j)):=Ao λi j _ _ _ _ _ hc q=>by
 have h1:(0:Int)<j:=hc.1;have h2:j<1073741824:=hc.2;exact floordiv_int ⋯ (by rw[acI i ⋯];exact q) (.inl (anD ⋯))
def aOa:cG X (binaryOp .Mod) (rI (λ_ j=>0<j) λi j=> .int (i%j)):=Ao λi j _ _ _ _ _ hc q=>by
 have h1:(0:Int)<j:=hc;exact mod_int' ⋯ (by rw[Int.fmod_eq_emod_of_nonneg i ⋯];exact q)
def zu:cG X (binaryOp .Pow) (rI aKl λi j=> .int (i^j.toNat)):=Ao λ_ _ _ _ _ _ _ hc q=>pow_int_small hc.1 hc.2.1 hc.2.2 q
def azX:cG X (binaryOp .RShift) (rI (λ_ j=>0<=j) λi j=> .int (i/2^j.toNat)):=Ao λi j _ _ _ _ _ hc q=>
 rshift_int hc (by rw[acI i (arZ _)];exact q)
def unI{f:Value->Sem Value}{g:Int->Int}
  (rule:∀(i:Int) (t:Tok) (s:Shared) (Q:Value->Shared->Prop) (E:Value->Shared->Prop),Q (.int (g i) s.toks) { s with toks:=s.toks+1 }->wpAny (model X.prog X.w) X.A (f (.int i t)) Q E s):
  SX X f (rU λi=> .int (g i)):=by
 intro pins s σ H x v Q I rx h;intros i rfl q h;intros t rfl rx;exact rule i t s _ _ {.int (g i),H,I.tok _,{()},q}
def Hj:SX X (unaryOp .USub) (rU λi=> .int (-i)):=unI λ_ _ _ _ _ q=>neg_int q
end
end
def Yk:V->V->Bool
 |.non,.non=>true | .non,.int _=>true | .int _,.non=>true | .non,.bl _=>true | .bl _,.non=>true | .non,.str _=>true | .str _,.non=>true
 |.int _,.int _=>true | .bl _,.bl _=>true | .str _,.str _=>true | .mF _,.mF _=>true
 |.int _,.str _=>true | .str _,.int _=>true | .bl _,.str _=>true | .str _,.bl _=>true
 |_,_=>false
def rEq:R2:=λx y H Q=>Yk x y=true/\Q (.bl (decide (x=y))) H
def rNe:R2:=λx y H Q=>Yk x y=true/\Q (.bl (!decide (x=y))) H
def ahM{i j:Int}:decide (V.int i=V.int j)=(i==j):=by
 rw[E1];simp
def am4{i j:Bool}:decide (V.bl i=V.bl j)=(i==j):=by
 rw[E1];simp
def aqc{i j:Str}:decide (V.str i=V.str j)=(i==j):=by
 rw[E1];simp
def ajL{i j:Array UInt8}:decide (V.mF i=V.mF j)=(i.toList==j.toList):=by
 rw[E1];cases i;cases j;simp
section
variable {X:Cx} {a b c:Expr} {ta tb tc:TE} {pos:Pos}
section
variable {r r':R2}{op op':CmpOp}{x:V}{us:List Value}
def fu{pins:List (Addr×Obj)}{σ:St}{H:Hp}{s:Shared}{Q:VK}{k k':Bool}(I:Inv X pins σ H s)(q:Q (.bl k) H)(e:k=k'):EP X pins σ Q (.bool k') s:=by
 subst e;exact{.bl k,H,I,rfl,q}
def aJo:cG X (compareOp .Eq) rEq:=by
 intro pins s σ H x y v u Q I rx ry h;intros hs q h;cases x with
 |non=>
  cases rx;cases y with
  |non=>cases ry;exact aND (fu I q (by simp))
  |bl j=>cases ry;exact aHQ (fu I q (by simp))
  |int j=>intros t' rfl ry;exact aMF (fu I q (by simp))
  |str j=>intros t' rfl ry;exact aNY (fu I q (by simp))
  |_=>exact absurd (show false=true from hs) fO
 |bl i=>
  cases rx;cases y with
  |non=>cases ry;exact aG4 (fu I q (by simp))
  |bl j=>cases ry;exact eq_bool (fu I q am4)
  |str j=>intros t' rfl ry;exact avu (fu I q (by simp))
  |_=>exact absurd (show false=true from hs) fO
 |int i=>
  intros t rfl rx;cases y with
  |non=>cases ry;exact arx (fu I q (by simp))
  |int j=>intros t' rfl ry;exact eq_int (fu I q ahM)
  |str j=>intros t' rfl ry;exact aFf (fu I q (by simp))
  |_=>exact absurd (show false=true from hs) fO
 |str i=>
  intros t rfl rx;cases y with
  |non=>cases ry;exact auf (fu I q (by simp))
  |bl j=>cases ry;exact aOU (fu I q (by simp))
  |int j=>intros t' rfl ry;exact aLs (fu I q (by simp))
  |str j=>intros t' rfl ry;exact eq_str (fu I q aqc)
  |_=>exact absurd (show false=true from hs) fO
 |mF i=>
  intros t rfl rx;cases y with
  |mF j=>intros t' rfl ry;exact W.eq_bytes (fu I q ajL)
  |_=>exact absurd (show false=true from hs) fO
 |_=>cases y<;>exact absurd (show false=true from hs) fO
def aoD:cG X (compareOp .NotEq) rNe:=by
 intro pins s σ H x y v u Q I rx ry h;intros hs q h;cases x with
 |non=>
  cases rx;cases y with
  |non=>cases ry;exact asR (fu I q (by simp))
  |bl j=>cases ry;exact azS (fu I q (by simp))
  |int j=>intros t' rfl ry;exact awG (fu I q (by simp))
  |str j=>intros t' rfl ry;exact aIt (fu I q (by simp))
  |_=>exact absurd (show false=true from hs) fO
 |bl i=>
  cases rx;cases y with
  |non=>cases ry;exact aIb (fu I q (by simp))
  |bl j=>cases ry;exact ne_bool (fu I q (congrArg not am4))
  |str j=>intros t' rfl ry;exact aAa (fu I q (by simp))
  |_=>exact absurd (show false=true from hs) fO
 |int i=>
  intros t rfl rx;cases y with
  |non=>cases ry;exact awT (fu I q (by simp))
  |int j=>intros t' rfl ry;exact ne_int (fu I q (congrArg not ahM))
  |str j=>intros t' rfl ry;exact aCk (fu I q (by simp))
  |_=>exact absurd (show false=true from hs) fO
 |str i=>
  intros t rfl rx;cases y with
  |non=>cases ry;exact auG (fu I q (by simp))
  |bl j=>cases ry;exact aut (fu I q (by simp))
  |int j=>intros t' rfl ry;exact aKU (fu I q (by simp))
  |str j=>intros t' rfl ry;exact ne_str (fu I q (congrArg not aqc))
  |_=>exact absurd (show false=true from hs) fO
 |mF i=>
  intros t rfl rx;cases y with
  |mF j=>intros t' rfl ry;exact W.ne_bytes (fu I q (congrArg not ajL))
  |_=>exact absurd (show false=true from hs) fO
 |_=>cases y<;>exact absurd (show false=true from hs) fO
def Qc:cG X (compareOp .Lt) (vN λi j=> .bl (decide (i<j))):=MZ λ_ _ _ _ _ _ _ q=>lt_int q
def anP:cG X (compareOp .LtE) (vN λi j=> .bl (decide (i<=j))):=MZ λ_ _ _ _ _ _ _ q=>le_int q
def al8:cG X (compareOp .Gt) (vN λi j=> .bl (decide (j<i))):=MZ λ_ _ _ _ _ _ _ q=>gt_int q
def aJT:cG X (compareOp .GtE) (vN λi j=> .bl (decide (j<=i))):=MZ λ_ _ _ _ _ _ _ q=>ge_int q
def aiX:cG X (compareOp .In) (λx y H Q=>∃i j,x = .str i/\y = .str j/\Q (.bl (!(Builtin.Str.occurrences j i 0 j.length 1).isEmpty)) H):=by
 intro pins s σ H x y v u Q I rx ry h;intros i j rfl rfl q h;intros t rfl rx;intros t' rfl ry;exact in_str (fu I q rfl)
def cG.or{f:Value->Value->Sem Value}(h:cG X f r)(h':cG X f r'):cG X f (λx y H Q=>r x y H Q∨r' x y H Q):=by
 intro pins s σ H x y v u Q I rx ry q;rcases q with q|q
 .exact h pins s σ H x y v u Q I rx ry q
 .exact h' pins s σ H x y v u Q I rx ry q
def kE(b:Expr){op:CmpOp}(h:op≠ .In:=by decide)(h2:op≠ .NotIn:=by decide):behindInMarks op b=false:=by
 have e1:(op==CmpOp.In)=false:=by cases op<;>first|rfl|exact absurd rfl h
 have e2:(op==CmpOp.NotIn)=false:=by cases op<;>first|rfl|exact absurd rfl h2
 cases b<;>simp[behindInMarks,e1,e2]
def jM(ho:cG X (compareOp op) r)(ha:PE X a ta)(hb:PE X b tb)(hm:behindInMarks op b=false):PE X (.Compare a [op] [b] pos) (mZ r ta tb):=by
 intro pins s σ H Q I h;exact wpAny_Compare1 (aaf ha hb I h λv u s2 x y H2 I2 rx ry q=>ho pins s2 σ H2 x y v u Q I2 rx ry q) hm
inductive aFF(x:V)(H:Hp)(Q:Bool->Hp->Prop):Prop|mk (k:Bool) (hx:x = .bl k) (q:Q k H)
def wU(t:TE):TT:=λσ H Q=>t σ H λx H'=>aFF x H' Q
def LK(ho:cG X (compareOp op) r)(ha:PE X a ta)(hb:PE X b tb)(hm:behindInMarks op b=false):PT X (.Compare a [op] [b] pos) (wU (mZ r ta tb)):=by
 intro pins s σ H Q I h;refine wpAny_isTrue_Compare1 (aP (ha pins s σ H _ I h) λv s1 ⟨x,H1,I1,r1,q1⟩=>aP (hb pins s1 σ H1 _ I1 q1) λu s2 ⟨y,H2,I2,r2,q2⟩=>
  aP (ho pins s2 σ H2 x y v u _ I2 r1 r2 q2) λc s3 ⟨z,H3,I3,r3,k,e,q3⟩=>?_) hm
 subst e;cases r3;exact wpAny_truthy_bool {H3,I3,(q3)}
def aqx(r r':R2)(ta tb tc:TE):TE:=λσ H Q=>ta σ H λx H1=>tb σ H1 λy H2=>r x y H2 λz H3=>∃k,z = .bl k/\
 (if k=true then tc σ H3 λw' H4=>r' y w' H4 Q else Q (.bl false) H3)
def ayu(ho:cG X (compareOp op) r)(ho':cG X (compareOp op') r')(ha:PE X a ta)(hb:PE X b tb)(hc:PE X c tc)
  (hm:lastMarks [op,op'] [b,c]=false:=by with_unfolding_all rfl):PE X (.Compare a [op,op'] [b,c] pos) (aqx r r' ta tb tc):=by
 intro pins s σ H Q I h;refine Compare_chain (aP (ha pins s σ H _ I h) λv s1 ⟨x,H1,I1,r1,q1⟩=>chain_link (aP (hb pins s1 σ H1 _ I1 q1) λu s2 ⟨y,H2,I2,r2,q2⟩=>
  aP (ho pins s2 σ H2 x y v u _ I2 r1 r2 q2) λd s3 ⟨z,H3,I3,r3,k,e,q3⟩=>?_)) hm
 subst e;cases r3;refine wpAny_truthy_bool ?_;cases k with
 |false=>exact ite_ff {.bl false,H3,I3,rfl,q3}
 |true=>exact ite_tt (chain_last (aP (hc pins s3 σ H3 _ I3 q3) λw' s4 ⟨z',H4,I4,r4,q4⟩=>ho' pins s4 σ H4 y z' u w' Q I4 r2 r4 q4))
def aHf(ho:cG X (compareOp op) r)(ho':cG X (compareOp op') r')(ha:PE X a ta)(hb:PE X b tb)(hc:PE X c tc)
  (hm:lastMarks [op,op'] [b,c]=false:=by with_unfolding_all rfl):PT X (.Compare a [op,op'] [b,c] pos) (wU (aqx r r' ta tb tc)):=by
 intro pins s σ H Q I h;refine isTrue_chain (aP (ha pins s σ H _ I h) λv s1 ⟨x,H1,I1,r1,q1⟩=>test_link (aP (hb pins s1 σ H1 _ I1 q1) λu s2 ⟨y,H2,I2,r2,q2⟩=>
  aP (ho pins s2 σ H2 x y v u _ I2 r1 r2 q2) λd s3 ⟨z,H3,I3,r3,k,e,q3⟩=>?_)) hm
 subst e;cases r3;refine wpAny_truthy_bool ?_;cases k with
 |false=>
  intros k' e' q' q3;cases e';exact ite_ff {H3,I3,(q')}
 |true=>
  refine ite_tt (test_last (aP (hc pins s3 σ H3 _ I3 q3) λw' s4 ⟨z',H4,I4,r4,q4⟩=>aP (ho' pins s4 σ H4 y z' u w' _ I4 r2 r4 q4) λd' s5 ⟨z2,H5,I5,r5,k2,e2,q5⟩=>?_));subst e2;cases r5;exact wpAny_truthy_bool {H5,I5,(q5)}
def aP8{κ:Type}{kvs:List (κ×V)}{vs:List (κ×Value)}(r:KV kvs vs):(!vs.isEmpty)=!kvs.isEmpty:=by
 cases r<;>rfl
def aQc{xs:List V}{its:List Value}(r:Vals xs its):(!its.toArray.isEmpty)=!xs.isEmpty:=by
 cases r<;>simp
def Ek:(sizeLine:Nat)<2^63:=by rw[sizeLine_eq];decide
def aKE:cG X (binaryOp .Add) (λx y H Q=>∃i j,x = .str i/\y = .str j/\i.length+j.length<=sizeLine/\Q (.str (i++j)) H):=by
 intro pins s σ H x y v u Q I rx ry h;intros i j rfl rfl hz q h;intros t rfl rx;intros t' rfl ry;exact add_str (λt' tk=>{.str (i++j),H,I.tok _,{()},q}) hz
def vals1(r:Vals [x] us):∃u,us=[u]/\RelV x u:=by
 cases r with
 |cons r1 r2=>cases r2;exact{(),r1}
def vals2{y:V}(r:Vals [x,y] us):∃u w',us=[u,w']/\RelV x u/\RelV y w':=by
 cases r with
 |cons r1 r2=>
  cases r2 with
  |cons r3 r4=>cases r4;exact{_,(),r1,r3}
def ahi:iM X (.builtin "abs") (λxs H Q=>∃i,xs=[.int i]/\Q (.int (if i<0 then -i else i)) H):=by
 intro pins s σ H xs us Q I r h;intros i rfl q h;obtain⟨u,rfl,t,rfl⟩:=vals1 r;exact call_abs_int λu tk=>{.int (if i<0 then -i else i),H,I.tok _,{()},q}
def alI(hc:X.calm=true):iM X (.builtin "max") (λxs H Q=>∃i j,xs=[.int i,.int j]/\Q (.int (if j>i then j else i)) H):=by
 intro pins s σ H xs us Q I r h;intros i j rfl q h;obtain⟨u,w',rfl,⟨t,rfl⟩,⟨t',rfl⟩⟩:=vals2 r;refine max_two_ints (I.ok.hd hc) λh' tk k=>{_,H,I.kept k,?_,q};by_cases hj:j>i
 .rw[if_pos hj,if_pos hj];exact{()}
 .rw[if_neg hj,if_neg hj];exact{()}
def awy(hc:X.calm=true):iM X (.builtin "min") (λxs H Q=>∃i j,xs=[.int i,.int j]/\Q (.int (if j<i then j else i)) H):=by
 intro pins s σ H xs us Q I r h;intros i j rfl q h;obtain⟨u,w',rfl,⟨t,rfl⟩,⟨t',rfl⟩⟩:=vals2 r;refine min_two_ints (I.ok.hd hc) λh' tk k=>{_,H,I.kept k,?_,q};by_cases hj:j<i
 .rw[if_pos hj,if_pos hj];exact{()}
 .rw[if_neg hj,if_neg hj];exact{()}
def arC:iM X (.type "int") (λxs H Q=>(∃i,xs=[.int i]/\Q (.int i) H)∨∃k,xs=[.bl k]/\Q (.int (if k then 1 else 0)) H):=by
 intro pins s σ H xs us Q I r h;rcases h with⟨i,rfl,q⟩|⟨k,rfl,q⟩
 .obtain⟨u,rfl,t,rfl⟩:=vals1 r;exact call_int_int {.int i,H,I,{()},q}
 .obtain⟨u,rfl,r1⟩:=vals1 r;cases r1;exact call_int_bool {.int (if k then 1 else 0),H,I.tok _,{()},q}
def xV:iM X (.type "str") (λxs H Q=>∃i,xs=[.int i]/\i.natAbs.log2<1920/\Q (.str (toString i)) H):=by
 intro pins s σ H xs us Q I r h;intros i rfl hz q h;obtain⟨u,rfl,t,rfl⟩:=vals1 r;exact PySem.P.str_of_int hz {.str _,H,I.tok _,{()},q}
def ayS(K:au)(x:V)(H:Hp)(n:Nat):Prop:=
 match x with
 |.str y=>y.length<=sizeLine/\n=y.length
 |.mF y=>y.size<=sizeLine/\n=y.size
 |.ref p=>(∃xs,ak K H p xs/\n=xs.length)∨∃xs,ao K H p xs/\n=xs.length
 |_=>False
inductive acs(K:au)(xs:List V)(H:Hp)(Q:VK):Prop|mk (x:V) (n:Nat) (h:xs=[x]) (l:ayS K x H n) (q:Q (.int n) H)
def aAE:iM X (.builtin "len") (acs X.K):=by
 intro pins s σ H xs us Q I r h;intros x n rfl e q h;obtain⟨u,rfl,rx⟩:=vals1 r;have hl:=Ek;have hs:sizeLine=16777216:=sizeLine_eq;cases x with
 |str y=>
  intros t rfl rx;obtain⟨hy,e'⟩:y.length<=sizeLine/\n=y.length:=e;subst e';exact len_str ⋯ {.int _,H,I.tok _,{()},q}
 |mF y=>
  intros t rfl rx;obtain⟨hy,e'⟩:y.size<=sizeLine/\n=y.size:=e;subst e';exact W.len_bytes ⋯ {.int _,H,I.tok _,{()},q}
 |ref p=>
  cases rx;have e':(∃xs,ak X.K H p xs/\n=xs.length)∨∃xs,ao X.K H p xs/\n=xs.length:=e;rcases e' with⟨xs,hx,e'⟩|⟨xs,hx,e'⟩
  .subst e';obtain⟨its,r',pl,hz⟩:=I.list hx;have hlen:=r'.length;exact Calls.call_len_list pl.isList (by simp only[fj];lia) {.int xs.length,H,I.tok _,{_,by simp only[fj];rw[hlen]},q}
  .subst e';obtain⟨its,r',pl,hz⟩:=I.tuple hx;have hlen:=r'.length;exact len_tuple pl (by simp only[fj];lia) {.int xs.length,H,I.tok _,{_,by simp only[fj];rw[hlen]},q}
 |_=>exact(show False from e).elim
end
end
structure yQ(h:Heap)(x dx C:Addr)(mA:Str->Option Value):Prop where
 obj:h.get? x=some (vK C dx)
 ns:h.Ns1 dx mA
 ne:dx≠x
def ayv{h:Heap}{dx:Addr}{mA:Str->Option Value}(n:h.Ns1 dx mA):∃od,h.get? dx=some od/\∀name,Lq name od=some (mA name):=by
 intros o es ep ho hd hk _ hm n;refine{o,ho,λname=>?_};have e:=hm name;unfold nsFind findBy at e;rw[<-Array.find?_toList]at e;unfold Lq;rw[hd];dsimp only;split
 .rename_i y q
  rw[q]at e;exact congrArg some e
 .rename_i q
  rw[q]at e;have a:es.toList.any (·.refKey)=false:=by
   rw[List.any_eq_false];intro y hy;obtain⟨z,t,hkey⟩:=hk y (Array.mem_toList_iff.mp hy);simp[DictEntry.refKey,hkey]
  have a':¬es.toList.any (·.refKey)=true:=by rw[a];exact fO
  rw[if_neg a'];exact congrArg some e
def yQ.look{h:Heap}{x dx C:Addr}{mA:Str->Option Value}(I:yQ h x dx C mA):∃od,W.InstAt h x (vK C dx) C (some od)/\∀name,Lq name od=some (mA name):=
 let⟨od,ho,hl⟩:=ayv I.ns
 {od,{I.obj,rfl,rfl,(ho)},hl}
section
variable {prog:Program} {w:World} {A:Around} {E:Value->Shared->Prop} {s:Shared} {K:au} {x dx C f:Addr} {mA:Str->Option Value} {name:Str} {v:Value}
def get_map{expr:Bool}{Q:Value->Shared->Prop}(X:K.In s.heap)(I:yQ s.heap x dx C mA)(hg:JB K C name=true)(hh:KZ K C=true)
  (ha:fW K (.ref C) name=some none) (hv:mA name=some v) (hv':W.handedIn v=true) (h:Q v { s with toks:=s.toks+1 }):
  wpAny (model prog w) A (getAttr (.ref x) name expr) Q E s:=by
 intros od J hl I.look;exact W.get_value X J (aat hg).1 (W.findObj_own hh ha rfl (by rw[hl,hv])) hv' h
def aBR{pl:Sem Bool}{Q:Value×List Value->Shared->Prop}(X:K.In s.heap)(I:yQ s.heap x dx C mA)(hg:JB K C name=true)
  (hf:fW K (.ref C) name=some (some (.ref f))) (ht:W.isFn K (.ref f)=true) (hv:mA name=none) (h:Q (.ref f,[.ref x]) s):
  wpAny (model prog w) A (getMethod (.ref x) name pl) Q E s:=by
 intros od J hl I.look;exact W.method_fn X J (aat hg).1 (aat hg).2 hf (beq_iff_eq.mp ht) (by show(Lq name od).map (·.isSome)=some false;rw[hl,hv];rfl) h
def asO{ns:List Str}{Q:Unit->Shared->Prop}(X:K.In s.heap)(I:yQ s.heap x dx C mA)
  (hs:fW K (.ref C) "__setattr__" = some (some (.builtin "object.__setattr__"))) (hp:SJ K C=true) (ht:aaD K C name=some none) (hh:KZ K C=true)
  (hw:acn mA ns) (hsz:ns.length<=sizeLine)
  (h:∀h',yQ h' x dx C (λy=>if y=name then some v else mA y)->xY dx s.heap h'->Q () { s with heap:=h',toks:=s.toks+2 }):
  wpAny (model prog w) A (setAttr (.ref x) name v) Q E s:=by
 intros od J hl I.look;refine W.set_plain X J hs (W.osa_open (s:={ s with toks:=s.toks+1 }) (r:=none) X J hp ht λb=>?_);obtain⟨cd,hc,hd'⟩:=W.any_some hh;have hx:s.heap.get? x=some {.ref C,some dx,.plain,#[]}:=I.obj;refine wpAny_bind (wpAny_pure (wpAny_bind (wpAny_bind (wpAny_loadPart hx (wpAny_bind (W.Looks.here (s:={ s with toks:=s.toks+1 }) (W.looks_clsIn X hc) ?_))))));rw[hd'];refine wpAny_pure (a:=some dx) (wpAny_bind (wpAny_pure (wpAny_bind ?_)));refine wpAny_nsSet1 (s:={ s with toks:=s.toks+1 }) I.ns λh' hn2 hs2=>?_;obtain⟨oD,esD,epD,hoD,hdD,hcD⟩:=hn2.count (aKm name v hw);refine wpAny_bind (wpAny_lookBehind hoD (by rw[hdD];exact pastItsLine_dict (cT hcD (by rw[kO];lia))) ?_);exact wpAny_pure (h _ {(hs2.2 _ (je I.ne)).trans I.obj,hn2,I.ne} hs2)
def aMM{R:Result->Shared->Prop}{vs:List Value}{kw:List (Str×Value)}(X:K.In s.heap)(hm:N6 K C=true)
  (hi:fW K (.ref C) "__init__" = some (some (.ref f))) (hf:W.typeIn K (.ref f)=some (.type "function"))
  (h:codeAny (model prog w) (A.under (.builtin "type.__call__" {.ref C::vs,kw})) (.call (.ref f) {.ref (s.heap.objs.size+1)::vs,kw}) (W.InitBack (s.heap.objs.size+1) R)
   { s with heap:=(s.heap.push tV).push (vK C s.heap.objs.size) }):
  codeAny (model prog w) A (.call (.ref C) {vs,(kw)}) R s:=by
 intros hh g d t os s;exact W.make_core (W.makes_of X hm) (O6 X hi) (λself=>W.bind_fn X self hf) (.inl rfl) h
end
def jm(f:Str)(v:V):List (Str×V)->List (Str×V)
 |[]=>[(f,v)]
 |(g,x)::r=>if g=f then(g,v)::r else(g,x)::jm f v r
theorem KP(f g:Str)(v:V):∀fs:List (Str×V),(jm f v fs).lookup g=if g=f then some v else fs.lookup g
 |[]=>by
  show xW g [(f,v)]=_;by_cases h:g=f
  .have hb:(g==f)=true:=beq_iff_eq.mpr h;simp only[xW,hb,if_pos h]
  .have hb:(g==f)=false:=beq_eq_false_iff_ne.mpr h;simp only[xW,hb,if_neg h]
 |(k,x)::r=>by
  have ih:=KP f g v r;rw[show jm f v ((k,x)::r)=(if k=f then(k,v)::r else(k,x)::jm f v r)from rfl];by_cases hk:k=f
  .rw[if_pos hk];by_cases h:g=k
   .have hb:(g==k)=true:=beq_iff_eq.mpr h;simp only[xW,hb,if_pos (h.trans hk)]
   .have hb:(g==k)=false:=beq_eq_false_iff_ne.mpr h;simp only[xW,hb,if_neg (λe:g=f=>h (e.trans hk.symm))]
  .rw[if_neg hk];by_cases h:g=k
   .have hb:(g==k)=true:=beq_iff_eq.mpr h;simp only[xW,hb,if_neg (λe:g=f=>hk (h.symm.trans e))]
   .have hb:(g==k)=false:=beq_eq_false_iff_ne.mpr h;simp only[xW,hb];exact ih
theorem aa2(f:Str)(v:V):∀fs:List (Str×V),f∈(jm f v fs).map (·.1)/\∀g,g∈fs.map (·.1)->g∈(jm f v fs).map (·.1)
 |[]=>{by simp[jm],λg h=>by simp at h}
 |(k,x)::r=>by
  obtain⟨i1,i2⟩:=aa2 f v r;rw[show jm f v ((k,x)::r)=(if k=f then(k,v)::r else(k,x)::jm f v r)from rfl];by_cases hk:k=f
  .rw[if_pos hk];subst hk;exact{by simp,λg h=>by simpa using h}
  .rw[if_neg hk];refine{?_,λg h=>?_}
   .rw[kI];exact eN _ i1
   .rw[kI]at h⊢;rcases cX.mp h with e|e
    .exact cX.mpr (.inl e)
    .exact eN _ (i2 g e)
theorem ad6(f:Str)(v:V):∀fs:List (Str×V),(jm f v fs).length<=fs.length+1
 |[]=>by simp[jm]
 |(k,x)::r=>by
  have ih:=ad6 f v r;rw[show jm f v ((k,x)::r)=(if k=f then(k,v)::r else(k,x)::jm f v r)from rfl];by_cases hk:k=f
  .rw[if_pos hk,kO,kO];lia
  .rw[if_neg hk,kO,kO];lia
def iH.some_of{v:V}{o:Option Value}(r:iH (some v) o):∃u,o=some u/\RelV v u:=by
 cases o with
 |none=>exact(show False from r).elim
 |some u=>exact{u,rfl,(r)}
def iH.none_of{o:Option Value}(r:iH none o):o=none:=by
 cases o with
 |none=>rfl
 |some u=>exact(show False from r).elim
def ayI{v:V}{u:Value}(r:RelV v u):W.handedIn u=true:=by
 cases v with
 |non=>cases (show u=Value.none from r);rfl
 |bl b=>cases (show u=Value.bool b from r);rfl
 |int i=>obtain⟨t,e⟩:=(show ∃t,u=Value.int i t from r);cases e;rfl
 |str x=>obtain⟨t,e⟩:=(show ∃t,u=Value.str x t from r);cases e;rfl
 |mF b=>obtain⟨t,e⟩:=(show ∃t,u=Value.bytes b t from r);cases e;rfl
 |flt b=>obtain⟨t,e⟩:=(show ∃t,u=Value.float b t from r);cases e;rfl
 |ref a=>cases (show u=Value.ref a from r);rfl
 |ty n=>cases (show u=Value.type n from r);rfl
section
variable {P:Program} {w:World} {H H':Hp} {h h':Heap} {a C dx:Addr} {fs fs':List (Str×V)}
def Ni(hok:d8 P w H h)(e:H a=some (.ins C dx fs)):∃mA,yQ h a dx C mA/\(∀f,iH (fs.lookup f) (mA f))/\acn mA (fs.map (·.1))/\fs.length<=1000/\H dx=some (.own a):=by
 obtain⟨d,z,ne,ob,mA,n,r,q⟩:=(show cW P w H h a (.ins C dx fs)from hok a _ e);exact{mA,{ob,n,(ne)},r,q,z,d}
end
structure Cls(K:au)(C:Addr):Prop where
 pg:JB K C Str.empty=true
 hd:KZ K C=true
 po:SJ K C=true
 sa:fW K (.ref C) "__setattr__" = some (some (.builtin "object.__setattr__"))
def Cls.get{K:au}{C:Addr}(c:Cls K C)(f:Str):JB K C f=true:=c.pg
def yH(K:au)(C:Addr)(f:Str):Prop:=fW K (.ref C) f=some none
def yH.aw1{K:au}{C:Addr}{f:Str}(n:yH K C f):aaD K C f=some none:=by
 unfold aaD;rw[show fW K (.ref C) f=some none from n];rfl
structure Meth(K:au)(C:Addr)(m:Str)(f:Addr):Prop where
 at_:fW K (.ref C) m=some (some (.ref f))
 fn:W.isFn K (.ref f)=true
 kp:mV K (.ref f)=true
section
variable {X:Cx} {pins:List (Addr×Obj)} {σ:St} {H:Hp} {s:Shared} {a C dx:Addr} {fs:List (Str×V)} {f:Str} {v:V} {A:Around} {E:Value->Shared->Prop}
def aAc{b:Bool}{Q:Value->Shared->Prop}(I:Inv X pins σ H s)(e:H a=some (.ins C dx fs))(c:Cls X.K C)(n:yH X.K C f)(l:fs.lookup f=some v)
  (h:∀u s',Inv X pins σ H s'->RelV v u->Q u s'):wpAny (model X.prog X.w) A (getAttr (.ref a) f b) Q E s:=by
 obtain⟨mA,O,r,_,_,_⟩:=Ni I.hok e;obtain⟨u,hu,ru⟩:=iH.some_of (v:=v) (o:=mA f) (by rw[<-l];exact r f);exact get_map I.dz O (c.get f) c.hd n hu (ayI ru) (h u _ (I.tok _) ru)
def aCB{m:Str}{g:Addr}{pl:Sem Bool}{Q:Value×List Value->Shared->Prop}(I:Inv X pins σ H s)(e:H a=some (.ins C dx fs))(c:Cls X.K C)(k:Meth X.K C m g)(l:fs.lookup m=none)
  (h:Q (.ref g,[.ref a]) s):wpAny (model X.prog X.w) A (getMethod (.ref a) m pl) Q E s:=by
 obtain⟨mA,O,r,_,_,_⟩:=Ni I.hok e;have hn:mA m=none:=iH.none_of (by rw[<-l];exact r m);exact aBR I.dz O (c.get m) k.at_ k.fn hn h
def aMo{y:V}{u:Value}{Q:Unit->Shared->Prop}(I:Inv X pins σ H s)(e:H a=some (.ins C dx fs))(c:Cls X.K C)(n:yH X.K C f)(hl:fs.length<1000)(ry:RelV y u)
  (h:∀s',Inv X pins σ (upd H a (.ins C dx (jm f y fs))) s'->Q () s'):wpAny (model X.prog X.w) A (setAttr (.ref a) f u) Q E s:=by
 obtain⟨mA,O,r,wi,_,ho⟩:=Ni I.hok e;have hz:(fs.map (·.1)).length<=sizeLine:=by rw[aC,sizeLine_eq];lia
 refine asO I.dz O c.sa c.po n.aw1 c.hd wi hz λh' O' sb=>h _ ?_;have hd:∃o,h'.get? dx=some o:=let⟨o,_,_,e',_⟩:=O'.ns;{o,(e')};refine I.write (x:=a) (e:=dx) (by rw[e];exact True.intro) (.inr ho) (λb q hb z=>(sb.2 b hb).trans z) hd ?_;refine{by rw[cI O.ne];exact ho,?_,O.ne,O'.obj,_,O'.ns,λg=>?_,λg hg=>?_}
 .have:=ad6 f y fs;lia
 .show iH ((jm f y fs).lookup g) (if g=f then some u else mA g);rw[KP];by_cases q:g=f
  .rw[if_pos q,if_pos q];exact ry
  .rw[if_neg q,if_neg q];exact r g
 .by_cases q:g=f
  .rw[q];exact(aa2 f y fs).1
  .refine(aa2 f y fs).2 g (wi g λz=>hg ?_);show(if g=f then some u else mA g)=none;rw[if_neg q];exact z
def Inv.made(I:Inv X pins σ H s):Inv X pins σ (upd (upd H s.heap.objs.size (.own (s.heap.objs.size+1))) (s.heap.objs.size+1) (.ins C s.heap.objs.size []))
  { s with heap:=(s.heap.push tV).push (vK C s.heap.objs.size) }:=by
 have e1:(s.heap.push tV).get? s.heap.objs.size=some tV:=Heap.get?_push_size s.heap rfl;have e2:((s.heap.push tV).push (vK C s.heap.objs.size)).get? (s.heap.objs.size+1)=some (vK C s.heap.objs.size):=by
  have:=Heap.get?_push_size (s.heap.push tV) (o:=vK C s.heap.objs.size) rfl
  rwa [aft]at this
 have e3:(s.heap.push tV).Ns s.heap.objs.size (λ_=>none):={tV,#[],_,e1,rfl,(λe he=>absurd he (by simp)),λ_=>rfl};have I1:=I.laid (a:=s.heap.objs.size) (o:= .own (s.heap.objs.size+1)) (h':=s.heap.push tV) (t':=s.toks) (λb u q=>Heap.get?_push_of_some _ q) (bO _) {_,e1};refine I1.laid (a:=s.heap.objs.size+1) (o:= .ins C s.heap.objs.size []) (t':=s.toks) (λb u q=>Heap.get?_push_of_some _ q) (IX (aft _ _)) ?_;have ne:s.heap.objs.size≠s.heap.objs.size+1:=iG (ane _);refine{by rw[cI ne,aq],dW _,ne,e2,λ_=>none,(Heap.Ns1.of_empty e3).at λo q=>Heap.get?_push_of_some _ q,λ_=>True.intro,λy hy=>absurd rfl hy}
def aGT{prog:Program}{w:World}{env:Env}{e:Expr}{f:Str}{pos:Pos}{s:Shared}{Q:Value->Shared->Prop}(hb:attributeBase e f env (eval e env)=eval e env)
  (h:wpAny (model prog w) A (eval e env) (λo s₁=>wpAny (model prog w) A (getAttr o f true) Q E s₁) E s):wpAny (model prog w) A (eval (.Attribute e f pos) env) Q E s:=
 Attribute_any_ h (by rw[arm_eval_Attribute,hb])
end
def aev(K:au)(ta:TE)(f:Str):TE:=λσ H Q=>ta σ H λx H1=>∃a C dx fs v,x = .ref a/\H1 a=some (.ins C dx fs)/\Cls K C/\yH K C f/\fs.lookup f=some v/\Q v H1
def aKB(K:au)(ta tv:TE)(f:Str):TS:=λD σ H=>tv σ H λy H1=>ta σ H1 λx H2=>∃a C dx fs,x = .ref a/\H2 a=some (.ins C dx fs)/\Cls K C/\yH K C f/\fs.length<1000/\
 D.nx σ (upd H2 a (.ins C dx (jm f y fs)))
section
variable {X:Cx} {o e value:Expr} {f:Str} {pos pos' tpos:Pos} {ta tv:TE}
def aIH(he:PE X e ta)(hb:attributeBase e f X.env (eval e X.env)=eval e X.env):PE X (.Attribute e f pos) (aev X.K ta f):=by
 intro pins s σ H Q I h;refine aGT hb (aP (he pins s σ H _ I h) λu s1 ⟨x,H1,I1,rx,a,C,dx,fs,v,ex,ea,c,n,l,q⟩=>?_);subst ex;obtain rfl:u=Value.ref a:=rx;exact aAc I1 ea c n l λu' s2 I2 ru=>{v,H1,I2,ru,(q)}
def aPK(ha:PE X o ta)(hv:PE X value tv)(hs:swapsWith value (some (.Attribute o f pos')) pos.line X.env=pure false):PS X (.Assign [.Attribute o f pos'] value pos) (aKB X.K ta tv f):=by
 intro pins s σ H D I h;refine plainObj_wpAny_Assign_Attribute (aP (hv pins s σ H _ I h) λu s1 ⟨y,H1,I1,ry,q⟩=>aP (ha pins s1 σ H1 _ I1 q) λov s2 ⟨x,H2,I2,rx,a,C,dx,fs,ex,ea,c,n,l,q2⟩=>?_) hs;subst ex;obtain rfl:ov=Value.ref a:=rx;exact aMo I2 ea c n l ry λs3 I3=>{σ,_,I3,q2}
end
section
variable {X:Cx} {pins:List (Addr×Obj)} {σ:St} {H:Hp} {s:Shared} {A:Around} {E:Value->Shared->Prop} {Q:Value->Shared->Prop} {c:Value} {b:Bool}
inductive nZ(K:au)(H:Hp):V->Value->Prop where
 |non:nZ K H .non (.type "NoneType")
 |bl (x:Bool):nZ K H (.bl x) (.type "bool")
 |int (i:Int):nZ K H (.int i) (.type "int")
 |str (x:Str):nZ K H (.str x) (.type "str")
 |flt (x:UInt64):nZ K H (.flt x) (.type "float")
 |lst {a:Addr} {xs:List V} (e:H a=some (.lst xs)):nZ K H (.ref a) (.type "list")
 |cP {a:Addr} {o:Obj} {xs:List V} (e:H a=some (.cP o (.lst xs))):nZ K H (.ref a) (.type "list")
 |tup {a:Addr} {xs:List V} (e:H a=some (.tup xs)):nZ K H (.ref a) (.type "tuple")
 |dK {a:Addr} {kvs:List (Key×V)} (e:H a=some (.dK kvs)):nZ K H (.ref a) (.type "dict")
 |dT {a:Addr} {kvs:List (List Key×V)} (e:H a=some (.dT kvs)):nZ K H (.ref a) (.type "dict")
 |ins {a C dx:Addr} {fs:List (Str×V)} (e:H a=some (.ins C dx fs)) (cl:Cls K C) (ha:fW K (.ref C) "__class__" = some (some (.builtin "object.__class__")))
   (hn:W.specialIn K (.builtin "object.__class__") "__get__" = some (some (.builtin "getset_descriptor.__get__"))) (htk:W.takesIn K (.builtin "object.__class__")=some true)
   (hm:qR K C (.type "object")=some true):nZ K H (.ref a) (.ref C)
def azi{x:V}{u t:Value}(I:Inv X pins σ H s)(rx:RelV x u)(ty:nZ X.K H x t)(e:aZ X.K t c=some b)(h:∀tk,Q (.bool b) { s with toks:=tk }):
  wpAny (model X.prog X.w) A (call (.builtin "isinstance") [u,c]) Q E s:=by
 cases ty with
 |non=>cases (show u=Value.none from rx);exact m8 W.kitx_none I.dz True.intro e (λz=>nomatch z) h
 |bl y=>cases (show u=Value.bool y from rx);exact m8 W.kitx_bool I.dz True.intro e (λz=>nomatch z) h
 |int i=>obtain⟨t,q⟩:=(show ∃t,u=Value.int i t from rx);cases q;exact m8 W.kitx_int I.dz True.intro e (λz=>nomatch z) h
 |str y=>obtain⟨t,q⟩:=(show ∃t,u=Value.str y t from rx);cases q;exact m8 W.kitx_str I.dz True.intro e (λz=>nomatch z) h
 |flt y=>obtain⟨t,q⟩:=(show ∃t,u=Value.float y t from rx);cases q;exact m8 W.kitx_float I.dz True.intro e (λz=>nomatch z) h
 |@lst a xs ea=>
  cases (show u=Value.ref a from rx);obtain⟨_,_,n,_,h1⟩:=(show cW X.prog X.w H s.heap a (.lst xs)from I.hok a _ ea);exact m8 W.kitx_list I.dz {_,h1,rfl} e (λz=>nomatch z) h
 |@cP a ob xs ea=>
  cases (show u=Value.ref a from rx);obtain⟨_,_,_,n,_,h1⟩:=(show cW X.prog X.w H s.heap a (.cP ob (.lst xs))from I.hok a _ ea);exact m8 W.kitx_list I.dz {_,h1,rfl} e (λz=>nomatch z) h
 |@tup a xs ea=>
  cases (show u=Value.ref a from rx);obtain⟨_,_,_,p⟩:=(show cW X.prog X.w H s.heap a (.tup xs)from I.hok a _ ea);intros o h1 h2 _ p;exact m8 W.kitx_tuple I.dz {o,h1,(h2)} e (λz=>nomatch z) h
 |@dK a kvs ea=>
  cases (show u=Value.ref a from rx);obtain⟨_,_,vs,_,p⟩:=(show cW X.prog X.w H s.heap a (.dK kvs)from I.hok a _ ea);intros o es ep h1 h2 _ p;exact m8 W.kitx_dict I.dz {o,h1,(h2.1)} e (λz=>nomatch z) h
 |@dT a kvs ea=>
  cases (show u=Value.ref a from rx);obtain⟨_,_,xs,_,o,es,ep,h1,h2,_⟩:=(show cW X.prog X.w H s.heap a (.dT kvs)from I.hok a _ ea);exact m8 W.kitx_dict I.dz {o,h1,(h2.1)} e (λz=>nomatch z) h
 |@ins a C dx fs ea cl ha hn htk hm=>
  cases (show u=Value.ref a from rx);obtain⟨mA,O,_⟩:=Ni I.hok ea;intros od J _ O.look;exact m8 (W.kitx_own (cl.get _) cl.hd ha hn htk hm) I.dz J e (λz=>nomatch z) h
end
section
variable {k:Nat}{A:Around}{C:Addr}{us:List Value}{kw:List (Str×Value)}
structure cD(k:Nat)(A:Around):Prop where
 hd:A.handled=none
 dp:A.depth+3*k+105<recursionLimit
 un:A.units+16*k+200<cLine
def cD.mono{j:Nat}(r:cD k A)(h:j<=k):cD j A:={r.hd,by have:=r.dp;lia,by have:=r.un;lia}
theorem cD.deeper{k:Nat}{A:Around}(r:cD (k+1) A)(env:Env):cD k (A.deeper env):=
 {r.hd,by have:=r.dp;show A.depth+1+3*k+105<_;lia,by have:=r.un;show A.units+3+16*k+200<_;lia}
def aKe:(A.under (.builtin "type.__call__" {.ref C::us,kw})).depth=A.depth+1:=by
 first|rfl|simp[Xp,Code.weight,Code.isCreation,Code.isGuard,Code.isCaller,Code.frames,Code.isFrame,guardIds]
def aNl:(A.under (.builtin "type.__call__" {.ref C::us,kw})).units=A.units+1:=by
 first|rfl|simp[Xp,Code.cUnits,Code.frames,Code.isFrame]
def cD.make{k:Nat}{A:Around}(r:cD (k+1) A)(C:Addr)(us:List Value)(kw:List (Str×Value)):cD k (A.under (.builtin "type.__call__" {.ref C::us,kw})):=
 {r.hd,by have:=r.dp;rw[aKe];lia,by have:=r.un;rw[aNl];lia}
theorem cD.depth{k:Nat}{A:Around}(r:cD k A):A.depth<recursionLimit:=by have:=r.dp;lia
theorem cD.units{k:Nat}{A:Around}(r:cD k A):A.units+64<cLine:=by have:=r.un;lia
def cD.am2(r:cD k A):A.units<cLine:=by have:=r.un;lia
def qz:TA:=λ_ H Q=>Q [] H
def m5(ta:TE)(tr:TA):TA:=λσ H Q=>ta σ H λx H1=>tr σ H1 λxs H2=>Q (x::xs) H2
end
section
variable {X:Cx} {e:Expr} {es:List Expr} {te:TE} {t:TA} {pos:Pos}
def jL:PA X [] qz:=λ_ _ _ _ H Q I h=>R5 {[],H,I,.nil,h}
def uT(ha:PE X e te)(hr:PA X es t)(hs:starEach (e::es) X.env=(false,eval e X.env)::starEach es X.env:=by rfl):PA X (e::es) (m5 te t):=by
 intro pos pins s σ H Q I h;rw[hs];show wpAny _ _ (spliced ((false,eval e X.env)::backTo pos (starEach es X.env))) _ _ s;refine NK (aP (ha pins s σ H _ I h) λu s1 ⟨x,H1,I1,r1,q1⟩=>?_);exact aP (hr pos pins s1 σ H1 _ I1 q1) λus s2 ⟨xs,H2,I2,r2,q2⟩=>{x::xs,H2,I2,.cons r1 r2,q2}
inductive alc(xs:List V)(o:HO)(H:Hp)(Q:VK):Prop|mk (hz:xs.length<=sizeLine) (q:∀p,H p=none->Q (.ref p) (upd H p o))
def ZK(t:TA):TE:=λσ H Q=>t σ H λxs H1=>alc xs (.tup xs) H1 Q
def aPA(t:TA):TE:=λσ H Q=>t σ H λxs H1=>alc xs (.lst xs) H1 Q
def dF{x1}(h:PA X es t):PE X (.Tuple es x1 pos) (ZK t):=by
 intro pins s σ H Q I hq;refine wpAny_Tuple_spliced (aP (h pos pins s σ H _ I hq) λus s1 ⟨xs,H1,I1,r,z,q⟩=>{by rw[<-r.length];exact z,?_});have hf:H1 s1.heap.objs.size=none:=I1.hok.fresh (bO _);refine{.ref s1.heap.objs.size,upd H1 s1.heap.objs.size (.tup xs),I1.laid (t':=s1.toks) (λb u e=>Heap.get?_push_of_some _ e) (bO _) ?_,rfl,q _ hf};exact{z,us,r,{_,Heap.get?_push_size _ rfl,rfl,()}}
def fK(h:PA X es t):PE X (.List es pos) (aPA t):=by
 intro pins s σ H Q I hq;refine wpAny_List_spliced (aP (h pos pins s σ H _ I hq) λus s1 ⟨xs,H1,I1,r,z,q⟩=>{by rw[<-r.length];exact z,?_});have hf:H1 s1.heap.objs.size=none:=I1.hok.fresh (bO _);refine{.ref s1.heap.objs.size,upd H1 s1.heap.objs.size (.lst xs),I1.laid (t':=s1.toks) (λb u e=>Heap.get?_push_of_some _ e) (bO _) ?_,rfl,q _ hf};exact{z,us,0,r,Heap.get?_push_size _ rfl}
end
abbrev Sp:=List V->Hp->VK->XK->Prop
abbrev qu:=List Env->Hp->Shared->XK->Value->Shared->Prop
structure wW(P:Program)(w:World)(K:au)(mg:Str->Option Value)(base:Heap)(A:Around)(outer:List Env)(s:Shared)(H:Hp):Prop where
 frames:A.frames=some outer
 mod:Mod K mg base
 bs:∀b o,base.get? b=some o->s.heap.get? b=some o/\H b=none
 tE:base.objs.size<=s.heap.objs.size
 n6:s.heap.FunFrames base outer
 wC:∀b∈frs outer,H b=none
 hok:d8 P w H s.heap
 bare:AllBare s.gens
 tree:P.given.tree=none
def CE(outer:List Env)(P:Program)(w:World)(H:Hp)(s:Shared)(Q:VK)(u:Value)(s':Shared):Prop:=
 ∃v H',s'.os=s.os/\AllBare s'.gens/\Un (frs outer) [] H H' s.heap s'.heap/\d8 P w H' s'.heap/\RelV v u/\Q v H'
def CR(CX:qu)(outer:List Env)(P:Program)(w:World)(H:Hp)(s:Shared)(Q:VK)(E:XK)(r:Result)(s':Shared):Prop:=
 match r with
 |.ok (.ret u)=>CE outer P w H s Q u s'
 |.ok _=>False
 |.error e=>CX outer H s E e s'
structure jg(P:Program)(w:World)(K:au)(mg:Str->Option Value)(base:Heap)(CX:qu)(k:Nat)(f:Addr)(fd:FuncData)(ps:List Str)(sp:Sp):Prop where
 len:∀vs H Q E,sp vs H Q E->vs.length=ps.length
 run:∀(A:Around) (outer:List Env) (s:Shared) (H:Hp) (args:Args) (us:List Value) (vs:List V) (Q:VK) (E:XK),cD k A->wW P w K mg base A outer s H->BindsTo s fd args (ps.zip us)->Vals vs us->sp vs H Q E->
  codeAny (model P w) A (.call (.ref f) args) (CR CX outer P w H s Q E) s
theorem jg.mono{P:Program}{w:World}{K:au}{mg:Str->Option Value}{base:Heap}{CX:qu}{j k:Nat}{f:Addr}{fd:FuncData}{ps:List Str}{sp:Sp}(F:jg P w K mg base CX j f fd ps sp)(h:j<=k):
  jg P w K mg base CX k f fd ps sp:={F.len,λA outer s H args us vs Q E hr=>F.run A outer s H args us vs Q E (hr.mono h)}
def wW.make{P:Program}{w:World}{K:au}{mg:Str->Option Value}{base:Heap}{A:Around}{outer:List Env}{s:Shared}{H:Hp}(e:wW P w K mg base A outer s H)(C:Addr)(us:List Value)(kw:List (Str×Value)):
  wW P w K mg base (A.under (.builtin "type.__call__" {.ref C::us,kw})) outer s H:={by first|exact e.frames|(simpa[Xp,Code.envs,Code.isFrame,pushEnvs]using e.frames),e.mod,e.bs,e.tE,e.n6,e.wC,e.hok,e.bare,e.tree}
section
variable {X:Cx} {pins:List (Addr×Obj)} {σ:St} {H:Hp} {s s':Shared}
def Inv.env0(I:Inv X pins σ H s):wW X.prog X.w X.K X.mg X.base X.A X.stack s H:=
 {I.ok.frames,I.ok.mod,I.bs,cT I.ok.tE I.sz,I.stack,I.YS,I.hok,I.bare,I.ok.tree}
def Inv.after{Q:VK}{u:Value}(I:Inv X pins σ H s)(h:CE X.stack X.prog X.w H s Q u s'):EP X pins σ Q u s':=by
 intros v H' os bare un hok r q h;intros hh g d t os' s';obtain rfl:os'=s.os:=os;exact{v,H',I.call (h':=hh) (g':=g) (d':=d) (t':=t) (ch:=[]) un hok bare (λb z=>absurd z (by simp)),r,q}
end
def yd(sp:Sp)(jY:List V)(E:XK)(t:TA):TE:=λσ H Q=>t σ H λvs H1=>sp (vs++jY) H1 Q E
def agG(C:Addr)(sp:Sp)(jY:List V)(E:XK)(t:TA):TE:=λσ H Q=>t σ H λvs H1=>∀x dx,H1 x=none->H1 dx=none->dx≠x->
 sp (.ref x::(vs++jY)) (upd (upd H1 dx (.own x)) x (.ins C dx [])) (λv H2=>v = .non/\Q (.ref x) H2) E
def Binds(K:au)(fd:FuncData)(ps:List Str)(ds:List Value):Prop:=
 ∀(s:Shared) (us:List Value),K.In s.heap->(us++ds).length=ps.length->BindsTo s fd {us,([])} (ps.zip (us++ds))
def Binds.all{K:au}{fd:FuncData}{ps:List Str}(h:∀us:List Value,us.length=ps.length->bindArgs fd {us,([])}=pure (ps.zip us)):Binds K fd ps []:=λs us _ hl=>by
 rw[pG]at hl⊢;exact .of_eq (h us hl)
def Passes(CX:qu)(X:Cx)(E:XK):Prop:=∀(pins:List (Addr×Obj)) (σ:St) (H:Hp) (s:Shared) (e:Value) (s':Shared),Inv X pins σ H s->CX X.stack H s E e s'->X.xe e s'
section
variable {X:Cx} {CX:qu} {k:Nat} {f C:Addr} {fd:FuncData} {ps:List Str} {sp:Sp} {jY:List V} {ds:List Value} {E:XK} {x m:Str} {p pos apos:Pos} {e o:Expr} {es:List Expr} {ta:TE} {t:TA}
section
variable {pins:List (Addr×Obj)}{σ:St}{H:Hp}{s:Shared}{Q:VK}{us:List Value}{vs:List V}
def Nu(F:jg X.prog X.w X.K X.mg X.base CX k f fd ps sp)(hr:cD k X.A)(hb:Binds X.K fd ps ds)(hd:Vals jY ds)(hx:Passes CX X E)
  (I:Inv X pins σ H s) (r:Vals vs us) (h:sp (vs++jY) H Q E):wpAny (model X.prog X.w) X.A (call (.ref f) us) (EP X pins σ Q) X.xe s:=by
 have r2:Vals (vs++jY) (us++ds):=r.append hd;have hl:(us++ds).length=ps.length:=by rw[<-r2.length];exact F.len _ _ _ _ h
 refine wpAny_call (codeAny_mono (F.run X.A X.stack s H {us,([])} (us++ds) (vs++jY) Q E hr I.env0 (hb s us I.dz hl) r2 h) λr s' hq=>?_);cases r with
 |error e=>exact hx pins σ H s e s' I hq
 |ok fl=>
  cases fl with
  |ret u=>exact I.after hq
  |next=>exact False.elim hq
  |brk=>exact False.elim hq
  |cont=>exact False.elim hq
def Tg(F:jg X.prog X.w X.K X.mg X.base CX k f fd ps sp)(hr:cD k X.A)(hg:Gl X x)(hm:X.mg x=some (.ref f))(hk:mV X.K (.ref f)=true)(hb:Binds X.K fd ps ds)(hd:Vals jY ds)(hx:Passes CX X E)
  (ha:PA X (e::es) t) (hdb:(x==("__debug__" : Str))=false:=by decide) (he:starEach (e::es) X.env=(false,eval e X.env)::starEach es X.env:=by rfl) (hpl:(backTo pos (starEach es X.env)).any (·.1)=false:=by rfl):
  PE X (.Call (.Name x p) (e::es) [] pos) (yd sp jY E t):=by
 intro pins s σ H Q I h;refine wpAny_Call_Name_kw (pB I hg hm ?_ hdb);refine Cz (h₀:=X.base) I.ok.mod.vI hk (aP (ha pos pins s σ H _ I h) λus s1 ⟨vs,H1,I1,r,q⟩=>{I1.dz,?_}) he hpl;exact Nu F hr hb hd hx I1 r q
def aJ6(F:jg X.prog X.w X.K X.mg X.base CX k f fd ps sp)(hr:cD k X.A)(hg:Gl X x)(hm:X.mg x=some (.ref f))(hk:mV X.K (.ref f)=true)(hb:Binds X.K fd ps ds)(hd:Vals jY ds)(hx:Passes CX X E)
  (hdb:(x==("__debug__" : Str))=false:=by decide):PE X (.Call (.Name x p) [] [] pos) (yd sp jY E qz):=by
 intro pins s σ H Q I h;refine wpAny_Call_Name_kw (pB I hg hm ?_ hdb);exact W.callWith_K0 I.dz hk (Nu (us:=[]) F hr hb hd hx I .nil h)
structure Mk(K:au)(C f:Addr):Prop where
 makes:N6 K C=true
 init:fW K (.ref C) "__init__" = some (some (.ref f))
 fn:W.isFn K (.ref f)=true
 kp:mV K (.ref C)=true
def aLq(M:Mk X.K C f)(F:jg X.prog X.w X.K X.mg X.base CX k f fd ps sp)(hr:cD (k+1) X.A)(hb:Binds X.K fd ps ds)(hd:Vals jY ds)
  (hx:Passes CX X E) (I:Inv X pins σ H s) (r:Vals vs us)
  (h:∀x dx,H x=none->H dx=none->dx≠x->sp (.ref x::(vs++jY)) (upd (upd H dx (.own x)) x (.ins C dx [])) (λv H2=>v = .non/\Q (.ref x) H2) E):
  wpAny (model X.prog X.w) X.A (call (.ref C) us) (EP X pins σ Q) X.xe s:=by
 have hq:=h (s.heap.objs.size+1) s.heap.objs.size (I.hok.fresh (uL _)) (I.hok.fresh (bO _)) (iG (ane _));have I2:=Inv.made (C:=C) I;have r2:Vals (V.ref (s.heap.objs.size+1)::(vs++jY)) (Value.ref (s.heap.objs.size+1)::(us++ds)):= .cons rfl (r.append hd);have hl:(Value.ref (s.heap.objs.size+1)::us++ds).length=ps.length:=by
  have e:=r2.length;rw[F.len _ _ _ _ hq]at e;exact e.symm
 refine wpAny_call (aMM (f:=f) I.dz M.makes M.init (beq_iff_eq.mp M.fn) (codeAny_mono (F.run _ X.stack _ _ {Value.ref (s.heap.objs.size+1)::us,[]} (Value.ref (s.heap.objs.size+1)::(us++ds)) _ _ E (hr.make C us [])
  (I2.env0.make C us []) (hb _ (Value.ref (s.heap.objs.size+1)::us) I2.dz hl) r2 hq) λr s' hq'=>?_))
 cases r with
 |error e=>exact hx pins σ _ _ e s' I2 hq'
 |ok fl=>
  cases fl with
  |ret u=>
   obtain⟨v,H',I3,rv,ev,q3⟩:=I2.after hq';subst ev;exact{rv,{V.ref (s.heap.objs.size+1),H',I3,rfl,q3}}
  |next=>exact False.elim hq'
  |brk=>exact False.elim hq'
  |cont=>exact False.elim hq'
def aK0(M:Mk X.K C f)(F:jg X.prog X.w X.K X.mg X.base CX k f fd ps sp)(hr:cD (k+1) X.A)(hg:Gl X x)(hm:X.mg x=some (.ref C))(hb:Binds X.K fd ps ds)(hd:Vals jY ds)(hx:Passes CX X E)
  (hdb:(x==("__debug__" : Str))=false:=by decide):PE X (.Call (.Name x p) [] [] pos) (agG C sp jY E qz):=by
 intro pins s σ H Q I h;refine wpAny_Call_Name_kw (pB I hg hm ?_ hdb);exact W.callWith_K0 I.dz M.kp (aLq (us:=[]) M F hr hb hd hx I .nil h)
end
end
section
variable {X:Cx} {CX:qu} {k:Nat} {f C:Addr} {fd:FuncData} {ps ks:List Str} {sp:Sp} {E:XK} {x m:Str} {p pos apos kpos:Pos} {e o:Expr} {es:List Expr} {kws:List Keyword} {te ta:TE} {t tk:TA} {nm:Option Str}
variable {g:List Value->List Value->List Value} {gV:List V->List V->List V}
end
section
variable {CX:qu}{P:Program}{w:World}{K:au}{mg:Str->Option Value}{base:Heap}{qual:Str}{scope:Scope}{f:Addr}
structure aK(N P:List Str)(sc:Scope):Prop where
 kind:sc.kind = .function
 co:sc.isCoroutine=false
 gen:sc.isGenerator=false
 nd:N.Nodup
 pre:N.take P.length=P
 par:∀x∈P,sc.names.lookup x=some .local∨sc.names.lookup x=some .cell
 abd:∀y∈sc.names,y.2≠ .free
theorem an2{kindOf:Str->Option NameKind}{x:Str}:∀{binds:List (Str×Value)} {m:Str->Option Value},(∀v,(x,v)∉binds)->bindL kindOf binds m x=m x
 |[],_,_=>rfl
 |(n,v)::r,m,h=>by
  unfold bindL;rw[an2 λw hw=>h w (eN _ hw)];split
  .have:x≠n:=by rintro rfl;exact h v fX
   simp[this]
  .rfl
theorem aow{kindOf:Str->Option NameKind}{x:Str}:∀{binds:List (Str×Value)} {m:Str->Option Value},(∀v,(x,v)∉binds)->bindC kindOf binds m x=m x
 |[],_,_=>rfl
 |(n,v)::r,m,h=>by
  unfold bindC;rw[aow λw hw=>h w (eN _ hw)];split
  .rfl
  .have:x≠n:=by rintro rfl;exact h v fX
   simp[this]
theorem agB{kindOf:Str->Option NameKind}{x:Str}{v:Value}:∀{P:List Str} {vs:List Value} {i:Nat} {m:Str->Option Value},P.Nodup->P[i]?=some x->vs[i]?=some v->kindOf x=some .local->
  bindL kindOf (P.zip vs) m x=some v
 |[],_,_,_,_,h,_,_=>by simp at h
 |_::_,[],_,_,_,_,h,_=>by simp at h
 |p::P,w::vs,0,m,nd,h1,h2,hk=>by
  simp at h1 h2;subst h1;subst h2;show bindL kindOf ((p,w)::P.zip vs) m p=_;unfold bindL;rw[an2 λv hv=>(yg.mp nd).1 (Ks hv).1,if_pos hk];simp
 |p::P,w::vs,i+1,m,nd,h1,h2,hk=>by
  show bindL kindOf ((p,w)::P.zip vs) m x=_;unfold bindL;exact agB (i:=i) (yg.mp nd).2 (by simpa using h1) (by simpa using h2) hk
theorem ade{kindOf:Str->Option NameKind}{x:Str}{v:Value}:∀{P:List Str} {vs:List Value} {i:Nat} {m:Str->Option Value},P.Nodup->P[i]?=some x->vs[i]?=some v->kindOf x≠some .local->
  bindC kindOf (P.zip vs) m x=some v
 |[],_,_,_,_,h,_,_=>by simp at h
 |_::_,[],_,_,_,_,h,_=>by simp at h
 |p::P,w::vs,0,m,nd,h1,h2,hk=>by
  simp at h1 h2;subst h1;subst h2;show bindC kindOf ((p,w)::P.zip vs) m p=_;unfold bindC;rw[aow λv hv=>(yg.mp nd).1 (Ks hv).1,if_neg hk];simp
 |p::P,w::vs,i+1,m,nd,h1,h2,hk=>by
  show bindC kindOf ((p,w)::P.zip vs) m x=_;unfold bindC;exact ade (i:=i) (yg.mp nd).2 (by simpa using h1) (by simpa using h2) hk
def start(N:List Str)(vs:List V):St:=vs.map some++cO (N.length-vs.length) none
def Ad(CX:qu)(P:Program)(w:World)(K:au)(mg:Str->Option Value)(base:Heap)(N:List Str)(qual:Str)(scope:Scope)(f:Addr)(cd:Value)(A:Around)(outer:List Env)(s:Shared)(H:Hp)(E:XK):Cx where
 prog:=P
 w:=w
 K:=K
 mg:=mg
 base:=base
 A:=A.deeper (envOfC qual scope s.heap.objs.size f cd)
 N:=N
 s₀:=s
 H₀:=H
 env:=envOfC qual scope s.heap.objs.size f cd
 outer:=outer
 stack:=envOfC qual scope s.heap.objs.size f cd::outer
 ex:=[]
 calm:=true
 fn:=λ_=>true
 pn:=[]
 xe:=λe s'=>wpAny (model P w) (A.deeper (envOfC qual scope s.heap.objs.size f cd)) (leaving (envOfC qual scope s.heap.objs.size f cd) e) (λ_ s''=>CX outer H s E e s'') (λe' s''=>CX outer H s E e' s'') s'
def apC{sc:Scope}{n:Nat}{x:Str}(h:sc.names.lookup x=some .cell):∃c,(cellsFrom n sc.names []).lookup x=some c:=by
 have q:=Tz sc.names n [] (.inl h);exact afP.mp q
def afU{N ps:List Str}{cd:Value}{A:Around}{outer:List Env}{s s1:Shared}{H:Hp}{E:XK}{us:List Value}{vs:List V}{cb:Bool}
  (S:aK N ps scope) (hd:cb=true->A.handled=none) (e0:wW P w K mg base A outer s H) (hl:vs.length=ps.length) (r:Vals vs us)
  (x:InCallC s s.heap.objs.size (bindL (envOfC qual scope s.heap.objs.size f cd).kindOf (ps.zip us) λ_=>none) (cellsFrom (s.heap.objs.size+1) scope.names []) (bindC (envOfC qual scope s.heap.objs.size f cd).kindOf (ps.zip us) λ_=>none) s1):
  Inv { Ad CX P w K mg base N qual scope f cd A outer s H E with calm:=cb } [] (start N vs) H s1:=by
 have hpl:ps.length<=N.length:=by have:=congrArg ak7 S.pre;rw[nK]at this;lia
 intros h1 tk rfl hk x.done;have Jq:∀b:Addr,b∉(Ad CX P w K mg base N qual scope f cd A outer s H E).ex:=λb z=>absurd (show b∈([]:List Addr)from z) (by simp);refine{{e0.mod,S.kind,rfl,rfl,bO _,λy z c h1 h2=>?_,λy hy=>?_,λy c _ h=>?_,hd,Around.frames_deeper e0.frames,.inr {rfl,(rfl)},λb z=>absurd z (Jq b),e0.bs,e0.tE,λb _ _=>Jq b,λb z=>absurd z (Jq b),e0.n6,e0.wC,e0.tree,{_,(),S.gen,S.co,rfl,rfl}},
  rfl,e0.bare,Un.kept hk,{_,x.toInCall.ns,λi y v h1 h2 h3=>?_},λy c h=>{_,x.cell y c h},e0.hok.fresh (bO _),λy c h=>?_,λp hp=>absurd (show p∈([]:List (Addr×Obj))from hp) (by simp),e0.hok.kept hk,?_}
 .exact name_of_addr x.apart (vO h1) (vO h2)
 .have hy:scope.names.lookup y=some .cell∨scope.names.lookup y=some .free:=hy;rcases hy with hy|hy
  .exact apC hy
  .exact absurd rfl (S.abd _ (vO hy))
 .exact gW (x.above y c (vO h))
 .have hi:i<vs.length:=by
   unfold start at h2;by_cases hi:i<vs.length
   .exact hi
   .rw[List.getElem?_append_right (by simpa using hi)]at h2;rw[List.getElem?_replicate]at h2;split at h2<;>cases h2
  have ha:vs[i]?=some v:=by
   unfold start at h2;rw[List.getElem?_append_left (by simpa using hi),List.getElem?_map]at h2;cases e:vs[i]? with
   |none=>rw[e]at h2;cases h2
   |some a=>rw[e]at h2;cases h2;rfl
  obtain⟨u,hu,rv⟩:=r.get ha;have hp:ps[i]?=some y:=by
   rw[<-S.pre,List.getElem?_take_of_lt ⋯];exact h1
  have ndP:ps.Nodup:=by rw[<-S.pre];exact S.nd.sublist (List.take_sublist _ _)
  exists u,rv;rcases S.par y (List.mem_of_getElem? hp)with k|k
  .exact .inl {k,agB ndP hp hu k}
  .obtain⟨c,e⟩:=apC (n:=s.heap.objs.size+1) k;refine .inr {.inl k,c,e,?_};have q:=x.cell y c e;rw[ade ndP hp hu (by show scope.names.lookup y≠_;rw[k];decide)]at q;exact q
 .exact e0.hok.fresh (gW (x.above y c (vO h)))
 .unfold start;show _=N.length;rw[fP,aC,acf];lia
def aPa{k:Nat}{name:Str}{params:Arguments}{body:List Stmt}{dV kV doc pm cdv ct oc:Value}{an od:Option Addr}
  {osl:Array (Option Value)} {N ps:List Str} {sp:Sp} (lk:K.lookup f=some {oc,od,.func (nD name qual params body scope dV kV doc pm an cdv ct),osl}) (hcd:Aa K cdv qual=true) (S:aK N ps scope)
  (len:∀vs H Q E,sp vs H Q E->vs.length=ps.length)
  (hbody:∀(A:Around) (outer:List Env) (s:Shared) (H:Hp) (vs:List V) (Q:VK) (E:XK),cD k (A.deeper (envOfC qual scope s.heap.objs.size f cdv))->sp vs H Q E->
   ∃t,iy (Ad CX P w K mg base N qual scope f cdv A outer s H E) body t/\t { nx:=λ_ H'=>Q .non H',rt:=Q } (start N vs) H):
  jg P w K mg base CX (k+1) f (nD name qual params body scope dV kV doc pm an cdv ct) ps sp:=by
 refine{len,λA outer s H args us vs Q E hr e0 hb r hsp=>?_};have hl:=len _ _ _ _ hsp;have KX:K.In s.heap:=e0.mod.vI.keeps λb o e=>(e0.bs b o e).1;have lim:s.heap.NoLimit:=e0.mod.nolimit.keeps λb o e=>(e0.bs b o e).1;have hkind:∀y∈ps.zip us,scope.names.lookup y.1=some .local∨(scope.names.lookup y.1=some .cell/\((cellsFrom (s.heap.objs.size+1) scope.names []).lookup y.1).isSome=true):=λ⟨n,v⟩ hy=>by
  rcases S.par n (Ks hy).1 with q|q
  .exact .inl q
  .exact .inr {q,Tz _ _ _ (.inl q)}
 refine codeAny_call_function hr.depth (KX _ _ lk) rfl S.co S.gen rfl (W.codeRec_of KX hcd) (hb _ _ _ _ ?_);refine wpAny_newFunctionEnv_cells S.kind hkind λenv he s1 x=>?_;subst he;refine{lim.keeps x.toInCall.keep,codeAny_func ?_};obtain⟨t,ht,hq⟩:=hbody A outer s H vs Q E (hr.deeper _) hsp;have I:Inv (Ad CX P w K mg base N qual scope f cdv A outer s H E) [] (start N vs) H s1:=afU (cb:=true) S (λ_=>hr.hd) e0 hl r x;refine wpAny_mono (ht [] s1 (start N vs) H _ I hq) (λfl s' hs=>?_) λe s' hs=>hs;have fin:∀{σ':St} {H':Hp} {v:V} {u:Value},Inv (Ad CX P w K mg base N qual scope f cdv A outer s H E) [] σ' H' s'->RelV v u->Q v H'->CE outer P w H s Q u s':=
  λ{σ' H' v u} J rv q=>{v,H',J.os,J.bare,J.base,J.hok,rv,(q)}
 cases fl with
 |ret u=>
  intros v σ' H' J rv q hs;exact fin J rv q
 |next=>
  intros σ' H' J q hs;exact fin (v:=V.non) (u:=Value.none) J rfl q
 |brk=>
  intros _ _ _ q hs;exact False.elim q
 |cont=>
  intros _ _ _ q hs;exact False.elim q
end
section
variable {X:Cx} {x:Str} {p pos:Pos} {e:Expr} {es:List Expr} {t:TA} {id T:String} {r:List V->Hp->VK->Prop}
def Pk(r:List V->Hp->VK->Prop)(t:TA):TE:=λσ H Q=>t σ H λvs H1=>r vs H1 Q
def fH(hc:iM X (.builtin id) r)(hg:Gl X x)(hm:X.mg x=none)(hv:bootBuiltins x=some (.builtin id))(ha:PA X (e::es) t)(hn:x≠ "__name__" := by decide)(hdb:(x==("__debug__" : Str))=false:=by decide)
  (he:starEach (e::es) X.env=(false,eval e X.env)::starEach es X.env:=by rfl) (hpl:(backTo pos (starEach es X.env)).any (·.1)=false:=by rfl):PE X (.Call (.Name x p) (e::es) [] pos) (Pk r t):=by
 intro pins s σ H Q I h;refine wpAny_Call_Name_kw (Al I hg hm hv ?_ hn hdb);exact auk (aP (ha pos pins s σ H _ I h) λus s1 ⟨vs,H1,I1,r1,q1⟩=>hc pins s1 σ H1 vs us Q I1 r1 q1) he hpl
def eV(hc:iM X (.type T) r)(hg:Gl X x)(hm:X.mg x=none)(hv:bootBuiltins x=some (.type T))(ha:PA X (e::es) t)(hn:x≠ "__name__" := by decide)(hdb:(x==("__debug__" : Str))=false:=by decide)
  (he:starEach (e::es) X.env=(false,eval e X.env)::starEach es X.env:=by rfl) (hpl:(backTo pos (starEach es X.env)).any (·.1)=false:=by rfl):PE X (.Call (.Name x p) (e::es) [] pos) (Pk r t):=by
 intro pins s σ H Q I h;refine wpAny_Call_Name_kw (Al I hg hm hv ?_ hn hdb);exact NT (aP (ha pos pins s σ H _ I h) λus s1 ⟨vs,H1,I1,r1,q1⟩=>hc pins s1 σ H1 vs us Q I1 r1 q1) he hpl
end
end L2
namespace HT
open PySem PyProof.Rows
section
open PySem.SeqAt
open PySem.AutoSeq1 (wpAny_loadPart')
open PySem.MeetsSeq PySem.MeetsSeq2 PySem.MeetsSeq3
end
section
variable {prog:Program} {w:World} {A:Around} {E:Value->Shared->Prop} {s:Shared}
section
variable {t sl:Addr}{Q:Value->Shared->Prop}{vl vu:Value}{lo hi:Option Int}
def axI{b:Addr}{vs ws:List Value}(ht:IsTup s.heap t vs.toArray)(hb:IsTup s.heap b ws.toArray)(hv:vs≠[])
  (h1:ws=[]->Q (.ref t) s) (h2:ws≠[]->Q (.ref s.heap.objs.size) { s with heap:=s.heap.push { cls:= .type "tuple",data:= .seq (vs++ws).toArray } })
  (hsz:vs.length+ws.length<=sizeLine):wpAny (model prog w) A (binaryOp .Add (.ref t) (.ref b)) Q E s:=by
 obtain⟨⟨cls,dd,data,sl⟩,ho,hc,n,hd⟩:=id ht;obtain⟨⟨cls2,dd2,data2,sl2⟩,ho2,hc2,n2,hd2⟩:=id hb;simp only at hc hd hc2 hd2;subst hc hd hc2 hd2;have e:vs.toArray++ws.toArray=(vs++ws).toArray:=by simp
 by_cases hw:ws=[]
 .exact concat_meets {_,ho,rfl} {_,ho2,rfl} noFill_tuple_add seq_tuple_add aac Ud (Xv _ _)
   (tuple_addW1 t b vs.toArray ws.toArray n n2 dd dd2 sl sl2 (by simpa using hv) (by simp[hw])) {ho,ho2,h1 hw}
 .refine concat_meets {_,ho,rfl} {_,ho2,rfl} noFill_tuple_add seq_tuple_add aac Ud (Xv _ _)
   (tuple_addW2 t b vs.toArray ws.toArray n n2 dd dd2 sl sl2 (by simpa using hv) (by simpa using hw) (by rw[fj,fj];exact hsz)) {ho,ho2,?_}
  rw[e];exact h2 hw
def bW(n d:Nat):Option Int->Nat
 |none=>d
 |some v=>if v<0 then(v+(n:Int)).toNat else min v.toNat n
def zH(n d:Nat):bW n d none=d:=rfl
def xP(n d k:Nat):bW n d (some (k:Int))=min k n:=by
 show(if(k:Int)<0 then((k:Int)+(n:Int)).toNat else min (k:Int).toNat n)=min k n;rw[if_neg ⋯,d7]
def aIZ(n d:Nat)(hd:d<=n)(o:Option Int):bW n d o<=n:=by
 cases o with
 |none=>exact hd
 |some v=>
  show(if v<0 then(v+(n:Int)).toNat else min v.toNat n)<=n;by_cases hv:v<0
  .rw[if_pos hv];lia
  .rw[if_neg hv];exact aoK _ _
def aoe(v:Int)(n d:Nat):(if v<0 then max (v+(n:Int)) 0 else min v (n:Int))=((bW n d (some v):Nat):Int):=by
 show(if v<0 then max (v+(n:Int)) 0 else min v (n:Int))=(((if v<0 then(v+(n:Int)).toNat else min v.toNat n):Nat):Int);by_cases hv:v<0
 .simp only[if_pos hv];lia
 .simp only[if_neg hv];lia
def arK(lo hi:Option Int)(n:Nat):Builtin.Slice.sliceAdjust lo hi 1 (n:Int)=(((bW n 0 lo:Nat):Int),((bW n n hi:Nat):Int)):=by
 have h1:¬((1:Int)<0):=⋯;unfold Builtin.Slice.sliceAdjust;simp only[h1,if_false];refine Prod.ext ?_ ?_
 .cases lo with
  |none=>rfl
  |some v=>exact aoe v n 0
 .cases hi with
  |none=>rfl
  |some v=>exact aoe v n n
def awO(i j:Nat):Builtin.Slice.slicePlaces (i:Int) (j:Int) 1=j-i:=by
 unfold Builtin.Slice.slicePlaces;have h1:(1:Int)>0:=⋯;simp only[h1,if_true,Ze];split<;>lia
def ajw{v:Value}{o:Option Int}{Q:Option Int->Shared->Prop}(p:IsPart v o)(h:Q o s):wpAny (model prog w) A (Builtin.Slice.slicePartIndex v) Q E s:=by
 cases p with
 |none=>exact slicePart_none h
 |int i t=>exact slicePart_int h
def aox{n:Nat}{Q:Int×Int×Nat->Shared->Prop}(hs:s.heap.IsSliceOf sl vl vu .none)(pl:IsPart vl lo)(pu:IsPart vu hi)
  (h:Q (((bW n 0 lo:Nat):Int),1,bW n n hi-bW n 0 lo) s):wpAny (model prog w) A (Builtin.Slice.sliceApplied (.ref sl) (pure (n:Int))) Q E s:=by
 obtain⟨os,hos,hcs,hds⟩:=id hs;unfold Builtin.Slice.sliceApplied Builtin.Slice.sliceFields;refine wpAny_bind (wpAny_bind (wpAny_field hos hds (x:=vl) rfl (wpAny_bind (wpAny_field hos hds (x:=vu) rfl (wpAny_bind (wpAny_field hos hds (x:= .none) rfl (wpAny_pure ?_)))))));refine wpAny_bind (slicePart_none ?_);show wpAny _ _ (if((1:Int)==0)=true then _ else _) _ _ s;rw[if_neg ∅];refine wpAny_bind (ajw pl (wpAny_bind (ajw pu (wpAny_bind (wpAny_pure ?_)))));show wpAny _ _ (match Builtin.Slice.sliceAdjust lo hi 1 (n:Int)with|(lo,hi)=>pure (lo,(1:Int),Builtin.Slice.slicePlaces lo hi 1)) _ _ s
 rw[arK lo hi n];show wpAny _ _ (pure (((bW n 0 lo:Nat):Int),(1:Int),Builtin.Slice.slicePlaces ((bW n 0 lo:Nat):Int) ((bW n n hi:Nat):Int) 1)) _ _ s;rw[awO];exact wpAny_pure h
def aOS(xs:Array Value)(i k:Nat):((kj k).filterMap λ(m:Nat)=>xs[((i:Int)+(m:Int)*1).toNat]?).toArray=((xs.toList.drop i).take k).toArray:=by
 have e:(λ(m:Nat)=>xs[((i:Int)+(m:Int)*1).toNat]?)=λm=>xs[i+m]?:=by
  funext m
  have:((i:Int)+(m:Int)*1).toNat=i+m:=⋯;rw[this]
 rw[e];have:=pick_run xs i k;rw[List.filterMap_map]at this;have e2:((λx=>xs[x]?)∘λx=>i+x)=λm=>xs[i+m]?:=rfl;rw[e2]at this;rw[this]
def aHY{items:Array Value}(ht:IsTup s.heap t items)(hs:s.heap.IsSliceOf sl vl vu .none)(pl:IsPart vl lo)(pu:IsPart vu hi)
  (hw:¬(bW items.size 0 lo=0/\bW items.size items.size hi=items.size))
  (h:Q (.ref s.heap.objs.size) { s with heap:=s.heap.push { cls:= .type "tuple",data:= .seq ((items.toList.drop (bW items.size 0 lo)).take (bW items.size items.size hi-bW items.size 0 lo)).toArray } })
  (hsz:items.size<=sizeLine):wpAny (model prog w) A (getItem (.ref t) (.ref sl)) Q E s:=by
 have MF:sizeOk (.seq ((items.toList.drop (bW items.size 0 lo)).take (bW items.size items.size hi-bW items.size 0 lo)).toArray):=by
  show((items.toList.drop (bW items.size 0 lo)).take (bW items.size items.size hi-bW items.size 0 lo)).toArray.size<=sizeLine;rw[fj,nK,yL,K1];lia
 have hj:bW items.size items.size hi<=items.size:=aIZ _ _ (bO _) hi;obtain⟨os,hos,hcs,hds⟩:=id hs;have hTs:s.TypeIs (.ref sl) "slice" := {os,hos,(hcs)};unfold getItem;try with_reducible refine wpAny_holding ?_
 first|refine wpAny_bind (wpAny_pure ?_)|skip
 refine wpAny_bind (wpAny_sequenceKey ht.typeIs ∅ ?_);refine wpAny_bind (wpAny_callSpecial?_slot (name:=Str.ofString "__getitem__") ht.typeIs Bs
  (wpAny_call_entry Bs ht.typeIs entry_tuple_getitem ?_ (args_tuple_getitem _ _)))
 show wpAny _ _ (Builtin.Tuple.tupleItemsOf (.ref t)>>=_) _ _ s;refine wpAny_bind (tupleItemsOf_ ht ?_);refine wpAny_bind (wpAny_typeOf hTs ?_);rw[if_pos ∅];refine wpAny_bind (aox hs pl pu ?_);have hno:¬((((bW items.size 0 lo:Nat):Int)==0&&(1:Int)==1&&(bW items.size items.size hi-bW items.size 0 lo)==items.size)=true):=by
  intro q;rw[pH,pH]at q;have q1:((bW items.size 0 lo:Nat):Int)=0:=eq_of_beq q.1.1;have q2:bW items.size items.size hi-bW items.size 0 lo=items.size:=eq_of_beq q.2;exact hw {⋯,⋯}
 show wpAny _ _ (if(((bW items.size 0 lo:Nat):Int)==0&&(1:Int)==1&&(bW items.size items.size hi-bW items.size 0 lo)==items.size)=true then _ else _) _ _ s;rw[if_neg hno,aOS];first
  |exact wpAny_bind (m:=Builtin.Tuple.tupleExact _) (wpAny_newObj_type (wpAny_pure {(),wpAny_pure h}) MF)
  |exact wpAny_bind (m:=Builtin.Tuple.tupleExact _) (wpAny_newObj_type (wpAny_bind (wpAny_pure (wpAny_pure {(),wpAny_pure h}))) MF)
  |exact wpAny_bind (wpAny_bind (m:=Builtin.Tuple.tupleExact _) (wpAny_newObj_type (wpAny_pure (wpAny_pure {(),wpAny_pure h})) MF))
  |exact wpAny_bind (wpAny_bind (m:=Builtin.Tuple.tupleExact _) (wpAny_newObj_type (wpAny_pure {(),wpAny_pure h}) MF))
end
end
end HT
namespace L2
open PySem PySem.Spec PyProof.Rows
abbrev TO:=St->Hp->(Option Int->Hp->Prop)->Prop
def PO(X:Cx)(e:Option Expr)(t:TO):Prop:=
 ∀(pins:List (Addr×Obj)) (s:Shared) (σ:St) (H:Hp) (Q:Option Int->Hp->Prop),Inv X pins σ H s->t σ H Q->
  wpAny (model X.prog X.w) X.A (evalPart e X.env) (λu s'=>∃o H',Inv X pins σ H' s'/\IsPart u o/\Q o H') X.xe s
def aJB:TO:=λ_ H Q=>Q none H
inductive au2(x:V)(H:Hp)(Q:Option Int->Hp->Prop):Prop|mk (i:Int) (hx:x = .int i) (q:Q (some i) H)
def aIT(t:TE):TO:=λσ H Q=>t σ H λx H1=>au2 x H1 Q
def intsAre_of{ns:List Int}:∀{us:List Value},Vals (ns.map V.int) us->IntsAre us ns:=by
 induction ns with
 |nil=>intro us r;rw[Yo]at r;cases r;exact .nil
 |cons n ns ih=>
  intro us r;rw[kI]at r;cases r with
  |cons r1 r2=>
   intros t e r1;subst e;exact .cons n t (ih r2)
section
variable {X:Cx} {e:Expr} {te:TE} {lo hi:Option Expr} {tl th:TO} {pos p2:Pos}
def jH:PO X none aJB:=by
 intro pins s σ H Q I h;rw[evalPart_none];exact wpAny_pure {none,H,I,.none,h}
def jQ(h:PE X e te):PO X (some e) (aIT te):=by
 intro pins s σ H Q I hw;rw[evalPart_some];refine aP (h pins s σ H _ I hw) λu s1 ⟨x,H1,I1,r1,q1⟩=>?_;intros i rfl q q1;intros t rfl r1;exact{some i,H1,I1,.int i t,q}
def nW(X:Cx)(r:V->Option Int->Option Int->Hp->VK->Prop):Prop:=
 ∀(pins:List (Addr×Obj)) (s:Shared) (σ:St) (H:Hp) (x:V) (v vl vu:Value) (lo hi:Option Int) (sl:Addr) (Q:VK),Inv X pins σ H s->RelV x v->s.heap.IsSliceOf sl vl vu .none->IsPart vl lo->IsPart vu hi->r x lo hi H Q->
  ∃T id,typeLookup (.type T) "__getitem__" = pure (some (.builtin id))/\s.TypeIs v T/\wpAny (model X.prog X.w) X.A (getItem v (.ref sl)) (EP X pins σ Q) X.xe s
def nW.or{r r':V->Option Int->Option Int->Hp->VK->Prop}(h:nW X r)(h':nW X r'):nW X (λx lo hi H Q=>r x lo hi H Q∨r' x lo hi H Q):=by
 intro pins s σ H x v vl vu lo hi sl Q I rx hs pl pu q;rcases q with q|q
 .exact h pins s σ H x v vl vu lo hi sl Q I rx hs pl pu q
 .exact h' pins s σ H x v vl vu lo hi sl Q I rx hs pl pu q
def tSl(r:V->Option Int->Option Int->Hp->VK->Prop)(te:TE)(tl th:TO):TE:=λσ H Q=>te σ H λx H1=>tl σ H1 λl H2=>th σ H2 λu H3=>r x l u H3 Q
def jD{r:V->Option Int->Option Int->Hp->VK->Prop}(hr:nW X r)(he:PE X e te)(hl:PO X lo tl)(hu:PO X hi th):PE X (.Subscript e (.Slice lo hi none p2) pos) (tSl r te tl th):=by
 intro pins s σ H Q I h;refine Subscript_ (aP (he pins s σ H _ I h) λv s1 ⟨x,H1,I1,r1,q1⟩=>?_);refine wpAny_Slice (aP (hl pins s1 σ H1 _ I1 q1) λvl s2 ⟨l,H2,I2,pl,q2⟩=>aP (hu pins s2 σ H2 _ I2 q2) λvu s3 ⟨u,H3,I3,pu,q3⟩=>?_);rw[evalPart_none];refine wpAny_pure ?_;have I4:Inv X pins σ H3 { s3 with heap:=s3.heap.push { cls:= .type "slice",data:= .fields #[vl,vu,.none] } }:=I3.kept (t':=s3.toks) λb ob q=>Heap.get?_push_of_some _ q;obtain⟨T,id,hT,ht,hg⟩:=hr pins { s3 with heap:=s3.heap.push { cls:= .type "slice",data:= .fields #[vl,vu,.none] } } σ H3 x v vl vu l u s3.heap.objs.size Q I4 r1 (aye ..) pl pu q3;show wpAny (model X.prog X.w) X.A (subscriptTail e (.Slice lo hi none p2) v (.ref s3.heap.objs.size)) (EP X pins σ Q) X.xe { s3 with heap:=s3.heap.push { cls:= .type "slice",data:= .fields #[vl,vu,.none] } };exact tail_any (ops:=[.ref s3.heap.objs.size,v]) ht hT hg (by with_unfolding_all rfl)
def fY(xs:List V)(lo hi:Option Int):List V:=(xs.drop (HT.bW xs.length 0 lo)).take (HT.bW xs.length xs.length hi-HT.bW xs.length 0 lo)
def agA(xs:List V)(lo hi:Option Int):(fY xs lo hi).length<=xs.length:=by
 unfold fY;rw[nK,yL];lia
def avt(K:au):V->Option Int->Option Int->Hp->VK->Prop:=λx lo hi H Q=>∃a xs,x = .ref a/\ao K H a xs/\
 ¬(HT.bW xs.length 0 lo=0/\HT.bW xs.length xs.length hi=xs.length)/\∀p,H p=none->Q (.ref p) (upd H p (.tup (fY xs lo hi)))
def ax1:nW X (avt X.K):=by
 intro pins s σ H x v vl vu lo hi sl Q I rx hs pl pu h;intros a xs rfl hx hw q h;cases rx;obtain⟨its,r,ht,hz⟩:=I.tuple hx;have hlen:its.toArray.size=xs.length:=by rw[fj];exact r.length.symm
 exists "tuple",_,Bs.lookup,ht.typeIs;refine HT.aHY ht hs pl pu (by rw[hlen];exact hw) ?_ (by rw[hlen];exact hz);rw[hlen];refine{.ref s.heap.objs.size,_,I.laid (t':=s.toks) (o:= .tup (fY xs lo hi)) (λb ob q=>Heap.get?_push_of_some _ q) (bO _) ?_,rfl,q _ (I.hok.fresh (bO _))};exact{cT (agA xs lo hi) hz,_,(r.drop (HT.bW xs.length 0 lo)).take (HT.bW xs.length xs.length hi-HT.bW xs.length 0 lo),IsTup.new _ _}
def aLT(K:au):R2:=λx y H Q=>∃a b xs ys,x = .ref a/\y = .ref b/\ao K H a xs/\ao K H b ys/\xs≠[]/\xs.length+ys.length<=sizeLine/\
 (ys=[]->Q (.ref a) H)/\(ys≠[]->∀p,H p=none->Q (.ref p) (upd H p (.tup (xs++ys))))
def Vals.yW{xs:List V}{us:List Value}(r:Vals xs us):us=[]↔xs=[]:=by
 cases r with
 |nil=>simp
 |cons _ _=>simp
def aDK:cG X (binaryOp .Add) (aLT X.K):=by
 intro pins s σ H x y v u Q I rx ry h;intros a b xs ys rfl rfl ha hb hx hz q1 q2 h;cases rx;cases ry;obtain⟨its,r1,p1,_⟩:=I.tuple ha;obtain⟨its2,r2,p2,_⟩:=I.tuple hb;refine HT.axI p1 p2 (λz=>hx (r1.yW.mp z)) (λz=>{.ref a,H,I,rfl,q1 (r2.yW.mp z)}) (λz=>?_) (by rw[<-r1.length,<-r2.length];exact hz);refine{.ref s.heap.objs.size,_,I.laid (t':=s.toks) (o:= .tup (xs++ys)) (λb ob q=>Heap.get?_push_of_some _ q) (bO _) ?_,rfl,q2 (λw=>z (r2.yW.mpr w)) _ (I.hok.fresh (bO _))};exact{by rw[fP];exact hz,_,r1.append r2,IsTup.new _ _}
end
def vq(n:Nat)(i:Int):Option Nat:=if 0<=i then(if i<n then some i.toNat else none)else if -(n:Int)<=i then some (i+n).toNat else none
def iJ{α:Type}(xs:List α)(i:Int):Option α:=(vq xs.length i).bind λj=>xs[j]?
def aha{n:Nat}{i:Int}{j:Nat}(h:vq n i=some j):seqIndex? i n=some j/\j<n/\-(n:Int)<=i/\i<n:=by
 unfold vq at h;by_cases h0:0<=i
 .rw[if_pos h0]at h;by_cases h1:i<n
  .rw[if_pos h1]at h;have e:i.toNat=j:=m7 h;exact{by rw[seqIndex_of h0 h1,e],⋯,⋯,h1}
  .rw[if_neg h1]at h;cases h
 .rw[if_neg h0]at h;by_cases h1:-(n:Int)<=i
  .rw[if_pos h1]at h;have e:(i+n).toNat=j:=m7 h;exact{by rw[seqIndex_neg ⋯ h1,e],⋯,h1,⋯}
  .rw[if_neg h1]at h;cases h
def Yg{α:Type}{xs:List α}{i:Int}{v:α}(h:iJ xs i=some v):∃j,seqIndex? i xs.length=some j/\xs[j]?=some v/\j<xs.length/\-(xs.length:Int)<=i/\i<xs.length:=by
 unfold iJ at h;cases e:vq xs.length i with
 |none=>rw[e]at h;cases h
 |some j=>
  rw[e]at h;obtain⟨h1,h2,h3,h4⟩:=aha e;exact{j,h1,h,h2,h3,(h4)}
def qO{α:Type}{xs:List α}{j:Nat}{v:α}(h:xs[j]?=some v):iJ xs (j:Int)=some v:=by
 have hj:j<xs.length:=(List.getElem?_eq_some_iff.mp h).1;have e:vq xs.length (j:Int)=some j:=by
  unfold vq;rw[if_pos ⋯,if_pos ⋯];simp
 unfold iJ;rw[e];exact h
def ad4(b:Expr):Prop:=∀o i,subscripted b false o i=operate [o,i] (getItem o i)
def mO(X:Cx)(r:R2):Prop:=
 ∀(value slice:Expr) (pins:List (Addr×Obj)) (s:Shared) (σ:St) (H:Hp) (x y:V) (v u:Value) (Q:VK),Inv X pins σ H s->RelV x v->RelV y u->r x y H Q->
  subscripted slice false v u=operate [v,u] (getItem v u)->wpAny (model X.prog X.w) X.A (subscriptTail value slice v u) (EP X pins σ Q) X.xe s
def vm(X:Cx)(id:String)(r:V->List V->Hp->VK->Prop):Prop:=
 ∀(pins:List (Addr×Obj)) (s:Shared) (σ:St) (H:Hp) (x:V) (xs:List V) (v:Value) (us:List Value) (Q:VK),Inv X pins σ H s->RelV x v->Vals xs us->r x xs H Q->
  wpAny (model X.prog X.w) X.A (call (.builtin id) (v::us)) (EP X pins σ Q) X.xe s
section
variable {X:Cx} {a b:Expr} {ta tb:TE} {pos:Pos}
section
variable {r:R2}{pins:List (Addr×Obj)}{σ:St}{H:Hp}{s:Shared}{y x:V}{u v:Value}
def mO.or{r':R2}(h:mO X r)(h':mO X r'):mO X (λx y H Q=>r x y H Q∨r' x y H Q):=by
 intro value slice pins s σ H x y v u Q I rx ry q hs;rcases q with q|q
 .exact h value slice pins s σ H x y v u Q I rx ry q hs
 .exact h' value slice pins s σ H x y v u Q I rx ry q hs
def azv(hr:mO X r)(ha:PE X a ta)(hb:PE X b tb)(hs:ad4 b):PE X (.Subscript a b pos) (mZ r ta tb):=by
 intro pins s σ H Q I h;exact Subscript_ (aaf ha hb I h λv u s2 x y H2 I2 rx ry q=>hr a b pins s2 σ H2 x y v u Q I2 rx ry q (hs _ _))
def al6(K:au):R2:=λx y H Q=>∃p xs i v,x = .ref p/\y = .int i/\ak K H p xs/\iJ xs i=some v/\Q v H
def aj5(K:au):R2:=λx y H Q=>∃p xs i v,x = .ref p/\y = .int i/\ao K H p xs/\iJ xs i=some v/\Q v H
def aht:R2:=λx y H Q=>∃z i c,x = .str z/\y = .int i/\z.length<=sizeLine/\iJ z.cps.toList i=some c/\Q (.str {(#[c])}) H
def aPD:mO X (al6 X.K):=by
 intro value slice pins s σ H x y v u Q I rx ry h hs;intros p xs i z rfl rfl hq he q h;cases rx;intros t rfl ry;obtain⟨its,r,pl,hz⟩:=I.list hq;obtain⟨j,h1,h2,h3,h4,h5⟩:=Yg he;obtain⟨w,ew,mz⟩:=r.get h2;have hl:=r.length;have hn:=Ek;have fin:EP X pins σ Q w s:={z,H,I,mz,(q)};by_cases h0:0<=i
 .have hj:i.toNat=j:=by
   rw[seqIndex_of h0 h5]at h1;exact m7 h1
  exact item_listR pl.isList h0 ⋯ (by rw[hj];simpa using ew) fin hs
 .have hj:(i+(its.toArray.size:Int)).toNat=j:=by
   rw[seqIndex_neg ⋯ h4]at h1;rw[fj,<-hl];exact m7 h1
  exact subscriptTail_builtinR (x:=w) pl.isList.typeIs slot_list_getitem.lookup
   (wpAny_getItem_list_neg (Q:=λr s'=>r=w/\EP X pins σ Q r s') pl.isList ⋯ (by rw[fj]<;>lia) ⋯ (by rw[hj];simpa using ew) {rfl,(fin)}) hs
def aBi:mO X (aj5 X.K):=by
 intro value slice pins s σ H x y v u Q I rx ry h hs;intros p xs i z rfl rfl hq he q h;cases rx;intros t rfl ry;obtain⟨its,r,pl,hz⟩:=I.tuple hq;obtain⟨j,h1,h2,h3,h4,h5⟩:=Yg he;obtain⟨w,ew,mz⟩:=r.get h2;have hl:=r.length;have hn:=Ek;have fin:EP X pins σ Q w s:={z,H,I,mz,(q)};exact subscriptTail_builtinR (x:=w) pl.typeIs slot_tuple_getitem.lookup
  (getItem_tuple (j:=j) (Q:=λr s'=>r=w/\EP X pins σ Q r s') pl ⋯ ⋯ (by rw[fj,<-hl];exact h1) (by simpa using ew) {rfl,(fin)}) hs
def azz:mO X aht:=by
 intro value slice pins s σ H x y v u Q I rx ry h hs;intros z i c rfl rfl hz he q h;intros t rfl rx;intros t' rfl ry;obtain⟨j,h1,h2,h3,h4,h5⟩:=Yg he;have hl:z.cps.toList.length=z.length:=by simp[Str.length]
 rw[hl]at h1 h4 h5;have hn:=Ek;exact tail_any (typeIs_str s z t) slot_str_getitem.lookup (getItem_str (c:=c) (by
  have e1:decide (i < -(2^63:Int))=false:=decide_eq_false ⋯;have e2:decide (i≥2^63)=false:=decide_eq_false ⋯;rw[e1,e2,Bool.or_false]) (by rw[h1];simpa using h2) {.str {(#[c])},H,I.tok _,{()},q}) hs
def rIx(K:au):R2:=λx y H Q=>al6 K x y H Q∨aj5 K x y H Q∨aht x y H Q
def aCJ:mO X (rIx X.K):=aPD.or (aBi.or azz)
def aJS(its:List Value)(n j:Nat)(u:Value):GN (·.setIfInBounds j u) { cls:= .type "list",data:= .seq its.toArray n }={ cls:= .type "list",data:= .seq (its.set j u).toArray n }:=by
 simp[GN]
theorem Inv.lst{pins:List (Addr×Obj)}{σ:St}{H:Hp}{s:Shared}{p:Addr}{xs:List V}(I:Inv X pins σ H s)(h:H p=some (.lst xs)):
  ∃(its:List Value) (n:Nat),Vals xs its/\s.heap.get? p=some { cls:= .type "list",data:= .seq its.toArray n }/\xs.length<=sizeLine:=by
 obtain⟨z,its,n,r,e⟩:=I.hok p _ h;exact{its,n,r,e,(z)}
def Inv.aLK{p:Addr}{xs ys:List V}{its its':List Value}{n n':Nat}{f:Obj->Obj}(I:Inv X pins σ H s)(h:H p=some (.lst xs))
  (ho:s.heap.get? p=some { cls:= .type "list",data:= .seq its.toArray n }) (hf:f { cls:= .type "list",data:= .seq its.toArray n }={ cls:= .type "list",data:= .seq its'.toArray n' }) (r:Vals ys its') (hz:ys.length<=sizeLine) (t:Nat):
  Inv X pins σ (upd H p (.lst ys)) { s with heap:=s.heap.update p f,toks:=t }:=by
 have e:(s.heap.update p f).get? p=some { cls:= .type "list",data:= .seq its'.toArray n' }:=by
  rw[Heap.get?_update_self f ho (by rw[hf]<;>rfl),hf]
 refine I.write (x:=p) (e:=p) (by rw[h];trivial) (.inl rfl) (λb u hb q=>(Heap.get?_update_other _ _ (je hb)).trans q) {_,e} ?_;exact{hz,its',n',r,(e)}
inductive SSet(o i z:V)(H:Hp)(Q:Hp->Prop):Prop|mk (p:Addr) (xs:List V) (k:Int) (j:Nat) (ho:o = .ref p) (hi:i = .int k) (hp:H p=some (.lst xs)) (hj:vq xs.length k=some j) (q:Q (upd H p (.lst (xs.set j z))))
def aww:V->V->V->Hp->(Hp->Prop)->Prop:=λo i v H Q=>SSet o i v H Q
def set_list:agU X aww:=by
 intro pins s σ H o i v ov iv u Q I ro ri rv h;intros p xs k j rfl rfl hp hj q h;cases ro;intros t rfl ri;obtain⟨its,n,r,ho,hz⟩:=I.lst hp;obtain⟨h1,h2,h3,h4⟩:=aha hj;have hl:=r.length;have hn:=Ek;have I':Inv X pins σ (upd H p (.lst (xs.set j v))) { s with heap:=s.heap.update p (GN (·.setIfInBounds j u)) }:=
  I.aLK hp ho (aJS its n j u) (r.set rv j) (by rw[La];exact hz) s.toks
 by_cases h0:0<=k
 .have hk:k.toNat=j:=by
   rw[seqIndex_of h0 h4]at h1;exact m7 h1
  exact W.ki_setAt ho h0 ⋯ (by rw[fj,<-hl];exact h4) (by rw[hk];exact{_,I',q})
 .have hk:(k+(its.toArray.size:Int)).toNat=j:=by
   rw[seqIndex_neg ⋯ h3]at h1;rw[fj,<-hl];exact m7 h1
  exact W.ki_setBack ho ⋯ (by rw[fj,<-hl];exact h3) ⋯ (by rw[hk];exact{_,I',q})
def aJk(lo hi:Option Int)(n:Nat):(sliceBounds lo hi none n).1=((HT.bW n 0 lo:Nat):Int)/\(sliceBounds lo hi none n).2.1=((HT.bW n n hi:Nat):Int)/\(sliceBounds lo hi none n).2.2=1:=by
 refine{?_,?_,rfl}
 .cases lo with
  |none=>simp[sliceBounds,HT.bW]
  |some i=>
   simp only[sliceBounds,HT.bW,PN,(∅:(1:Int)>0),if_true];by_cases h:i<0
   .simp only[h,if_true]<;>lia
   .simp only[h,if_false]<;>lia
 .cases hi with
  |none=>simp[sliceBounds,HT.bW]
  |some i=>
   simp only[sliceBounds,HT.bW,PN,(∅:(1:Int)>0),if_true];by_cases h:i<0
   .simp only[h,if_true]<;>lia
   .simp only[h,if_false]<;>lia
def aE9(its:List Value)(lo hi:Option Int):slicePick its.toArray lo hi none=((its.drop (HT.bW its.length 0 lo)).take (HT.bW its.length its.length hi-HT.bW its.length 0 lo)).toArray:=by
 obtain⟨h1,h2,h3⟩:=aJk lo hi its.toArray.size;unfold slicePick;rw[h1,h2,h3];simp only[sliceRange_one,pick_run,fj]<;>rfl
def aIr(K:au):V->Option Int->Option Int->Hp->VK->Prop:=λx lo hi H Q=>∃a xs,x = .ref a/\ak K H a xs/\∀p,H p=none->Q (.ref p) (upd H p (.lst (fY xs lo hi)))
def aLV:nW X (aIr X.K):=by
 intro pins s σ H x v vl vu lo hi sl Q I rx hs pl pu h;intros a xs rfl hx q h;cases rx;obtain⟨its,r,ht,hz⟩:=I.list hx;have hlen:=r.length;exists "list",_,slot_list_getitem.lookup,ht.isList.typeIs;refine wpAny_getItem_list_slice ht.isList hs pl pu .none (by simp) ?_ (by rw[fj]<;>lia);rw[aE9,<-hlen];refine{.ref s.heap.objs.size,_,I.laid (t':=s.toks) (o:= .lst (fY xs lo hi)) (λb ob q=>Heap.get?_push_of_some _ q) (bO _) ?_,rfl,q _ (I.hok.fresh (bO _))};exact{cT (agA xs lo hi) hz,_,0,(r.drop (HT.bW xs.length 0 lo)).take (HT.bW xs.length xs.length hi-HT.bW xs.length 0 lo),Heap.get?_push_size _ rfl}
def jO:V->Bool
 |.non=>true
 |.bl _=>true
 |.int _=>true
 |.str _=>true
 |_=>false
def sI:V->V->Bool
 |.non,.non=>true
 |.bl a,.bl b=>a==b
 |.bl a,.int b=>(if a then 1 else 0)==b
 |.int a,.bl b=>a==(if b then 1 else 0)
 |.int a,.int b=>a==b
 |.str a,.str b=>a==b
 |_,_=>false
def aix{A:Around}(ry:RelV y u)(rx:RelV x v)(fy:jO y=true)(fx:jO x=true):SeqAt.EqAt A s u v (sI y x):=by
 cases y with
 |non=>
  cases ry;cases x with
  |non=>cases rx;exact SeqAt.EqAt.same _
  |bl b=>cases rx;exact SeqAt.EqAt.none_bool b
  |int b=>intros t rfl rx;exact SeqAt.EqAt.none_int b t
  |str b=>intros t rfl rx;exact SeqAt.EqAt.none_str b t
  |_=>exact absurd (show false=true from fx) fO
 |bl a=>
  cases ry;cases x with
  |non=>cases rx;exact SeqAt.EqAt.bool_none a
  |bl b=>cases rx;exact SeqAt.EqAt.bool_bool a b
  |int b=>intros t rfl rx;exact SeqAt.EqAt.bool_int a b t
  |str b=>intros t rfl rx;exact SeqAt.EqAt.bool_str a b t
  |_=>exact absurd (show false=true from fx) fO
 |int a=>
  intros t' rfl ry;cases x with
  |non=>cases rx;exact SeqAt.EqAt.int_none a t'
  |bl b=>cases rx;exact SeqAt.EqAt.int_bool a t' b
  |int b=>intros t rfl rx;exact SeqAt.EqAt.int_int a t' b t
  |str b=>intros t rfl rx;exact SeqAt.EqAt.int_str a t' b t
  |_=>exact absurd (show false=true from fx) fO
 |str a=>
  intros t' rfl ry;cases x with
  |non=>cases rx;exact SeqAt.EqAt.str_none a t'
  |bl b=>cases rx;exact SeqAt.EqAt.str_bool a t' b
  |int b=>intros t rfl rx;exact SeqAt.EqAt.str_int a t' b t
  |str b=>intros t rfl rx;exact SeqAt.EqAt.str_str a t' b t
  |_=>exact absurd (show false=true from fx) fO
 |_=>exact absurd (show false=true from fy) fO
def vd(x:V)(u:Value):Bool:=match u with
 |.none=>sI .non x
 |.bool b=>sI (.bl b) x
 |.int i _=>sI (.int i) x
 |.str z _=>sI (.str z) x
 |_=>false
def agv(r:RelV y u)(f:jO y=true):vd x u=sI y x:=by
 cases y with
 |non=>cases r;rfl
 |bl b=>cases r;rfl
 |int i=>intros t rfl r;rfl
 |str z=>intros t rfl r;rfl
 |_=>exact absurd (show false=true from f) fO
theorem Ru{x:V}:∀{xs:List V} {us:List Value},Vals xs us->xs.all jO=true->us.any (vd x)=xs.any λy=>sI y x
 |_,_,.nil,_=>rfl
 |y::xs,u::us,.cons r t,f=>by
  rw[U8,pH]at f;rw[Hi,Hi,agv r f.1,Ru t f.2]
theorem aaF{A:Around}{s:Shared}{x:V}{v:Value}(rx:RelV x v)(fx:jO x=true):∀{xs:List V} {us:List Value},Vals xs us->xs.all jO=true->∀u∈us,SeqAt.EqAt A s u v (vd x u)
 |_,_,.nil,_=>λu hu=>by cases hu
 |y::xs,u::us,.cons r t,f=>λu' hu=>by
  rw[U8,pH]at f;rcases cX.mp hu with rfl|hu
  .rw[agv r f.1];exact aix r rx f.1 fx
  .exact aaF rx fx t f.2 u' hu
def inV(x:V)(xs:List V):Bool:=xs.any λy=>sI y x
def Qn(K:au)(neg:Bool):R2:=λx y H Q=>∃p xs,y = .ref p/\(ak K H p xs∨ao K H p xs)/\jO x=true/\xs.all jO=true/\Q (.bl (if neg then !inV x xs else inV x xs)) H
def asB:cG X (compareOp .In) (Qn X.K false):=by
 intro pins s σ H x y v u Q I rx ry h;intros p xs rfl hq fx fs q h;cases ry;rcases hq with hq|hq
 .obtain⟨its,r,pl,hz⟩:=I.list hq;refine SeqAt.in_listAt (vd x) pl.isList (λw hw=>aaF rx fx r fs w (by simpa using hw)) {.bl _,H,I,rfl,?_};rw[show its.toArray.any (vd x)=its.any (vd x)by simp,Ru r fs];exact q
 .obtain⟨its,r,pl,hz⟩:=I.tuple hq;refine SeqAt.in_tupleAt (vd x) pl (λw hw=>aaF rx fx r fs w (by simpa using hw)) {.bl _,H,I,rfl,?_};rw[show its.toArray.any (vd x)=its.any (vd x)by simp,Ru r fs];exact q
def aBG:iM X (.type "list") (λxs H Q=>∃p ys,xs=[.ref p]/\(ak X.K H p ys∨ao X.K H p ys)/\∀l,H l=none->Q (.ref l) (upd H l (.lst ys))):=by
 intro pins s σ H xs us Q I r h;intros p ys rfl hq q h;obtain⟨u,rfl,rx⟩:=vals1 r;cases rx;have fin:∀(its:List Value),Vals ys its->ys.length<=sizeLine->∀(h':Heap) (c':Nat),(∀b o',s.heap.get? b=some o'->h'.get? b=some o')->
   h'.get? s.heap.objs.size=some { cls:= .type "list",dict:=none,data:= .seq its.toArray c',slots:=#[] }->EP X pins σ Q (.ref s.heap.objs.size) { s with heap:=h' }:=λits r' hz h' c' kp e=>
  {.ref s.heap.objs.size,_,I.laid (t':=s.toks) kp (bO _) (show cW X.prog X.w _ h' _ (.lst ys)from{hz,its,c',r',(e)}),rfl,q _ (I.hok.fresh (bO _))}
 rcases hq with hq|hq
 .obtain⟨its,r',pl,hz⟩:=I.list hq;have hlen:=r'.length;intros o ho hc n hd pl.isList;exact call_list_seq p (.inl rfl) ho hc hd (λh' c' kp e=>fin its r' hz h' c' kp e) (by simp only[fj]<;>lia)
 .obtain⟨its,r',pl,hz⟩:=I.tuple hq;have hlen:=r'.length;intros o ho hc n hd pl;exact call_list_seq p (.inr rfl) ho hc hd (λh' c' kp e=>fin its r' hz h' c' kp e) (by simp only[fj]<;>lia)
def aKu:iM X (.type "tuple") (λxs H Q=>∃p ys,xs=[.ref p]/\((ak X.K H p ys/\∀l,H l=none->Q (.ref l) (upd H l (.tup ys)))∨(ao X.K H p ys/\Q (.ref p) H))):=by
 intro pins s σ H xs us Q I r h;intros p ys rfl h h;obtain⟨u,rfl,rx⟩:=vals1 r;cases rx;rcases h with⟨hq,q⟩|⟨hq,q⟩
 .obtain⟨its,r',pl,hz⟩:=I.list hq;have hlen:=r'.length;refine call_tuple_list pl.isList (λh' kp=>?_) (by simp only[fj]<;>lia);have I1:Inv X pins σ H { s with heap:=h' }:=I.kept (t':=s.toks) kp;have I2:Inv X pins σ (upd H h'.objs.size (.tup ys)) { s with heap:=h'.push { cls:= .type "tuple",data:= .seq its.toArray } }:=
   I1.laid (t':=s.toks) (λb o e=>Heap.get?_push_of_some _ e) (bO _) (show cW X.prog X.w _ _ _ (.tup ys)from{hz,its,r',IsTup.new _ _})
  exact{.ref h'.objs.size,_,I2,rfl,q _ (I1.hok.fresh (bO _))}
 .obtain⟨its,r',pl,hz⟩:=I.tuple hq;exact call_tuple_same pl {.ref p,H,I,rfl,q}
def YQ(K:au)(T:String)(x:V)(H:Hp):Prop:=match x with
 |.str _=>T = "str"
 |.int _=>T = "int"
 |.ref p=>(T = "list" /\ ∃xs,ak K H p xs)∨(T = "tuple" /\ ∃o,K.lookup p=some o/\o.cls = .type "tuple" /\ o.dict=none)∨
   (T = "dict" /\ ((∃kvs,H p=some (.dK kvs))∨∃kvs,H p=some (.dT kvs)))∨(T = "set" /\ ∃S n,H p=some (.set S n))
 |_=>False
def apG{T:String}(I:Inv X pins σ H s)(r:RelV x v)(ty:YQ X.K T x H):
  s.TypeIs v T/\∀a,v = .ref a->∃ob,s.heap.get? a=some ob/\ob.dict=none:=by
 cases x with
 |str z=>
  intros t rfl r;cases (show T = "str" from ty);exact{typeIs_str s z t,λ_ e=>nomatch e}
 |int i=>
  intros t rfl r;cases (show T = "int" from ty);exact{typeIs_int s i t,λ_ e=>nomatch e}
 |ref p=>
  cases r;rcases ty with⟨rfl,xs,hq⟩|⟨rfl,o,hk,hc,hd⟩|⟨rfl,hk⟩|⟨rfl,S,n,hk⟩
  .obtain⟨its,_,pl,_⟩:=I.list hq;refine{pl.isList.typeIs,λa e=>?_};cases e;intros o n e c hd _ pl;exact{o,e,(hd)}
  .refine{{o,I.dz p o hk,hc},λa e=>?_};cases e;exact{o,I.dz _ o hk,hd}
  .have z:∃o,s.heap.get? p=some o/\o.ExactDict:=by
    rcases hk with⟨kvs,hk⟩|⟨kvs,hk⟩
    .obtain⟨_,_,_,_,o,_,_,e,ex,_⟩:=I.hok p _ hk;exact{o,e,(ex)}
    .obtain⟨_,_,_,_,o,_,_,e,ex,_⟩:=I.hok p _ hk;exact{o,e,(ex)}
   intros o e ex z;refine{{o,e,(ex.1)},λa e2=>?_};cases e2;exact{o,e,(ex.2.1)}
  .obtain⟨o,_,_,_,e,ex,_⟩:=I.hok p _ hk;refine{{o,e,(ex.1)},λa e2=>?_};cases e2;exact{o,e,(ex.2.1)}
 |_=>exact False.elim ty
inductive aJW(K:au)(T:String)(r:V->List V->Hp->VK->Prop)(x:V)(H:Hp)(Q:VK):Prop|mk (h:YQ K T x H) (q:r x [] H Q)
def aqn(K:au)(T:String)(r:V->List V->Hp->VK->Prop)(to:TE):TE:=λσ H Q=>to σ H λx H1=>aJW K T r x H1 Q
inductive SBM(K:au)(T:String)(r:V->List V->Hp->VK->Prop)(t:TA)(x:V)(σ:St)(H:Hp)(Q:VK):Prop|mk (h:YQ K T x H) (q:t σ H λxs H2=>r x xs H2 Q)
def Oh(K:au)(T:String)(r:V->List V->Hp->VK->Prop)(to:TE)(t:TA):TE:=λσ H Q=>to σ H λx H1=>SBM K T r t x σ H1 Q
end
variable {o e:Expr} {es:List Expr} {to:TE} {t:TA} {name:Str} {apos cpos:Pos} {T id:String} {r:V->List V->Hp->VK->Prop}
def aO4(pa:PlainAttrs T)(slot:Slot T name id)(hty:typeOf (.builtin id)=pure (.type "method_descriptor"))(hm:vm X id r)(ho:PE X o to)
  (hbase:attributeBase o name X.env (eval o X.env)=eval o X.env:=by rfl) (hline:(apos.endLine==cpos.line)=true:=by rfl):PE X (.Call (.Attribute o name apos) [] [] cpos) (aqn X.K T r to):=by
 intro pins s σ H Q I h;refine wpAny_Call_method0_late hbase hline (aP (ho pins s σ H _ I h) λv s1 ⟨x,H1,I1,r1,ty,q1⟩=>?_);obtain⟨h1,h2⟩:=apG I1 r1 ty;exact{T,id,pa,slot,hty,h1,h2,PK rfl (PySem.evalArgs_none (hm pins s1 σ H1 x [] v [] Q I1 r1 .nil q1))}
def U6(pa:PlainAttrs T)(slot:Slot T name id)(hty:typeOf (.builtin id)=pure (.type "method_descriptor"))(hm:vm X id r)(ho:PE X o to)(ha:PA X (e::es) t)
  (hbase:attributeBase o name X.env (eval o X.env)=eval o X.env:=by rfl)
  (hfew:((backTo cpos (starEach (e::es) X.env)).all (λx=>!x.1)&&(backToKw cpos (keywordEach [] X.env)).all (λx=>x.1.isSome)
   && decide ((e::es).length+([]:List Keyword).length+(if([]:List Keyword).isEmpty then 0 else 1)<30))=true:=by rfl)
  (hline:(apos.endLine==cpos.line)=true:=by rfl) (hs:starEach (e::es) X.env=(false,eval e X.env)::starEach es X.env:=by rfl) (hplain:(backTo cpos (starEach es X.env)).any (·.1)=false:=by rfl):
  PE X (.Call (.Attribute o name apos) (e::es) [] cpos) (Oh X.K T r to t):=by
 intro pins s σ H Q I h;refine wpAny_Call_method_late hbase hfew hline rfl (aP (ho pins s σ H _ I h) λv s1 ⟨x,H1,I1,r1,ty,q1⟩=>?_);obtain⟨h1,h2⟩:=apG I1 r1 ty;exists T,id,pa,slot,hty,h1,h2;have hA:=ha cpos pins s1 σ H1 _ I1 q1;rw[hs]at hA⊢;refine PK (by show(false||(backTo cpos (starEach es X.env)).any (·.1))=false;rw[hplain]<;>rfl) (KR ?_);exact aP hA λus s2 ⟨vs,H2,I2,r2,q2⟩=>hm pins s2 σ H2 x vs v us Q I2 r1 r2 q2
end
def MtM(X:Cx)(id:String)(r:V->List V->Hp->VK->Prop):Prop:=
 ∀(pins:List (Addr×Obj)) (s:Shared) (σ:St) (H:Hp) (x:V) (xs:List V) (v:Value) (us:List Value) (Q:VK),Inv X pins σ H s->RelV x v->Vals xs us->r x xs H Q->
  wpAny (model X.prog X.w) X.A (call (.builtin id) (v::us)) (EP X pins σ Q) X.xe s
def Vals.one{x:V}{us:List Value}(h:Vals [x] us):∃u,us=[u]/\RelV x u:=by
 cases h with
 |cons r h=>cases h;exact{(),r}
def Vals.two{x y:V}{us:List Value}(h:Vals [x,y] us):∃u v,us=[u,v]/\RelV x u/\RelV y v:=by
 cases h with
 |cons r h=>
  obtain⟨v,rfl,q⟩:=Vals.one h;exact{_,(),r,q}
theorem Vals.rep{xs:List V}{us:List Value}(h:Vals xs us):∀k:Nat,Vals (cO k xs).flatten (cO k us).flatten
 |0=> .nil
 |k+1=>by
  rw[wV,wV,AK,AK];exact Vals.append h (Vals.rep h k)
theorem foldl_rep(its:List Value):∀(k:Nat) (acc:List Value),
  NW (λx1 x2=>x1++x2) acc.toArray (cO k its.toArray)=(acc++(cO k its).flatten).toArray
 |0,acc=>by simp
 |k+1,acc=>by
  have e:acc.toArray++its.toArray=(acc++its).toArray:=by simp
  have e2:(acc++its)++(cO k its).flatten=acc++(cO (k+1) its).flatten:=by
   rw[wV,AK,abD]
  rw[<-e2,<-foldl_rep its k (acc++its),<-e,wV,abG]
section
variable {X:Cx} {pins:List (Addr×Obj)} {σ:St} {H:Hp} {s:Shared} {l b:Addr} {xs ys zs:List V}
def Inv.ag9{its its':List Value}{n:Nat}{f:Array Value->Array Value}{t':Nat}(I:Inv X pins σ H s)(hH:H l=some (.lst xs))
  (e:s.heap.get? l=some { cls:= .type "list",data:= .seq its.toArray n }) (hf:f its.toArray=its'.toArray) (hv:Vals ys its') (hz:ys.length<=sizeLine):
  Inv X pins σ (upd H l (.lst ys)) { s with heap:=s.heap.update l (GN f),toks:=t' }:=by
 have q:=PySem.IsL.update e f;rw[hf]at q;refine I.write (x:=l) (e:=l) (by rw[hH];exact trivial) (.inl rfl) (λb' u hb hu=>(Heap.get?_update_other s.heap (GN f) (je hb)).trans hu) {_,q} ?_;exact{hz,its',_,hv,q}
def Inv.MQ{its:List Value}{t':Nat}(I:Inv X pins σ H s)(hv:Vals ys its)(hz:ys.length<=sizeLine):
  Inv X pins σ (upd H s.heap.objs.size (.lst ys)) { s with heap:=s.heap.push { cls:= .type "list",data:= .seq its.toArray },toks:=t' }:=
 I.laid (λ_ _ q=>Heap.get?_push_of_some _ q) (bO _) {hz,its,0,hv,Heap.get?_push_size _ rfl}
theorem Inv.fresh(I:Inv X pins σ H s):H s.heap.objs.size=none:=I.hok.fresh (bO _)
def Inv.uU(I:Inv X pins σ H s)(hH:H l=some (.lst xs)):xs.length<=sizeLine/\∃(its:List Value) (n:Nat),Vals xs its/\xs.length=its.length/\s.heap.get? l=some { cls:= .type "list",data:= .seq its.toArray n }:=by
 obtain⟨z,its,n,r,e⟩:=I.hok l _ hH;exact{z,its,n,r,r.length,(e)}
def ale{n:Nat}(h:n<=sizeLine):Builtin.List.listTooLong n=false:=by
 unfold Builtin.List.listTooLong;exact decide_eq_false ⋯
end
section
variable {X:Cx}
inductive awi(x:V)(vs:List V)(H:Hp)(Q:VK):Prop|mk (l:Addr) (xs:List V) (y:V) (hx:x = .ref l) (hv:vs=[y]) (hl:H l=some (.lst xs)) (hz:xs.length<sizeLine) (q:Q .non (upd H l (.lst (xs++[y]))))
def apl:V->List V->Hp->VK->Prop:=λx vs H Q=>awi x vs H Q
def aqW:MtM X "list.append" apl:=by
 intro pins s σ H x vs v us Q I rx rv h;intros l xs y rfl rfl hH hz q h;cases rx;intros u rfl ru rv.one;obtain⟨z,its,n,r,hl,e⟩:=I.uU hH;refine call_meets F.slot_list_append {_,e,rfl} F.entry_list_append (F.args_list_append_2 _ _) (PySem.list_append l its.toArray n u (by rw[fj];lia)) {e,?_};refine{.non,_,I.ag9 (its':=its++[u]) hH e (by simp) (r.append (.cons ru .nil)) ?_,rfl,q};rw[fP,XH];lia
def akZ:V->List V->Hp->VK->Prop:=λx vs H Q=>∃l b xs zs,x = .ref l/\vs=[.ref b]/\H l=some (.lst xs)/\H b=some (.lst zs)/\xs.length+zs.length<=sizeLine/\Q .non (upd H l (.lst (xs++zs)))
def ayJ:MtM X "list.extend" akZ:=by
 intro pins s σ H x vs v us Q I rx rv h;intros l b xs zs rfl rfl hH hB hz q h;cases rx;intros u rfl ru rv.one;cases ru;obtain⟨z,its,n,r,hl,e⟩:=I.uU hH;obtain⟨z2,its2,n2,r2,hl2,e2⟩:=I.uU hB;have hsz:its.toArray.size+its2.toArray.size<=sizeLine:=by rw[fj,fj];lia
 have UZ:¬(!its.toArray.isEmpty&&Builtin.List.listTooLong (its.toArray.size+its2.toArray.size))=true:=by
  rw[ale hsz,Bool.and_false];exact fO
 refine call_meets F.slot_list_extend {_,e,rfl} F.entry_list_extend (F.args_list_extend_2 _ _)
  (AutoSeq1.list_extend_list_list_0 l its.toArray n b its2.toArray n2 UZ (by rw[fj];lia) ⋯) {e,e2,?_}
 refine{.non,_,I.ag9 (its':=its++its2) hH e (by simp) (r.append r2) ?_,rfl,q};rw[fP];lia
def aEr:R2:=λx y H Q=>∃l b xs zs,x = .ref l/\y = .ref b/\H l=some (.lst xs)/\H b=some (.lst zs)/\xs.length+zs.length<=sizeLine/\∀p,H p=none->Q (.ref p) (upd H p (.lst (xs++zs)))
def arq:cG X (binaryOp .Add) aEr:=by
 intro pins s σ H x y v u Q I rx ry h;intros l b xs zs rfl rfl hH hB hz q h;cases rx;cases ry;obtain⟨z,its,n,r,hl,e⟩:=I.uU hH;obtain⟨z2,its2,n2,r2,hl2,e2⟩:=I.uU hB;refine PySem.P.add_list e e2 ?_ (by rw[fj,fj];lia);have ea:its.toArray++its2.toArray=(its++its2).toArray:=by simp
 rw[ea];exact{.ref _,_,I.MQ (t':=s.toks) (r.append r2) (by rw[fP];lia),rfl,q _ I.fresh}
def az3:R2:=λx y H Q=>∃l k xs,x = .ref l/\y = .int k/\H l=some (.lst xs)/\-(2^63)<=k/\k<2^63/\xs.length*k.toNat<=sizeLine/\
 ∀p,H p=none->Q (.ref p) (upd H p (.lst (cO k.toNat xs).flatten))
def len_rep{α:Type}(xs:List α)(k:Nat):(cO k xs).flatten.length=k*xs.length:=by
 induction k with
 |zero=>simp
 |succ k ih=>rw[wV,AK,fP,ih,oW,YC]
def aEJ:cG X (binaryOp .Mult) az3:=by
 intro pins s σ H x y v u Q I rx ry h;intros l k xs rfl rfl hH h1 h2 hz q h;cases rx;intros t rfl ry;obtain⟨z,its,n,r,hl,e⟩:=I.uU hH;have hlen:its.toArray.size*k.toNat<=sizeLine:=by rw[fj,<-hl];exact hz
 have hcap:¬its.toArray.size*k.toNat>(2^63-1)/8:=by
  have:(sizeLine:Nat)<=(2^63-1)/8:=∅;lia
 have hfit:¬(!Builtin.List.listFitsIndex k)=true:=by
  rw[fitsIndex_both h1 h2];exact fO
 have UZ:¬Builtin.List.listTooLong (its.toArray.size*k.toNat)=true:=by
  rw[ale hlen];exact fO
 have hnew:NW (λx1 x2=>x1++x2) #[] (cO (if its.toArray.isEmpty=true then 0 else k.toNat) its.toArray)=(cO k.toNat its).flatten.toArray:=by
  have f0:∀m:Nat,NW (λx1 x2=>x1++x2) #[] (cO m its.toArray)=(cO m its).flatten.toArray:=λm=>by
   have:=foldl_rep its m [];rw[amX]at this;exact this
  rw[f0];cases its with
  |nil=>simp
  |cons a r'=>rw[if_neg (by simp)]
 refine wpAny_binaryOp_repeat_ref (T:= "list") (U:= "int") ∅ {_,e,rfl} (λs'=>typeIs_int s' k t) noFill_list_mul Z1 N5 repeat_list Y4.lookup
  (call_meets N5 (typeIs_int s k t) alW (acV _ _) (int___rmul___int_list k t l its.toArray n)
   {e,rfl,{_,e,rfl},call_meets F.slot_list_mul {_,e,rfl} F.entry_list_mul (F.args_list_mul_2 _ _) (AutoListH.list___mul___list_int_3 l its.toArray n k t hfit hcap UZ) {e,?_}})
 rw[hnew];exact{.ref _,_,I.MQ (t':=s.toks) (r.rep k.toNat) (by rw[len_rep,oF];exact hz),rfl,q _ I.fresh}
end
section
variable {prog:Program} {w:World} {A:Around} {E:Value->Shared->Prop} {s:Shared}
end
section
variable {X:Cx}
end
section
variable {κ:Type} [DecidableEq κ]
section
variable {p:κ×V}{r kvs:List (κ×V)}{k:κ}{vs:List (κ×Value)}
def dH(kvs:List (κ×V))(k:κ):Option V:=(kvs.find? λkv=>decide (kv.1=k)).map (·.2)
def putK(kvs:List (κ×V))(k:κ)(v:V):List (κ×V):=
 if(kvs.any λkv=>decide (kv.1=k))=true then kvs.map (λkv=>if kv.1=k then(kv.1,v)else kv)else kvs++[(k,v)]
def lF(kvs:List (κ×V))(k:κ):List (κ×V):=kvs.filter λkv=>decide (kv.1≠k)
def mR(e:p.1=k):dH (p::r) k=some p.2:=by simp[dH,List.find?_cons,e]
def j9(e:¬p.1=k):dH (p::r) k=dH r k:=by simp[dH,List.find?_cons,e]
theorem N8(k:κ):∀kvs:List (κ×V),(kvs.any λkv=>decide (kv.1=k))=(dH kvs k).isSome
 |[]=>rfl
 |p::r=>by
  rw[Hi];by_cases e:p.1=k
  .simp only[mR e,decide_eq_true e,Bool.true_or,Option.isSome_some]
  .rw[j9 e,decide_eq_false e,Bool.false_or];exact N8 k r
theorem agq(k j:κ)(y:V):∀kvs:List (κ×V),dH (kvs.map λkv=>if kv.1=k then(kv.1,y)else kv) j=(dH kvs j).map λx=>if j=k then y else x
 |[]=>rfl
 |p::r=>by
  have ih:=agq k j y r;rw[kI];by_cases h:p.1=k
  .rw[if_pos h];by_cases e:p.1=j
   .rw[mR (p:=(p.1,y)) e,mR e,PJ,if_pos (e.symm.trans h)]
   .rw[j9 (p:=(p.1,y)) e,j9 e,ih]
  .rw[if_neg h];by_cases e:p.1=j
   .rw[mR (p:=p) e,mR e,PJ,if_neg (λz=>h (e.trans z))]
   .rw[j9 (p:=p) e,j9 e,ih]
theorem ai7(k j:κ)(y:V):∀kvs:List (κ×V),dH kvs k=none->dH (kvs++[(k,y)]) j=if j=k then some y else dH kvs j
 |[],_=>by
  by_cases e:k=j
  .rw[if_pos e.symm];exact mR (p:=(k,y)) e
  .rw[if_neg (λz=>e z.symm)];exact j9 (p:=(k,y)) e
 |p::r,hn=>by
  rw[List.cons_append];have hk:¬p.1=k:=λz=>by rw[mR z]at hn;cases hn
  rw[j9 hk]at hn;have ih:=ai7 k j y r hn;by_cases e:p.1=j
  .rw[mR e,mR e,if_neg (λz=>hk (e.trans z))]
  .rw[j9 e,j9 e,ih]
def aMr(kvs:List (κ×V))(k j:κ)(y:V):dH (putK kvs k y) j=if j=k then some y else dH kvs j:=by
 unfold putK;by_cases a:(kvs.any λkv=>decide (kv.1=k))=true
 .rw[if_pos a,agq];rw[N8]at a;by_cases e:j=k
  .obtain⟨x,hx⟩:=afP.mp a;rw[if_pos e,e,hx,PJ,if_pos rfl]
  .rw[if_neg e];cases dH kvs j with
   |none=>rfl
   |some x=>rw[PJ,if_neg e]
 .rw[if_neg a];refine ai7 k j y kvs ?_;rw[N8]at a;cases q:dH kvs k with
  |none=>rfl
  |some x=>rw[q]at a;exact(a rfl).elim
def YV(kvs:List (κ×V))(k:κ)(v:V):(putK kvs k v).length<=kvs.length+1:=by
 unfold putK;split
 .rw[aC];lia
 .rw[fP,kO,an7];lia
def iH.Iw{o:Option V}{u:Option Value}(r:iH o u):o.isSome=u.isSome:=by
 cases o with
 |none=>cases u with
  |none=>rfl
  |some _=>exact(show False from r).elim
 |some _=>cases u with
  |none=>exact(show False from r).elim
  |some _=>rfl
theorem iH.getD{o:Option V}{u:Option Value}{d:V}{d':Value}(r:iH o u)(rd:RelV d d'):RelV (o.getD d) (u.getD d'):=by
 cases o with
 |none=>cases u with
  |none=>exact rd
  |some _=>exact(show False from r).elim
 |some _=>cases u with
  |none=>exact(show False from r).elim
  |some _=>exact r
def KV.val(r:KV kvs vs)(k:κ):iH (dH kvs k) (valueAt vs k):=by
 unfold KV at r;induction r with
 |nil=>exact True.intro
 |@cons p q ps qs h t ih=>
  intros h1 h2 h;by_cases e:p.1=k
  .have e':q.1=k:=h1.symm.trans e;have b:valueAt (q::qs) k=some q.2:=by simp[valueAt,List.find?_cons,e']
   rw[mR e,b];exact h2
  .have e':¬q.1=k:=λz=>e (h1.trans z);have b:valueAt (q::qs) k=valueAt qs k:=by simp[valueAt,List.find?_cons,e']
   rw[j9 e,b];exact ih
theorem KV.any{kvs:List (κ×V)}{vs:List (κ×Value)}(r:KV kvs vs)(k:κ):(kvs.any λkv=>decide (kv.1=k))=vs.any λkv=>decide (kv.1=k):=by
 unfold KV at r;induction r with
 |nil=>rfl
 |cons h t ih=>rw[Hi,Hi,ih,h.1]
def KV.repl(r:KV kvs vs)(k:κ){y:V}{u:Value}(ry:RelV y u):
  KV (kvs.map λkv=>if kv.1=k then(kv.1,y)else kv) (vs.map λkv=>if kv.1=k then(kv.1,u)else kv):=by
 unfold KV at r⊢;induction r with
 |nil=>exact .nil
 |@cons p q ps qs h t ih=>
  rw[kI,kI];refine .cons ?_ ih;intros h1 h2 h;by_cases e:p.1=k
  .rw[if_pos e,if_pos (h1.symm.trans e)];exact{h1,(ry)}
  .rw[if_neg e,if_neg (λz=>e (h1.trans z))];exact{h1,(h2)}
def KV.put(r:KV kvs vs)(k:κ){y:V}{u:Value}(ry:RelV y u):KV (putK kvs k y) (stored vs k u):=by
 unfold putK stored;rw[r.any k];by_cases e:(vs.any λkv=>decide (kv.1=k))=true
 .rw[if_pos e,if_pos e];exact r.repl k ry
 .rw[if_neg e,if_neg e];exact Paired.snoc r {rfl,(ry)}
def KV.drop{kvs:List (κ×V)}{vs:List (κ×Value)}(r:KV kvs vs)(k:κ):KV (lF kvs k) (without vs k):=by
 unfold KV at r⊢;unfold lF without;induction r with
 |nil=>exact .nil
 |@cons p q ps qs h t ih=>
  intros h1 h2 h;rw[pZ,pZ];by_cases e:p.1=k
  .have a:¬decide (p.1≠k)=true:=by simp[e]
   have b:¬decide (q.1≠k)=true:=by simp[h1.symm.trans e]
   rw[if_neg a,if_neg b];exact ih
  .have e':¬q.1=k:=λz=>e (h1.trans z);have a:decide (p.1≠k)=true:=by simp[e]
   have b:decide (q.1≠k)=true:=by simp[e']
   rw[if_pos a,if_pos b];exact .cons {h1,(h2)} ih
theorem KV.length{kvs:List (κ×V)}{vs:List (κ×Value)}(r:KV kvs vs):kvs.length=vs.length:=Paired.length r
def ahY(kvs:List (κ×V))(k:κ):(lF kvs k).length<=kvs.length:=Lh _ _
end
end
section
variable {H:Hp}{kvs:List (List Key×V)}{xs:List (List Key×Addr×Value)}
def zj{P:Program}{w:World}{k:Key}{u:Value}(r:RelV (kV k) u):(gq P w).is k u=true:=by
 cases k with
 |inl i=>obtain⟨t,e⟩:=(show ∃t,u=Value.int i t from r);subst e;exact aDl P w i t
 |inr x=>obtain⟨t,e⟩:=(show ∃t,u=Value.str x t from r);subst e;exact Jt P w x t
theorem aek{P:Program}{w:World}:∀{ks:List Key} {us:List Value},Vals (ks.map kV) us->ItemsAre (gq P w) ks us
 |[],_,r=>by rw[Yo]at r;cases r;exact .nil
 |k::ks,_,r=>by
  rw[kI]at r;cases r with
  |cons h t=>exact .cons (zj h) (aek t)
abbrev KT(H:Hp):List (List Key×V)->List (List Key×Addr×Value)->Prop:=Paired λp q=>p.1=q.1/\H q.2.1=some (.tup (p.1.map kV))/\RelV p.2 q.2.2
def KT.val(r:KT H kvs xs)(k:List Key):iH (dH kvs k) ((atKey xs k).map (·.2)):=by
 induction r with
 |nil=>exact True.intro
 |@cons p q ps qs h t ih=>
  intros h1 _ h2 h;by_cases e:p.1=k
  .have e':q.1=k:=h1.symm.trans e;have b:atKey (q::qs) k=some q.2:=by simp[atKey,List.find?_cons,e']
   rw[mR e,b];exact h2
  .have e':¬q.1=k:=λz=>e (h1.trans z);have b:atKey (q::qs) k=atKey qs k:=by simp[atKey,List.find?_cons,e']
   rw[j9 e,b];exact ih
def KT.repl(r:KT H kvs xs)(k:List Key){y:V}{u:Value}(ry:RelV y u):
  KT H (kvs.map λkv=>if kv.1=k then(kv.1,y)else kv) (xs.map (putAt k u)):=by
 induction r with
 |nil=>exact .nil
 |@cons p q ps qs h t ih=>
  rw[kI,kI];refine .cons ?_ ih;intros h1 h2 h3 h;unfold putAt;by_cases e:p.1=k
  .rw[if_pos e,if_pos (h1.symm.trans e)];exact{h1,h2,(ry)}
  .rw[if_neg e,if_neg (λz=>e (h1.trans z))];exact{h1,h2,(h3)}
def KT.put(r:KT H kvs xs)(k:List Key){b:Addr}{y:V}{u:Value}(hb:H b=some (.tup (k.map kV)))(ry:RelV y u):
  KT H (putK kvs k y) (storedH xs k b u):=by
 have e:(kvs.any λkv=>decide (kv.1=k))=(atKey xs k).isSome:=by
  rw[N8,(r.val k).Iw,Xk]
 unfold putK storedH;rw[e];by_cases q:(atKey xs k).isSome=true
 .rw[if_pos q,if_pos q];exact r.repl k ry
 .rw[if_neg q,if_neg q];exact Paired.snoc r {rfl,hb,(ry)}
def KT.keeps{H':Hp}(r:KT H kvs xs)(ht:∀b ys,H b=some (.tup ys)->H' b=some (.tup ys)):KT H' kvs xs:=
 Paired.FQ r λ_ _ z=>{z.1,ht _ _ z.2.1,z.2.2}
end
section
variable {P:Program} {w:World} {H:Hp} {h:Heap} {a:Addr}
def anT{u:HO}(ok:d8 P w H h)(e:Rd H a u):cW P w H h a u:=e.ok ok
def wZ{kvs:List (Key×V)}(ok:d8 P w H h)(e:Rd H a (.dK kvs)):kvs.length<=sizeLine/\(a==sysModules)=false/\∃vs,KV kvs vs/\h.DictOf (gq P w) a vs:=
 show cW P w H h a (.dK kvs)from anT ok e
def ahN{kvs:List (Key×V)}(ok:d8 P w H h)(e:H a=some (.dK kvs)):kvs.length<=sizeLine/\(a==sysModules)=false/\∃vs,KV kvs vs/\h.DictOf (gq P w) a vs:=wZ ok (.inl e)
def Cw{ks:List Key}(ok:d8 P w H h)(e:H a=some (.tup (ks.map kV))):(tupleKind (gq P w)).is h ks a:=by
 obtain⟨_,its,r,o,h1,h2,n,h3⟩:=(show cW P w H h a (.tup (ks.map kV))from ok a _ e);exact{o,its.toArray,n,h1,h2,h3,by simpa using aek r}
def yD{kvs:List (List Key×V)}(ok:d8 P w H h)(e:Rd H a (.dT kvs)):kvs.length<=sizeLine/\(a==sysModules)=false/\
  ∃xs,KT H kvs xs/\h.DictOfH (tupleKind (gq P w)) a xs:=by
 obtain⟨z,y,xs,r,o,es,ep,h1,h2,h3,h4,h5⟩:=(show cW P w H h a (.dT kvs)from anT ok e);refine{z,y,xs,r,o,es,ep,h1,h2,h3,h4,λx hx=>?_,h5};have all:∀{l:List (List Key×V)} {m:List (List Key×Addr×Value)},KT H l m->∀x∈m,(tupleKind (gq P w)).is h x.1 x.2.1:=by
  intro l m q;induction q with
  |nil=>intro x hx;exact nomatch hx
  |@cons p q ps qs hq t ih=>
   intro x hx;rcases cX.mp hx with e|hx
   .subst e;exact Cw ok (by rw[<-hq.1];exact hq.2.1)
   .exact ih x hx
 exact all r x hx
def aNs{kvs:List (List Key×V)}(ok:d8 P w H h)(e:H a=some (.dT kvs)):kvs.length<=sizeLine/\(a==sysModules)=false/\
  ∃xs,KT H kvs xs/\h.DictOfH (tupleKind (gq P w)) a xs:=yD ok (.inl e)
end
def jC(H:Hp)(a:Addr)(y:V)(r:Option V):Prop:=
 (∃kvs k,Rd H a (.dK kvs)/\y=kV k/\r=dH kvs k)∨∃kvs k b,Rd H a (.dT kvs)/\y = .ref b/\H b=some (.tup (k.map kV))/\r=dH kvs k
def xO(H:Hp)(a:Addr)(y v:V)(H':Hp):Prop:=
 (∃kvs k,H a=some (.dK kvs)/\y=kV k/\kvs.length<sizeLine/\H'=upd H a (.dK (putK kvs k v)))∨
 ∃kvs k b,H a=some (.dT kvs)/\y = .ref b/\H b=some (.tup (k.map kV))/\kvs.length<sizeLine/\H'=upd H a (.dT (putK kvs k v))
theorem jC.k{H:Hp}{a:Addr}{kvs:List (Key×V)}{k:Key}(e:H a=some (.dK kvs)):jC H a (kV k) (dH kvs k):= .inl {kvs,k,.inl e,rfl,rfl}
theorem xO.k{H:Hp}{a:Addr}{kvs:List (Key×V)}{k:Key}{v:V}(e:H a=some (.dK kvs))(hl:kvs.length<sizeLine):xO H a (kV k) v (upd H a (.dK (putK kvs k v))):= .inl {kvs,k,e,rfl,hl,(rfl)}
section
variable {X:Cx} {pins:List (Addr×Obj)} {σ:St} {H:Hp} {s:Shared} {a:Addr} {y v:V} {u r:Value} {o:Option V} {A:Around} {E:Value->Shared->Prop}
section
variable {Q:Value->Shared->Prop}{h':Heap}{H':Hp}
def Inv.big(I:Inv X pins σ H s):sysModules<s.heap.objs.size:=by
 have h:mainGlobals<s.heap.objs.size:=(I.mod.glob.keeps I.bk).lt;exact Bw ∅ h
def aBm(hu:A.units+1<cLine)(I:Inv X pins σ H s)(g:jC H a y (some v))(ry:RelV y u)(h:∀w' s',Inv X pins σ H s'->RelV v w'->Q w' s'):
  wpAny (model X.prog X.w) A (getItem (.ref a) u) Q E s:=by
 rcases g with⟨kvs,k,e,ey,l⟩|⟨kvs,k,b,e,ey,eb,l⟩
 .subst ey;obtain⟨z,hd,vs,rel,dd⟩:=wZ I.hok e;obtain⟨w',hw,mz⟩:=iH.some_of (v:=v) (o:=valueAt vs k) (by rw[l];exact rel.val k);exact wpAny_getItem_of (zj ry) dd.mapOf hw (h w' _ (I.tok _) mz)
 .subst ey;cases (show u=Value.ref b from ry);obtain⟨z,hd,xs,rel,dd⟩:=yD I.hok e;obtain⟨w',hw,mz⟩:=iH.some_of (v:=v) (o:=(atKey xs k).map (·.2)) (by rw[l];exact rel.val k);obtain⟨p,hp,hp2⟩:=Option.map_eq_some_iff.mp hw;refine wpAny_getItem_heap (tupleKind_room_in1 hu) (Cw I.hok eb) dd hp ?_;rw[hp2];exact h w' _ (I.tok _) mz
def aFI(hu:A.units+1<cLine)(I:Inv X pins σ H s)(g:jC H a y o)(ry:RelV y u)(h:∀s',Inv X pins σ H s'->Q (.bool o.isSome) s'):
  wpAny (model X.prog X.w) A (compareOp .In u (.ref a)) Q E s:=by
 rcases g with⟨kvs,k,e,ey,l⟩|⟨kvs,k,b,e,ey,eb,l⟩
 .subst ey;obtain⟨z,hd,vs,rel,dd⟩:=wZ I.hok e;refine wpAny_in_of (zj ry) hd dd.mapOf ?_;rw[<-(rel.val k).Iw,<-l];exact h _ (I.tok _)
 .subst ey;cases (show u=Value.ref b from ry);obtain⟨z,hd,xs,rel,dd⟩:=yD I.hok e;refine wpAny_in_heap (tupleKind_room_in1 hu) (Cw I.hok eb) hd dd ?_;have q:=(rel.val k).Iw;rw[Xk]at q;rw[<-q,<-l];exact h _ (I.tok _)
def aOW(hu:A.units+1<cLine)(I:Inv X pins σ H s)(g:jC H a y o)(ry:RelV y u)(h:∀s',Inv X pins σ H s'->Q (.bool (!o.isSome)) s'):
  wpAny (model X.prog X.w) A (compareOp .NotIn u (.ref a)) Q E s:=by
 rcases g with⟨kvs,k,e,ey,l⟩|⟨kvs,k,b,e,ey,eb,l⟩
 .subst ey;obtain⟨z,hd,vs,rel,dd⟩:=wZ I.hok e;refine wpAny_notIn_of (zj ry) hd dd.mapOf ?_;rw[<-(rel.val k).Iw,<-l];exact h _ (I.tok _)
 .subst ey;cases (show u=Value.ref b from ry);obtain⟨z,hd,xs,rel,dd⟩:=yD I.hok e;refine wpAny_notIn_heap (tupleKind_room_in1 hu) (Cw I.hok eb) hd dd ?_;have q:=(rel.val k).Iw;rw[Xk]at q;rw[<-q,<-l];exact h _ (I.tok _)
def aaJ{t':Nat}{ob:HO}(I:Inv X pins σ H s)(mu:Hl (H a))(hs:xY a s.heap h')(he:∃q,h'.get? a=some q)(new:cW X.prog X.w (upd H a ob) h' a ob):
  Inv X pins σ (upd H a ob) { s with heap:=h',toks:=t' }:=
 I.write (x:=a) (e:=a) mu (.inl rfl) (λb q hb z=>(hs.2 b hb).trans z) he new
def anJ{P:Program}{w:World}{kvs:List (Key×V)}{vs:List (Key×Value)}(z:kvs.length<=sizeLine)(hd:(a==sysModules)=false)(rel:KV kvs vs)(dd:h'.DictOf (gq P w) a vs):
  cW P w H' h' a (.dK kvs):={z,hd,vs,rel,(dd)}
def aBw{Q:Unit->Shared->Prop}(hu:A.units+1<cLine)(I:Inv X pins σ H s)(g:xO H a y v H')(ry:RelV y u)(rv:RelV v r)(h:∀s',Inv X pins σ H' s'->Q () s'):
  wpAny (model X.prog X.w) A (setItem (.ref a) u r) Q E s:=by
 rcases g with⟨kvs,k,e,ey,l,eH⟩|⟨kvs,k,b,e,ey,eb,l,eH⟩
 .subst ey eH;obtain⟨z,hd,vs,rel,dd⟩:=ahN I.hok e;have hz:vs.length<=sizeLine:=by rw[<-rel.length];exact z
  have hl:(putK kvs k v).length<=sizeLine:=by have:=YV kvs k v;lia
  refine wpAny_setItem_pairs (hsz:=hz) (zj ry) dd λh' wY hs=>h _ ?_;have he:∃q,h'.get? a=some q:=let⟨q,_,_,hq,_⟩:=wY;{q,(hq)};exact aaJ I (by rw[e];exact True.intro) hs he (anJ hl hd (rel.put k rv) wY)
 .subst ey eH;cases (show u=Value.ref b from ry);obtain⟨z,hd,xs,rel,dd⟩:=aNs I.hok e;have hz:xs.length<=sizeLine:=by rw[<-Paired.length rel];exact z
  have hl:(putK kvs k v).length<=sizeLine:=by have:=YV kvs k v;lia
  refine wpAny_setItem_heap (hsz:=hz) (tupleKind_room_in1 hu) (Cw I.hok eb) dd λh' wY hs=>h _ ?_;intros q es ep hq h2 h3 h4 _ h5 wY;refine aaJ I (by rw[e];exact True.intro) hs {q,(hq)} {hl,hd,_,(rel.put k eb rv).keeps λc ys ec=>?_,q,es,ep,hq,h2,h3,h4,h5};rw[cI (mj ec e (λz=>nomatch z))];exact ec
end
end
section
variable {X:Cx} {pins:List (Addr×Obj)} {σ:St} {H:Hp} {s:Shared} {a:Addr} {kvs:List (Key×V)} {k:Key} {u:Value} {A:Around} {E:Value->Shared->Prop}
def arV{v:V}{more:List Value}{Q:Value->Shared->Prop}(I:Inv X pins σ H s)(e:H a=some (.dK kvs))(ry:RelV (kV k) u)(l:dH kvs k=some v)(hm:more=[]∨∃x,more=[x])
  (h:∀w' s',Inv X pins σ (upd H a (.dK (lF kvs k))) s'->RelV v w'->Q w' s'):wpAny (model X.prog X.w) A (call (.builtin "dict.pop") (.ref a::u::more)) Q E s:=by
 obtain⟨z,hd,vs,rel,dd⟩:=ahN I.hok e;obtain⟨w',hw,mz⟩:=iH.some_of (v:=v) (o:=valueAt vs k) (by rw[<-l];exact rel.val k);have hp:(keyPart u).isSome=true:=by
  cases k with
  |inl i=>obtain⟨t,q⟩:=(show ∃t,u=Value.int i t from ry);subst q;rfl
  |inr x=>obtain⟨t,q⟩:=(show ∃t,u=Value.str x t from ry);subst q;rfl
 have ha:argsOk "dict.pop" {.ref a::u::more,[]}:=by
  rcases hm with q|⟨x,q⟩
  .subst q;exact PySem.F.args_dict_pop_2 _ _
  .subst q;exact PySem.F.args_dict_pop_3 _ _ _
 refine call_meetsIn agL dd.typeIs PySem.F.entry_dict_pop ha (meets_dict_pop_there (gq X.prog X.w) a (zj ry) more hm hp)
  {vs,w',dd,by rw[<-rel.length];exact z,hw,λh' wY hs=>h w' _ ?_ mz}
 have he:∃q,h'.get? a=some q:=let⟨q,_,_,hq,_⟩:=wY;{q,(hq)};exact aaJ I (by rw[e];exact True.intro) hs he (anJ (cT (ahY kvs k) z) hd (rel.drop k) wY)
end
def Ez(i:Expr):Prop:=∀ov iv,subscripted i false ov iv=operate [ov,iv] (getItem ov iv)
def Rj{prog:Program}{w:World}{A:Around}{E:Value->Shared->Prop}{s:Shared}{env:Env}{value slice:Expr}{pos:Pos}{T id:String}{Q:Value->Shared->Prop}
  (hl:typeLookup (.type T) "__getitem__" = pure (some (.builtin id))) (hs:Ez slice)
  (h:wpAny (model prog w) A (eval value env) (λo s₁=>wpAny (model prog w) A (eval slice env) (λi s₂=>s₂.TypeIs o T/\wpAny (model prog w) A (getItem o i) Q E s₂) E s₁) E s):
  wpAny (model prog w) A (eval (.Subscript value slice pos) env) Q E s:=by
 refine Subscript_ (wpAny_mono h (λo s₁ h₁=>wpAny_mono h₁ (λi s₂ h₂=>?_) λ_ _ x=>x) λ_ _ x=>x);intros hT h₂ h₂;unfold subscriptTail;refine wpAny_bind ?_;rw[getitemInPython_of_ne hT.not_modules];refine wpAny_bind (wpAny_specialOf hT hl ?_);have fin:wpAny (model prog w) A (subscripted slice false o i) (λr s₃=>wpAny (model prog w) A (letTemporaryGo value o r>>=λ_=>pure r) Q E s₃) E s₂:=by
  rw[hs o i];exact wpAny_operating (wpAny_mono h₂ (λr s₃ h₃=>wpAny_bind (wpAny_letTemporaryGo (wpAny_pure h₃))) λ_ _ x=>x)
 first
  |exact wpAny_pure (wpAny_bind fin)
  |exact wpAny_bind (wpAny_pure (wpAny_bind fin))
  |exact wpAny_bind fin
def azg{X:Cx}{pins:List (Addr×Obj)}{σ:St}{H:Hp}{s:Shared}{a:Addr}{y:V}{o:Option V}(I:Inv X pins σ H s)(g:jC H a y o):s.TypeIs (.ref a) "dict" := by
 rcases g with⟨kvs,k,e,_,_⟩|⟨kvs,k,b,e,_,_,_⟩
 .obtain⟨_,_,vs,_,dd⟩:=wZ I.hok e;exact dd.typeIs
 .obtain⟨_,_,xs,_,dd⟩:=yD I.hok e;exact dd.typeIs
inductive aLm(x y:V)(H:Hp)(Q:VK):Prop|mk (a:Addr) (v:V) (hx:x = .ref a) (hg:jC H a y (some v)) (q:Q v H)
def aGw(td ty:TE):TE:=λσ H Q=>td σ H λx H1=>ty σ H1 λy H2=>aLm x y H2 Q
def aAt(ty td:TE):TE:=λσ H Q=>ty σ H λy H1=>td σ H1 λx H2=>∃a o,x = .ref a/\jC H2 a y o/\Q (.bl o.isSome) H2
def SQ(ty td:TE):TE:=λσ H Q=>ty σ H λy H1=>td σ H1 λx H2=>∃a o,x = .ref a/\jC H2 a y o/\Q (.bl (!o.isSome)) H2
inductive aPq(x y v:V)(σ:St)(H:Hp)(Q:St->Hp->Prop):Prop|mk (a:Addr) (H4:Hp) (hx:x = .ref a) (hp:xO H a y v H4) (q:Q σ H4)
def axh(td ty tv:TE):TS:=λD σ H=>tv σ H λv H1=>td σ H1 λx H2=>ty σ H2 λy H3=>aPq x y v σ H3 D.nx
section
variable {X:Cx} {o i e value:Expr} {pos pos' tpos:Pos} {td ty tv:TE}
def Bu(hu:X.A.units+1<cLine)(ho:PE X o td)(hi:PE X i ty)(hs:Ez i):PE X (.Subscript o i pos) (aGw td ty):=by
 intro pins s σ H Q I h;refine Rj abx.lookup hs (aP (ho pins s σ H _ I h) λu s1 ⟨x,H1,I1,rx,q1⟩=>aP (hi pins s1 σ H1 _ I1 q1) λiv s2 ⟨y,H2,I2,ry,a,v,ex,g,q2⟩=>?_);subst ex;obtain rfl:u=Value.ref a:=rx;exact{azg I2 g,aBm hu I2 g ry λw' s3 I3 mz=>{v,H2,I3,mz,(q2)}}
def aHl(hu:X.A.units+1<cLine)(hi:PE X i ty)(ho:PE X o td):PC X .In i o (aAt ty td):=by
 intro pins s σ H Q I h;refine aP (hi pins s σ H _ I h) λiv s1 ⟨y,H1,I1,ry,q1⟩=>aP (ho pins s1 σ H1 _ I1 q1) λu s2 ⟨x,H2,I2,rx,a,ov,ex,g,q2⟩=>?_;subst ex;obtain rfl:u=Value.ref a:=rx;exact aFI hu I2 g ry λs3 I3=>{.bl ov.isSome,H2,I3,rfl,q2}
def Ox(hu:X.A.units+1<cLine)(hi:PE X i ty)(ho:PE X o td):PC X .NotIn i o (SQ ty td):=by
 intro pins s σ H Q I h;refine aP (hi pins s σ H _ I h) λiv s1 ⟨y,H1,I1,ry,q1⟩=>aP (ho pins s1 σ H1 _ I1 q1) λu s2 ⟨x,H2,I2,rx,a,ov,ex,g,q2⟩=>?_;subst ex;obtain rfl:u=Value.ref a:=rx;exact aOW hu I2 g ry λs3 I3=>{.bl (!ov.isSome),H2,I3,rfl,q2}
def Lx(hu:X.A.units+1<cLine)(ho:PE X o td)(hi:PE X i ty)(hv:PE X value tv)(hs:swapsWith value (some (.Subscript o i pos')) pos.line X.env=pure false):
  PS X (.Assign [.Subscript o i pos'] value pos) (axh td ty tv):=by
 intro pins s σ H D I h;refine wpAny_Assign_Subscript (aP (hv pins s σ H _ I h) λr s1 ⟨v,H1,I1,rv,q1⟩=>aP (ho pins s1 σ H1 _ I1 q1) λu s2 ⟨x,H2,I2,rx,q2⟩=>aP (hi pins s2 σ H2 _ I2 q2) λiv s3 ⟨y,H3,I3,ry,a,H4,ex,g,q3⟩=>?_) hs;subst ex;obtain rfl:u=Value.ref a:=rx;exact aBw hu I3 g ry rv λs4 I4=>{σ,H4,I4,(q3)}
end
def aHx{P:Program}{w:World}{H:Hp}(h:Heap)(hb:sysModules<h.objs.size):cW P w H (h.push { cls:= .type "dict",data:= .dict #[] }) h.objs.size (.dK []):=
 {dW _,beq_eq_false_iff_ne.mpr (je (iG hb)),[],.nil,Heap.DictOf.new h}
def aNm:TE:=λ_ H Q=>∀p,H p=none->Q (.ref p) (upd H p (.dK []))
section
variable {X:Cx} {pos:Pos}
def al4:PE X (.Dict [] [] pos) aNm:=λpins s σ H Q I h=>
 wpAny_Dict_empty {.ref s.heap.objs.size,_,I.laid (a:=s.heap.objs.size) (o:= .dK []) (t':=s.toks) (λ_ _ q=>Heap.get?_push_of_some _ q) (bO _) (aHx s.heap I.big),rfl,h _ (I.hok.fresh (bO _))}
end
structure M1(X:Cx)(o:Expr)(m:Str)(apos:Pos)(e:Expr)(cpos:Pos):Prop where
 base:attributeBase o m X.env (eval o X.env)=eval o X.env
 few:((backTo cpos (starEach [e] X.env)).all (λx=>!x.1)&&(backToKw cpos (keywordEach [] X.env)).all (λx=>x.1.isSome)
  && decide (([e]:List Expr).length+([]:List Keyword).length+(if([]:List Keyword).isEmpty then 0 else 1)<30))=true
 line:(apos.endLine==cpos.line)=true
 trees:backTo cpos (starEach [e] X.env)=[(false,eval e X.env)]
structure M2(X:Cx)(o:Expr)(m:Str)(apos:Pos)(e f:Expr)(cpos:Pos):Prop where
 base:attributeBase o m X.env (eval o X.env)=eval o X.env
 few:((backTo cpos (starEach [e,f] X.env)).all (λx=>!x.1)&&(backToKw cpos (keywordEach [] X.env)).all (λx=>x.1.isSome)
  && decide (([e,f]:List Expr).length+([]:List Keyword).length+(if([]:List Keyword).isEmpty then 0 else 1)<30))=true
 line:(apos.endLine==cpos.line)=true
 trees:backTo cpos (starEach [e,f] X.env)=[(false,eval e X.env),(false,eval f X.env)]
def Wj(H:Hp)(a:Addr):Prop:=(∃kvs,Rd H a (.dK kvs))∨∃kvs,Rd H a (.dT kvs)
def ak4{X:Cx}{pins:List (Addr×Obj)}{σ:St}{H:Hp}{s:Shared}{a:Addr}(I:Inv X pins σ H s)(d:Wj H a):
  s.TypeIs (.ref a) "dict" /\ (∀b,Value.ref a = .ref b->∃ob,s.heap.get? b=some ob/\ob.dict=none)/\(a==sysModules)=false:=by
 rcases d with⟨kvs,e⟩|⟨kvs,e⟩
 .obtain⟨_,hd,vs,_,dd⟩:=wZ I.hok e;refine{dd.typeIs,λb q=>?_,hd};cases q;intros ob _ _ h1 h2 _ dd;exact{ob,h1,(h2.2.1)}
 .obtain⟨_,hd,xs,_,dd⟩:=yD I.hok e;refine{dd.typeIs,λb q=>?_,hd};cases q;intros ob _ _ h1 h2 _ dd;exact{ob,h1,(h2.2.1)}
section
variable {X:Cx} {pins:List (Addr×Obj)} {σ:St} {H:Hp} {s:Shared} {a:Addr} {y d:V} {u r:Value} {o:Option V} {A:Around} {E:Value->Shared->Prop}
def aAP{Q:Value->Shared->Prop}(hu:A.units+1<cLine)(I:Inv X pins σ H s)(g:jC H a y o)(ry:RelV y u)(rd:RelV d r)(h:∀w' s',Inv X pins σ H s'->RelV (o.getD d) w'->Q w' s'):
  wpAny (model X.prog X.w) A (call (.builtin "dict.get") [.ref a,u,r]) Q E s:=by
 rcases g with⟨kvs,k,e,ey,l⟩|⟨kvs,k,b,e,ey,eb,l⟩
 .subst ey;obtain⟨z,hd,vs,rel,dd⟩:=wZ I.hok e;refine call_meetsIn Rq dd.typeIs amu (ahL _ _ _) (meets_dict_get_default (gq X.prog X.w) a (zj ry) hd r) {_,dd.mapOf,h _ _ (I.tok _) ?_};rw[l];exact(rel.val k).getD rd
 .subst ey;cases (show u=Value.ref b from ry);obtain⟨z,hd,xs,rel,dd⟩:=yD I.hok e;refine call_meetsIn Rq dd.typeIs amu (ahL _ _ _) (meetsH_dict_get_default (tupleKind (gq X.prog X.w)) a b hd r) {tupleKind_room_in1 hu,k,xs,Cw I.hok eb,dd,h _ _ (I.tok _) ?_};rw[l];exact(rel.val k).getD rd
end
inductive aNn(a:Addr)(y z:V)(H:Hp)(Q:VK):Prop|mk (o:Option V) (hg:jC H a y o) (q:Q (o.getD z) H)
inductive aKW(ty tx:TE)(x:V)(σ:St)(H:Hp)(Q:VK):Prop|mk (a:Addr) (hx:x = .ref a) (hd:Wj H a) (q:ty σ H λy H2=>tx σ H2 λz H3=>aNn a y z H3 Q)
def aAS(td ty tx:TE):TE:=λσ H Q=>td σ H λx H1=>aKW ty tx x σ H1 Q
def aL3(td ty:TE):TE:=λσ H Q=>td σ H λx H1=>∃a,x = .ref a/\Wj H1 a/\ty σ H1 λy H2=>∃kvs k v,H2 a=some (.dK kvs)/\y=kV k/\dH kvs k=some v/\Q v (upd H2 a (.dK (lF kvs k)))
section
variable {X:Cx} {o e f:Expr} {apos cpos:Pos} {td ty tx:TE}
def ahI(hu:X.A.units+1<cLine)(ho:PE X o td)(he:PE X e ty)(hf:PE X f tx)(m:M2 X o "get" apos e f cpos):PE X (.Call (.Attribute o "get" apos) [e,f] [] cpos) (aAS td ty tx):=by
 intro pins s σ H Q I h;refine wpAny_Call_method m.base m.few m.line anU Rq PySem.F.type_dict_get (aP (ho pins s σ H _ I h) λu s1 ⟨x,H1,I1,rx,a,ex,d,q1⟩=>?_);subst ex;obtain rfl:u=Value.ref a:=rx;obtain⟨t1,t2,_⟩:=ak4 I1 d;exists t1,t2;rw[m.trees];refine PK rfl (KR (NK (aP (he pins s1 σ H1 _ I1 q1) λiv s2 ⟨y,H2,I2,ry,q2⟩=>
  NK (aP (hf pins s2 σ H2 _ I2 q2) λfv s3 ⟨z,H3,I3,rz,ov,g,q3⟩=>R5 ?_))))
 exact aAP hu I3 g ry rz λw' s4 I4 mz=>{_,H3,I4,mz,q3}
def adO(ho:PE X o td)(he:PE X e ty)(m:M1 X o "pop" apos e cpos):PE X (.Call (.Attribute o "pop" apos) [e] [] cpos) (aL3 td ty):=by
 intro pins s σ H Q I h;refine wpAny_Call_method m.base m.few m.line anU agL PySem.F.type_dict_pop (aP (ho pins s σ H _ I h) λu s1 ⟨x,H1,I1,rx,a,ex,d,q1⟩=>?_);subst ex;obtain rfl:u=Value.ref a:=rx;obtain⟨t1,t2,_⟩:=ak4 I1 d;exists t1,t2;rw[m.trees];refine PK rfl (KR (NK (aP (he pins s1 σ H1 _ I1 q1) λiv s2 ⟨y,H2,I2,ry,kvs,k,v,ea,ey,l,q2⟩=>R5 ?_)));subst ey;exact arV I2 ea ry l (.inl rfl) λw' s3 I3 mz=>{v,_,I3,mz,q2}
end
section
variable {X:Cx} {pins:List (Addr×Obj)} {σ:St} {H:Hp} {s:Shared} {a:Addr} {kvs:List (Key×V)} {A:Around} {E:Value->Shared->Prop}
end
section
variable {X:Cx} {pins:List (Addr×Obj)} {σ:St} {H:Hp} {s:Shared} {a:Addr} {y:V} {u:Value} {A:Around} {E:Value->Shared->Prop}
end
end L2
namespace O3
open PySem PySem.W PySem.Calls PyProof.Rows
def as8{P:Params}{h:Heap}:∀(ns:List Int) (vs:List Value),WellAll P h vs (ns.map WData.int)->IntsAre vs ns:=by
 intro ns;induction ns with
 |nil=>
  intro vs w;rw[Yo]at w;cases w;exact .nil
 |cons n ns ih=>
  intro vs w;rw[kI]at w;cases w with
  |cons a b=>
   cases a;exact .cons _ _ (ih _ b)
def aBS{l:OpenLaw}{n:Nat}(hn:l.most=some n){P:Params}{h:Heap}{args:List WData}{vals:List Value}
  (hpre:l.row.toRowW.claim.pre args=true) (hwl:WellAll P h vals args):
  ∃a vs ns,vals=[Value.ref a]/\args=[WData.list (ns.map WData.int)]/\h.get? a=some { cls:= .type "list",data:= .seq vs.toArray }/\IntsAre vs ns/\ns.length<=n:=by
 have hsh:WShape.hasAll [] args [.list .int]=true:=(pre_splitW hpre).1;have hc:l.pre.holds [] { args:=args }=true:=(pre_splitW hpre).2;obtain⟨d,r,rfl,h1,h2⟩:=hasAllW_cons hsh;obtain rfl:=hasAllW_nil h2;obtain⟨xs,rfl,h3⟩:=hasW_list h1;obtain⟨ns,rfl⟩:=items_int h3;have hlen:ns.length<=n:=by
  unfold OpenLaw.pre at hc;have h4:(WTm.not (.lt (.lit (.int (n:Int))) (.len (.arg 0)))).holds [] { args:=[.list (ns.map .int)] }=true:=by
   have h4:=(holds_andW hc).1;rw[hn]at h4;exact h4
  have h5:=condW_of h4 (w_not (w_lt w_lit (w_len_list (w_arg rfl))));rw[aC]at h5;refine aoc λq=>?_;have q':(n:Int)<((ns.length:Nat):Int):=⋯;first
   |(rw[decide_eq_true q']at h5;exact absurd h5 ∅)
   |(simp at h5;lia)
 cases hwl with
 |cons w1 w2=>
  cases w2;cases w1 with
  |list ho hall=>exact{_,_,ns,rfl,rfl,ho,as8 ns _ hall,hlen}
def aJe(l:OpenLaw)(args:List WData):l.row.toRowW.claim.post args (.bool true) args=true:=
 postW_of (r:=l.row.toRowW) (X:=(true==true))
  (show WShape.has [] (.bool true) .bool=true by first|rfl|decide|simp[WShape.has,WShape.arms,WShape.armsAll])
  (show(WTm.eq .res (.lit (.bool true))).value [] { args:=args,res:=some (.bool true),after:=args }=some (.bool (true==true))from w_eq_bool (w_res rfl) w_lit) rfl
section
variable {prog:Program} {w:World} {A:Around} {E:Value->Shared->Prop} {s:Shared} {K:Frag}
end
end O3
namespace L2
open PySem PySem.Spec PyProof.Rows
def aAx{vs:List Value}{ns:List Int}(h:IntsAre vs ns):Vals (ns.map V.int) vs:=by
 induction h with
 |nil=>exact .nil
 |cons n t h ih=>exact .cons {t,(rfl)} ih
def Only(H:Hp):Prop:=∀b,H b=none∨∃o xs,H b=some (.cP o (.lst xs))
def aLa{P:Program}{w:World}{K:au}{mg mb:Str->Option Value}{CX:qu}{k:Nat}{fa a:Addr}{fd:FuncData}{x:Str}{sp:Sp}{s₁:Shared}{vs:List Value}{ns:List Int}
  (KX:K.In s₁.heap) (hns:s₁.heap.Ns mainGlobals mg) (hb:s₁.heap.Ns builtinsNs mb) (hbb:∀x:Str,x≠ "__name__" -> mb x=bootBuiltins x) (hlim:s₁.heap.NoLimit) (hdig:s₁.heap.NoDigits) (hse:s₁.heap.NoSeer) (htr:P.given.tree=none) (hg:s₁.gens=#[])
  (ha:s₁.heap.get? a=some { cls:= .type "list",data:= .seq vs.toArray }) (hi:IntsAre vs ns) (hl:ns.length<=sizeLine) (hr:cD k callerA)
  (F:∀base:Heap,K.In base->base.Ns mainGlobals mg->jg P w K mg base CX k fa fd [x] sp) (hbind:∀(s:Shared) (u:Value),BindsTo s fd {[u],([])} [(x,u)])
  (hsp:∀H:Hp,Only H->ak K H a (ns.map V.int)->sp [.ref a] H (λv _=>v = .bl true) λ_ _ _=>False)
  (RL:∀H e s',CX [] H s₁ (λ_ _ _=>False) e s'->False):
  codeAny (model P w) callerA (.call (.ref fa) {[.ref a],[]}) (λr s'=>r = .ok (.ret (.bool true))/\OldK s₁.heap s'.heap/\s'.os=s₁.os/\AllBare s'.gens) s₁:=by
 have rv:=aAx hi;have lenV:=hi.length;have core:∀H:Hp,Only H->ak K H a (ns.map V.int)->d8 P w H s₁.heap->(∀b,H b≠none->b=a)->(H a≠none->K.lookup a=none)->
   codeAny (model P w) callerA (.call (.ref fa) {[.ref a],[]}) (λr s'=>r = .ok (.ret (.bool true))/\OldK s₁.heap s'.heap/\s'.os=s₁.os/\AllBare s'.gens) s₁:=by
  intro H hO hS hok hA hK;have aaz:∀{b:Addr} {o:Obj},s₁.heap.get? b=some o->H b=none->(uP s₁.heap H).get? b=some o:=λe n=>aDx e n;have Jq:∀{b:Addr} {o:Obj} {es:Array DictEntry} {ep:Nat},s₁.heap.get? b=some o->o.data = .dict es ep->H b=none:=λ{b o es ep} e d=>by
   cases q:H b with
   |none=>rfl
   |some u=>
    have e':b=a:=hA b (by rw[q];simp);subst e';rw[ha]at e;cases e;have d':Data.seq vs.toArray _=Data.dict es ep:=d;cases d'
  have RP:∀{b:Addr} {o:Obj},s₁.heap.get? b=some o->o.cls = .type "module" -> H b=none:=λ{b o} e d=>by
   cases q:H b with
   |none=>rfl
   |some u=>
    have e':b=a:=hA b (by rw[q];simp);subst e';rw[ha]at e;cases e;exact absurd (show Value.type "list" = Value.type "module" from d) ∅
  have vG:∀{b:Addr} {m:Str->Option Value},s₁.heap.Ns b m->(uP s₁.heap H).Ns b m:=λ{b m} ⟨o,es,ep,e,d,r⟩=>{o,es,ep,aaz e (Jq e d),d,r};have hKb:K.In (uP s₁.heap H):=λb o e=>aaz (KX b o e) (by
   cases q:H b with
   |none=>rfl
   |some u=>
    have e':b=a:=hA b (by rw[q];simp);subst e';rw[hK (by rw[q];simp)]at e;cases e)
  have hM:Mod K mg (uP s₁.heap H):={hKb,vG hns,{mb,vG hb,hbb},let⟨mc,h1,h2⟩:=hlim;{mc,vG h1,h2},let⟨mc,h1,h2⟩:=hdig;{mc,vG h1,h2},let⟨⟨mc,a1,a2⟩,⟨mm,b1,b2⟩,⟨mb,c1,c2⟩,m,bm,ob,d1,d2,d3,d4,d5⟩:=hse;{{mc,vG a1,a2},{mm,vG b1,b2},{mb,vG c1,c2},m,bm,ob,vG d1,d2,aaz d3 (RP d3 d4),d4,d5}};have e0:wW P w K mg (uP s₁.heap H) callerA [] s₁ H:={rfl,hM,λb o e=>aMS e,IX (ayj _ _),trivial,λb hb=>absurd (show b∈([]:List Addr)from hb) (by simp),hok,.of_eq hg,htr};refine codeAny_mono ((F _ hKb (vG hns)).run callerA [] s₁ H {[.ref a],[]} [.ref a] [.ref a] _ _ hr e0 (hbind s₁ (.ref a)) (.cons rfl .nil) (hsp H hO hS)) λr s' h=>?_;cases r with
  |error e=>exact(RL H e s' h).elim
  |ok fl=>
   cases fl with
   |next=>exact False.elim h
   |brk=>exact False.elim h
   |cont=>exact False.elim h
   |ret u=>
    intros v H' os bare un hok' r' q h;have q':v = .bl true:=q;subst q';obtain rfl:u=Value.bool true:=r';refine{rfl,OldK.of_keep λb o e=>?_,os,bare};cases q:H b with
    |none=>exact un.keep b o e q (by intro z;exact absurd (show b∈([]:List Addr)from z) (by simp)) (by simp)
    |some u=>
     rcases hO b with z|⟨ob,xs,z⟩
     .rw[q]at z;cases z
     .have z2:=un.gJ b ob _ z;obtain⟨e1,_⟩:=hok b _ z;obtain⟨e2,_⟩:=hok' b _ z2;rw[e]at e1;cases e1;exact e2
 cases hk:K.lookup a with
 |some o=>
  have e:=KX a o hk;rw[ha]at e;cases e;refine core (λ_=>none) (λ_=> .inl rfl) (.inr {_,vs.toArray,_,hk,rfl,rfl,rfl,by rw[fj,lenV];exact hl,by simpa using rv}) (λb u z=>by have z':(none:Option HO)=some u:=z;cases z') (λb z=>absurd rfl z) λz=>absurd rfl z
 |none=>
  refine core (λb=>if b=a then some (.cP { cls:= .type "list",data:= .seq vs.toArray } (.lst (ns.map V.int)))else none) (λb=>?_) (.inl (.inr {{ cls:= .type "list",data:= .seq vs.toArray },if_pos rfl})) (λb u z=>?_) (λb z=>?_) λ_=>hk
  .by_cases hb:b=a
   .exact .inr {_,_,if_pos hb}
   .exact .inl (if_neg hb)
  .by_cases hb:b=a
   .have z':=(if_pos hb).symm.trans z;cases z';subst hb;exact{ha,by rw[aC];exact hl,vs,_,rv,ha}
   .have z':=(if_neg hb).symm.trans z;cases z'
  .by_cases hb:b=a
   .exact hb
   .exact absurd (if_neg hb) z
abbrev E0:XK:=λ_ _ _=>False
structure rN(K:au)(x qual:Str)(st:Stmt)(f:Addr)(fd:FuncData):Prop where
 ex:∃(oc:Value) (od:Option Addr) (kV doc pm:Value) (an:Option Addr) (cdv ct:Value) (osl:Array (Option Value)),
  fd=nD x qual (j4 st) (gK st) (aF st) .none kV doc pm an cdv ct/\K.lookup f=some {oc,od,.func fd,osl}/\Aa K cdv qual=true
 kp:mV K (.ref f)=true
section
variable {P:Program} {w:World} {K:au} {mg:Str->Option Value} {base:Heap}
def rN.binds{x qual:Str}{st:Stmt}{f:Addr}{fd:FuncData}{ps:List Str}(F:rN K x qual st f fd)
  (h:∀(kV doc pm:Value) (an:Option Addr) (cdv ct:Value) (us:List Value),us.length=ps.length->bindArgs (nD x qual (j4 st) (gK st) (aF st) .none kV doc pm an cdv ct) {us,([])}=pure (ps.zip us)):Binds K fd ps []:=by
 intros oc od kV doc pm an cdv ct osl rfl lk hcd F.ex;exact .all (h kV doc pm an cdv ct)
def YH{x qual:Str}{st:Stmt}{f:Addr}{oc:Value}{od an:Option Addr}{osl:Array (Option Value)}{kV doc pm cdv ct:Value}(l:K.lookup f=some {oc,od,.func (nD x qual (j4 st) (gK st) (aF st) .none kV doc pm an cdv ct),osl})
  (c:Aa K cdv qual=true) (k:mV K (.ref f)=true):rN K x qual st f (nD x qual (j4 st) (gK st) (aF st) .none kV doc pm an cdv ct):={{oc,od,kV,doc,pm,an,cdv,ct,osl,rfl,l,(c)},k}
end
def fZ{n:Nat}(h:n<=1000):n<sizeLine:=A9 h ∅
section
variable {X:Cx}
def pv(i:Nat){x:Str}{pos:Pos}(hN:X.N[i]?=some x:=by rfl)(hv:Nz X.env.scope x:=by first|exact lE rfl|exact eG (lE rfl)|exact eG (eG rfl))(hd:(x==("__debug__" : Str))=false:=by decide)
  (hcd:(x==("__classdict__" : Str))=false:=by decide):PE X (.Name x pos) (oJ i):=aCC hN hv hd hcd
end
def bK{A B:Prop}(h:B):if false=true then A else B:=by
 rw[if_neg fO];exact h
def d9{A B:Prop}(h:A):if true=true then A else B:=by
 rw[if_pos rfl];exact h
def cC{c A B:Prop}[Decidable c](h1:c->A)(h2:¬c->B):if c then A else B:=by
 by_cases h:c
 .rw[if_pos h];exact h1 h
 .rw[if_neg h];exact h2 h
def Same(H H':Hp):Prop:=∀b o,H b=some o->H' b=some o
def Same.refl(H:Hp):Same H H:=λ_ _ h=>h
def Same.trans{H H1 H2:Hp}(a:Same H H1)(b:Same H1 H2):Same H H2:=λc o h=>b c o (a c o h)
def Same.free{H H':Hp}(e:Same H H'){l:Addr}(h:H' l=ana):H l=ana:=by
 cases q:H l with
 |none=>rfl
 |some o=>
  rw[e l o q]at h;cases h
def Same.seq{K:au}{H H':Hp}{a:Addr}{xs:List V}(e:Same H H')(h:ak K H a xs):ak K H' a xs:=by
 rcases h with(h|⟨o,h⟩)|h
 .exact .inl (.inl (e _ _ h))
 .exact .inl (.inr {o,e _ _ h})
 .exact .inr h
section
variable {κ:Type} [DecidableEq κ]
def axQ{p:κ×V}{r:List (κ×V)}{k:κ}(e:p.1=k):lF (p::r) k=lF r k:=by
 unfold lF;rw[pZ,if_neg (by simp[e])]
def awg{p:κ×V}{r:List (κ×V)}{k:κ}(e:¬p.1=k):lF (p::r) k=p::lF r k:=by
 unfold lF;rw[pZ,if_pos (by simp[e])]
def aFK{kvs:List (κ×V)}{k:κ}{p:κ×V}(h:p∈lF kvs k):p∈kvs:=(wj.mp h).1
end
section
variable {us:List Value}
def us0(h:us.length=0):us=[]:=rY h
def Dl{n:Nat}(h:us.length=n+1):∃a r,us=a::r/\r.length=n:=by
 cases us with
 |nil=>cases h
 |cons a r=>exact{a,r,rfl,Nat.succ.inj h}
def us1(h:us.length=1):∃a,us=[a]:=by
 obtain⟨a,r,rfl,k⟩:=Dl h;obtain rfl:=us0 k;exact{a,(rfl)}
def V6(h:us.length=2):∃a b,us=[a,b]:=by
 obtain⟨a,r,rfl,k⟩:=Dl h;obtain⟨b,rfl⟩:=us1 k;exact{a,b,(rfl)}
def us3(h:us.length=3):∃a b c,us=[a,b,c]:=by
 obtain⟨a,r,rfl,k⟩:=Dl h;obtain⟨b,c,rfl⟩:=V6 k;exact{a,b,c,(rfl)}
def us4(h:us.length=4):∃a b c d,us=[a,b,c,d]:=by
 obtain⟨a,r,rfl,k⟩:=Dl h;obtain⟨b,c,d,rfl⟩:=us3 k;exact{a,b,c,d,(rfl)}
def us5(h:us.length=5):∃a b c d e,us=[a,b,c,d,e]:=by
 obtain⟨a,r,rfl,k⟩:=Dl h;obtain⟨b,c,d,e,rfl⟩:=us4 k;exact{a,b,c,d,e,(rfl)}
def K2(h:Heap)(e:Addr):Prop:=∃oe vs,h.get? e=some oe/\oe.data = .fields vs/\vs[2]?=some .none
end
section
variable {M:Model} {A:Around} {E:Value->Shared->Prop} {s:Shared}
section
variable {base h:Heap}{env:Env}{outer l:List Env}{L e:Addr}{a0 cls fl:Value}{Q:Unit->Shared->Prop}
def agR{oe:Obj}{vs:Array Value}{hd0:Value}{nx:Bool}
  (fr:A.frames=some (env::outer)) (ff:s.heap.FunFrames base (env::outer)) (el:env.frame=some L) (ge:s.heap.get? e=some oe) (kb:base.StaysIn s.heap) (nb:base.get? e=none) (df:oe.data = .fields vs) (v1:1<vs.size) (v0:vs[0]?=some a0) (v2:vs[2]?=some .none)
  (q:∀h',Heap.HeldW base (env::outer) e oe.cls a0 L h'->s.heap.UpToSlots h'->K2 h' e->Q () { s with heap:=h' }):
  wpAny M A (do let a<-frameOf env;let pl<-entryPlaceOf L nx;let t<-EntryCells.newEntry hd0 a .none (rawInt L) .none pl;setField (.ref e) 1 t) Q E s:=by
 have ns:∀b o,s.heap.get? b=some o->(∀us,o.data≠ .fields us)->b≠e:=λb o g1 g2 z=>by
  rw[z,ge]at g1;cases g1;exact g2 vs df
 have ne:e∉(env::outer).filterMap (·.frame):=λz=>by
  obtain⟨_,o,g1,g2⟩:=ff.mem z;exact ns e o g1 g2 rfl
 refine wpAny_bind (wpAny_frameOf_fun fr ff el λh₁ k₁=>wpAny_bind (wpAny_entryPlaceOf λpl hp=>?_));unfold EntryCells.newEntry newFields;refine wpAny_bind (wpAny_newObj_type ?_ (hp.sizeOk5 _ _ _ _ _));generalize et:({ cls:= .type "traceback",dict:=none,data:= .fields ([hd0,.ref L,.none,rawInt L,.none]++(if pl.isEmpty then cO 6 Value.none else pl)).toArray }:Obj)=tb;have g₁:h₁.get? e=some oe:=(k₁.2.1 e ne).trans ge;have b₁:base.StaysIn h₁:=λb o g=>(k₁.2.1 b λz=>by rw[(ff.mem z).1]at g;cases g).trans (kb b o g);have g₂:=Heap.get?_push_of_some (h:=h₁) tb g₁;have gt:(h₁.push tb).get? h₁.objs.size=some tb:=Heap.get?_push_size h₁ (by rw[<-et];rfl);have nt:h₁.objs.size≠e:=aku (cU g₁);refine wpAny_setField g₂ df v1 (q _ ?_ (λb o g1 g2=>?_) ?_)
 .have stay:∀b o,b≠e->h₁.get? b=some o->((h₁.push tb).update e (wI (·.setIfInBounds 1 (Value.ref h₁.objs.size)))).get? b=some o:=λb o hb g=>(Heap.get?_update_other _ _ (je hb)).trans (Heap.get?_push_of_some _ g);refine{λb o g=>stay b o (λz=>by rw[z,nb]at g;cases g) (b₁ b o g),nb,ff.of_keeps λb o g1 g2=>?_,?_}
  .obtain⟨sl,g⟩:=k₁.2.2 b o g1;exact{_,stay b _ (ns b o g1 g2) g,rfl}
  .have d₃:=Ik df (·.setIfInBounds 1 (Value.ref h₁.objs.size));exact{_,_,h₁.objs.size,tb,_,Heap.get?_update_self _ g₂ (PB d₃),{apZ _ _,(Array.getElem?_setIfInBounds_ne ∅).trans v0},d₃,by simp[v1],b₁.fresh,nt,(Heap.get?_update_other _ _ (je nt)).trans gt,by rw[<-et],by simp}
 .obtain⟨sl,g⟩:=k₁.2.2 b o g1;exact{sl,(Heap.get?_update_other _ _ (je (ns b o g1 g2))).trans (Heap.get?_push_of_some _ g)}
 .have d₃:=Ik df (·.setIfInBounds 1 (Value.ref h₁.objs.size));exact{_,_,Heap.get?_update_self _ g₂ (PB d₃),d₃,(Array.getElem?_setIfInBounds_ne ∅).trans v2}
def Xn(kb:base.StaysIn h)(ff:h.FunFrames base l)(t:h.TracedAtW base e cls a0 fl)(k:K2 h e):∃oe vs T oT ts,h.get? e=some oe/\oe.cls=cls/\oe.data = .fields vs/\vs[0]?=some a0/\vs[1]?=some (.ref T)/\vs[2]?=some .none/\h.get? T=some oT/\oT.data = .fields ts/\ts[3]?=some fl/\
  ∀v,base.StaysIn (h.update T (wI (·.setIfInBounds 3 v)))/\(h.update T (wI (·.setIfInBounds 3 v))).FunFrames base l/\(h.update T (wI (·.setIfInBounds 3 v))).TracedAtW base e cls a0 v/\h.UpToSlots (h.update T (wI (·.setIfInBounds 3 v)))/\(h.update T (wI (·.setIfInBounds 3 v))).get? e=h.get? e:=by
 obtain⟨oe,vs,T,oT,ts,ge,⟨ec,v0⟩,df,v1,nT,Te,gT,dT,t3⟩:=t;intros oe' vs' ge' df' v2 k;rw[ge]at ge';cases ge';rw[df]at df';cases df';refine{oe,vs,T,oT,ts,ge,ec,df,v0,v1,v2,gT,dT,t3,λv=>?_};have oth:∀b,b≠T->(h.update T (wI (·.setIfInBounds 3 v))).get? b=h.get? b:=λb hb=>Heap.get?_update_other _ _ (je hb);have ns:∀b o,h.get? b=some o->(∀us,o.data≠ .fields us)->b≠T:=λb o g1 g2 z=>by
  rw[z,gT]at g1;cases g1;exact g2 ts dT
 have z3:3<ts.size:=(Array.getElem?_eq_some_iff.mp t3).1;exact{λb o g=>(oth b λz=>by rw[z,nT]at g;cases g).trans (kb b o g),ff.of_keeps λb o g1 g2=>{o,(oth b (ns b o g1 g2)).trans g1,rfl},
  {oe,vs,T,_,_,(oth e (je Te)).trans ge,{ec,(v0)},df,v1,nT,Te,Heap.get?_update_self _ gT (PB (Ik dT _)),Ik dT _,by simp[z3]},
  λb o g1 g2=>{o.slots,(oth b (ns b o g1 g2)).trans g1},oth e (je Te)}
def K2.at{h':Heap}(k:K2 h e)(g:h'.get? e=h.get? e):K2 h' e:=by
 intros oe vs g1 r k;exact{oe,vs,g.trans g1,r}
def PV(kb:base.StaysIn s.heap)(nb:base.get? e=none)(ff:s.heap.FunFrames base l)(t:s.heap.TracedAtW base e cls a0 fl)(k:K2 s.heap e)
  (q:∀h',Gy base l e cls a0 h'->s.heap.UpToSlots h'->K2 h' e->Q () { s with heap:=h' }):wpAny M A (setFlight (.ref e) none) Q E s:=by
 obtain⟨oe,vs,T,oT,ts,ge,ec,df,v0,v1,v2,gT,dT,t3,st⟩:=Xn kb ff t k;obtain⟨s1,s2,s3,s4,s5⟩:=st .none;unfold setFlight;refine wpAny_bind (wpAny_field ge df v1 ?_);rw[if_pos (show(Value.ref T != Value.none)=true from rfl)];exact wpAny_setField gT dT (Array.getElem?_eq_some_iff.mp t3).1 (q _ {s1,nb,s2,(s3)} s4 (k.at s5))
def atR{α:Type}{what:String}{cenv:Env}(kb:base.StaysIn s.heap)(ff:s.heap.FunFrames base l)(t:s.heap.TracedAtW base e cls a0 fl)(k:K2 s.heap e)
  (q:∀h' fl',base.StaysIn h'->h'.FunFrames base l->h'.TracedAtW base e cls a0 fl'->s.heap.UpToSlots h'->K2 h' e->E (.ref e) { s with heap:=h' }):wpAny M A (Vp what (.ref e) cenv:Sem α) (λ_ _=>False) E s:=by
 obtain⟨oe,vs,T,oT,ts,ge,ec,df,v0,v1,v2,gT,dT,t3,st⟩:=Xn kb ff t k;obtain⟨s1,s2,s3,s4,s5⟩:=st (cenv.frame.elim Value.none λf=>rawInt f);unfold Vp setFlight;refine wpAny_bind (wpAny_field ge df v1 ?_);rw[if_neg (show ¬(Value.ref T==Value.none)=true from fO)];refine wpAny_bind (wpAny_bind (wpAny_field ge df v1 ?_));rw[if_pos (show(Value.ref T != Value.none)=true from rfl)];exact wpAny_setField gT dT (Array.getElem?_eq_some_iff.mp t3).1 (wpAny_throw (q _ _ s1 s2 s3 s4 (k.at s5)))
def aaQ(fr:A.frames=some (env::outer))(ff:s.heap.FunFrames base (env::outer))(el:env.frame=some L)(t:s.heap.TracedAtW base e cls a0 fl)(kb:base.StaysIn s.heap)(nb:base.get? e=none)(k:K2 s.heap e)
  (q:∀h',Heap.HeldW base (env::outer) e cls a0 L h'->s.heap.UpToSlots h'->K2 h' e->Q () { s with heap:=h' }):wpAny M A (noteFrame (.ref e) env) Q E s:=by
 by_cases c:fl=rawInt L
 .subst c;exact wpAny_noteFrame_againW el t (q s.heap {kb,nb,ff,(t)} (aIK _) k)
 .obtain⟨oe,vs,T,oT,ts,ge,ec,df,v0,v1,v2,gT,dT,t3,st⟩:=Xn kb ff t k;obtain⟨s1,s2,s3,s4,s5⟩:=st .none;subst ec;unfold noteFrame;simp only[el];refine wpAny_bind (wpAny_field ge df v1 ?_);rw[if_pos (show(Value.ref T != Value.none)=true from rfl)];refine wpAny_bind (wpAny_field gT dT t3 ?_);rw[if_neg (show ¬((fl==rawInt L)=true)fromλz=>c (eq_of_beq z))];refine wpAny_bind (wpAny_setField gT dT (Array.getElem?_eq_some_iff.mp t3).1 ?_);exact agR fr s2 el (s5.trans ge) s1 nb df (Array.getElem?_eq_some_iff.mp v1).1 v0 v2 λh' hH u' k'=>q h' hH (s4.trans u') k'
def afE(fr:A.frames=some (env::outer))(ff:s.heap.FunFrames base (env::outer))(el:env.frame=some L)(t:s.heap.TracedAtW base e cls a0 fl)(kb:base.StaysIn s.heap)(nb:base.get? e=none)(k:K2 s.heap e)
  (q:∀h',Gy base outer e cls a0 h'->s.heap.UpToSlots h'->K2 h' e->Q () { s with heap:=h' }):wpAny M A (leaving env (.ref e)) Q E s:=by
 unfold leaving;refine wpAny_bind (aaQ fr ff el t kb nb k λh1 ⟨x1,x2,x3,x4⟩ u1 k1=>?_);exact PV (s:={ s with heap:=h1 }) x1 x2 x3 x4 k1 λh2 ⟨y1,y2,⟨_,_,y3⟩,y4⟩ u2 k2=>q h2 {y1,y2,y3,(y4)} (u1.trans u2) k2
def aw6{args:List Value}(fr:A.frames=some (env::outer))(el:env.frame=some L)(kb:base.StaysIn h)(ff:h.FunFrames base (env::outer))(hx:ajn h s.heap e cls args)
  (q:∀h' t,Gy base outer e cls (.ref t) h'->s.heap.UpToSlots h'->K2 h' e->Q () { s with heap:=h' }):wpAny M A (leaving env (.ref e)) Q E s:=by
 intros t ge tn ht hx.there;have nb:base.get? e=none:=by
  cases z:base.get? e with
  |none=>rfl
  |some o'=>have:=kb e o' z;rw[hx.new]at this;cases this
 unfold leaving noteFrame;simp only[el];refine wpAny_bind (wpAny_bind (wpAny_field (x:= .none) ge rfl rfl ?_));rw[if_neg ∅];refine agR (a0:= .ref t) fr (ff.of_keeps λb o g _=>{o,hx.keeps b o g,rfl}) el ge (λb o g=>hx.keeps b o (kb b o g)) nb rfl (by show 1<6;decide) rfl rfl λh1 ⟨x1,x2,x3,x4⟩ u1 k1=>?_;exact PV (s:={ s with heap:=h1 }) x1 x2 x3 x4 k1 λh2 ⟨y1,y2,⟨_,_,y3⟩,y4⟩ u2 k2=>q h2 t {y1,y2,y3,(y4)} (u1.trans u2) k2
end
end
structure iC(P:Program)(w:World)(outer:List Env)(H:Hp)(s:Shared)(E:XK)(e:Value)(s':Shared):Prop where
 ex:∃(ea C:Addr) (a0:Value) (B:Heap) (H':Hp),e = .ref ea/\s'.os=s.os/\AllBare s'.gens/\Gy B outer ea (.ref C) a0 s'.heap/\d8 P w H' B/\Un (frs outer) [] H H' s.heap s'.heap/\
  (∀b o,s.heap.get? b=some o->b∈frs outer∨∃o',B.get? b=some o')/\E (.ref C) none H'
 k2:∃ea,e = .ref ea/\K2 s'.heap ea
def Qp{P:Program}{w:World}{outer:List Env}{H:Hp}{s s':Shared}{e:Value}(h:iC P w outer H s E0 e s'):False:=by
 intros _ _ _ _ _ _ _ _ _ _ _ _ q h.ex;exact q
def Mu{X:Cx}:Passes (iC X.prog X.w) X E0:=λ_ _ _ _ _ _ _ h=>(Qp h).elim
section
variable {X:Cx} {pins:List (Addr×Obj)} {σ:St} {H:Hp} {s:Shared}
def Inv.Et(I:Inv X pins σ H s){b:Addr}{o:Obj}(e:X.s₀.heap.get? b=some o)(hb:b∉X.fs):b∉frs X.stack:=λz=>by
 rcases cX.mp (I.JM b z)with q|q
 .exact absurd (gO (cU e) I.ok.above) (by rw[<-q];exact pI _)
 .exact hb q
def Oc(I:Inv X pins σ H s){b:Addr}{o:Obj}(e:s.heap.get? b=some o)(hb:b∉frs X.stack):(pK s.heap (frs X.stack)).get? b=some o:=Zj _ e hb
def Inv.aHU(I:Inv X pins σ H s):d8 X.prog X.w H (pK s.heap (frs X.stack)):=λb o e=>
 (I.hok b o e).stay (λc u hc q=>Oc I q λz=>by
  have n:=I.YS c z;rcases hc with rfl|hc
  .rw[n]at e;cases e
  .rw[n]at hc;cases hc) (λ_ q=>q) λ_ _ q=>q
def Inv.aeh(I:Inv X pins σ H s)(hex:X.ex=[]){H':Hp}{h':Heap}(keep:∀b o,s.heap.get? b=some o->H b=none->b∉frs X.stack->h'.get? b=some o)
  (slot:∀b o,s.heap.get? b=some o->H b=none->b∈X.fs->∃sl,h'.get? b=some { o with slots:=sl }) (free:∀b o,s.heap.get? b=some o->H b=none->H' b=none) (there:∀b o,s.heap.get? b=some o->∃o',h'.get? b=some o')
  (tups:∀b xs,H b=some (.tup xs)->H' b=some (.tup xs)) (gJ:∀b o u,H b=some (.cP o u)->H' b=some (.cP o u)) (iW:∀b ps,H b=some (.nY ps)->∃more,H' b=some (.nY (ps++more))):
  Un (frs X.outer) [] X.H₀ H' X.s₀.heap h':=by
 have nx:∀b:Addr,b∉X.ex:=λb=>by rw[hex];simp
 refine{λb o e n hb _=>?_,λb o e n hb _=>?_,λb o e n _=>?_,λb o e _=>?_,λb xs e=>tups b xs (I.base.tups b xs e),λb o u e=>gJ b o u (I.base.gJ b o u e),λb ps e=>?_}
 .exact keep b o (I.base.keep b o e n hb (nx b)) (I.base.free b o e n (nx b)) (I.Et e hb)
 .obtain⟨sl,e1⟩:=I.base.slot b o e n hb (nx b);obtain⟨sl',e2⟩:=slot b _ e1 (I.base.free b o e n (nx b)) hb;exact{sl',(e2)}
 .obtain⟨o',e1⟩:=I.base.there b o e (nx b);exact free b o' e1 (I.base.free b o e n (nx b))
 .obtain⟨o',e1⟩:=I.base.there b o e (nx b);exact there b o' e1
 .obtain⟨m1,e1⟩:=I.base.iW b ps e;obtain⟨m2,e2⟩:=iW b _ e1;exact{m1++m2,by rw[e2,KH]}
end
abbrev dB(P:Program)(w:World)(K:au)(mg:Str->Option Value)(base:Heap)(N:List Str)(qual:Str)(scope:Scope)(f:Addr)(cdv:Value)(A:Around)(outer:List Env)(s:Shared)(H:Hp)(E:XK):Cx:=
 Ad (iC P w) P w K mg base N qual scope f cdv A outer s H E
section
variable {P:Program} {w:World} {K:au} {mg:Str->Option Value} {base:Heap} {N:List Str} {qual:Str} {scope:Scope} {f:Addr} {cdv:Value} {A:Around} {outer:List Env} {s₀:Shared} {H₀:Hp} {E:XK}
def aBE{pins:List (Addr×Obj)}{σ:St}{H:Hp}{s:Shared}{h1:Heap}{e C:Addr}{vs:List Value}(I:Inv (dB P w K mg base N qual scope f cdv A outer s₀ H₀ E) pins σ H s)(hx:ajn s.heap h1 e (.ref C) vs)(q:E (.ref C) none H):
  (dB P w K mg base N qual scope f cdv A outer s₀ H₀ E).xe (.ref e) { s with heap:=h1 }:=by
 have hin:∀env∈envOfC qual scope s₀.heap.objs.size f cdv::outer,∀a,env.frame=some a->a∈frs (envOfC qual scope s₀.heap.objs.size f cdv::outer):=λenv he a ha=>aaI.mpr {env,he,(ha)};refine aw6 (base:=pK s.heap (frs (envOfC qual scope s₀.heap.objs.size f cdv::outer))) (h:=s.heap) (L:=s₀.heap.objs.size) I.ok.frames rfl (λb o q=>VZ _ q) (W.funFrames_hide I.stack hin) hx λh' t x1 x4 kk=>?_;have up:∀b o,s.heap.get? b=some o->b∈frs (envOfC qual scope s₀.heap.objs.size f cdv::outer)->∃sl,h'.get? b=some { o with slots:=sl }:=λb o e hb=>by
  obtain⟨_,o',ho',hd⟩:=I.stack.mem hb;rw[e]at ho';cases ho';exact x4 b o (hx.keeps b o e) hd
 refine{{e,C,.ref t,_,H,rfl,I.os,I.bare,x1,I.aHU,I.aeh rfl (λb o e _ hb=>x1.1 b o (Oc I e hb)) (λb o e _ hb=>up b o e (eN _ hb)) (λ_ _ _ n=>n) (λb o e=>?_) (λ_ _ z=>z) (λ_ _ _ z=>z) (λb ps z=>{#[],by rw[z];simp}),λb o e=>?_,q},e,rfl,kk}
 .by_cases hb:b∈frs (envOfC qual scope s₀.heap.objs.size f cdv::outer)
  .obtain⟨sl,z⟩:=up b o e hb;exact{_,z}
  .exact{o,x1.1 b o (Oc I e hb)}
 .by_cases hb:b∈frs outer
  .exact .inl hb
  .obtain⟨o',e1⟩:=I.base.there b o e (by intro z;cases z);exact .inr {o',Oc I e1 (I.Et e hb)}
def ap9:Passes (iC P w) (dB P w K mg base N qual scope f cdv A outer s₀ H₀ E) E:=by
 intro pins σ H s e s' I h;intros ea C a0 B H' rfl os bare fl hok un old q h.ex;intros Px ee kk h.k2;cases ee;refine afE (L:=s₀.heap.objs.size) I.ok.frames fl.2.2.1 rfl fl.2.2.2 fl.1 fl.2.1 kk λh' x1 x2 k'=>?_;have inB:∀b o,s.heap.get? b=some o->b∉frs (envOfC qual scope s₀.heap.objs.size f cdv::outer)->∃o',B.get? b=some o'/\s'.heap.get? b=some o':=λb o e hb=>by
  rcases old b o e with z|⟨o',z⟩
  .exact absurd z hb
  .exact{o',z,fl.1 b o' z}
 have up:∀b o,s'.heap.get? b=some o->b∈frs (envOfC qual scope s₀.heap.objs.size f cdv::outer)->∃sl,h'.get? b=some { o with slots:=sl }:=λb o e hb=>by
  obtain⟨_,o',ho',hd⟩:=fl.2.2.1.mem hb;rw[e]at ho';cases ho';exact x2 b o e hd
 refine{{ea,C,a0,B,H',rfl,os.trans I.os,bare,x1,hok,I.aeh rfl (λb o e n hb=>?_) (λb o e n hb=>?_) (λb o e n=>un.free b o e n (by simp)) (λb o e=>?_) un.tups un.gJ un.iW,λb o e=>?_,q},ea,rfl,k'}
 .obtain⟨o',e1,e2⟩:=inB b o e hb;have e3:=un.keep b o e n hb (by simp);rw[e2]at e3;cases e3;exact x1.1 b _ e1
 .obtain⟨sl,e1⟩:=un.slot b o e n (eN _ hb) (by simp);obtain⟨sl',e2⟩:=up b _ e1 (eN _ hb);exact{sl',(e2)}
 .by_cases hb:b∈frs (envOfC qual scope s₀.heap.objs.size f cdv::outer)
  .obtain⟨o',e1⟩:=un.there b o e (by simp);obtain⟨sl,e2⟩:=up b o' e1 hb;exact{_,e2}
  .obtain⟨o',e1,_⟩:=inB b o e hb;exact{o',x1.1 b o' e1}
 .by_cases hb:b∈frs outer
  .exact .inl hb
  .obtain⟨o',e1⟩:=I.base.there b o e (by intro z;cases z);obtain⟨o2,e2,_⟩:=inB b o' e1 (I.Et e hb);exact .inr {o2,(e2)}
end
section
variable {P:Program}{w:World}{K:au}{mg:Str->Option Value}{base:Heap}{N ps:List Str}{qual x:Str}{f:Addr}{st:Stmt}{fd:FuncData}{k:Nat}{sp:Sp}
def aOK(C:Addr)(E:XK)(t:TA):TS:=λ_ σ H=>t σ H λvs H1=>vs.length<=sizeLine/\E (.ref C) none H1
structure zB(mg:Str->Option Value)(base:Heap)(x:Str)(C:Addr):Prop where
 ex:∃bm newId,OwnCls x C bm newId mg base/\∃(Bn inN:String) (bmN:List Value) (B nid initId:String),ExcBaseFacts Bn newId inN bmN/\bm.contains (.type Bn)=true/\ExcBaseFacts B nid initId bm
def qe{scope:Scope}{cdv:Value}{A:Around}{outer:List Env}{s₀:Shared}{H₀:Hp}{E:XK}
  {x:Str} {C:Addr} {np cpos pos:Pos} {e:Expr} {es:List Expr} {t:TA} (O:zB mg base x C) (hg:Gl (dB P w K mg base N qual scope f cdv A outer s₀ H₀ E) x) (ha:PA (dB P w K mg base N qual scope f cdv A outer s₀ H₀ E) (e::es) t)
  (hdb:(x==("__debug__" : Str))=false:=by decide)
  (he:starEach (e::es) (dB P w K mg base N qual scope f cdv A outer s₀ H₀ E).env=(false,eval e (dB P w K mg base N qual scope f cdv A outer s₀ H₀ E).env)::starEach es (dB P w K mg base N qual scope f cdv A outer s₀ H₀ E).env:=by rfl)
  (hpl:(backTo cpos (starEach es (dB P w K mg base N qual scope f cdv A outer s₀ H₀ E).env)).any (·.1)=false:=by rfl):
  PS (dB P w K mg base N qual scope f cdv A outer s₀ H₀ E) (.Raise (some (.Call (.Name x np) (e::es) [] cpos)) none pos) (aOK C E t):=by
 intro pins s σ H D I h;intros bm newId O Bn inN bmN B nid initId Fn hBn FB O.ex;intros tl Nn nm q bs hdct sn sub ab col dd k0 k1 k2 k3 k5 mN hC hN hni T O.obj;refine wpAny_Raise_call_subU (C:=C) (nm:=nm) (q:=q) (N:=Nn) (bs:=bs) (bm:=tl) (hdct:=hdct) (sn:=sn) (sub:=sub) (ab:=ab) (col:=col) (dd:=dd) (k0:=k0) (k1:=k1) (k2:=k2) (k3:=k3) (k5:=k5)
  Fn hBn FB (mN:=mN) (T.hasType FB.hasBase) (I.ok.hd rfl) (by rw[he];show(false||(backTo cpos (starEach es (dB P w K mg base N qual scope f cdv A outer s₀ H₀ E).env)).any (·.1))=false;rw[hpl];rfl) hni (pB I hg O.bound {rfl,?_} hdb)
 have h2:=ha cpos pins s σ H _ I h;rw[he]at h2⊢;refine KR (wpAny_mono h2 (λus s2 ⟨vs,H2,I2,r,z,q⟩=>{rfl,by rw[<-r.length];exact z,I2.bk _ _ hC,hN.keeps I2.bk,T.keeps I2.bk,λh' e hm=>aBE I2 hm q}) λ_ _ y=>y)
def rN.okF(F:rN K x qual st f fd)(S:aK N ps (aF st))(len:∀vs H Q E,sp vs H Q E->vs.length=ps.length)
  (hbody:∀(cdv:Value) (A:Around) (outer:List Env) (s:Shared) (H:Hp) (vs:List V) (Q:VK) (E:XK),cD k (A.deeper (envOfC qual (aF st) s.heap.objs.size f cdv))->sp vs H Q E->
   ∃t,iy (dB P w K mg base N qual (aF st) f cdv A outer s H E) (gK st) t/\t { nx:=λ_ H'=>Q .non H',rt:=Q } (start N vs) H):jg P w K mg base (iC P w) (k+1) f fd ps sp:=by
 intros oc od kV doc pm an cdv ct osl rfl lk hcd F.ex;exact aPa lk hcd S len λA outer s H vs Q E hr hsp=>hbody cdv A outer s H vs Q E hr hsp
def rN.okN(F:rN K x qual st f fd)(S:aK N ps (aF st))(len:∀vs H Q E,sp vs H Q E->vs.length=ps.length)
  (hbody:∀(cdv:Value) (A:Around) (outer:List Env) (s:Shared) (H:Hp) (vs:List V) (Q:VK) (E:XK),cD k (A.deeper (envOfC qual (aF st) s.heap.objs.size f cdv))->sp vs H Q E->
   ∃t,iy (dB P w K mg base N qual (aF st) f cdv A outer s H E).pW (gK st) t/\t { nx:=λ_ H'=>Q .non H',rt:=Q } (start N vs) H):jg P w K mg base (iC P w) (k+1) f fd ps sp:=
 F.okF S len λcdv A outer s H vs Q E hr h=>let⟨t,a,b⟩:=hbody cdv A outer s H vs Q E hr h;{t,a.pW,(b)}
end
section
variable {X:Cx}
section
variable {r r':R2}{x:Str}{pos p:Pos}{k k':Nat}{sp:Sp}{t:String}{w:World}{K:au}{A:Around}{s:Shared}
def cG.imp{f:Value->Value->Sem Value}(h:cG X f r)(i:∀x y H Q,r' x y H Q->r x y H Q):cG X f r':=λpins s σ H x y v u Q I rx ry q=>h pins s σ H x y v u Q I rx ry (i _ _ _ _ q)
def mO.imp(h:mO X r)(i:∀x y H Q,r' x y H Q->r x y H Q):mO X r':=λvalue slice pins s σ H x y v u Q I rx ry q hs=>h value slice pins s σ H x y v u Q I rx ry (i _ _ _ _ q) hs
def rB{i:Int}(hg:Gl X x)(hm:∃t,X.mg x=some (.int i t))(hd:(x==("__debug__" : Str))=false:=by decide):PE X (.Name x pos) (tC (.int i)):=by
 intros t e hm;exact Ny hg e {t,(rfl)} hd
def v9{n:String}(hg:Gl X x)(hm:X.mg x=none)(hv:bootBuiltins x=some (.type n))(hn:x≠ "__name__" := by decide)(hd:(x==("__debug__" : Str))=false:=by decide):PE X (.Name x pos) (tC (.ty n)):=
 auW hg hm hv (v:= .ty n) rfl hn hd
structure jc(P:Program)(w:World)(K:au)(mg:Str->Option Value)(base:Heap)(x:Str)(k:Nat)(ps:List Str)(sp:Sp):Prop where
 ex:∃(g:Addr) (gd:FuncData),mg x=some (.ref g)/\mV K (.ref g)=true/\Binds K gd ps []/\jg P w K mg base (iC P w) k g gd ps sp
def aI1{ps:List Str}{e:Expr}{es:List Expr}{t:TA}(C:jc X.prog X.w X.K X.mg X.base x k ps sp)(hr:cD k' X.A)(hg:Gl X x)(ha:PA X (e::es) t)
  (hk:k<=k':=by decide) (hd:(x==("__debug__" : Str))=false:=by decide)
  (he:starEach (e::es) X.env=(false,eval e X.env)::starEach es X.env:=by rfl) (hpl:(backTo pos (starEach es X.env)).any (·.1)=false:=by rfl):PE X (.Call (.Name x p) (e::es) [] pos) (yd sp [] E0 t):=by
 intros g gd hm hkp hb F C.ex;exact Tg F (hr.mono hk) hg hm hkp hb .nil Mu ha hd he hpl
def aB2(C:jc X.prog X.w X.K X.mg X.base x k [] sp)(hr:cD k' X.A)(hg:Gl X x)
  (hk:k<=k':=by decide) (hd:(x==("__debug__" : Str))=false:=by decide):PE X (.Call (.Name x p) [] [] pos) (yd sp [] E0 qz):=by
 intros g gd hm hkp hb F C.ex;exact aJ6 F (hr.mono hk) hg hm hkp hb .nil Mu hd
def dR{P:Program}{mg:Str->Option Value}{base:Heap}{N:List Str}{qual:Str}{scope:Scope}{f:Addr}{cdv:Value}{outer:List Env}{s₀:Shared}{H₀:Hp}{E:XK}
  {x:Str} {k k':Nat} {ps:List Str} {sp:Sp} {p pos:Pos} {e:Expr} {es:List Expr} {t:TA} (C:jc P w K mg base x k ps sp) (hr:cD k' (dB P w K mg base N qual scope f cdv A outer s₀ H₀ E).A) (hg:Gl (dB P w K mg base N qual scope f cdv A outer s₀ H₀ E) x)
  (ha:PA (dB P w K mg base N qual scope f cdv A outer s₀ H₀ E) (e::es) t) (hk:k<=k':=by decide) (hd:(x==("__debug__" : Str))=false:=by decide)
  (he:starEach (e::es) (dB P w K mg base N qual scope f cdv A outer s₀ H₀ E).env=(false,eval e (dB P w K mg base N qual scope f cdv A outer s₀ H₀ E).env)::starEach es (dB P w K mg base N qual scope f cdv A outer s₀ H₀ E).env:=by rfl)
  (hpl:(backTo pos (starEach es (dB P w K mg base N qual scope f cdv A outer s₀ H₀ E).env)).any (·.1)=false:=by rfl):
  PE (dB P w K mg base N qual scope f cdv A outer s₀ H₀ E) (.Call (.Name x p) (e::es) [] pos) (yd sp [] E t):=by
 intros g gd hm hkp hb F C.ex;exact Tg (X:=dB P w K mg base N qual scope f cdv A outer s₀ H₀ E) F (hr.mono hk) hg hm hkp hb .nil ap9 ha hd he hpl
def aPH{prog:Program}{E:Value->Shared->Prop}{t b:Addr}{vs ws:List Value}{Q:Value->Shared->Prop}(ht:IsTup s.heap t vs.toArray)(hb:IsTup s.heap b ws.toArray)(hv:vs=[])
  (h1:Q (.ref b) s):wpAny (model prog w) A (binaryOp .Add (.ref t) (.ref b)) Q E s:=by
 obtain⟨⟨cls,dd,data,sl⟩,ho,hc,n,hd⟩:=id ht;obtain⟨⟨cls2,dd2,data2,sl2⟩,ho2,hc2,n2,hd2⟩:=id hb;simp only at hc hd hc2 hd2;subst hc hd hc2 hd2;exact concat_meets {_,ho,rfl} {_,ho2,rfl} noFill_tuple_add seq_tuple_add aac Ud (Xv _ _)
   (tuple_addW0 t b vs.toArray ws.toArray n n2 dd dd2 sl sl2 (by simp[hv])) {ho,ho2,(h1)}
def auR(K:au):R2:=λx y H Q=>∃a b ys,x = .ref a/\y = .ref b/\ao K H a []/\ao K H b ys/\Q (.ref b) H
def aIv:cG X (binaryOp .Add) (auR X.K):=by
 intro pins s σ H x y v u Q I rx ry h;intros a b ys rfl rfl ha hb q h;cases rx;cases ry;obtain⟨its,r1,p1,_⟩:=I.tuple ha;obtain⟨its2,r2,p2,_⟩:=I.tuple hb;exact aPH p1 p2 (r1.yW.mpr rfl) {.ref b,H,I,rfl,q}
inductive aNt(a b:Addr)(H:Hp)(Q:VK):Prop|mk (xs ys:List V) (h1:H a=some (.lst xs)) (h2:H b=some (.lst ys)) (hz:xs.length+ys.length<=sizeLine) (q:∀z,H z=none->Q (.ref z) (upd H z (.lst (xs++ys))))
def E5(K:au):R2:=λx y H Q=>match x,y with
 |.int i,.int j=>Q (.int (i+j)) H
 |.str i,.str j=>i.length+j.length<=sizeLine/\Q (.str (i++j)) H
 |.ref a,.ref b=>aNt a b H Q∨
   (∃xs ys,ao K H a xs/\ao K H b ys/\xs.length+ys.length<=sizeLine/\(xs=[]->Q (.ref b) H)/\(xs≠[]->ys=[]->Q (.ref a) H)/\(xs≠[]->ys≠[]->∀p,H p=none->Q (.ref p) (upd H p (.tup (xs++ys)))))
 |_,_=>False
def v_add:cG X (binaryOp .Add) (E5 X.K):=by
 refine((aD6.or aKE).or (arq.or (aDK.or aIv))).imp λx y H Q h=>?_;unfold E5 at h;split at h
 .exact .inl (.inl {"",h})
 .exact .inl (.inr {"",h})
 .rcases h with⟨xs,ys,h1,h2,h3,h4⟩|⟨xs,ys,h1,h2,h3,h4,h5,h6⟩
  .exact .inr (.inl {_,_,xs,ys,rfl,rfl,h1,h2,h3,h4})
  .by_cases hx:xs=[]
   .subst hx;exact .inr (.inr (.inr {_,_,ys,rfl,rfl,h1,h2,h4 rfl}))
   .exact .inr (.inr (.inl {_,_,xs,ys,rfl,rfl,h1,h2,hx,h3,h5 hx,h6 hx}))
 .exact h.elim
inductive azd(i j:Int)(H:Hp)(Q:VK):Prop|mk (h:IntMulOk i j) (q:Q (.int (i*j)) H)
inductive aNv(l:Addr)(k:Int)(H:Hp)(Q:VK):Prop|mk (xs:List V) (h:H l=some (.lst xs)) (h1:-(2^63)<=k) (h2:k<2^63) (hz:xs.length*k.toNat<=sizeLine) (q:∀z,H z=none->Q (.ref z) (upd H z (.lst (cO k.toNat xs).flatten)))
def aoC:R2:=λx y H Q=>match x,y with
 |.int i,.int j=>azd i j H Q
 |.ref l,.int k=>aNv l k H Q
 |_,_=>False
def apm:cG X (binaryOp .Mult) (rI IntMulOk λi j=> .int (i*j)):=Ao λ_ _ _ _ _ _ _ hc q=>mul_int q hc
def v_mul:cG X (binaryOp .Mult) aoC:=by
 refine(apm.or aEJ).imp λx y H Q h=>?_;unfold aoC at h;split at h
 .intros h1 h2 h;exact .inl {"",h1,h2}
 .intros xs h1 h2 h3 h4 h5 h;exact .inr {_,_,xs,rfl,rfl,h1,h2,h3,h4,h5}
 .exact h.elim
inductive SIx(K:au)(p:Addr)(i:Int)(H:Hp)(Q:VK):Prop|mk (xs:List V) (v:V) (hs:ak K H p xs∨ao K H p xs) (ha:iJ xs i=some v) (q:Q v H)
def BX(K:au):R2:=λx y H Q=>match x,y with
 |.ref p,.int i=>SIx K p i H Q
 |.str z,.int i=>∃c,z.length<=sizeLine/\iJ z.cps.toList i=some c/\Q (.str {(#[c])}) H
 |_,_=>False
def aOz:mO X (BX X.K):=by
 refine aCJ.imp λx y H Q h=>?_;unfold BX at h;split at h
 .obtain⟨xs,v,h1|h1,h2,h3⟩:=h
  .exact .inl {_,xs,_,v,rfl,rfl,h1,h2,h3}
  .exact .inr (.inl {_,xs,_,v,rfl,rfl,h1,h2,h3})
 .intros c h1 h2 h3 h;exact .inr (.inr {_,_,c,rfl,rfl,h1,h2,h3})
 .exact h.elim
def Gs(H:Hp):V->Option String
 |.non=>some "NoneType"
 |.bl _=>some "bool"
 |.int _=>some "int"
 |.str _=>some "str"
 |.ref a=>match H a with
  |some (.lst _)=>some "list"
  |some (.cP _ (.lst _))=>some "list"
  |some (.tup _)=>some "tuple"
  |some (.dK _)=>some "dict"
  |_=>none
 |_=>none
def subB(t c:String):Bool:=t==c||(t== "bool" && c== "int")
def aKf{c:String}(ht:t∈["NoneType","bool","int","str","list","tuple","dict"])(hc:c∈["int","bool","tuple","list","str","dict"]):aZ K (.type t) (.type c)=some (subB t c):=by
 simp only[cX,acj,or_false]at ht hc;rcases ht with rfl|rfl|rfl|rfl|rfl|rfl|rfl<;>rcases hc with rfl|rfl|rfl|rfl|rfl|rfl<;>kernel_rfl
def atq{H:Hp}{x:V}(h:Gs H x=some t):nZ K H x (.type t)/\t∈["NoneType","bool","int","str","list","tuple","dict"]:=by
 unfold Gs at h;split at h
 .cases h;exact{.non,by simp}
 .cases h;exact{.bl _,by simp}
 .cases h;exact{.int _,by simp}
 .cases h;exact{.str _,by simp}
 .split at h
  .rename_i e;cases h;exact{.lst e,by simp}
  .rename_i e;cases h;exact{.cP e,by simp}
  .rename_i e;cases h;exact{.tup e,by simp}
  .rename_i e;cases h;exact{.dK e,by simp}
  .cases h
 .cases h
def yj:iM X (.builtin "isinstance") (λxs H Q=>∃x c t,xs=[x,.ty c]/\Gs H x=some t/\c∈["int","bool","tuple","list","str","dict"]/\Q (.bl (subB t c)) H):=by
 intro pins s σ H xs us Q I r h;intros x c t rfl ht hc q h;intros u v rfl ru rv r.two;cases rv;obtain⟨ty,hm⟩:=atq (K:=X.K) ht;exact azi I ru ty (aKf hm hc) λtk=>{.bl _,H,I.tok tk,rfl,q}
theorem ahz:∀{bs:List Bool} {us:List Value},Vals (bs.map V.bl) us->us=bs.map Value.bool
 |[],_,.nil=>rfl
 |b::bs,_,.cons r t=>by
  have e:=ahz (bs:=bs) t;cases (show _=Value.bool b from r);rw[e];rfl
def ay5{h':Heap}{o:Obj}(hk:∀b x,b∉[s.heap.objs.size]->(s.heap.push o).get? b=some x->h'.get? b=some x):∀b x,s.heap.get? b=some x->h'.get? b=some x:=
 λb x e=>hk b x (λhm=>by rw[dX.mp hm]at e;exact pI _ (cU e)) (Heap.get?_push_of_some _ e)
def v_all(hc:X.calm=true):iM X (.builtin "all") (λxs H Q=>∃(l:Addr) (bs:List Bool),xs=[.ref l]/\ak X.K H l (bs.map V.bl)/\Q (.bl (bs.all id)) H):=by
 intro pins s σ H xs us Q I r h;intros l bs rfl hl q h;intros u rfl ru r.one;cases ru;obtain⟨its,rv,pl,hz⟩:=I.list hl;have eb:=ahz rv;subst eb;have hl':=pl.isList;have hlt:l<s.heap.objs.size:=by intros _ e _ hl';exact cU e
 refine call_all_walk (wpAny_pyIter_list hl' ?_);refine{s.heap.objs.size,[s.heap.objs.size,l],[s.heap.objs.size],(bs.map Value.bool).toArray.size,_,_,λi=>(bs[i]?).getD true,rfl,Walks.list (A:=X.A.in1) (I.ok.hd hc) _ l (iG hlt) (bs.map Value.bool).toArray,
  {{_,Heap.get?_push_size _ rfl,rfl,rfl},hl'.push _},λi v s' Q' E' hP hQ=>?_,λh' tk hk=>?_}
 .have hP':(bs.map Value.bool)[i]?=some v:=by simpa using hP
  rw[List.getElem?_map]at hP';cases e:bs[i]? with
  |none=>rw[e]at hP';cases hP'
  |some b=>
   rw[e]at hP';cases hP';dsimp only at hQ;rw[e]at hQ;exact wpAny_truthy_bool hQ
 .have e2:((kj (bs.map Value.bool).toArray.size).all λi=>(bs[i]?).getD true)=bs.all id:=by
   rw[fj,aC];rw[E1,jU,jU];constructor
   .intro hh x hx;obtain⟨i,hi,e⟩:=wk.mp hx;have:=hh i (qd.mpr hi);rw[List.getElem?_eq_getElem hi,e]at this;exact this
   .intro hh i hi;have hi':=qd.mp hi;rw[List.getElem?_eq_getElem hi'];exact hh _ (Cy hi')
  have fin:EP X pins σ Q (.bool (bs.all id)) { s with heap:=h',toks:=tk }:={.bl _,H,I.kept (ay5 hk),rfl,q};first|(rw[e2];exact fin)|(simpa[e2]using fin)
def v_sum(hc:X.calm=true):iM X (.builtin "sum") (λxs H Q=>∃(l:Addr) (ns:List Int),xs=[.ref l]/\ak X.K H l (ns.map V.int)/\Q (.int ns.sum) H):=by
 intro pins s σ H xs us Q I r h;intros l ns rfl hl q h;intros u rfl ru r.one;cases ru;obtain⟨its,rv,pl,hz⟩:=I.list hl;have hi:=intsAre_of rv;intros xs hx hi.allInts.items;have hl':s.heap.IsList l (intItems xs):=hx▸pl.isList;refine sum_intListG (I.ok.hd hc) hl' λh' tk t' hk=>?_;have e1:ns=xs.toList.map (·.1):=by
  rw[<-nums_intItems,<-hx];exact(show numsOf its.toArray.toList=ns from hi.numsOf).symm
 have e2:preSum (numAt xs) xs.size=ns.sum:=by
  rw[preSum_eq,tM (by simp),e1]
 rw[e2];exact{.int _,H,I.kept hk,{()},q}
inductive adC(P:Prop)(R:It->Hp->Prop)(J:It)(H:Hp):Prop|mk (h:P) (q:R J H)
inductive SSq(z:au)(a:Addr)(H:Hp)(R:It->Hp->Prop):Prop
 |inl (h:adC (∃xs,ak z H a xs) R (uo z a) H)
 |inr (h:adC (∃xs,ao z H a xs) R (ED z a) H)
inductive apw(K:au)(x:V)(H:Hp)(R:It->Hp->Prop):Prop|mk (a:Addr) (hx:x = .ref a) (q:SSq K a H R)
def ahw(K:au)(tl:TE):TI:=λσ H R=>tl σ H λx H1=>apw K x H1 R
def as7{tg l:Expr}{tl:TE}(hl:PE X l tl):PI X tg l (ahw X.K tl):=by
 intro pins s σ H R I h;refine aP (hl pins s σ H _ I h) λv s1 ⟨x,H1,I1,r1,a,e,q⟩=>?_;subst e;cases r1;rcases q with⟨⟨xs,hq⟩,q⟩|⟨⟨xs,hq⟩,q⟩
 .have hh:PI X tg l (aK6 X.K λσ' H' Q=>Q (.ref a) H')->True:=λ_=>trivial;obtain⟨its,rv,p,hz⟩:=I1.list hq;refine wpAny_pyIter_list p.isList ?_;refine{s1.heap.objs.size,[s1.heap.objs.size],_,_,H1,rfl,I1.kept (t':=s1.toks) λb o e=>Heap.get?_push_of_some _ e,Ol a _,{_,Heap.get?_push_size _ rfl,rfl,rfl},λb hb=>?_,q};have e:b=s1.heap.objs.size:=by simpa using hb
  subst e;exact I1.tU (bO _) (I1.hok.fresh (bO _))
 .obtain⟨its,rv,p,hz⟩:=I1.tuple hq;refine wpAny_pyIter_tuple (show s1.heap.IsTuple a its.toArray from p) ?_;refine{s1.heap.objs.size,[s1.heap.objs.size],_,_,H1,rfl,I1.kept (t':=s1.toks) λb o e=>Heap.get?_push_of_some _ e,aA8 a _,{_,Heap.get?_push_size _ rfl,rfl,rfl},λb hb=>?_,q};have e:b=s1.heap.objs.size:=by simpa using hb
  subst e;exact I1.tU (bO _) (I1.hok.fresh (bO _))
end
end
section
variable {env:Env}{scope sc:Scope}{X:Cx}{elt iter tg:Expr}{ifs:List Expr}{pos py spos:Pos}{cm:Cx->Prop}{wx:List (Str×Addr)->Addr->Shared->Hp->List Addr->Value->Shared->Prop}{wi:TI}{g:TG}{tc:TT}{te:TE}{N:List Str}{ix:List (Option Nat)}{i:Nat}{y:Str}
theorem YZ{env:Env}:∀(names:List (Str×NameKind)) (acc:List (Str×Addr)),(∀y∈names,y.2 = .free->∃c,env.cells.lookup y.1=some c)->(∀p∈acc,env.cells.lookup p.1=some p.2)->
 ∃cl,(forIn names acc λ(y:Str×NameKind) (cs:List (Str×Addr))=>match y with|(name,kind)=>if(kind== .free)=true then do let a<-cellOf env name;pure (ForInStep.yield ((name,a)::cs))else pure (ForInStep.yield cs))=(pure cl:Sem _)/\(∀p∈cl,env.cells.lookup p.1=some p.2)/\(∀p∈acc,p∈cl)/\∀y∈names,y.2 = .free->∃c,(y.1,c)∈cl
 |[],acc,_,ha=>{acc,rfl,ha,λ_ h=>h,λ_ h=>nomatch h}
 |(n,k)::r,acc,hf,ha=>by
  have hr:∀y∈r,y.2 = .free->∃c,env.cells.lookup y.1=some c:=λy hy=>hf y (eN _ hy);by_cases hk:k = .free
  .subst hk;obtain⟨c,hc⟩:=hf (n,.free) fX rfl;obtain⟨cl,e,h1,h2,h3⟩:=YZ r ((n,c)::acc) hr (λp hp=>by
    rcases cX.mp hp with rfl|hp
    .exact hc
    .exact ha p hp)
   refine{cl,?_,h1,λp hp=>h2 p (eN _ hp),λy hy hyf=>?_}
   .rw[VW];simp only[beq_self_eq_true,if_true,cellOf,hc,pure_bind];exact e
   .rcases cX.mp hy with rfl|hy
    .exact{c,h2 _ fX}
    .exact h3 y hy hyf
  .have hb:(k==NameKind.free)=false:=by simpa using hk
   obtain⟨cl,e,h1,h2,h3⟩:=YZ r acc hr ha;refine{cl,?_,h1,h2,λy hy hyf=>?_}
   .rw[VW];simp only[hb,Fq,if_false,pure_bind];exact e
   .rcases cX.mp hy with rfl|hy
    .exact absurd hyf hk
    .exact h3 y hy hyf
def aDq(hf:∀y∈scope.names,y.2 = .free->∃c,env.cells.lookup y.1=some c):
  ∃cl,closureFor scope env=pure cl/\(∀x c,cl.lookup x=some c->env.cells.lookup x=some c)/\∀y∈scope.names,y.2 = .free->∃c,cl.lookup y.1=some c:=by
 obtain⟨cl,e,h1,_,h3⟩:=YZ (env:=env) scope.names [] hf (λ_ h=>nomatch h);refine{cl,?_,λx c h=>h1 (x,c) (vO h),λy hy hyf=>?_}
 .unfold closureFor;simp only[bind_pure_comp]at e⊢;rw[e];rfl
 .obtain⟨c,hc⟩:=h3 y hy hyf;cases q:cl.lookup y.1 with
  |some d=>exact{d,(rfl)}
  |none=>
   have z:=List.lookup_eq_none_iff.mp q (y.1,c) hc;simp at z
def Ah(sc:Scope)(cl:List (Str×Addr))(C:Addr)(env:Env):Env:=
 { scope:=sc,locals:=C,globals:=env.globals,cells:=cl,qual:=env.qual,func:=none,code:=env.code,frame:=env.frame,builtins:=env.builtins }
def dG(X:Cx)(sc:Scope)(N:List Str)(cl:List (Str×Addr))(C:Addr)(s₀:Shared)(H₀:Hp)(ex:List Addr):Cx:=
 { X with env:=Ah sc cl C X.env,N:=N,s₀:=s₀,H₀:=H₀,outer:=X.stack,ex:=ex,fn:=λ_=>false,pn:=[],xe:=λ_ _=>False }
def cst(ix:List (Option Nat))(σ:St):St:=ix.map λo=>match o with
 |none=>none
 |some i=>match σ[i]? with
  |some v=>v
  |none=>none
def rH(X:Cx)(ifs:List Expr)(t:TT):Prop:=
 ∀(pins:List (Addr×Obj)) (s:Shared) (σ:St) (H:Hp) (Q:Bool->Hp->Prop),Inv X pins σ H s->t σ H Q->
  wpAny (model X.prog X.w) X.A (forIn ifs true λc r=>if r=true then do let ok<-isTrue c X.env (eval c X.env);pure (ForInStep.yield ok)else pure (ForInStep.yield r)) (TP X pins σ Q) X.xe s
def oh:TT:=λ_ H Q=>Q true H
def dI:rH X [] oh:=λ_ _ _ H _ I h=>wpAny_tests_nil {H,I,(h)}
def Um{c:Expr}{t:TT}(h:PT X c t):rH X [c] t:=λpins s σ H Q I q=>wpAny_tests_one (h pins s σ H Q I q)
def axc{prog:Program}{w:World}{A:Around}{R:Result->Shared->Prop}{s:Shared}{target:Expr}{it acc:Value}(I:Nat->Shared->Prop)
  (turn:∀n s,I n s->wpAny (model prog w) A (pyNext it) (λr s₁=>match r with
   |none=>R (.ok .next) s₁
   |some v=>wpAny (model prog w) A (letOwnedTupleGo target it v) (λ_ s₀=>wpAny (model prog w) A (assign target env v) (λ_ s₂=>
     wpAny (model prog w) A (forIn ifs true λc r=>if r=true then do let ok<-isTrue c env (eval c env);pure (ForInStep.yield ok)else pure (ForInStep.yield r)) (λok s₃=>
      if ok=true then wpAny (model prog w) A (eval elt env) (λx s₄=>
       wpAny (model prog w) A (call (.builtin "list.append") [acc,x]) (λ_ s₅=>∃m,m<n/\I m s₅) (λ_ _=>False) s₄) (notedBy (model prog w) A env λx s'=>R (.error x) s') s₃
      else ∃m,m<n/\I m s₃) (λ_ _=>False) s₂) (λ_ _=>False) s₀) (λ_ _=>False) s₁) (λ_ _=>False) s)
  (n:Nat) (h:I n s):
  codeAny (model prog w) A (.compLoop (.ListComp elt [{target,iter,ifs,(0)}] scope pos) 0 it acc env) R s:=by
 refine codeAny_loop rfl I (λn s hI=>?_) n h;show wpAny _ A ((compTurn (.ListComp elt [{target,iter,ifs,(0)}] scope pos) 0 it acc env).onRaise (λx=>do noteFrame x env;theTreesLotGoes x)) _ _ s
 refine wpAny_noted ?_;rw[compTurn_list];refine wpAny_bind (wpAny_standAt (wpAny_bind (wpAny_mono (turn n s hI) (λr s₁ h₁=>?_) λ_ _ h'=>h'.elim)));cases r with
 |none=>exact wpAny_pure h₁
 |some v=>
  refine wpAny_bind (wpAny_mono h₁ (λ_ s₀ h₀=>?_) λ_ _ h'=>h'.elim);refine wpAny_bind (wpAny_mono h₀ (λ_ s₂ h₂=>wpAny_bind (wpAny_mono h₂ (λok s₃ h₃=>?_) λ_ _ h'=>h'.elim)) λ_ _ h'=>h'.elim);cases ok with
  |false=>exact wpAny_pure {rfl,(h₃)}
  |true=>
   exact wpAny_bind (wpAny_bind (wpAny_mono h₃ (λx s₄ h₄=>wpAny_bind (wpAny_mono h₄ (λ_ s₅ h₅=>wpAny_pure (wpAny_pure {rfl,(h₅)})) λ_ _ h'=>h'.elim)) λ_ _ h'=>h'))
structure kY(ix:List (Option Nat))(g:TG)(tc:TT)(te:TE)(σ:St)(Q:VK)(J:It)(H1:Hp):Prop where
 go:∀D,H1 D=none->∃W:Nat->Nat->St->Hp->Prop,(∃m,W 0 m (cst ix σ) (upd H1 D (.lst [])))/\
  ∀i m σ' H',W i m σ' H'->(J.stop i H'/\Q (.ref D) H')∨(J.go i H'/\∀x H2,J.mK i H' x H2->g x σ' H2 λσ3 H3=>tc σ3 H3 λb H4=>
   if b=true then te σ3 H4 λy H5=>∃ys,H5 D=some (.lst ys)/\ys.length<sizeLine/\∃m',m'<m/\W (i+1) m' σ3 (upd H5 D (.lst (ys++[y])))
   else ∃m',m'<m/\W (i+1) m' σ3 H4)
def yZ(ix:List (Option Nat))(wi:TI)(g:TG)(tc:TT)(te:TE):TE:=λσ H Q=>wi σ H λJ H1=>kY ix g tc te σ Q J H1
structure wM(X:Cx)(scope sc:Scope)(N:List Str)(ix:List (Option Nat)):Prop where
 rel:relabel scope X.env=sc
 kind:scope.kind = .function
 cell:∀y∈scope.names,y.2≠ .cell
 names:∀x∈scope.names,x.2 = .local->scope.names.lookup x.1=some .local
 free:∀y∈scope.names,y.2 = .free->X.env.kindOf y.1=some .cell∨X.env.kindOf y.1=some .free
 len:N.length=ix.length
 ix:∀(j:Nat) (x:Str) (i:Nat),N[j]?=some x->ix[j]?=some (some i)->X.N[i]?=some x/\(x,NameKind.free)∈scope.names/\(sc.names.lookup x=some .cell∨sc.names.lookup x=some .free)
 has:∀x,(sc.names.lookup x=some .cell∨sc.names.lookup x=some .free)->(x,NameKind.free)∈scope.names
def abJ{ip:Pos}(O:wM X scope sc N ix)(hc:cm X)(hcm:∀{pins:List (Addr×Obj)} {σ:St} {H:Hp} {s:Shared} (cl:List (Str×Addr)) (C:Addr) (fp:List Addr),Inv X pins σ H s->cm (dG X sc N cl C s H fp))(hi:Eo cm X tg iter wi)
  (hb:∀cl C s₀ H₀ ex,cm (dG X sc N cl C s₀ H₀ ex)->PG (dG X sc N cl C s₀ H₀ ex) tg g/\rH (dG X sc N cl C s₀ H₀ ex) ifs tc/\PE ((dG X sc N cl C s₀ H₀ ex).wish (wx cl C s₀ H₀ ex)) elt te) (hs:∀x,foldedSetIterable iter X.env x=pure x)
  {use:Option (Value->Sem Unit)} {QQ:Value->Shared->Prop} {pins:List (Addr×Obj)} {s:Shared} {σ:St} {H:Hp} {Q:VK} (I:Inv X pins σ H s) (h:yZ ix wi g tc te σ H Q)
  (uW:∀cl D C s₀ H₀ ex x s',wx cl C s₀ H₀ ex x s'->(∀{qZ σ' H' s1},Inv (dG X sc N cl C s₀ H₀ ex) qZ σ' H' s1->Inv X pins σ H' s1/\oG X pins H' C)->notedBy (model X.prog X.w) X.A (Ah sc cl C X.env) (λx s'=>compPost (model X.prog X.w) X.A X.xe use QQ (.ref D) C (.error x) s') x s')
  (fin:∀(D C:Addr) (s6:Shared) (H5:Hp) (m:Str->Option Value),Inv X pins σ H5 s6->s6.heap.Ns C m->oG X pins H5 C->Q (.ref D) H5->compPost (model X.prog X.w) X.A X.xe use QQ (.ref D) C (.ok .next) s6):
  wpAny (model X.prog X.w) X.A (comprehension (.ListComp elt [{tg,iter,ifs,(0)}] scope pos) scope X.env ip (newList []) false (eval iter X.env) use) QQ X.xe s:=by
 have hcl:∃cl,closureFor scope X.env=pure cl/\(∀x c,cl.lookup x=some c->X.env.cells.lookup x=some c)/\∀y∈scope.names,y.2 = .free->∃c,cl.lookup y.1=some c:=
  aDq λy hy hf=>I.ok.has y.1 (O.free y hy hf)
 intros cl ecl xU alT hcl;refine wpAny_comprehension_free (use:=use) rfl hs ecl O.kind O.names (aP (hi pins s σ H _ I h) λv s1 h1=>aP h1 λitv s2 h2=>?_);intros it fp tn J H2 e I2 T st2 f2 q2 h2;subst e;obtain⟨W,⟨m0,w0⟩,turn⟩:=q2.go s2.heap.objs.size I2.fresh;refine wpAny_newObj_type ?_;have I3:=I2.MQ (its:=[]) (t':=s2.toks) (ys:=[]) .nil (dW _);generalize eH3:upd H2 s2.heap.objs.size (.lst [])=H3 at I3 w0;have eD:H3 s2.heap.objs.size=some (.lst []):=by rw[<-eH3];exact aq
 have asL:∀b∈fp,b≠s2.heap.objs.size:=λb hb z=>by
  obtain⟨o,ho,_⟩:=T.obj _ _ st2 b hb;exact absurd (cU ho) (by rw[z];exact pI _)
 have st3:tn 0 (s2.heap.push { cls:= .type "list",dict:=none,data:= .seq ([]:List Value).toArray }):=T.keep _ _ _ st2 λb _ o e=>Heap.get?_push_of_some _ e;have f3:∀b∈fp,oG X pins H3 b:=λb hb=>{by rw[<-eH3,cI (asL b hb)];exact(f2 b hb).1,(f2 b hb).2};generalize es3:({ s2 with heap:=s2.heap.push { cls:= .type "list",dict:=none,data:= .seq ([]:List Value).toArray },toks:=s2.toks }:Shared)=s3 at I3;have afj:tn 0 s3.heap:=by rw[<-es3];exact st3
 refine wpAny_newFunctionEnv O.cell (λy hy=>nomatch hy) (λh4 ayT ay1=>?_) O.kind;have aas:∀b o,s3.heap.get? b=some o->h4.get? b=some o:=λb o e=>(ay1.2 b (iG (cU e))).trans (Heap.get?_push_of_some _ e);have I4:Inv X pins σ H3 { s3 with heap:=h4,toks:=s3.toks+([]:List (Str×Value)).length }:=I3.kept aas;have auj:({ newEnv scope s3.heap.objs.size X.env.globals cl X.env.qual none .none (some X.env) builtinsNs with scope:=relabel scope X.env }:Env)=Ah sc cl s3.heap.objs.size X.env:=by rw[O.rel];rfl
 rw[auj];show codeAny _ _ _ (compPost (model X.prog X.w) X.A X.xe use QQ (.ref s2.heap.objs.size) s3.heap.objs.size) _;generalize eC:s3.heap.objs.size=C;generalize es4:({ s3 with heap:=h4,toks:=s3.toks+([]:List (Str×Value)).length }:Shared)=s4 at I4;have R0:s4.heap=h4:=by rw[<-es4]
 have o4s:s4.os=s3.os:=by rw[<-es4]
 have fC:∀b∈fp,b≠C:=λb hb z=>by
  obtain⟨o,ho,_⟩:=T.obj _ _ afj b hb;exact absurd (cU ho) (by rw[z,eC];exact pI _)
 have okC:(dG X sc N cl C s3 H3 fp).Ok:=by
  refine{I3.ok.mod,?_,I3.ok.glob,I3.ok.blt,IX eC,λx y c h1 h2=>I3.ok.inj x y c (xU x c h1) (xU y c h2),λx hx=>?_,λx c z _=>(nomatch z),I3.ok.hd,I3.ok.frames,.inl rfl,λb hb=>{fC b hb,λx c e=>(f3 b hb).2.2.2.2.1 x c (xU x c e)},
   I3.bs,cT I3.ok.tE I3.sz,λb o e hb=>?_,λb hb z=>?_,I3.stack,I3.YS,I3.ok.tree,I3.ok.top}
  .show sc.kind = .function;rw[<-O.rel];exact O.kind
  .exact alT (x,.free) (O.has x hx) rfl
  .rcases(f3 b hb).2.2.2.1 with z|z
   .exact I3.ok.zQ b o e z
   .exact absurd (gO (cU e) (cT I3.ok.tE z)) (pI _)
  .rcases cX.mp (I3.JM b z)with z|z
   .exact(f3 b hb).2.1 z
   .exact(f3 b hb).2.2.1 z
 have IC:Inv (dG X sc N cl C s3 H3 fp) [] (cst ix σ) H3 s4:=by
  refine{okC,o4s,I4.bare,?_,?_,λx c e=>I4.cell x c (xU x c e),?_,λx c e=>I4.lY x c (xU x c e),λp hp=>(nomatch hp),I4.hok,?_}
  .rw[R0];exact Un.kept aas
  .refine{_,by rw[R0,<-eC];exact ayT,λj x v e1 e2 e3=>?_};have e2':(cst ix σ)[j]?=some (some v):=e2;unfold cst at e2';rw[List.getElem?_map]at e2';cases q:ix[j]? with
   |none=>rw[q]at e2';cases e2'
   |some o=>
    rw[q]at e2';cases o with
    |none=>cases e2'
    |some i=>
     obtain⟨hx,hm,hsc⟩:=O.ix j x i e1 q;cases q2:σ[i]? with
     |none=>simp[q2]at e2'
     |some w'=>
      simp[q2]at e2';subst e2';intros m hn hl I4.loc;have kf:=O.free (x,.free) hm rfl;have vis:Nz X.env.scope x:=by
       rcases kf with k|k
       .exact .inr (.inl k)
       .exact .inr (.inr k)
      obtain⟨u,r,l⟩:=hl i x v hx q2 vis;exists u,r;rcases l with⟨k,_⟩|⟨_,c,e,z⟩
      .rcases kf with k'|k'
       .rw[k]at k';cases k'
       .rw[k]at k';cases k'
      .obtain⟨c',e'⟩:=alT (x,.free) hm rfl;have:=xU x c' e';rw[e]at this;cases this;exact .inr {hsc,c,e',(z)}
  .rw[<-eC];exact I3.fresh
  .show(cst ix σ).length=N.length;rw[O.len];simp[cst]
 have st4:tn 0 s4.heap:=T.keep _ _ _ afj λb _ o e=>by rw[R0];exact aas b o e
 have stat:∀{H':Hp},(∀b∈fp,H' b=none)->∀b∈fp,oG (dG X sc N cl C s3 H3 fp) [] H' b:=λhn b hb=>
  {hn b hb,fC b hb,okC.Bg b hb,.inl hb,λx c e=>(f3 b hb).2.2.2.2.1 x c (xU x c e),λp hp=>(nomatch hp)}
 have hc':cm (dG X sc N cl C s3 H3 fp):=hcm cl C fp I3;obtain⟨hg,ht,he⟩:=hb cl C s3 H3 fp hc';have loop:codeAny (model X.prog X.w) X.A (.compLoop (.ListComp elt [{tg,iter,ifs,(0)}] scope pos) 0 (.ref it) (.ref s2.heap.objs.size) (Ah sc cl C X.env))
   (compPost (model X.prog X.w) X.A X.xe use QQ (.ref s2.heap.objs.size) C) s4:=by
  refine axc (λn s'=>∃i σ' H',Inv (dG X sc N cl C s3 H3 fp) [] σ' H' s'/\tn i s'.heap/\(∀b∈fp,H' b=none)/\W i n σ' H') ?_ m0 {0,cst ix σ,H3,IC,st4,λb hb=>(f3 b hb).1,w0};rintro n s5 ⟨i,σ5,H5,I5,Af,Ov,w5⟩;rcases turn i n σ5 H5 w5 with⟨stop,qn⟩|⟨go,step⟩
  .refine aP (T.done (dG X sc N cl C s3 H3 fp) rfl rfl rfl hc' i [] s5 σ5 H5 (λ_ _=>False) I5 (stat Ov) Af stop) λr s6 ⟨hr,I6⟩=>?_;subst hr;obtain⟨m,hn,_⟩:=id I6.loc;have I7:Inv X pins σ H5 s6:=I3.aci (ch:=fp) I6.os I6.base I6.hok I6.bare λb hb=>{(f3 b hb).2.2.2.1,(f3 b hb).2.1,(f3 b hb).2.2.2.2.1,(f3 b hb).2.2.2.2.2};exact fin _ C s6 H5 m I7 hn (I3.tU (IX eC) I6.free) qn
  .refine aP (T.item (dG X sc N cl C s3 H3 fp) rfl rfl rfl hc' i [] s5 σ5 H5 (λ_ _=>False) I5 (stat Ov) Af go) λr s6 ⟨u,hr,h6⟩=>?_;subst hr;refine aP h6 λ_ s7 ⟨x,H7,I7,r7,y7,st7,fr7⟩=>?_;have I7':=I7.pinned (stat fr7) (T.obj _ _ st7);have again:∀{σ9:St} {H9:Hp} {s9:Shared} {m':Nat},Inv (dG X sc N cl C s3 H3 fp) ([]++Eb fp s7.heap) σ9 H9 s9->m'<n->W (i+1) m' σ9 H9->
     ∃m,m<n/\∃i σ' H',Inv (dG X sc N cl C s3 H3 fp) [] σ' H' s9/\tn i s9.heap/\(∀b∈fp,H' b=none)/\W i m σ' H':=λ{σ9 H9 s9 m'} I9 hm w9=>by
    refine{m',hm,i+1,σ9,H9,I9.Ke,T.keep _ _ _ st7 λb hb o e=>(I9.pin (b,o) (mW _ (mW _ (El hb e)))).1,λb hb=>?_,w9};obtain⟨o,e,d⟩:=T.obj _ _ st7 b hb;exact(I9.pin (b,o) (mW _ (mW _ (El hb e)))).2.1
   refine aP (hg _ s7 σ5 H7 x u _ I7' r7 (step x H7 y7)) λ_ s8 ⟨σ8,H8,I8,q8⟩=>?_;refine aP (ht _ s8 σ8 H8 _ I8 q8) λb s9 ⟨H9,I9,q9⟩=>?_;cases b with
   |false=>
    rw[if_neg fO]at q9;intros m' hm w9 q9;rw[if_neg fO];exact again I9 hm w9
   |true=>
    rw[if_pos rfl]at q9;rw[if_pos rfl];refine wpAny_mono (he _ s9 σ8 H9 _ (I9.wish _) q9) (λy rF ⟨yv,pD,aIi,r10,ys,e10,Ot,m',hm,w10⟩=>?_) (λx rF hx=>uW cl _ C s3 H3 fp x rF hx λI6=>{I3.aci (ch:=fp) I6.os I6.base I6.hok I6.bare λb hb=>{(f3 b hb).2.2.2.1,(f3 b hb).2.1,(f3 b hb).2.2.2.2.1,(f3 b hb).2.2.2.2.2},I3.tU (IX eC) I6.free});have uH:=Inv.nR aIi;refine aP (aqW _ rF σ8 pD (.ref s2.heap.objs.size) [yv] (.ref s2.heap.objs.size) [y] (λ_ H'=>W (i+1) m' σ8 H') uH rfl (.cons r10 .nil) {_,ys,yv,rfl,rfl,e10,Ot,w10}) λ_ s11 ⟨_,Kq,I11,_,w11⟩=>?_;exact again I11 hm w11
 exact codeAny_compStart_list loop (T.self _ _ _ _ _ st4 loop)
def fD(O:wM X scope sc N ix)(hc:X.calm=true)(hi:PI X tg iter wi)
  (hb:∀cl C s₀ H₀ ex,PG (dG X sc N cl C s₀ H₀ ex) tg g/\rH (dG X sc N cl C s₀ H₀ ex) ifs tc/\PE (dG X sc N cl C s₀ H₀ ex) elt te)
  (hs:∀x,foldedSetIterable iter X.env x=pure x:=by intro _;rfl):PE X (.ListComp elt [{tg,iter,ifs,(0)}] scope pos) (yZ ix wi g tc te):=by
 intro pins s σ H Q I h;rw[eval_ListComp];exact abJ (cm:=λX=>X.calm=true) (wx:=λ_ _ _ _ _ _ _=>False) (use:=none) (QQ:=EP X pins σ Q) O hc (λ_ _ _ _=>hc) hi (λcl C s₀ H₀ ex _=>hb cl C s₀ H₀ ex) hs I h (λ_ _ _ _ _ _ _ _ z=>z.elim) λD C s6 H5 m I7 hn f q=>{m,hn,λh' hs'=>{.ref D,H5,I7.turned (it:=C) (t':=s6.toks) (λb o hb e=>(hs'.2 b hb).trans e) f.1 f.2.1 f.2.2.2.1 f.2.2.2.2.1 f.2.2.2.2.2,rfl,q}}
def ab1(hN:X.N.Nodup)(hi':X.N[i]?=some y)(hx:Loc X.env.scope y)
  (O:wM X scope sc N ix) (hc:cm X) (hcm:∀{pins:List (Addr×Obj)} {σ:St} {H:Hp} {s:Shared} (cl:List (Str×Addr)) (C:Addr) (fp:List Addr),Inv X pins σ H s->cm (dG X sc N cl C s H fp)) (hi:Eo cm X tg iter wi)
  (hb:∀cl C s₀ H₀ ex,cm (dG X sc N cl C s₀ H₀ ex)->PG (dG X sc N cl C s₀ H₀ ex) tg g/\rH (dG X sc N cl C s₀ H₀ ex) ifs tc/\PE ((dG X sc N cl C s₀ H₀ ex).wish (wx cl C s₀ H₀ ex)) elt te)
  (uW:∀{pins:List (Addr×Obj)} {σ:St} {use:Option (Value->Sem Unit)} {QQ:Value->Shared->Prop} cl D C s₀ H₀ ex x s',wx cl C s₀ H₀ ex x s'->(∀{qZ σ' H' s1},Inv (dG X sc N cl C s₀ H₀ ex) qZ σ' H' s1->Inv X pins σ H' s1/\oG X pins H' C)->notedBy (model X.prog X.w) X.A (Ah sc cl C X.env) (λx s'=>compPost (model X.prog X.w) X.A X.xe use QQ (.ref D) C (.error x) s') x s')
  (hs:∀x,foldedSetIterable iter X.env x=pure x:=by intro _;rfl) (hsw:swapsWith (.ListComp elt [{tg,iter,ifs,(0)}] scope pos) (some (.Name y py)) spos.line X.env=pure true:=by rfl)
  (hf:X.fn y=true∨X.env.scope.names.lookup y=some .local:=by first|exact .inl rfl|exact .inr rfl|assumption):
  PS X (.Assign [.Name y py] (.ListComp elt [{tg,iter,ifs,(0)}] scope pos) spos) (yu (yZ ix wi g tc te) (gM i)):=by
 intro pins s σ H D I h;rw[exec_Assign_Name_used _ _ _ _ hsw];refine wpAny_bind (wpAny_standAt (wpAny_bind ?_));show wpAny _ X.A (do let _<-comprehension (.ListComp elt [{tg,iter,ifs,(0)}] scope pos) scope X.env _ (newList []) false (eval iter X.env) (some (assign (.Name y py) X.env))) _ _ s
 refine wpAny_bind (wpAny_mono (abJ (use:=some (assign (.Name y py) X.env)) (QQ:=λ_ s'=>∃σ' H',Inv X pins σ' H' s'/\D.nx σ' H') O hc hcm hi hb hs I h uW λD1 C s6 H5 m I7 hn f q=>?_) (λ_ s' ⟨σ',H',I',q'⟩=>wpAny_pure (wpAny_pure {σ',H',I',(q')})) λ_ _ e=>e);obtain⟨o,es,ep,ho,hc1,hc2⟩:=id hn;have I8:=I7.pinned (fp:=[C]) (λb hb=>by
  have e:b=C:=by simpa using hb
  subst e;exact f) (λb hb=>by
  have e:b=C:=by simpa using hb
  subst e;exact{o,ho,λv z=>by first|(rw[hc1.2]at z;cases z)|(rw[hc2.1]at z;cases z)|(rw[hc1]at z;cases z)|(simp_all)})
 show wpAny _ X.A (assign (.Name y py) X.env (.ref D1)) _ _ _;refine wpAny_assign_Name (IY I8 hN hi' hx (v:= .ref D1) rfl (λs7 I9=>?_) hf);have hC:=(I9.pin (C,o) (mW _ (mW _ (El (by simp) ho)))).1;refine{m,{o,es,ep,hC,hc1,(hc2)},λh' hs'=>{_,H5,I9.Ke.turned (it:=C) (t':=s7.toks) (λb o hb e=>(hs'.2 b hb).trans e) f.1 f.2.1 f.2.2.2.1 f.2.2.2.2.1 f.2.2.2.2.2,q}}
def xR(hN:X.N.Nodup)(hi':X.N[i]?=some y)(hx:Loc X.env.scope y)
  (O:wM X scope sc N ix) (hc:X.calm=true) (hi:PI X tg iter wi)
  (hb:∀cl C s₀ H₀ ex,PG (dG X sc N cl C s₀ H₀ ex) tg g/\rH (dG X sc N cl C s₀ H₀ ex) ifs tc/\PE (dG X sc N cl C s₀ H₀ ex) elt te)
  (hs:∀x,foldedSetIterable iter X.env x=pure x:=by intro _;rfl) (hsw:swapsWith (.ListComp elt [{tg,iter,ifs,(0)}] scope pos) (some (.Name y py)) spos.line X.env=pure true:=by rfl)
  (hf:X.fn y=true∨X.env.scope.names.lookup y=some .local:=by first|exact .inl rfl|exact .inr rfl|assumption):
  PS X (.Assign [.Name y py] (.ListComp elt [{tg,iter,ifs,(0)}] scope pos) spos) (yu (yZ ix wi g tc te) (gM i)):=
 ab1 (cm:=λX=>X.calm=true) (wx:=λ_ _ _ _ _ _ _=>False) hN hi' hx O hc (λ_ _ _ _=>hc) hi (λcl C s₀ H₀ ex _=>hb cl C s₀ H₀ ex) (λ_ _ _ _ _ _ _ _ z=>z.elim) hs hsw hf
end
mutual
inductive mX(K:au)(H:Hp):V->PyData->Prop
 |non:mX K H .non .none
 |bl (b:Bool):mX K H (.bl b) (.bool b)
 |int (i:Int):mX K H (.int i) (.int i)
 |str (x:Str):mX K H (.str x) (.str x)
 |lst {a:Addr} {xs:List V} {ds:List PyData}:ak K H a xs->qm K H xs ds->mX K H (.ref a) (.list ds)
 |tup {a:Addr} {xs:List V} {ds:List PyData}:ao K H a xs->qm K H xs ds->mX K H (.ref a) (.tuple ds)
inductive qm(K:au)(H:Hp):List V->List PyData->Prop
 |nil:qm K H [] []
 |cons {x:V} {d:PyData} {xs:List V} {ds:List PyData}:mX K H x d->qm K H xs ds->qm K H (x::xs) (d::ds)
end
section
variable {X:Cx} {pins:List (Addr×Obj)} {σ:St} {H:Hp} {s:Shared}
mutual
theorem Inv.reads(I:Inv X pins σ H s):∀{x:V} {d:PyData} {u:Value},mX X.K H x d->RelV x u->∃as,Reads s.heap u d as
 |_,_,_,.non,r=>by cases r;exact{_,.none}
 |_,_,_,.bl b,r=>by cases r;exact{_,.bool b}
 |_,_,_,.int i,r=>by intros t rfl r;exact{_,.int i t}
 |_,_,_,.str x,r=>by intros t rfl r;exact{_,.str x t}
 |_,_,_,.lst hq hs,r=>by
  cases r;obtain⟨its,rv,pl,_⟩:=I.list hq;obtain⟨as,ra⟩:=Inv.readsAll I hs rv;intros o ho hc n hd pl.isList;exact{_,.list ho hc hd (by simpa using ra)}
 |_,_,_,.tup hq hs,r=>by
  cases r;obtain⟨its,rv,pl,_⟩:=I.tuple hq;obtain⟨as,ra⟩:=Inv.readsAll I hs rv;intros o ho hc n hd pl;exact{_,.tuple ho hc hd (by simpa using ra)}
theorem Inv.readsAll(I:Inv X pins σ H s):∀{xs:List V} {ds:List PyData} {us:List Value},qm X.K H xs ds->Vals xs us->∃as,ReadsAll s.heap us ds as
 |_,_,_,.nil,.nil=>{_,.nil}
 |_,_,_,.cons h1 h2,.cons r1 r2=>by
  obtain⟨as,a⟩:=Inv.reads I h1 r1;obtain⟨bs,b⟩:=Inv.readsAll I h2 r2;exact{_,.cons a b}
end
theorem qm.ints{K:au}{H:Hp}:∀ns:List Int,qm K H (ns.map V.int) (ns.map Xz)
 |[]=> .nil
 |n::r=> .cons (.int n) (qm.ints r)
def rZ(kb:List (Key×V)):List (Key×V)->Bool
 |[]=>true
 |(k,v)::r=>match dH kb k with
  |none=>false
  |some y=>sI v y&&rZ kb r
theorem Sd{A:Around}{kb:List (Key×V)}{vb:List (Key×Value)}(hb:KV kb vb)(fb:kb.all (λp=>jO p.2)=true):∀{ka:List (Key×V)} {va:List (Key×Value)},KV ka va->ka.all (λp=>jO p.2)=true->
  W.KeqHits A s vb va (rZ kb ka)
 |[],_,.nil,_=> .nil
 |(k,v)::r,(k',v')::r',.cons {e,(rv)} t,f=>by
  cases (show k=k' from e);rw[U8,pH]at f;have hv:=KV.val hb k;cases q:dH kb k with
  |none=>
   have hn:valueAt vb k=none:=iH.none_of (by rw[q]at hv;exact hv);have e2:rZ kb ((k,v)::r)=false:=by simp[rZ,q]
   rw[e2];exact .miss hn
  |some y=>
   rw[q]at hv;obtain⟨u,hu,ru⟩:=iH.some_of hv;have fy:jO y=true:=by
    unfold dH at q;cases q2:kb.find? (λkv=>decide (kv.1=k))with
    |none=>rw[q2]at q;cases q
    |some p=>
     rw[q2]at q;cases q;exact jU.mp fb p (List.mem_of_find?_eq_some q2)
   have e2:rZ kb ((k,v)::r)=(sI v y&&rZ kb r):=by simp[rZ,q]
   rw[e2];exact .hit hu (aix rv ru f.1 fy) (Sd hb fb t f.2)
end
section
variable {X:Cx}
def oA(K:au)(g:Bool->Bool):R2:=λx y H Q=>match x,y with
 |.int i,.int j=>Q (.bl (g (decide (i=j)))) H
 |.bl i,.bl j=>Q (.bl (g (decide (i=j)))) H
 |.str i,.str j=>Q (.bl (g (decide (i=j)))) H
 |.non,.non=>Q (.bl (g true)) H
 |.ref a,.ref b=>(∃d e,mX K H (.ref a) d/\mX K H (.ref b) e/\SeqAt.shaped d=true/\SeqAt.shaped e=true/\Q (.bl (g (yq d e))) H)∨
   (∃ka kb,H a=some (.dK ka)/\H b=some (.dK kb)/\ka.all (λp=>jO p.2)=true/\kb.all (λp=>jO p.2)=true/\Q (.bl (g (ka.length==kb.length&&rZ kb ka))) H)
 |.non,.ref _=>False
 |.ref _,.non=>False
 |x,y=>Yk x y=true/\Q (.bl (g (decide (x=y)))) H
def aHP{k:Nat}(hr:cD k X.A):cG X (compareOp .Eq) (λx y H Q=>∃d e,mX X.K H x d/\mX X.K H y e/\SeqAt.shaped d=true/\SeqAt.shaped e=true/\Q (.bl (yq d e)) H):=by
 intro pins s σ H x y v u Q I rx ry h;intros d e h1 h2 h3 h4 q h;obtain⟨as,ra⟩:=I.reads h1 rx;obtain⟨bs,rb⟩:=I.reads h2 ry;exact eq_dataH ra rb h3 h4 hr.units {.bl _,H,I,rfl,q}
def aOd{k:Nat}(hr:cD k X.A):cG X (compareOp .NotEq) (λx y H Q=>∃d e,mX X.K H x d/\mX X.K H y e/\SeqAt.shaped d=true/\SeqAt.shaped e=true/\Q (.bl (!yq d e)) H):=by
 intro pins s σ H x y v u Q I rx ry h;intros d e h1 h2 h3 h4 q h;obtain⟨as,ra⟩:=I.reads h1 rx;obtain⟨bs,rb⟩:=I.reads h2 ry;exact ne_dataH ra rb h3 h4 hr.units {.bl _,H,I,rfl,q}
def asz{k:Nat}(hr:cD k X.A):cG X (compareOp .Eq) (λx y H Q=>∃a b ka kb,x = .ref a/\y = .ref b/\H a=some (.dK ka)/\H b=some (.dK kb)/\ka.all (λp=>jO p.2)=true/\kb.all (λp=>jO p.2)=true/\Q (.bl (ka.length==kb.length&&rZ kb ka)) H):=by
 intro pins s σ H x y v u Q I rx ry h;intros a b ka kb rfl rfl h1 h2 h3 h4 q h;cases rx;cases ry;obtain⟨_,ea,va,ra,da⟩:ka.length<=sizeLine/\(a==sysModules)=false/\∃vs,KV ka vs/\s.heap.DictOf (gq X.prog X.w) a vs:=I.hok a _ h1;obtain⟨_,eb,vb,rb,db⟩:kb.length<=sizeLine/\(b==sysModules)=false/\∃vs,KV kb vs/\s.heap.DictOf (gq X.prog X.w) b vs:=I.hok b _ h2;refine W.keq_eq ea eb da db hr.am2 (λ_=>Sd rb h4 ra h3) {.bl _,H,I,?_,q};show _=Value.bool _;rw[Paired.length ra,Paired.length rb]
def aI4{k:Nat}(hr:cD k X.A):cG X (compareOp .NotEq) (λx y H Q=>∃a b ka kb,x = .ref a/\y = .ref b/\H a=some (.dK ka)/\H b=some (.dK kb)/\ka.all (λp=>jO p.2)=true/\kb.all (λp=>jO p.2)=true/\Q (.bl (!(ka.length==kb.length&&rZ kb ka))) H):=by
 intro pins s σ H x y v u Q I rx ry h;intros a b ka kb rfl rfl h1 h2 h3 h4 q h;cases rx;cases ry;obtain⟨_,ea,va,ra,da⟩:ka.length<=sizeLine/\(a==sysModules)=false/\∃vs,KV ka vs/\s.heap.DictOf (gq X.prog X.w) a vs:=I.hok a _ h1;obtain⟨_,eb,vb,rb,db⟩:kb.length<=sizeLine/\(b==sysModules)=false/\∃vs,KV kb vs/\s.heap.DictOf (gq X.prog X.w) b vs:=I.hok b _ h2;refine W.keq_ne ea eb da db hr.am2 (λ_=>Sd rb h4 ra h3) {.bl _,H,I,?_,q};show _=Value.bool _;rw[Paired.length ra,Paired.length rb]
def aj2{i j:Int}:decide (V.int i=V.int j)=decide (i=j):=by simp
def afT{i j:Bool}:decide (V.bl i=V.bl j)=decide (i=j):=by simp
def akD{i j:Str}:decide (V.str i=V.str j)=decide (i=j):=by simp
def v_eq{k:Nat}(hr:cD k X.A):cG X (compareOp .Eq) (oA X.K id):=by
 refine(aJo.or ((aHP hr).or (asz hr))).imp λx y H Q h=>?_;unfold oA at h;split at h
 .exact .inl {rfl,by rw[aj2];exact h}
 .exact .inl {rfl,by rw[afT];exact h}
 .exact .inl {rfl,by rw[akD];exact h}
 .exact .inl {rfl,by rw[decide_eq_true rfl];exact h}
 .rcases h with⟨d,e,h⟩|⟨ka,kb,h⟩
  .exact .inr (.inl {d,e,(h)})
  .exact .inr (.inr {_,_,ka,kb,rfl,rfl,h})
 .exact h.elim
 .exact h.elim
 .exact .inl h
def asf{k:Nat}(hr:cD k X.A):cG X (compareOp .NotEq) (oA X.K not):=by
 refine(aoD.or ((aOd hr).or (aI4 hr))).imp λx y H Q h=>?_;unfold oA at h;split at h
 .exact .inl {rfl,by rw[aj2];exact h}
 .exact .inl {rfl,by rw[afT];exact h}
 .exact .inl {rfl,by rw[akD];exact h}
 .exact .inl {rfl,by rw[decide_eq_true rfl];exact h}
 .rcases h with⟨d,e,h⟩|⟨ka,kb,h⟩
  .exact .inr (.inl {d,e,(h)})
  .exact .inr (.inr {_,_,ka,kb,rfl,rfl,h})
 .exact h.elim
 .exact h.elim
 .exact .inl h
end
end L2
namespace PySem.SeqAt
open AutoSeq1 (wpAny_loadPart')
open MeetsSeq MeetsSeq2 MeetsSeq3 SeqRoads2
section
variable {A:Around} {s:Shared}
end
end PySem.SeqAt
namespace L2
open PySem PySem.Spec PyProof.Rows
section
variable {X:Cx}
end
section
variable {P:Program}{w:World}{K:au}{mg:Str->Option Value}{base h:Heap}{x:Str}{st:Stmt}{N ps:List Str}{k:Nat}{sp:Sp}{H H1:Hp}{a:Addr}{xs:List V}{i j:Int}{X:Cx}{sc:Scope}{ix:List (Option Nat)}{J:It}{σ:St}{Q:VK}{t:TE}
def boot_isinstance:bootBuiltins "isinstance" = some (.builtin "isinstance"):=by decide +kernel
def boot_abs:bootBuiltins "abs" = some (.builtin "abs"):=by decide +kernel
def boot_sum:bootBuiltins "sum" = some (.builtin "sum"):=by decide +kernel
def boot_max:bootBuiltins "max" = some (.builtin "max"):=by decide +kernel
def boot_int:bootBuiltins "int" = some (.type "int"):=by decide +kernel
def boot_bool:bootBuiltins "bool" = some (.type "bool"):=by decide +kernel
def boot_tuple:bootBuiltins "tuple" = some (.type "tuple"):=by decide +kernel
def boot_list:bootBuiltins "list" = some (.type "list"):=by decide +kernel
structure Fn(K:au)(mg:Str->Option Value)(x:Str)(st:Stmt)(ps:List Str):Prop where
 ex:∃(f:Addr) (fd:FuncData),rN K x x st f fd/\mg x=some (.ref f)/\Binds K fd ps []
def Fn.cal(F:Fn K mg x st ps)(S:aK N ps (aF st))
  (hbody:∀{f:Addr} {cdv:Value} {A:Around} {outer:List Env} {s:Shared} {vs:List V} (H:Hp) (Q:VK) (E:XK),cD k (A.deeper (envOfC x (aF st) s.heap.objs.size f cdv))->sp vs H Q E->
   ∃t,iy (dB P w K mg base N x (aF st) f cdv A outer s H E).pW (gK st) t/\t { nx:=λ_ H'=>Q .non H',rt:=Q } (start N vs) H) (len:∀vs H Q E,sp vs H Q E->vs.length=ps.length:=by intro _ _ _ _ h;cases h;subst_vars;rfl):jc P w K mg base x (k+1) ps sp:=by
 intros f fd F m b F.ex;exact{f,fd,m,F.kp,b,F.okN S len λcdv A outer s H vs Q E hr h=>hbody H Q E hr h}
def Fn.dN(F:Fn K mg x st ps)(S:aK N ps (aF st))
  (hbody:∀{f:Addr} {cdv:Value} {A:Around} {outer:List Env} {s:Shared} {vs:List V} (H:Hp) (Q:VK) (E:XK),cD k (A.deeper (envOfC x (aF st) s.heap.objs.size f cdv))->sp vs H Q E->
   ∃t,iy (dB P w K mg base N x (aF st) f cdv A outer s H E) (gK st) t/\t { nx:=λ_ H'=>Q .non H',rt:=Q } (start N vs) H) (len:∀vs H Q E,sp vs H Q E->vs.length=ps.length:=by intro _ _ _ _ h;cases h;subst_vars;rfl):jc P w K mg base x (k+1) ps sp:=by
 intros f fd F m b F.ex;exact{f,fd,m,F.kp,b,F.okF S len λcdv A outer s H vs Q E hr h=>hbody H Q E hr h}
def Same.new{p:Addr}(h:H p=none)(o:HO):Same H (upd H p o):=λb u q=>by rw[cI (jx q h)];exact q
theorem Same.upd{H H':Hp}{p:Addr}(g:Same H H')(h:H p=none)(o:HO):Same H (L2.upd H' p o):=λb u q=>by rw[cI (jx q h)];exact g b u q
def Same.NV{H':Hp}(e:Same H H')(h:ao K H a xs):ao K H' a xs:=by
 rcases h with(h|⟨o,h⟩)|h
 .exact .inl (.inl (e _ _ h))
 .exact .inl (.inr {o,e _ _ h})
 .exact .inr h
def mulL(h1:-(2^64)<i)(h2:i<2^64):IntMulOk i j:= .of_left (intBits_le_64 h1 h2)
def mulR(h1:-(2^64)<j)(h2:j<2^64):IntMulOk i j:= .of_right (intBits_le_64 h1 h2)
def cV(h:decide N.Nodup=true:=by kernel_rfl):N.Nodup:=of_decide_eq_true h
abbrev cZ(l:List (Str×NameKind)):Scope:={ kind:= .function,names:=l,isGenerator:=false,isCoroutine:=false }
def cY{scope:Scope}(sc':relabel scope X.env=sc:=by kernel_rfl)(kind:scope.kind = .function:=by kernel_rfl)(cell:scope.names.all (λy=>y.2 != .cell)=true:=by kernel_rfl)
  (names:scope.names.all (λx=>x.2 != .local||scope.names.lookup x.1==some .local)=true:=by kernel_rfl)
  (free:scope.names.all (λy=>y.2 != .free||(X.env.scope.names.lookup y.1==some .cell||X.env.scope.names.lookup y.1==some .free))=true:=by kernel_rfl)
  (len:N.length=ix.length:=by kernel_rfl)
  (hix:(N.zip ix).all (λp=>match p.2 with
   |none=>true
   |some i=>X.N[i]?==some p.1&&scope.names.any (λy=>y.1==p.1&&y.2== .free)&&(sc.names.lookup p.1==some .cell||sc.names.lookup p.1==some .free))=true:=by kernel_rfl)
  (has:sc.names.all (λy=>(y.2 != .cell&&y.2 != .free)||scope.names.any (λz=>z.1==y.1&&z.2== .free))=true:=by kernel_rfl):wM X scope sc N ix:=by
 have mem:∀x:Str,scope.names.any (λy=>y.1==x&&y.2== .free)=true->(x,NameKind.free)∈scope.names:=λx h=>by
  obtain⟨y,hy,e⟩:=List.any_eq_true.mp h;rw[pH]at e;intros a b y;have e1:a=x:=eq_of_beq e.1;have e2:b = .free:=eq_of_beq e.2;subst e1;subst e2;exact hy
 refine{sc',kind,λy hy e=>?_,λx hx e=>?_,λy hy e=>?_,len,λj x i h1 h2=>?_,λx hx=>?_}
 .have:=jU.mp cell y hy;rw[e]at this;cases this
 .have:=jU.mp names x hx;rw[e]at this;simpa using this
 .have:=jU.mp free y hy;rw[e]at this;simpa[Env.kindOf]using this
 .have hm:(x,some i)∈N.zip ix:=by
   have:(N.zip ix)[j]?=some (x,some i):=by
    rw[List.getElem?_zip_eq_some];exact{h1,(h2)}
   exact List.mem_of_getElem? this
  have:=jU.mp hix _ hm;simp only[pH]at this;obtain⟨⟨a1,a2⟩,a3⟩:=this;exists eq_of_beq a1,mem x a2;rw[Ia]at a3;rcases a3 with z|z
  .exact .inl (eq_of_beq z)
  .exact .inr (eq_of_beq z)
 .have hm:∃k,(x,k)∈sc.names/\(k = .cell∨k = .free):=by
   rcases hx with z|z
   .exact{_,vO z,.inl rfl}
   .exact{_,vO z,.inr rfl}
  intros k hk e hm;have:=jU.mp has _ hk;rw[Ia]at this;rcases this with z|z
  .rcases e with e|e<;>(subst e;simp at z)
  .exact mem x z
structure aM(K:au)(x:Str)(st:Stmt):Prop where
 ex:∃(f:Addr) (oc:Value) (od:Option Addr) (kV doc pm:Value) (an:Option Addr) (cdv ct:Value) (sl:Array (Option Value)),bI K mainGlobals x=some (some (.ref f))/\
  K.lookup f=some {oc,od,.func (nD x x (j4 st) (gK st) (aF st) .none kV doc pm an cdv ct),sl}/\Aa K cdv x=true/\mV K (.ref f)=true
def auS{f:Addr}{oc:Value}{od:Option Addr}{kV doc pm:Value}{an:Option Addr}{cdv ct:Value}{sl:Array (Option Value)}(a:bI K mainGlobals x=some (some (.ref f)))
  (l:K.lookup f=some {oc,od,.func (nD x x (j4 st) (gK st) (aF st) .none kV doc pm an cdv ct),sl}) (c:Aa K cdv x=true) (k:mV K (.ref f)=true):aM K x st:=
 {f,oc,od,kV,doc,pm,an,cdv,ct,sl,a,l,c,(k)}
def aM.fn(F:aM K x st)(X:K.In h)(G:h.Ns mainGlobals mg)
  (hb:∀(kV doc pm:Value) (an:Option Addr) (cdv ct:Value) (us:List Value),us.length=ps.length->bindArgs (nD x x (j4 st) (gK st) (aF st) .none kV doc pm an cdv ct) {us,([])}=pure (ps.zip us)):Fn K mg x st ps:=by
 intros f oc od kV doc pm an cdv ct sl a l c k F.ex;have FF:=YH (st:=st) l c k;exact{f,_,FF,eY X G a,FF.binds hb}
def aM.aQ(F:aM K x st)(X:K.In h)(G:h.Ns mainGlobals mg)
  (hb:∀(kV doc pm:Value) (an:Option Addr) (cdv ct:Value) (us:List Value),us.length=ps.length->bindArgs (nD x x (j4 st) (gK st) (aF st) .none kV doc pm an cdv ct) {us,([])}=pure (ps.zip us):=by
   intro _ _ _ _ _ _ us hl;first
    |(obtain⟨_,rfl⟩:=L2.us1 hl;rfl)
    |(obtain⟨_,_,rfl⟩:=L2.V6 hl;rfl)
    |(obtain⟨_,_,_,rfl⟩:=L2.us3 hl;rfl)
    |(obtain⟨_,_,_,_,rfl⟩:=L2.us4 hl;rfl)
    |(obtain rfl:=L2.us0 hl;rfl)
    |(obtain⟨_,_,_,_,_,rfl⟩:=L2.us5 hl;rfl)
    |(obtain⟨_,_,_,_,_,_,rfl⟩:=L2.us6 hl;rfl)):Fn K mg x st ps:=F.fn X G hb
def aO{P:List Str}(kind:sc.kind = .function:=by rfl)(co:sc.isCoroutine=false:=by rfl)(gen:sc.isGenerator=false:=by rfl)(nd:N.Nodup:=by decide +kernel)(pre:N.take P.length=P:=by rfl)
  (par:∀x∈P,sc.names.lookup x=some .local∨sc.names.lookup x=some .cell:=by decide +kernel) (abd:∀y∈sc.names,y.2≠ .free:=by decide +kernel):aK N P sc:={kind,co,gen,nd,pre,par,(abd)}
structure qx(J:It)(xs:List V)(H1:Hp):Prop where
 go:∀i H',Same H1 H'->i<xs.length->J.go i H'
 mK:∀i H' x H2,Same H1 H'->J.mK i H' x H2->H2=H'/\(i<xs.length->xs[i]?=some x)
 stop:∀i H',Same H1 H'->xs.length<=i->J.stop i H'
def qj(hq:ak K H1 a xs):qx (uo K a) xs H1:=
 {λi H' g h=>{xs,xs[i],g.seq hq,by simp[h]},λi H' x H2 g y=>{y.1,λ_=>y.2 xs (g.seq hq)},λi H' g h=>{xs,g.seq hq,h}}
def Bl(hq:ao K H1 a xs):qx (ED K a) xs H1:=
 {λi H' g h=>{xs,xs[i],g.NV hq,by simp[h]},λi H' x H2 g y=>{y.1,λ_=>y.2 xs (g.NV hq)},λi H' g h=>{xs,g.NV hq,h}}
def Gu{lo:Int}{n:Nat}:qx (pL lo n) ((kj n).map λi=>V.int (lo+(i:Nat))) H1:=
 {λi H' g h=>show i<n by simpa using h,λi H' x H2 g y=>{y.1,λh=>by
  have h':i<n:=by simpa using h
  rw[List.getElem?_map,List.getElem?_range h',y.2];rfl},λi H' g h=>show n<=i by simpa using h}
def tH{tc:TT}{te:TE}(I:qx J xs H1)(hz:xs.length<=sizeLine){rest:St}(hst:cst ix σ=none::rest)(p:V->Bool)(F:V->V)
  (ht:∀H' x,Same H1 H'->x∈xs->∀k:Bool->Hp->Prop,k (p x) H'->tc (some x::rest) H' k)
  (he:∀H' x,Same H1 H'->x∈xs->p x=true->∀k:VK,k (F x) H'->te (some x::rest) H' k)
  (hQ:∀D,H1 D=none->Q (.ref D) (upd H1 D (.lst ((xs.filter p).map F)))):
  kY ix (gM 0) tc te σ Q J H1:=by
 constructor;intro D hD;refine{λi m σ' H'=>m=xs.length-i/\i<=xs.length/\(∃o,σ'=o::rest)/\H'=upd H1 D (.lst (((xs.take i).filter p).map F)),{xs.length,by simp,dW _,{none,(hst)},by simp},?_};rintro i m σ' H' ⟨rfl,hi,⟨o,rfl⟩,rfl⟩;have g:Same H1 (upd H1 D (.lst (((xs.take i).filter p).map F))):=Same.new hD _;by_cases hlt:i<xs.length
 .refine .inr {I.go i _ g hlt,λx H2 y=>?_};obtain⟨rfl,hx⟩:=I.mK i _ x H2 g y;have hx:=hx hlt;have hm:x∈xs:=List.mem_of_getElem? hx;have et:xs.take (i+1)=xs.take i++[x]:=by
   rw[Pg,hx];rfl
  show tc (some x::rest) _ _;refine ht _ x g hm _ ?_;cases hp:p x with
  |true=>
   rw[if_pos rfl];refine he _ x g hm hp _ {_,aq,?_,xs.length-(i+1),⋯,rfl,hlt,{()},?_}
   .have h1:(((xs.take i).filter p).map F).length<=i:=by
     rw[aC];exact cT (Lh _ _) (by rw[nK];lia)
    lia
   .rw[avf,et,BZ,gR];simp[hp]
  |false=>
   rw[if_neg fO];exists xs.length-(i+1),⋯,rfl,hlt,{()};rw[et,BZ];simp[hp]
 .have e:i=xs.length:=⋯;subst e;refine .inl {I.stop _ _ g (bO _),?_};rw[zG];exact hQ D hD
def auM{g:TG}{tb:TS}{D:Ends}(I:qx J xs H)(Pv:Nat->St->Hp->Prop)(h0:Pv 0 σ H)(hsame:∀i σ' H',Pv i σ' H'->Same H H')
  (hs:∀i x σ' H',xs[i]?=some x->Pv i σ' H'->g x σ' H' λσ2 H2=>tb { D with nx:=Pv (i+1),ct:=Pv (i+1),bk:=D.nx } σ2 H2) (hd:∀σ' H',Pv xs.length σ' H'->D.nx σ' H'):
  ∃W:Nat->Nat->St->Hp->Prop,(∃m,W 0 m σ H)/\∀i m σ H,W i m σ H->
   (J.stop i H/\D.nx σ H)∨(J.go i H/\∃N:St->Hp->Prop,(∀σ' H',N σ' H'->∃m',m'<m/\W (i+1) m' σ' H')/\∀x H',J.mK i H x H'->g x σ H' λσ2 H2=>tb { D with nx:=N,ct:=N,bk:=D.nx } σ2 H2):=by
 refine{λi m σ' H'=>m=xs.length-i/\i<=xs.length/\Pv i σ' H',{xs.length,by simp,dW _,h0},?_};rintro i m σ' H' ⟨rfl,hi,p⟩;have gs:=hsame i σ' H' p;by_cases hlt:i<xs.length
 .refine .inr {I.go i _ gs hlt,Pv (i+1),λσ2 H2 p'=>{xs.length-(i+1),⋯,rfl,hlt,p'},λx H2 y=>?_};obtain⟨rfl,hx⟩:=I.mK i _ x H2 gs y;exact hs i x σ' _ (hx hlt) p
 .have e:i=xs.length:=⋯;subst e;exact .inl {I.stop _ _ gs (bO _),hd σ' H' p}
structure Bar(t:TE)(σ:St)(H:Hp)(Q:VK):Prop where
 go:t σ H Q
def aHM(t:TE):TE:=λσ H Q=>Bar t σ H Q
def Bar.by(R:V->Hp->Prop)(h:∀k:VK,(∀v H1,R v H1->k v H1)->t σ H k)(q:∀v H1,R v H1->Q v H1):Bar t σ H Q:={h Q q}
def YL{e:Expr}(h:PE X e t):PE X e (aHM t):=λpins s σ H Q I q=>h pins s σ H Q I q.go
structure lW(t:TS)(D:Ends)(σ:St)(H:Hp):Prop where
 go:t D σ H
def arP(t:TS):TS:=λD σ H=>lW t D σ H
def oM{t:TS}(h:PS X st t):PS X st (arP t):=λpins s σ H D I q=>h pins s σ H D I q.go
theorem lW.by{t:TS}{D:Ends}{σ:St}{H:Hp}(R:St->Hp->Prop)(h:∀N:St->Hp->Prop,(∀σ' H',R σ' H'->N σ' H')->t { D with nx:=N } σ H)(q:∀σ' H',R σ' H'->D.nx σ' H'):lW t D σ H:=by
 constructor;exact h D.nx q
end
end L2
namespace HT
open PySem PyProof.Rows
section
variable {prog:Program} {w:World} {A:Around} {E:Value->Shared->Prop} {s:Shared}
def aAf{t sl:Addr}{items:Array Value}{vl vu:Value}{lo hi:Option Int}{Q:Value->Shared->Prop}(ht:IsTup s.heap t items)(hs:s.heap.IsSliceOf sl vl vu .none)(pl:IsPart vl lo)(pu:IsPart vu hi)
  (hw:bW items.size 0 lo=0/\bW items.size items.size hi=items.size) (h:Q (.ref t) s):wpAny (model prog w) A (getItem (.ref t) (.ref sl)) Q E s:=by
 obtain⟨os,hos,hcs,hds⟩:=id hs;have hTs:s.TypeIs (.ref sl) "slice" := {os,hos,(hcs)};unfold getItem;try with_reducible refine wpAny_holding ?_
 first|refine wpAny_bind (wpAny_pure ?_)|skip
 refine wpAny_bind (wpAny_sequenceKey ht.typeIs ∅ ?_);refine wpAny_bind (wpAny_callSpecial?_slot (name:=Str.ofString "__getitem__") ht.typeIs Bs
  (wpAny_call_entry Bs ht.typeIs entry_tuple_getitem ?_ (args_tuple_getitem _ _)))
 show wpAny _ _ (Builtin.Tuple.tupleItemsOf (.ref t)>>=_) _ _ s;refine wpAny_bind (tupleItemsOf_ ht ?_);refine wpAny_bind (wpAny_typeOf hTs ?_);rw[if_pos ∅];refine wpAny_bind (aox hs pl pu ?_);have hyes:(((bW items.size 0 lo:Nat):Int)==0&&(1:Int)==1&&(bW items.size items.size hi-bW items.size 0 lo)==items.size)=true:=by
  rw[hw.1,hw.2];simp
 show wpAny _ _ (if(((bW items.size 0 lo:Nat):Int)==0&&(1:Int)==1&&(bW items.size items.size hi-bW items.size 0 lo)==items.size)=true then _ else _) _ _ s;rw[if_pos hyes];unfold Builtin.Tuple.tupleIsExact;refine wpAny_bind (wpAny_bind (wpAny_typeOf ht.typeIs (wpAny_pure ?_)));rw[if_pos ∅];exact wpAny_bind (wpAny_rule (wpAny_pure {(),wpAny_pure h}))
end
end HT
namespace L2
open PySem PySem.Spec PyProof.Rows
section
variable {X:Cx}
def aLW:nW X (λx lo hi H Q=>∃a xs,x = .ref a/\ao X.K H a xs/\(HT.bW xs.length 0 lo=0/\HT.bW xs.length xs.length hi=xs.length)/\Q (.ref a) H):=by
 intro pins s σ H x v vl vu lo hi sl Q I rx hs pl pu h;intros a xs rfl hx hw q h;cases rx;obtain⟨its,r,ht,hz⟩:=I.tuple hx;have hlen:its.toArray.size=xs.length:=by rw[fj];exact r.length.symm
 exists "tuple",_,Bs.lookup,ht.typeIs;exact HT.aAf ht hs pl pu (by rw[hlen];exact hw) {.ref a,H,I,rfl,q}
end
def boot_all:bootBuiltins "all" = some (.builtin "all"):=by decide +kernel
def boot_min:bootBuiltins "min" = some (.builtin "min"):=by decide +kernel
def boot_str:bootBuiltins "str" = some (.type "str"):=by decide +kernel
section
variable {X:Cx} (K:au)
def nW.imp{r r':V->Option Int->Option Int->Hp->VK->Prop}(h:nW X r)(i:∀x lo hi H Q,r' x lo hi H Q->r x lo hi H Q):nW X r':=λpins s σ H x v vl vu lo hi sl Q I rx hs pl pu q=>h pins s σ H x v vl vu lo hi sl Q I rx hs pl pu (i _ _ _ _ _ q)
def aPt(hK:X.K=K:=by rfl):cG X (binaryOp .Add) (E5 K):=by subst hK;exact v_add
def xix(hK:X.K=K:=by rfl):mO X (BX K):=by subst hK;exact aOz
def lV{k:Nat}(hr:cD k X.A)(hK:X.K=K:=by rfl):cG X (compareOp .Eq) (oA K id):=by subst hK;exact v_eq hr
def xne{k:Nat}(hr:cD k X.A)(hK:X.K=K:=by rfl):cG X (compareOp .NotEq) (oA K not):=by subst hK;exact asf hr
def asZ(hK:X.K=K:=by rfl):iM X (.builtin "len") (acs K):=by subst hK;exact aAE
def ab9(hc:X.calm=true)(hK:X.K=K:=by rfl):iM X (.builtin "all") (λxs H Q=>∃(l:Addr) (bs:List Bool),xs=[.ref l]/\ak K H l (bs.map V.bl)/\Q (.bl (bs.all id)) H):=by subst hK;exact v_all hc
def J7(hc:X.calm=true)(hK:X.K=K:=by rfl):iM X (.builtin "sum") (λxs H Q=>∃(l:Addr) (ns:List Int),xs=[.ref l]/\ak K H l (ns.map V.int)/\Q (.int ns.sum) H):=by subst hK;exact v_sum hc
def xlist(hK:X.K=K:=by rfl):iM X (.type "list") (λxs H Q=>∃p ys,xs=[.ref p]/\(ak K H p ys∨ao K H p ys)/\∀l,H l=none->Q (.ref l) (upd H l (.lst ys))):=by subst hK;exact aBG
def jW(hK:X.K=K:=by rfl):iM X (.type "tuple") (λxs H Q=>∃p ys,xs=[.ref p]/\((ak K H p ys/\∀l,H l=none->Q (.ref l) (upd H l (.tup ys)))∨(ao K H p ys/\Q (.ref p) H))):=by subst hK;exact aKu
def aiM(K:au):V->Option Int->Option Int->Hp->VK->Prop:=λx lo hi H Q=>match x with
 |.ref a=>(∃xs,ak K H a xs/\∀p,H p=none->Q (.ref p) (upd H p (.lst (fY xs lo hi))))∨
   (∃xs,ao K H a xs/\¬(HT.bW xs.length 0 lo=0/\HT.bW xs.length xs.length hi=xs.length)/\∀p,H p=none->Q (.ref p) (upd H p (.tup (fY xs lo hi))))∨
   (∃xs,ao K H a xs/\(HT.bW xs.length 0 lo=0/\HT.bW xs.length xs.length hi=xs.length)/\Q (.ref a) H)
 |_=>False
def m6(hK:X.K=K:=by rfl):nW X (aiM K):=by
 subst hK;refine(aLV.or (ax1.or aLW)).imp λx lo hi H Q h=>?_;unfold aiM at h;split at h
 .rcases h with⟨xs,h⟩|⟨xs,h⟩|⟨xs,h⟩
  .exact .inl {_,xs,rfl,h}
  .exact .inr (.inl {_,xs,rfl,h})
  .exact .inr (.inr {_,xs,rfl,h})
 .exact h.elim
def iD{tg l:Expr}{tl:TE}(hl:PE X l tl)(hK:X.K=K:=by rfl):PI X tg l (ahw K tl):=by subst hK;exact as7 hl
def sH{o e:Expr}{to:TE}{te:TE}{apos cpos:Pos}(ho:PE X o to)(he:PE X e te)(hK:X.K=K:=by rfl)
  (hbase:attributeBase o "append" X.env (eval o X.env)=eval o X.env:=by rfl)
  (hfew:((backTo cpos (starEach [e] X.env)).all (λx=>!x.1)&&(backToKw cpos (keywordEach [] X.env)).all (λx=>x.1.isSome)
   && decide ([e].length+([]:List Keyword).length+(if([]:List Keyword).isEmpty then 0 else 1)<30))=true:=by rfl)
  (hline:(apos.endLine==cpos.line)=true:=by rfl) (hs:starEach [e] X.env=(false,eval e X.env)::starEach [] X.env:=by rfl):
  PE X (.Call (.Attribute o "append" apos) [e] [] cpos) (Oh K "list" apl to (m5 te qz)):=by
 subst hK;exact U6 Ph PySem.F.slot_list_append PySem.F.type_list_append aqW ho (uT he jL hs) hbase hfew hline hs rfl
def aFE{o e:Expr}{to:TE}{te:TE}{apos cpos:Pos}(ho:PE X o to)(he:PE X e te)(hK:X.K=K:=by rfl)
  (hbase:attributeBase o "extend" X.env (eval o X.env)=eval o X.env:=by rfl)
  (hfew:((backTo cpos (starEach [e] X.env)).all (λx=>!x.1)&&(backToKw cpos (keywordEach [] X.env)).all (λx=>x.1.isSome)
   && decide ([e].length+([]:List Keyword).length+(if([]:List Keyword).isEmpty then 0 else 1)<30))=true:=by rfl)
  (hline:(apos.endLine==cpos.line)=true:=by rfl) (hs:starEach [e] X.env=(false,eval e X.env)::starEach [] X.env:=by rfl):
  PE X (.Call (.Attribute o "extend" apos) [e] [] cpos) (Oh K "list" akZ to (m5 te qz)):=by
 subst hK;exact U6 Ph PySem.F.slot_list_extend PySem.F.type_list_extend ayJ ho (uT he jL hs) hbase hfew hline hs rfl
end
section
variable {X:Cx} {es:List Expr} {te:TE} {t:TA}
def MB{c:Const}{j}{p:Pos}(h:PE X (.Constant c j p) te)(hr:PA X es t):PA X ((.Constant c j p)::es) (m5 te t):=uT h hr rfl
def aoQ{x:Str}{p:Pos}(h:PE X (.Name x p) te)(hr:PA X es t):PA X ((.Name x p)::es) (m5 te t):=uT h hr rfl
end
def ux(a C:Addr):HO:= .ext λh=>∃o vs,h.get? a=some o/\o.cls = .ref C/\o.data = .fields vs
def J9(ob:Obj):Prop:=∃vs,ob.data = .fields vs/\vs[2]?=some .none
def aO8{P:Program}{w:World}{H:Hp}{h:Heap}{a C:Addr}{o:Obj}{vs:Array Value}(e:h.get? a=some o)(hc:o.cls = .ref C)(hd:o.data = .fields vs):cW P w H h a (ux a C):=
 {{o,vs,e,hc,(hd)},{o,(e)},λ_ _ ⟨o,vs,e,r⟩ k=>{o,vs,k o e,r}}
def cW.there{P:Program}{w:World}{H:Hp}{h:Heap}{a:Addr}{o:HO}(x:cW P w H h a o):∃u,h.get? a=some u:=by
 cases o with
 |lst xs=>intros _ _ _ _ e x;exact{_,e}
 |tup xs=>intros _ _ _ o e _ x;exact{_,e}
 |dK kvs=>intros _ _ _ _ o _ _ e _ x;exact{_,e}
 |dT kvs=>intros _ _ _ _ o _ _ e _ x;exact{_,e}
 |set S n=>intros o _ _ _ e _ x;exact{_,e}
 |ins C dx fs=>intros _ _ _ e _ x;exact{_,e}
 |own y=>exact x
 |xd fs=>obtain⟨_,⟨_,_,_,e,_⟩,_⟩:=x;exact{_,e}
 |rng lo hi=>intros _ _ _ e x;exact{_,e}
 |cP ob u=>intros e _ x;exact{_,e}
 |nY ps=>exact{_,(show h.get? a=some _ from x)}
 |met f y=>exact{_,(show h.get? a=some _ from x)}
 |ext φ=>exact x.2.1
structure pQ(base:Heap)(C R:Addr):Prop where
 cls:∃nm q N bs bm hdct sn sub ab col dd k0 k1 k2 k3 k5 newId,base.get? C=some (excClassObj nm q C N bs bm hdct sn sub ab col dd k0 k1 k2 k3 k5 newId)/\(Value.ref C::bm).contains (.ref R)=true
 top:∃nm q N bs bm hdct sn sub ab col dd k0 k1 k2 k3 k5 newId,base.get? R=some (excClassObj nm q R N bs bm hdct sn sub ab col dd k0 k1 k2 k3 k5 newId)/\bm.contains (.type "BaseException")=true
def aBx{M:Model}{A:Around}{E:Value->Shared->Prop}{h:Heap}{g:Array GenState}{d:Drawn}{t:Nat}{os:OsState}{e C R:Addr}{oe:Obj}{Q:Bool->Shared->Prop}{base:Heap}(S:pQ base C R)(kb:∀b o,base.get? b=some o->h.get? b=some o)
  (he:h.get? e=some oe) (hcls:oe.cls = .ref C) (hq:Q true {h,g,d,t,(os)}):wpAny M A (excMatches (.ref e) (.ref R)) Q E {h,g,d,t,(os)}:=by
 intros nm q N bs bm hdct sn sub ab col dd k0 k1 k2 k3 k5 newId hC hs S.cls;intros nm' q' N' bs' bm' aPN sn' sub' ab' col' wY k0' k1' k2' k3' k5' newId' hR hB S.top;have hC:=kb _ _ hC;have hR:=kb _ _ hR;have hcB:(Value.ref R::bm').contains (.type "BaseException")=true:=by rw[List.contains_cons,hB,Bool.or_true]
 have f:=tc_notTuple;unfold excMatches
 repeat (first|(with_reducible refine wpAny_loadPart_at he ?_;rw[hcls])|with_reducible refine wpAny_loadPart_at hR ?_|(with_reducible refine wpAny_isSubtype_exc hR ?_;rw[hcB])|(with_reducible refine wpAny_isSubtype_exc hC ?_;rw[hs])|wp_step)
 exact hq
section
variable {X:Cx} {pins:List (Addr×Obj)} {σ:St} {H:Hp} {s:Shared}
def Inv.track{a:Addr}{o:HO}(I:Inv X pins σ H s)(hn:H a=none)(h0:∀u,X.s₀.heap.get? a≠some u)(hL:a≠X.env.locals)(hc:∀x c,X.env.cells.lookup x=some c->c≠a)(hp:∀p∈X.pn++pins,p.1≠a)
  (new:cW X.prog X.w (upd H a o) s.heap a o):Inv X pins σ (upd H a o) s:=by
 have ne:∀b u,H b=some u->b≠a:=λb u e=>jx e hn;refine{I.ok,I.os,I.bare,{I.base.keep,I.base.slot,λb u e n hx=>?_,I.base.there,λb xs e=>?_,λb u xs e=>?_,λb ps e=>?_},I.loc,I.cell,?_,λx c e=>?_,λp q=>?_,λb u e=>?_,I.len}
 .rw[cI (λz=>h0 u (by rw[<-z];exact e))];exact I.base.free b u e n hx
 .have:=I.base.tups b xs e;rw[cI (ne b _ this)];exact this
 .have:=I.base.gJ b u xs e;rw[cI (ne b _ this)];exact this
 .obtain⟨m,this⟩:=I.base.iW b ps e;exact{m,by rw[cI (ne b _ this)];exact this}
 .rw[cI (je hL)];exact I.free
 .rw[cI (hc x c e)];exact I.lY x c e
 .obtain⟨e1,e2,e3⟩:=I.pin p q;exact{e1,by rw[cI (hp p q)];exact e2,e3}
 .by_cases hb:b=a
  .subst hb;rw[aq]at e;cases e;exact new
  .rw[cI hb]at e;exact(I.hok b u e).stay (λ_ _ _ q=>q) (λc q=>by rw[cI (ne c _ q)];exact q) λc xs q=>by rw[cI (ne c _ q)];exact q
def Inv.unset{h':Heap}{t':Nat}{j:Nat}{n:Str}{v:Option Value}{m:Str->Option Value}(I:Inv X pins σ H s)(hN:X.N.Nodup)(hj:X.N[j]?=some n)(hm:s.heap.Ns X.env.locals m)
  (hn:h'.Ns X.env.locals λy=>if y=n then v else m y) (hs:xY X.env.locals s.heap h'):Inv X pins (σ.set j none) H { s with heap:=h',toks:=t' }:=by
 obtain⟨m2,hn2,hl⟩:=id I.loc;obtain⟨oL,_,_,hoL,_⟩:=id hm;have em:m2=m:=by
  intros o1 es1 ep1 ho1 hd1 hk1 hf1 hn2;intros o2 es2 ep2 ho2 hd2 hk2 hf2 hm;rw[ho1]at ho2;cases ho2;rw[hd1]at hd2;cases hd2
  funext y;rw[<-hf1 y,<-hf2 y]
 subst em;refine{I.ok,I.os,I.bare,{λb o e nn hb hx=>?_,λb o e nn hb hx=>?_,I.base.free,λb o e hx=>?_,I.base.tups,I.base.gJ,I.base.iW},{_,hn,λi y u e1 e2 e3=>?_},λy c e=>?_,I.free,I.lY,λp hp=>?_,λb u e=>?_,by simpa using I.len}
 .exact(hs.2 b (iG (gO (cU e) I.ok.above))).trans (I.base.keep b o e nn hb hx)
 .obtain⟨sl,e1⟩:=I.base.slot b o e nn hb hx;exact{sl,(hs.2 b (iG (gO (cU e) I.ok.above))).trans e1}
 .obtain⟨o',e1⟩:=I.base.there b o e hx;exact{o',(hs.2 b (iG (gO (cU e) I.ok.above))).trans e1}
 .by_cases hji:i=j
  .subst hji;by_cases hlt:i < σ.length
   .rw[List.getElem?_set_self hlt]at e2;cases e2
   .rw[List.getElem?_eq_none (by simp;lia)]at e2;cases e2
  .rw[List.getElem?_set_ne (je hji)]at e2;obtain⟨u',r',q⟩:=hl i y u e1 e2 e3;exists u',r';rcases q with⟨k,e⟩|⟨k,c,e,z⟩
   .refine .inl {k,?_};have:y≠n:=λz=>hji (Tq hN e1 (z▸hj));simp[this,e]
   .exact .inr {k,c,e,z.sameBut hs (I.uf y c e)}
 .obtain⟨w',z⟩:=I.cell y c e;exact{w',z.sameBut hs (I.uf y c e)}
 .obtain⟨e,nn,ne,nf,d⟩:=I.pin p hp;exact{(hs.2 p.1 ne).trans e,nn,ne,nf,d}
 .refine(I.hok b u e).stay (λc w' hc q=>(hs.2 c ?_).trans q) (λ_ q=>q) λ_ _ q=>q;rintro rfl;rcases hc with z|hc
  .rw[<-z,I.free]at e;cases e
  .rw[I.free]at hc;cases hc
end
section
variable {X:Cx}{pins:List (Addr×Obj)}{σ:St}{H:Hp}{s:Shared}{k k' i j:Nat}{f v n x:Str}{ps:List Str}{sp:Sp}{fp cpos GP apos xp hpos pos:Pos}{e:Expr}{es:List Expr}{t:TA}{R:Addr}{b₀:Stmt}{ts:Addr->TS}
def qw(X:Cx)(a:Addr):Cx:={ X with A:=X.A.mark (some (.ref a)),calm:=false,xe:=λ_ _=>False }
def Inv.suite(I:Inv X pins σ H s)(a:Addr):Inv (qw X a) pins σ H s:=
 {{I.ok.mod,I.ok.kind,I.ok.glob,I.ok.blt,I.ok.above,I.ok.inj,I.ok.has,I.ok.cab,(λz=>by cases z),I.ok.frames,I.ok.stk,I.ok.exf,I.ok.bs,I.ok.tE,I.ok.zQ,I.ok.Bg,I.ok.n6,I.ok.wC,I.ok.tree,I.ok.top},
  I.os,I.bare,I.base,I.loc,I.cell,I.free,I.lY,I.pin,I.hok,I.len}
def Inv.arJ{a:Addr}(ok:X.Ok)(I:Inv (qw X a) pins σ H s):Inv X pins σ H s:=
 {ok,I.os,I.bare,I.base,I.loc,I.cell,I.free,I.lY,I.pin,I.hok,(I.len)}
abbrev Zv:=St->Hp->VK->XK->Prop
def PT2(X:Cx)(c:Expr)(t:Zv):Prop:=∀(pins:List (Addr×Obj)) (s:Shared) (σ:St) (H:Hp) (Q:VK) (E:XK),Inv X pins σ H s->t σ H Q E->wpAny (model X.prog X.w) X.A (eval c X.env) (λu s2=>∃s1 H1,Inv X pins σ H1 s1/\CE X.stack X.prog X.w H1 s1 Q u s2) (λev s2=>∃s1 H1,Inv X pins σ H1 s1/\iC X.prog X.w X.stack H1 s1 E ev s2) s
def amH{f:Addr}{fd:FuncData}{H1:Hp}{s1:Shared}{Q:VK}{E:XK}{us:List Value}{vs:List V}(F:jg X.prog X.w X.K X.mg X.base (iC X.prog X.w) k f fd ps sp)(hr:cD k X.A)(hb:Binds X.K fd ps [])
  (I1:Inv X pins σ H1 s1) (r:Vals vs us) (q:sp vs H1 Q E):wpAny (model X.prog X.w) X.A (call (.ref f) us) (λu s2=>∃s1 H1,Inv X pins σ H1 s1/\CE X.stack X.prog X.w H1 s1 Q u s2) (λev s2=>∃s1 H1,Inv X pins σ H1 s1/\iC X.prog X.w X.stack H1 s1 E ev s2) s1:=by
 have hl:(us++[]).length=ps.length:=by
  rw[pG,<-r.length];exact F.len _ _ _ _ q
 refine wpAny_call (codeAny_mono (F.run X.A X.stack s1 H1 {us,([])} (us++[]) vs _ _ hr I1.env0 (hb s1 us I1.dz hl) (by rw[pG];exact r) q) λrs s2 hq=>?_);cases rs with
 |ok fl=>
  cases fl with
  |ret u=>exact{s1,H1,I1,(hq)}
  |next=>exact False.elim hq
  |brk=>exact False.elim hq
  |cont=>exact False.elim hq
 |error ev=>exact{s1,H1,I1,(hq)}
def aHb(C:jc X.prog X.w X.K X.mg X.base f k ps sp)(hr:cD k' X.A)(hg:Gl X f)(ha:PA X.pW (e::es) t)(hk:k<=k')
  (hdf:(f==("__debug__" : Str))=false) (he:starEach (e::es) X.env=(false,eval e X.env)::starEach es X.env) (hpl:(backTo cpos (starEach es X.env)).any (·.1)=false):PT2 X (.Call (.Name f fp) (e::es) [] cpos) (λσ H Q E=>t σ H λvs H1=>sp vs H1 Q E):=by
 intro pins s σ H Q E I h;intros gf gd hm hkp hb F C.ex;refine wpAny_Call_Name_kw (pB I hg hm ?_ hdf);refine Cz (h₀:=X.base) I.ok.mod.vI hkp (wpAny_mono (ha cpos pins s σ H _ (I.wish _) h) (λus s1 ⟨vs,H1,I1',r,q⟩=>{I1'.dz,?_}) λ_ _ z=>z.elim) he hpl;exact amH F (hr.mono hk) hb I1'.nR r q
def ano(base:Heap)(R:Addr)(tc:Zv)(i j:Nat)(ts:Addr->TS):TS:=λD σ H=>tc σ H (λv H2=>D.nx (σ.set i (some v)) H2)
 (λcls _ H2=>∃C,cls = .ref C/\pQ base C R/\∀a ob,H2 a=none->J9 ob->
  ts a { nx:=λσ' H'=>D.nx (σ'.set j none) H',rt:=D.rt,bk:=λσ' H'=>D.bk (σ'.set j none) H',ct:=λσ' H'=>D.ct (σ'.set j none) H' } (σ.set j (some (.ref a))) (upd H2 a (.cP ob (ux a C))))
def ac3{c:Expr}{suite:List Stmt}{tc:Zv}
  (hc:PT2 X c tc) (Fi:X.stack=X.env::X.outer) (hfr:X.env.frame=some X.env.locals) (hex:X.ex=[]) (hN:X.N.Nodup) (hi:X.N[i]?=some v) (hv:Loc X.env.scope v)
  (hj:X.N[j]?=some n) (hn:X.env.scope.names.lookup n=some .local) (hx:Gl X x) (hR:X.mg x=some (.ref R)) (hs:∀a,iy (qw X a) (b₀::suite) (ts a))
  (hdx:(x==("__debug__" : Str))=false:=by decide)
  (hsw:swapsWith c (some (.Name v GP)) apos.line X.env=pure false:=by rfl) (hfv:X.fn v=true∨X.env.scope.names.lookup v=some .local:=by first|exact .inl rfl|exact .inr rfl|assumption):
  PS X (.Try [.Assign [.Name v GP] c apos] [.ExceptHandler (some (.Name x xp)) (some n) (b₀::suite) hpos] [] [] pos) (ano X.base R tc i j ts):=by
 intro pins s σ H D I h;have nx:∀b:Addr,b∉X.ex:=λb=>by rw[hex];simp
 refine wpAny_Try_except ?_;refine wpAny_execs_cons (wpAny_Assign_Name (wpAny_mono (hc pins s σ H _ _ I h) (λu s2 ⟨s1,H1,I1,hq⟩=>?_) λev s2 ⟨s1,H1,I1,hq⟩=>?_) hsw)
 .obtain⟨y,H2,I2,ry,q2⟩:=I1.after hq;refine IY I2 hN hi hv ry (λs3 I3=>?_) hfv;exact wpAny_execs_nil (wpAny_execs_nil {_,H2,I3,q2})
 .obtain⟨ea,Cc,a0,B,H2,rfl,os,bare,fl,hok,un,old,C',eC,S,q2⟩:=iC.ex hq;obtain⟨Px,ee,kk⟩:=iC.k2 hq;cases ee;cases eC;rw[Fi]at fl;have RN:frs X.stack=(X.env::X.outer).filterMap (·.frame):=by rw[Fi];rfl
  have oe:=fl.first;have newE:∀u,s1.heap.get? ea≠some u:=λu z=>by
   rcases old ea u z with hb|⟨o',hb⟩
   .rw[RN]at hb;obtain⟨_,o,ho,hd⟩:=fl.2.2.1.mem hb;intros o2 vs2 e1 _ e2 _ oe;rw[e1]at ho;cases ho;exact hd _ e2
   .rw[fl.2.1]at hb;cases hb
  have to:∀h6,Gy B (X.env::X.outer) ea (.ref Cc) a0 h6->s2.heap.UpToSlots h6->Inv X pins σ H2 { s2 with heap:=h6 }:=λh6 Bh up=>by
   refine I1.aci (ch:=[]) os {λb o e1 n1 hb _=>?_,λb o e1 n1 hb _=>?_,λb o e1 n1 _=>un.free b o e1 n1 (by simp),λb o e1 _=>?_,un.tups,un.gJ,un.iW} (hok.kept Bh.1) bare (λ_ z=>nomatch z)
   .rcases old b o e1 with z|⟨o',z⟩
    .exact absurd z hb
    .have e2:=un.keep b o e1 n1 hb (by simp);have e3:=fl.1 b o' z;rw[e2]at e3;cases e3;exact Bh.1 b _ z
   .obtain⟨sl,e2⟩:=un.slot b o e1 n1 hb (by simp);rw[RN]at hb;obtain⟨_,o2,ho,hd⟩:=fl.2.2.1.mem hb;rw[e2]at ho;cases ho;obtain⟨sl',e3⟩:=up b _ e2 hd;exact{sl',(e3)}
   .rcases old b o e1 with z|⟨o',z⟩
    .rw[RN]at z;obtain⟨_,o2,ho,hd⟩:=fl.2.2.1.mem z;obtain⟨sl',e3⟩:=up b _ ho hd;exact{_,e3}
    .exact{o',Bh.1 b o' z}
  have auP:X.A.frames=some (X.env::X.outer):=by rw[I.ok.frames,Fi]
  refine aaQ auP fl.2.2.1 hfr fl.2.2.2 fl.1 fl.2.1 kk λh4 O2 up4 UL=>?_;refine PV O2.1 O2.2.1 O2.2.2.1 O2.2.2.2 UL λh5 zZ up5 kk5=>?_;have I5:=to h5 zZ (up4.trans up5);intros ob hob hobc zZ.there;refine wpAny_handleBy_cons (codeAny_handlers_test (pB (X:=qw X ea) (I5.suite ea) hx hR ?_ hdx)) (by intro z;cases z);refine aBx S I5.bk hob hobc (codeAny_handlers_suite_as ?_);refine PV zZ.1 zZ.2.1 zZ.2.2.1 zZ.2.2.2 kk5 λh6 Bh up6 kk6=>?_;have I6:=to h6 Bh ((up4.trans up5).trans up6);intros YK vs6 e6 c6 d6 _ Bh.first;have cm:J9 YK:=by
   intros o' v' g1 g2 g3 kk6;rw[e6]at g1;cases g1;exact{v',g2,(g3)}
  have hn2:H2 ea=none:=by
   cases z:H2 ea with
   |none=>rfl
   |some u=>
    exfalso
    obtain⟨o',z'⟩:=(hok ea u z).there;rw[fl.2.1]at z';cases z'
  have I7:Inv X pins σ (upd H2 ea (.cP YK (ux ea Cc))) { s2 with heap:=h6 }:=by
   refine I6.track hn2 (λu z=>?_) (λz=>?_) (λy c e z=>?_) (λp hp z=>?_) {e6,aO8 e6 c6 d6}
   .obtain⟨o',e1⟩:=I1.base.there ea u z (nx ea);exact newE o' e1
   .obtain⟨m,⟨o,_,_,ho,_⟩,_⟩:=I1.loc;exact newE o (by rw[z];exact ho)
   .obtain⟨v',o,ho,_⟩:=I1.cell y c e;exact newE o (by rw[<-z];exact ho)
   .exact newE p.2 (by rw[<-z];exact(I1.pin p hp).1)
  refine IY (X:=qw X ea) (I7.suite ea) hN hj (.inl hn) (show RelV (.ref ea) (Value.ref ea)from rfl) (λs8 I8=>?_) (.inr hn);have q3:=q2 ea YK hn2 cm;have gone:∀{σ9:St} {H9:Hp} {s9:Shared} {Q':Unit->Shared->Prop},Inv (qw X ea) pins σ9 H9 s9->(∀rF,Inv X pins (σ9.set j none) H9 rF->Q' () rF)->wpAny (model X.prog X.w) X.A (do bindName X.env n .none;unbindBehindTheSuite X.env n hpos) Q' X.xe s9:=
   λ{σ9 H9 s9 Q'} I9 k=>by
    have I9':Inv X pins σ9 H9 s9:=I9.arJ I.ok;obtain⟨m,hm9,_⟩:=id I9'.loc;exact wpAny_nameGoes_keeps hn hm9 (by rw[I.ok.kind];rfl) λh' v' n' sb=>k _ (I9'.unset hN hj hm9 n' sb)
  refine wpAny_mono (hs ea pins s8 _ _ _ I8 q3) (λfl9 s9 q9=>?_) λ_ _ z=>z.elim;cases fl9 with
  |next=>
   intros σ9 H9 I9 q9 q9;exact gone I9 λrF uH=>{_,H9,uH,q9}
  |brk=>
   intros σ9 H9 I9 q9 q9;exact gone I9 λrF uH=>{_,H9,uH,q9}
  |cont=>
   intros σ9 H9 I9 q9 q9;exact gone I9 λrF uH=>{_,H9,uH,q9}
  |ret u=>
   intros y σ9 H9 I9 r9 q9 q9;exact gone I9 λrF uH=>{y,_,H9,uH,r9,q9}
def aK3(base:Heap)(R:Addr)(sp:Sp)(i j:Nat)(t:TA)(ts:Addr->TS):TS:=ano base R (λσ H Q E=>t σ H λvs H1=>sp vs H1 Q E) i j ts
def asF{suite:List Stmt}
  (C:jc X.prog X.w X.K X.mg X.base f k ps sp) (hr:cD k' X.A) (Fi:X.stack=X.env::X.outer) (hfr:X.env.frame=some X.env.locals) (hex:X.ex=[]) (hg:Gl X f) (ha:PA X.pW (e::es) t) (hN:X.N.Nodup) (hi:X.N[i]?=some v) (hv:Loc X.env.scope v)
  (hj:X.N[j]?=some n) (hn:X.env.scope.names.lookup n=some .local) (hx:Gl X x) (hR:X.mg x=some (.ref R)) (hs:∀a,iy (qw X a) (b₀::suite) (ts a)) (hk:k<=k':=by decide)
  (hdf:(f==("__debug__" : Str))=false:=by decide) (hdx:(x==("__debug__" : Str))=false:=by decide)
  (he:starEach (e::es) X.env=(false,eval e X.env)::starEach es X.env:=by rfl) (hpl:(backTo cpos (starEach es X.env)).any (·.1)=false:=by rfl)
  (hsw:swapsWith (.Call (.Name f fp) (e::es) [] cpos) (some (.Name v GP)) apos.line X.env=pure false:=by rfl) (hfv:X.fn v=true∨X.env.scope.names.lookup v=some .local:=by first|exact .inl rfl|exact .inr rfl|assumption):
  PS X (.Try [.Assign [.Name v GP] (.Call (.Name f fp) (e::es) [] cpos) apos] [.ExceptHandler (some (.Name x xp)) (some n) (b₀::suite) hpos] [] [] pos) (aK3 X.base R sp i j t ts):=
 ac3 (aHb C hr hg ha hk hdf he hpl) Fi hfr hex hN hi hv hj hn hx hR hs hdx hsw hfv
structure oE(K:au)(C:Addr):Prop where
 ga:fW K (.ref C) "__getattribute__" = some (some (.builtin "BaseException.__getattribute__"))
 gt:fW K (.ref C) "__getattr__" = some none
 cl:fW K (.ref C) "__class__" = some (some (.builtin "object.__class__"))
 mb:qR K C (.type "BaseException")=some true
 mo:qR K C (.type "object")=some true
 is:(xX K C).isSome=true
end
section
variable {prog:Program} {w:World} {A:Around} {E:Value->Shared->Prop} {h:Heap} {g:Array GenState} {d:Drawn} {t:Nat} {os:OsState} {a C:Addr} {o:Obj} {K:au}
def auQ{R:Result->Shared->Prop}(S:oE K C)(X:K.In h)(hx:h.get? a=some o)(hc:o.cls = .ref C)(hq:R (.ok (.ret (.ref C))) {h,g,d,t,(os)}):
  codeAny (model prog w) A (.call (.builtin "getset_descriptor.__get__") {[.builtin "object.__class__",.ref a,.ref C],[]}) R {h,g,d,t,(os)}:=by
 have hT5:({h,g,d,t,(os)}:Shared).TypeIs (.builtin "object.__class__") "getset_descriptor" := Uv;have L1:=W.looks_mroIn (M:=model prog w) X S.mo;rw[<-F.owner_object_class]at L1;refine codeAny_call_builtin aaA.plain F.entry_gs_get (aaA.check _ _ _ _ _ _ _ _ hT5 (F.args_gs_get _ _ _) ?_)
 repeat (any_goals (first|assumption|(with_reducible refine wpAny_loadPart_at hx ?_;rw[hc])|with_reducible refine L1.at ?_|wp_step))
 refine{Code.quiet_builtin _ (by decide +kernel),codeAny_builtin F.entry_object_class ?_}
 repeat (any_goals (first|assumption|(with_reducible refine wpAny_loadPart_at hx ?_;rw[hc])|wp_step))
def aDy{tk:Tok}{Q:Fin->Shared->Prop}(S:oE K C)(X:K.In h)(hx:h.get? a=some o)(hc:o.cls = .ref C)(hq:Q (.done (.ret (.ref C))) {h,g,d,t,(os)}):
  wpAny (model prog w) A (Builtin.«object.__getattribute__» {[.ref a,.str "__class__" tk],[]}) Q E {h,g,d,t,(os)}:=by
 have hT5:({h,g,d,t,(os)}:Shared).TypeIs (.builtin "object.__class__") "getset_descriptor" := Uv;have L1:=O6 (M:=model prog w) X S.cl;have f5:=Uv;have f6:=aaA.lookup;have f7:=F.slot_gs_set.lookup
 repeat (any_goals (first|assumption|(with_reducible refine wpAny_loadPart_at hx ?_;rw[hc])|with_reducible refine L1.at ?_|wp_step))
 refine auQ S X hx hc ?_
 repeat (any_goals (first|assumption|wp_step))
def arf{nameV:Value}{Q:Unit->Shared->Prop}(S:oE K C)(X:K.In h)(hx:h.get? a=some o)(hc:o.cls = .ref C)(hq:Q () {h,g,d,t,(os)}):
  wpAny (model prog w) A (checkBuiltinCall "BaseException.__getattribute__" {[.ref a,nameV],[]}) Q E {h,g,d,t,(os)}:=by
 have hk:builtinKind "BaseException.__getattribute__" = some .slot:=by decide +kernel
 have hs:splitId "BaseException.__getattribute__" = some ("BaseException","__getattribute__"):=by decide +kernel
 have L1:=W.looks_mroIn (M:=model prog w) X S.mb;have ha:=F.args_bexc_ga (.ref a) nameV;simp only[checkBuiltinCall,hk,hs];refine wpAny_bind ?_;unfold isInstance
 repeat (first|(with_reducible refine wpAny_loadPart_at hx ?_;rw[hc])|with_reducible refine L1.at ?_|wp_step)
 exact hq
def aOR{tk:Tok}{Q:Value->Shared->Prop}(S:oE K C)(X:K.In h)(hx:h.get? a=some o)(hc:o.cls = .ref C)(hq:Q (.ref C) {h,g,d,t,(os)}):
  wpAny (model prog w) A (getAttrBy (.ref a) (.str "__class__" tk) false) Q E {h,g,d,t,(os)}:=by
 have f3:=akV.ga.bind (.ref a);have L1:=O6 (M:=model prog w) X S.ga;have L2:=O6 (M:=model prog w) X S.gt;have hx2:(Value.builtin "BaseException.__getattribute__" == Value.builtin "object.__getattribute__")=false:=by decide +kernel
 have hx1:(onTheHeap (Value.ref C)&&Value.builtin "BaseException.__getattribute__" == Value.builtin "object.__getattribute__")=false:=by rw[hx2];rfl
 repeat (any_goals (first|assumption|(with_reducible refine wpAny_loadPart_at hx ?_;rw[hc])|with_reducible refine L1.at ?_|with_reducible refine L2.at ?_|wp_step))
 refine codeAny_call_builtin akV.ga.plain F.entry_bexc_ga (arf S X hx hc (aDy S X hx hc ?_))
 repeat (any_goals (first|assumption|wp_step))
def aGN{Q:Option Value->Shared->Prop}(S:oE K C)(X:K.In h)(hx:h.get? a=some o)(hc:o.cls = .ref C)(hq:Q (some (.ref C)) {h,g,d,t+1,(os)}):
  wpAny (model prog w) A (getAttr? (.ref a) "__class__") Q E {h,g,d,t,(os)}:=by
 unfold getAttr? getAttrBy?
 repeat (any_goals (first|assumption|with_reducible apply aOR S X hx hc|wp_step))
end
def Zk{K:au}{a C:Addr}(S:oE K C):W.KitX K (.ref a) (.ref C) (λh=>∃o vs,h.get? a=some o/\o.cls = .ref C/\o.data = .fields vs) where
 ty:=λM h _ p=>by
  intros o _ h1 h2 _ p;exact h2▸(W.Looks.ld h1).andThen .now
 it:=λ_ _ X _=>by
  have hi:=S.is;unfold xX at hi;split at hi
  .rename_i c' d' cd' sl' ho
   intro A' Q' E' s' k q;unfold isType loadHead;exact wpAny_bind (wpAny_loadPart (k _ _ (X _ _ ho)) (wpAny_pure q))
  .cases hi
 ne:=λh tp dd its n sl X htp=>by
  have hi:=S.is;refine SR.mpr λq=>?_;have e:C=tp:=Value.ref.inj (beq_iff_eq.mp q);subst e;unfold xX at hi;split at hi
  .rename_i c' d' cd' sl' ho
   have z:=(X _ _ ho).symm.trans htp;cases z
  .cases hi
 ca:=λ{prog w A E Q s} X p k=>by
  intros o vs h1 h2 _ p;intros h0 g d t os s;exact aGN S X h1 h2 k
theorem amq:∀{Ds:List Addr} {us:List Value},Vals (Ds.map V.ref) us->us=Ds.map Value.ref
 |[],_,.nil=>rfl
 |D::Ds,_,.cons r t=>by
  have e:=amq (Ds:=Ds) t;cases (show _=Value.ref D from r);rw[e];rfl
def XC(K:au):List V->Hp->VK->Prop:=λxs H Q=>∃a C y b,xs=[.ref a,y]/\Rd H a (ux a C)/\oE K C/\
 ((∃D,y = .ref D/\aZ K (.ref C) (.ref D)=some b)∨(∃T,y = .ty T/\aZ K (.ref C) (.type T)=some b)∨(∃(p:Addr) (Ds:List Addr),y = .ref p/\H p=some (.tup (Ds.map V.ref))/\W.kitAny K (.ref C) (Ds.map Value.ref)=some b))/\Q (.bl b) H
def aDJ{X:Cx}:iM X (.builtin "isinstance") (XC X.K):=by
 intro pins s σ H xs us Q I r h;intros a C y b rfl ha S h1 q h;intros u v rfl ru rv r.two;cases ru;have p:∃o vs,s.heap.get? a=some o/\o.cls = .ref C/\o.data = .fields vs:=by
  rcases ha with ha|⟨o,ha⟩
  .exact(I.hok a _ ha).1
  .exact(show cW X.prog X.w H s.heap a (.cP o (ux a C))from I.hok a _ ha).2.1
 have fin:∀tk,EP X pins σ Q (.bool b) { s with toks:=tk }:=λtk=>{.bl b,H,I.tok tk,rfl,q};rcases h1 with⟨D,rfl,e⟩|⟨T,rfl,e⟩|⟨tp,Ds,rfl,ht,e⟩
 .cases rv;exact m8 (Zk S) I.dz p e (λz=>nomatch z) fin
 .cases rv;exact m8 (Zk S) I.dz p e (λz=>nomatch z) fin
 .cases rv;obtain⟨its,r2,p2,_⟩:=I.tuple (ao.of ht);have ei:=amq r2;subst ei;obtain⟨⟨cls,dd,data,sl⟩,ho,hc,n,hd⟩:=id p2;simp only at hc hd;subst hc hd;exact W.kia_tup (Zk S) I.dz p ho e (λz=>nomatch z) fin
def uZ{X:Cx}(K:au)(hK:X.K=K:=by rfl):iM X (.builtin "isinstance") (XC K):=by subst hK;exact aDJ
def wg{X:Cx}{x:Str}{C:Addr}{pos:Pos}(hg:Gl X x)(hm:X.mg x=some (.ref C))(hd:(x==("__debug__" : Str))=false:=by decide):PE X (.Name x pos) (tC (.ref C)):=Ny hg hm rfl hd
def Gh{K:au}{h:Heap}{mg:Str->Option Value}{x:Str}{C:Addr}{newId inN Bn:String}{bmN:List Value}(X:K.In h)(G:h.Ns mainGlobals mg)(e:bI K mainGlobals x=some (some (.ref C)))
  (q:za K C [.type "ValueError",.type "Exception",.type "BaseException",.type "object"] newId=true) (Fn:ExcBaseFacts Bn newId inN bmN)
  (hBn:[Value.type "ValueError",.type "Exception",.type "BaseException",.type "object"].contains (.type Bn)=true):zB mg h x C:=by
 refine{_,newId,{eY X G e,?_},Bn,inN,bmN,_,_,_,Fn,hBn,B6};unfold za at q;split at q
 .rename_i dd cd sl ho
  split at q
  .rename_i C' bm k0 k1 k2 k3 n k5 hm hs
   simp only[pH,beq_iff_eq,ajr]at q;obtain⟨⟨⟨⟨⟨rfl,rfl⟩,hdel⟩,ht⟩,hok⟩,hni⟩:=q;intros nm bs mro ns qn hdc sn sub ab col del cd;dsimp only at hm hdel hok hni;subst hm;subst hdel;have hsl:sl=#[k0,k1,k2,k3,some (.builtin n),k5]:=by
    intros l sl;simp only at hs;rw[hs]
   subst hsl;exact{bm,ns,nm,qn,bs,hdc,sn,sub,ab,col,dd,k0,k1,k2,k3,k5,_,X _ _ ho,.of_isNs (W.isNs_of_in X hok),W.nsMap_none_of_in X hok hni,W.tail_of_in X ht}
  .cases q
 .cases q
def BP(K:au)(C R:Addr):Bool:=match K.lookup C with
 |some ⟨.type "type",_,.cls cd,sl⟩=>(match cd.mro,sl.toList with
  |.ref C'::bm,[_,_,_,_,some (.builtin _),_]=>C'==C&&!cd.hasDel&&(Value.ref C'::bm).contains (.ref R)
  |_,_=>false)
 |_=>false
def M4{K:au}{h:Heap}{C R:Addr}(X:K.In h)(q:BP K C R=true)(qr:IL K R "BaseException" = true):pQ h C R:=by
 refine{?_,?_}
 .unfold BP at q;split at q
  .rename_i dd cd sl ho
   split at q
   .rename_i C' bm k0 k1 k2 k3 n k5 hm hs
    simp only[pH,beq_iff_eq,ajr]at q;obtain⟨⟨rfl,hdel⟩,ht⟩:=q;intros nm bs mro ns qn hdc sn sub ab col del cd;dsimp only at hm hdel;subst hm;subst hdel;have hsl:sl=#[k0,k1,k2,k3,some (.builtin n),k5]:=by
     intros l sl;simp only at hs;rw[hs]
    subst hsl;exact{nm,qn,ns,bs,bm,hdc,sn,sub,ab,col,dd,k0,k1,k2,k3,k5,n,X _ _ ho,ht}
   .cases q
  .cases q
 .obtain⟨nm,qn,N,bs,bm,hdct,sn,sub,ab,col,dd,k0,k1,k2,k3,k5,newId,hR,hb,_⟩:=W.kts_cls X qr;exact{nm,qn,N,bs,bm,hdct,sn,sub,ab,col,dd,k0,k1,k2,k3,k5,newId,hR,(hb)}
def aCy:bootBuiltins "ValueError" = some (.type "ValueError"):=by decide +kernel
section
variable {X:Cx} {a:Expr} {ta:TE}
end
end L2
namespace L2
open PySem
theorem amP:∀ns:List Int,OX (ns.map Xz)=true
 |[]=>rfl
 |n::r=>by
  have:=amP r;simp[OX,NP,this]
theorem akQ:∀ns:List Int,Gn (ns.map Xz)<=1
 |[]=>by simp[Gn]
 |n::r=>by
  have:=akQ r;simp[Gn,NQ];lia
def amm(ns:List Int):SeqAt.shaped (.tuple (ns.map .int))=true:=by
 have h1:=amP ns;have h2:=akQ ns;simp only[SeqAt.shaped,NP,NQ,h1,Z4];exact decide_eq_true ⋯
def aII(ns ms:List Int):yq (.tuple (ns.map .int)) (.tuple (ms.map .int))=decide (ns=ms):=by
 rw[yq];exact W.ked_eqvAll ns ms
def acX{K:au}{g:Bool->Bool}{H:Hp}{a b:Addr}{ns ms:List Int}{Q:VK}(ha:ao K H a (ns.map V.int))(hb:ao K H b (ms.map V.int))(q:Q (.bl (g (decide (ns=ms)))) H):oA K g (.ref a) (.ref b) H Q:=
 .inl {_,_,.tup ha (qm.ints ns),.tup hb (qm.ints ms),amm ns,amm ms,by rw[aII];exact q}
end L2
set_option maxHeartbeats 4000000
namespace L2
open PySem PySem.Spec PyProof.Rows
def Aw(lo:Int)(n:Nat):It:={λi _=>i<n,λi H x H'=>H'=H/\x = .int (lo-i),λi _=>n<=i}
def aBF{P:Program}{w:World}{K:au}{tg:Expr}(it:Addr)(lo:Int)(n:Nat):Turn P w K tg (Aw lo n) [it] it (λi h=>IsRangeIter h it (lo+(i:Nat)*(-1)) ((n:Int)-(i:Nat)) (-1)) where
 mem:=by simp
 obj:=λi h st b hb=>by
  have e:b=it:=by simpa using hb
  subst e;exact{_,st,λv z=>by
   have z':Data.fields _=Data.cell v:=z;cases z'}
 keep:=λi h h' st k=>k it (by simp) _ st
 item:=by
  intro X hP hw hK hc i pins s σ H E I hf st hg;subst hP hw hK;obtain⟨f0,f1,f2,f3,f4,f5⟩:=hf it (by simp);have W:=Walks.range (prog:=X.prog) (w:=X.w) (I.ok.hd hc) it lo (-1) n;refine W.item i s _ _ hg st λv h' tk hv st' kk=>?_;intros t rfl hv;have I1:Inv X pins σ H { s with heap:=h',toks:=tk }:=I.turned (λb o hb e=>kk b o (by simpa using hb) e) f0 f1 f3 f4 f5;refine{(),vY (s:={ s with heap:=h',toks:=tk }) (n:= "range_iterator") st' rfl rfl ∅ {.int (lo-i),H,I1,{t,?_},{rfl,(rfl)},st',λb hb=>(hf b hb).1}};rw[Int.mul_neg_one];rfl
 done:=by
  intro X hP hw hK hc i pins s σ H E I hf st hg;subst hP hw hK;obtain⟨f0,f1,f2,f3,f4,f5⟩:=hf it (by simp);exact wpAny_pyNext_range_end (I.ok.hd hc) st (by have:n<=i:=hg;lia) λh' eb=>{rfl,I.turned (t':=s.toks) (λb o hb e=>eb b o hb e) f0 f1 f3 f4 f5}
 self:=λ_ _ _ _ _ st h=>wpAny_pyIter_rangeiter st h
def rangeSize_down(a b:Int):Builtin.Range.rangeSize a b (-1)=if b<a then a-b else 0:=by
 unfold Builtin.Range.rangeSize;simp only[(∅:¬(-1:Int)>0),if_false,Int.neg_neg,Ze];split<;>lia
def small_down{a b:Int}(ha:-(2^62)<=a)(ha':a<2^62)(hb:-(2^62)<=b)(hb':b<2^62):Builtin.Range.small a b (-1)=true:=by
 unfold Builtin.Range.small;rw[rangeSize_down];simp only[Builtin.Range.rangeFitsLong,pH,Ia,decide_eq_true_eq,beq_iff_eq,(∅:¬(-1:Int)>0),if_false];split<;>lia
section
variable {X:Cx} {tg:Expr}
def axi{pins:List (Addr×Obj)}{σ:St}{H:Hp}{s:Shared}{R:It->Hp->Prop}{E:Value->Shared->Prop}{lo hi:Int}{t u v:Tok}{tk:Nat}(I:Inv X pins σ H s)(h1:-(2^62)<=lo)(h2:lo<2^62)(h3:-(2^62)<=hi)(h4:hi<2^62)
  (q:R (Aw lo (lo-hi).toNat) H):wpAny (model X.prog X.w) X.A (pyIter (.ref s.heap.objs.size)) (PIE X pins σ tg R) E { s with heap:=s.heap.push { cls:= .type "range",data:= .fields #[.int lo t,.int hi u,.int (-1) v] },toks:=tk }:=by
 refine wpAny_pyIter_range (IsRange.new ..) (small_down h1 h2 h3 h4) ?_;have I1:Inv X pins σ H { s with heap:=s.heap.push { cls:= .type "range",data:= .fields #[.int lo t,.int hi u,.int (-1) v] },toks:=tk }:=I.kept λb o e=>Heap.get?_push_of_some _ e;refine{(s.heap.push { cls:= .type "range",data:= .fields #[.int lo t,.int hi u,.int (-1) v] }).objs.size,[(s.heap.push { cls:= .type "range",data:= .fields #[.int lo t,.int hi u,.int (-1) v] }).objs.size],_,_,H,rfl,
  I1.kept (t':=tk) λb o e=>Heap.get?_push_of_some _ e,aBF _ lo (lo-hi).toNat,?_,λb hb=>?_,q}
 .have e1:lo+((0:Nat):Int)*(-1)=lo:=by simp
  have e2:(((lo-hi).toNat:Nat):Int)-((0:Nat):Int)=Builtin.Range.rangeSize lo hi (-1):=by rw[rangeSize_down];split<;>lia
  show IsRangeIter _ _ (lo+((0:Nat):Int)*(-1)) ((((lo-hi).toNat:Nat):Int)-((0:Nat):Int)) (-1);rw[e1,e2];exact Heap.get?_push_size _ rfl
 .have e:b=(s.heap.push { cls:= .type "range",data:= .fields #[.int lo t,.int hi u,.int (-1) v] }).objs.size:=by simpa using hb
  subst e;exact I1.tU (bO _) (I1.hok.fresh (bO _))
def aJz(ta:TA):TI:=λσ H R=>ta σ H λvs H1=>∃i j:Int,vs=[.int i,.int j,.int (-1)]/\(-(2^62)<=i/\i<2^62/\-(2^62)<=j/\j<2^62)/\R (Aw i (i-j).toNat) H1
def anq{a b c:Expr}{ta:TA}{p pos:Pos}(hg:Gl X "range")(hm:X.mg "range" = none)(ha:PA X [a,b,c] ta)(hs:starEach [a,b,c] X.env=(false,eval a X.env)::starEach [b,c] X.env:=by rfl)(hs2:(backTo pos (starEach [b,c] X.env)).any (·.1)=false:=by rfl):
  PI X tg (.Call (.Name "range" p) [a,b,c] [] pos) (aJz ta):=by
 intro pins s σ H R I h;refine Call_ (Al I hg hm boot_range (NT (aP (ha pos pins s σ H _ I h) λus s1 ⟨vs,H1,I1,r1,q1⟩=>?_) hs hs2));obtain⟨i,j,e,⟨q1,q2,q3,q4⟩,q⟩:=q1;subst e;cases r1 with
 |cons r rr=>
  cases rr with
  |cons r' rr=>
   cases rr with
   |cons r'' rr=>
    cases rr;intros t rfl r;intros t' rfl r';intros t'' rfl r'';exact call_range_3 ∅ (axi (tk:=s1.toks) I1 q1 q2 q3 q4 q) (.inl (anD ⋯))
end
def agu{lo:Int}{n:Nat}{g:TG}{tb:TS}{D:Ends}{σ:St}{H:Hp}(Pv:Nat->St->Hp->Prop)(h0:Pv 0 σ H)
  (hs:∀i σ H,i<n->Pv i σ H->g (.int (lo-i)) σ H λσ2 H2=>tb { D with nx:=Pv (i+1),ct:=Pv (i+1),bk:=D.nx } σ2 H2) (hd:∀σ H,Pv n σ H->D.nx σ H):
  ∃W:Nat->Nat->St->Hp->Prop,(∃m,W 0 m σ H)/\∀i m σ H,W i m σ H->
   ((Aw lo n).stop i H/\D.nx σ H)∨((Aw lo n).go i H/\∃N:St->Hp->Prop,(∀σ' H',N σ' H'->∃m',m'<m/\W (i+1) m' σ' H')/\∀x H',(Aw lo n).mK i H x H'->g x σ H' λσ2 H2=>tb { D with nx:=N,ct:=N,bk:=D.nx } σ2 H2):=by
 refine{λi m σ H=>m=n-i/\i<=n/\Pv i σ H,{n,by simp,dW _,h0},?_};rintro i m σ H ⟨rfl,hi,p⟩;by_cases hlt:i<n
 .refine .inr {hlt,Pv (i+1),λσ' H' p'=>{n-(i+1),⋯,rfl,hlt,p'},λx H' y=>?_};intros e y y;subst e y;exact hs i σ _ hlt p
 .have e:i=n:=⋯;subst e;exact .inl {bO _,hd σ H p}
def aGB:fillsNumberSlot (.type "tuple") "mul" = pure false:=PySem.fillsNumberSlot_seq (id:= "tuple.__mul__") (r:=some (.builtin "tuple.__rmul__")) Bm.lookup (by decide +kernel) aeL.lookup (by decide +kernel)
def aFb:seqRepeat? (.type "tuple")=pure (some (.builtin "tuple.__mul__")):=by
 have e1:=aiH (T:= "tuple") (name:= "__mul__") (id:= "tuple.__mul__") Bm.lookup (by decide +kernel);have e2:=aiH (T:= "tuple") (name:= "__rmul__") (id:= "tuple.__rmul__") aeL.lookup (by decide +kernel);unfold seqRepeat?;rw[e1,e2];rfl
def aDO(a:Int)(t:Tok)(l:Addr)(items:Array Value)(n:Nat)(dd)(sl):
  Meets (Builtin.«int.__rmul__» {[.int a t,.ref l],[]}) (λ_ R s=>s.heap.get? l=some { cls:= .type "tuple",dict:=dd,data:= .seq items n,slots:=sl }/\R (.ok (.ret Value.notImplemented)) s):=
 .of_wp λprog w A R s h=>by
  intros hp g d tk os s;intros hl q h
  wp_walk
  exact{(),q}
def afl(k:Int)(t:Tok)(l:Addr)(items:Array Value)(n:Nat)(dd)(sl)(h1:¬(decide (k < -(2^63))||decide (k≥2^63))=true)(h2:(items.isEmpty||k==1)=true):
  Meets (Builtin.«tuple.__mul__» {[.ref l,.int k t],[]}) (λ_ R s=>s.heap.get? l=some { cls:= .type "tuple",dict:=dd,data:= .seq items n,slots:=sl }/\R (.ok (.ret (.ref l))) s):=
 .of_wp λprog w A R s h=>by
  intros hp g d tk os s;intros hl q h;have f1:=AutoSeq1.idx_int
  wp_walk using wpAny_loadPart' hl
  rw[if_neg h1]
  wp_walk using wpAny_loadPart' hl
  exact{(),q}
def aIp(k:Int)(t:Tok)(l:Addr)(items:Array Value)(n:Nat)(dd)(sl)(h1:¬(decide (k < -(2^63))||decide (k≥2^63))=true)(h2:¬(items.isEmpty||k==1)=true)(h3:¬(decide (k<=0)||items.isEmpty)=true)
  (h4:¬(items.size:Int)*k>(2^63-1)/8) (h5:¬Builtin.Tuple.tupleTooMany ((items.size:Int)*k)=true) (h6:((cO k.toNat items).foldl (·++·) #[]).size<=sizeLine):
  Meets (Builtin.«tuple.__mul__» {[.ref l,.int k t],[]}) (λ_ R s=>s.heap.get? l=some { cls:= .type "tuple",dict:=dd,data:= .seq items n,slots:=sl }/\
   R (.ok (.ret (.ref s.heap.objs.size))) { s with heap:=s.heap.push { cls:= .type "tuple",data:= .seq ((cO k.toNat items).foldl (·++·) #[]) } }):=
 .of_wp λprog w A R s h=>by
  intros hp g d tk os s;intros hl q h;have f1:=AutoSeq1.idx_int
  wp_walk using wpAny_loadPart' hl
  rw[if_neg h1]
  wp_walk using wpAny_loadPart' hl
  rw[if_neg h4]
  wp_walk using wpAny_loadPart' hl
  exact{(),q}
def ar8(k:Int)(t:Tok)(l:Addr)(items:Array Value)(n:Nat)(dd)(sl)(h1:¬(decide (k < -(2^63))||decide (k≥2^63))=true)(h2:¬(items.isEmpty||k==1)=true)(h3:(decide (k<=0)||items.isEmpty)=true):
  Meets (Builtin.«tuple.__mul__» {[.ref l,.int k t],[]}) (λ_ R s=>s.heap.get? l=some { cls:= .type "tuple",dict:=dd,data:= .seq items n,slots:=sl }/\
   R (.ok (.ret (.ref s.heap.objs.size))) { s with heap:=s.heap.push { cls:= .type "tuple",data:= .seq #[] } }):=
 .of_wp λprog w A R s h=>by
  intros hp g d tk os s;intros hl q h;have f1:=AutoSeq1.idx_int
  wp_walk using wpAny_loadPart' hl
  rw[if_neg h1]
  wp_walk using wpAny_loadPart' hl
  exact{(),q}
section
variable {X:Cx}
def ava:cG X (binaryOp .Mult) (λx y H Q=>∃l k xs,x = .ref l/\y = .int k/\ao X.K H l xs/\0<=k/\k<1000/\xs.length*k.toNat<=10000/\(xs=[]∨k=1->Q (.ref l) H)/\
  (xs≠[]->k≠1->∀p,H p=none->Q (.ref p) (upd H p (.tup (cO k.toNat xs).flatten)))):=by
 intro pins s σ H x y v u Q I rx ry h;intros l k xs rfl rfl hq k1 k2 hz q1 q2 h;cases rx;intros t rfl ry;obtain⟨its,r,p,_⟩:=I.tuple hq;obtain⟨⟨cls,dd,data,sl⟩,ho,hc,n,hd⟩:=id p;simp only at hc hd;subst hc hd;have hl:=r.length;have sz:its.toArray.size=xs.length:=by rw[fj,hl]
 have f1:¬(decide (k < -(2^63))||decide (k≥2^63))=true:=by simp;lia
 refine wpAny_binaryOp_repeat_ref (T:= "tuple") (U:= "int") ∅ {_,ho,rfl} (λs'=>typeIs_int s' k t) aGB Z1 N5 aFb Y4.lookup
  (call_meets N5 (typeIs_int s k t) alW (acV _ _) (aDO k t l its.toArray n dd sl) {ho,rfl,{_,ho,rfl},?_})
 by_cases e:its=[]
 .exact call_meets Bm {_,ho,rfl} Oa (Mg _ _) (afl k t l its.toArray n dd sl f1 (by simp[e])) {ho,{.ref l,H,I,rfl,q1 (.inl (r.yW.mp e))}}
 by_cases e1:k=1
 .exact call_meets Bm {_,ho,rfl} Oa (Mg _ _) (afl k t l its.toArray n dd sl f1 (by simp[e1])) {ho,{.ref l,H,I,rfl,q1 (.inr e1)}}
 by_cases e0:k=0
 .refine call_meets Bm {_,ho,rfl} Oa (Mg _ _) (ar8 k t l its.toArray n dd sl f1 (by simp[e,e1]) (by simp[e0])) {ho,?_};have hq2:=q2 (λz=>e (r.yW.mpr z)) e1 _ I.fresh;rw[e0]at hq2;refine{.ref s.heap.objs.size,_,I.laid (t':=s.toks) (o:= .tup []) (λb ob q=>Heap.get?_push_of_some _ q) (bO _) ?_,rfl,hq2};exact{dW _,_,.nil,IsTup.new _ _}
 .have hnew:NW (λx1 x2=>x1++x2) #[] (cO k.toNat its.toArray)=(cO k.toNat its).flatten.toArray:=by
   have:=foldl_rep its k.toNat [];rw[amX]at this;exact this
  have hb:(xs.length:Int)*k<=10000:=by
   have e1:((k.toNat:Nat):Int)=k:=Pu ⋯;have e2:((xs.length*k.toNat:Nat):Int)<=((10000:Nat):Int):=Int.ofNat_le.mpr hz;rw[sX,e1]at e2;exact TN e2 ∅
  have f6:((cO k.toNat its).flatten).length<=sizeLine:=by
   rw[len_rep,<-hl,oF];exact cT hz ∅
  refine call_meets Bm {_,ho,rfl} Oa (Mg _ _) (aIp k t l its.toArray n dd sl f1 (by simp[e];lia) (by simp[e];lia) (by rw[sz];lia) (by
   rw[sz];show ¬decide ((xs.length:Int)*k>(sizeLine:Int))=true;have:(10000:Int)<=(sizeLine:Int):=∅;exactλz=>absurd (of_decide_eq_true z) ⋯) (by rw[hnew,fj];exact f6)) {ho,?_}
  rw[hnew];refine{.ref s.heap.objs.size,_,I.laid (t':=s.toks) (o:= .tup (cO k.toNat xs).flatten) (λb ob q=>Heap.get?_push_of_some _ q) (bO _) ?_,rfl,q2 (λz=>e (r.yW.mpr z)) e1 _ I.fresh};exact{by rw[len_rep,oF];exact cT hz ∅,_,r.rep k.toNat,IsTup.new _ _}
def abr(K:au):R2:=λx y H Q=>match x,y with
 |.int i,.int j=>IntMulOk i j/\Q (.int (i*j)) H
 |.ref l,.int k=>∃xs,ao K H l xs/\0<=k/\k<1000/\xs.length*k.toNat<=10000/\(xs=[]∨k=1->Q (.ref l) H)/\(xs≠[]->k≠1->∀p,H p=none->Q (.ref p) (upd H p (.tup (cO k.toNat xs).flatten)))
 |_,_=>False
def aN9(K:au)(hK:X.K=K:=by rfl):cG X (binaryOp .Mult) (abr K):=by
 subst hK;refine(apm.or ava).imp λx y H Q h=>?_;unfold abr at h;split at h
 .exact .inl {"",h.1,h.2}
 .intros xs h h;exact .inr {_,_,xs,rfl,rfl,h}
 .exact h.elim
def axy{K:au}{H:Hp}{l:Addr}{xs:List V}{k:Int}{Q:VK}(hq:ao K H l xs)(h1:0<=k)(h2:k<1000)(hz:xs.length*k.toNat<=10000)
  (q:∀s H1,Same H H1->ao K H1 s (cO k.toNat xs).flatten->Q (.ref s) H1):abr K (.ref l) (.int k) H Q:=
 {xs,hq,h1,h2,hz,λe=>q l H (Same.refl _) (by
  rcases e with e|e
  .have e0:(cO k.toNat xs).flatten=[]:=by rw[e];simp
   rw[e0,<-e];exact hq
  .rw[e];have e0:(cO (1:Int).toNat xs).flatten=xs:=by simp
   rw[e0];exact hq),λ_ _ p hp=>q p _ (Same.new hp _) (ao.of aq)}
def agi{J:It}{xs:List V}{ix:List (Option Nat)}{te:TE}{σ:St}{H1:Hp}{Q:VK}(I:qx J xs H1)(hz:xs.length<=sizeLine){rest:St}(hst:cst ix σ=none::rest)(R:V->V->Hp->Prop)(hR:∀x y (H' H2:Hp),(∀b ts,H' b=some (.tup ts)->H2 b=some (.tup ts))->R x y H'->R x y H2)
  (he:∀(H':Hp) (x:V),Same H1 H'->x∈xs->∀k:VK,(∀y H2,Same H' H2->R x y H2->k y H2)->te (some x::rest) H' k)
  (hQ:∀D H' ys,H1 D=none->Same H1 H'->H' D=some (.lst ys)->ys.length=xs.length->(∀y∈ys,∃x∈xs,R x y H')->Q (.ref D) H'):
  kY ix (gM 0) oh te σ Q J H1:=by
 constructor;intro D hD;refine{λi m σ' H'=>m=xs.length-i/\i<=xs.length/\(∃o,σ'=o::rest)/\Same H1 H'/\∃ys,H' D=some (.lst ys)/\ys.length=i/\∀y∈ys,∃x∈xs,R x y H',{xs.length,by simp,dW _,{none,(hst)},Same.new hD _,[],aq,rfl,λ_ h=>nomatch h},?_};rintro i m σ' H' ⟨rfl,hi,⟨o,rfl⟩,g,ys,hl,hn,hy⟩;by_cases hlt:i<xs.length
 .refine .inr {I.go i _ g hlt,λx H2 y=>?_};obtain⟨rfl,hx⟩:=I.mK i _ x H2 g y;have hm:x∈xs:=List.mem_of_getElem? (hx hlt);change te (some x::rest) H2 _;refine he H2 x g hm _ λy H3 g3 r3=>{ys,g3 _ _ hl,⋯,xs.length-(i+1),⋯,rfl,hlt,{()},Same.upd (g.trans g3) hD _,ys++[y],aq,by simp[hn],λz hz'=>?_};have up:∀x z,R x z H3->R x z (upd H3 D (.lst (ys++[y]))):=λx z r=>hR x z H3 _ (λb ts e=>by
   rw[cI λq=>by rw[q,g3 _ _ hl]at e;cases e];exact e) r
  rcases gP.mp hz' with h|h
  .obtain⟨x',hx',r'⟩:=hy z h;exact{x',hx',up _ _ (hR _ _ _ _ (λb ts e=>g3 _ _ e) r')}
  .rw[dX.mp h];exact{x,hm,up _ _ r3}
 .have e:i=xs.length:=⋯;exact .inl {I.stop _ _ g ⋯,hQ D H' ys hD g hl ⋯ hy}
end
section
variable {X:Cx}
end
end L2
namespace O3
open PySem PySem.W PySem.Calls PyProof.Rows
def aMN{ns:List Int}(h:WData.layableAll [WData.list (ns.map WData.int)]=true):∀x∈ns,Builtin.Int.intBits x<=1048576:=by
 intro x hx;obtain⟨h1,_,h3⟩:=layableW_iff.mp (layW_cons h).1;simp only[WData.canLay]at h1;simp only[WData.weight]at h3;have hm:WData.int x∈ns.map WData.int:=cA.mpr {x,hx,(rfl)};have hc:WData.canLayAll (ns.map WData.int)=true:=by simpa using h1
 obtain⟨_,_,c⟩:=items_part hm hc;have e:WData.weight (.int x)=Builtin.Int.intBits x:=rfl;rw[e]at c;have:(2:Nat)^20=1048576:=∅;lia
def au5{l:OpenLaw}{n:Nat}{q:Program}{loose:List Str}{XP:(Str->Option Value)->Heap->Prop}{YP:World->Heap->Prop}{d:DefRec}
  (hn:l.most=some n) (hdf:d.params.defaults=[])
  (call:∀(w:World) (s₀ s₁:Shared) (mg mb:Str->Option Value) (fa:Addr) (o:Obj) (pm cd doc:Value) (a:Addr) (vs:List Value) (ns:List Int),
   Ground q loose [] XP w s₀ mg mb s₁.heap->YP w s₁.heap->
   s₁.heap.get? fa=some o->o.data = .func (docDef d.name d.params d.body d.scope pm cd doc)->s₁.heap.CodeRec cd d.name->mg d.name=some (.ref fa)->
   s₁.heap.get? a=some { cls:= .type "list",data:= .seq vs.toArray }->IntsAre vs ns->ns.length<=n->(∀x∈ns,Builtin.Int.intBits x<=1048576)->s₁.gens=#[]->
   codeAny (model l.prog w) callerA (.call (.ref fa) {[.ref a],[]}) (λr s'=>r = .ok (.ret (.bool true))/\OldK s₁.heap s'.heap/\s'.os=s₁.os/\AllBare s'.gens) s₁):
  WalkO q loose XP YP l.row.toRowW d [] (λf vs=>amL f vs):=by
 intro w s₀ s₁ mg mb G Y fa o pm cd doc dV kV ho hd hcd hD hmg hg args vals as hpre hlay hrd hwl hlo;obtain rfl:dV = .none:=Dflts.none hD hdf;obtain rfl:kV = .none:=Dflts.noKw hD;obtain⟨a,vs,ns,rfl,rfl,hobj,hints,hlen⟩:=aBS hn hpre hwl;refine enter_call (codeAny_mono (call w s₀ s₁ mg mb fa o pm cd doc a vs ns G Y ho (fd_plain hd) hcd hmg hobj hints hlen (aMN hlay) hg) λr s' hq=>?_);intros rfl h2 h3 h4 hq;exact{.inl {.bool true,.bool true,[],rfl,λ_=>rfl,.bool true,aJe l _,λ_=>{aCb,λ_ hm=>(nomatch hm)}},h2,h3,h4}
end O3
namespace L2
open PySem PySem.Spec PyProof.Rows
def auy{l:W.OpenLaw}{n k:Nat}{q:Program}{loose:List Str}{XP:(Str->Option Value)->Heap->Prop}{YP:World->Heap->Prop}{d:DefRec}{K:Params->au}{CX:World->qu}{sp:World->Sp}{x:Str}
  (hn:l.most=some n) (hn2:n<=sizeLine) (hdf:d.params.defaults=[]) (hr:cD k callerA) (hIm:importsNone q=true) (htr:l.prog.given.tree=none)
  (hY:∀(w:World) (h:Heap),YP w h->(K w.params).In h)
  (F:∀(w:World) (mg:Str->Option Value) (fa:Addr) (h:Heap),(K w.params).In h->h.Ns mainGlobals mg->mg d.name=some (.ref fa)->
   ∃fd:FuncData,(∀(s:Shared) (u:Value),BindsTo s fd {[u],([])} [(x,u)])/\
    ∀base:Heap,(K w.params).In base->base.Ns mainGlobals mg->jg l.prog w (K w.params) mg base (CX w) k fa fd [x] (sp w))
  (hsp:∀(w:World) (H:Hp) (a:Addr) (ns:List Int),ns.length<=n->(∀x∈ns,Builtin.Int.intBits x<=1048576)->Only H->ak (K w.params) H a (ns.map V.int)->sp w [.ref a] H (λv _=>v = .bl true) λ_ _ _=>False)
  (RL:∀(w:World) (H:Hp) (s:Shared) (e:Value) (s':Shared),CX w [] H s (λ_ _ _=>False) e s'->False):
  W.WalkO q loose XP YP l.row.toRowW d [] (λf vs=>amL f vs):=by
 refine O3.au5 hn hdf λw s₀ s₁ mg mb fa o pm cd doc a vs ns G Y ho hd hcd hmg hobj hints hlen aAC hg=>?_;have KX:=hY w _ Y;obtain⟨fd,hb,hF⟩:=F w mg fa _ KX G.T.g hmg;exact aLa KX G.T.g G.T.b G.T.builtins G.T.nolimit G.T.nodigits (G.T.seer hIm) htr hg hobj hints (cT hlen hn2) hr hF hb (λH hO hS=>hsp w H a ns hlen aAC hO hS) λH e s'=>RL w H s₁ e s'
section
variable {X:Cx}
def aiV:V->List V->Hp->VK->Prop:=λx vs H Q=>∃n:Int,x = .int n/\vs=[]/\Q (.int (Builtin.Int.intBits n:Nat)) H
def aNV:vm X "int.bit_length" aiV:=by
 intro pins s σ H x vs v us Q I rx rv h;intros n rfl rfl q h;intros t rfl rx;cases rv;exact call_gives F.slot_int_bit_length (typeIs_int s n t) F.entry_int_bit_length (F.args_int_bit_length_1 _) (AutoIntG2.int_bit_length_int_0 n t) {.int _,H,I.tok _,{()},q}
def aJh(K:au){o:Expr}{to:TE}{apos cpos:Pos}(ho:PE X o to)(hK:X.K=K:=by rfl)(hbase:attributeBase o "bit_length" X.env (eval o X.env)=eval o X.env:=by rfl)(hline:(apos.endLine==cpos.line)=true:=by rfl):
  PE X (.Call (.Attribute o "bit_length" apos) [] [] cpos) (aqn K "int" aiV to):=by
 subst hK;exact aO4 PySem.F.plainAttrs_int PySem.F.slot_int_bit_length PySem.F.type_int_bit_length aNV ho hbase hline
end
section
variable {X:Cx}
section
variable {x:Str}{k k':Nat}{ps:List Str}{sp:Sp}{pos:Pos}{e:Expr}{es:List Expr}{t:TA}
def tFn(mg:Str->Option Value)(x:Str):TE:=λ_ H Q=>∀g,mg x=some (.ref g)->Q (.ref g) H
def XY(C:jc X.prog X.w X.K X.mg X.base x k ps sp)(hg:Gl X x)(hd:(x==("__debug__" : Str))=false:=by decide):PE X (.Name x pos) (tFn X.mg x):=by
 intros g gd hm _ _ _ C.ex;intro pins s σ H Q I h;exact Ny (v:= .ref g) hg hm rfl hd pins s σ H Q I (h g hm)
def Uy{g:Addr}{pins:List (Addr×Obj)}{σ:St}{H1:Hp}{s1:Shared}{Q:VK}(C:jc X.prog X.w X.K X.mg X.base x k ps sp)(hr:cD k' X.A)(ha:PA X (e::es) t)(hk:k<=k')
  (he:starEach (e::es) X.env=(false,eval e X.env)::starEach es X.env) (hpl:(backTo pos (starEach es X.env)).any (·.1)=false) (I1:Inv X pins σ H1 s1) (hm':X.mg x=some (.ref g)) (q:t σ H1 λvs H2=>sp vs H2 Q E0):
  wpAny (model X.prog X.w) X.A (callWith pos (.ref g) [] (backTo pos (starEach (e::es) X.env)) (backToKw pos (keywordEach [] X.env))) (EP X pins σ Q) X.xe s1:=by
 intros g' gd hm hkp hb F C.ex;rw[hm]at hm';cases hm';refine Cz (h₀:=X.base) I1.ok.mod.vI hkp (aP (ha pos pins s1 σ H1 _ I1 q) λus s2 ⟨vs,H2,I2,r2,q2⟩=>{I2.dz,?_}) he hpl;refine Nu F (hr.mono hk) hb .nil Mu I2 r2 ?_;rw[pG];exact q2
def aPf(mg:Str->Option Value)(x1 x2 x3:Str)(K4 LR OV:Sp)(tv:TE)(t:TA):TE:=λσ H Q=>tv σ H λv H1=>((∃g,mg x1=some (.ref g)/\v = .ref g)/\t σ H1 λvs H2=>K4 vs H2 Q E0)∨((∃g,mg x2=some (.ref g)/\v = .ref g)/\t σ H1 λvs H2=>LR vs H2 Q E0)∨((∃g,mg x3=some (.ref g)/\v = .ref g)/\t σ H1 λvs H2=>OV vs H2 Q E0)
def aDb{mg:Str->Option Value}{x1 x2 x3 y:Str}{k1 k2 k3:Nat}{ps1 ps2 ps3:List Str}{K4 LR OV:Sp}{p:Pos}{tv:TE}(C1:jc X.prog X.w X.K mg X.base x1 k1 ps1 K4)(C2:jc X.prog X.w X.K mg X.base x2 k2 ps2 LR)(C3:jc X.prog X.w X.K mg X.base x3 k3 ps3 OV)(hr:cD k' X.A)(hv:PE X (.Name y p) tv)(ha:PA X (e::es) t)
  (hmg:X.mg=mg:=by rfl) (hk1:k1<=k':=by decide) (hk2:k2<=k':=by decide) (hk3:k3<=k':=by decide) (he:starEach (e::es) X.env=(false,eval e X.env)::starEach es X.env:=by rfl) (hpl:(backTo pos (starEach es X.env)).any (·.1)=false:=by rfl):PE X (.Call (.Name y p) (e::es) [] pos) (aPf mg x1 x2 x3 K4 LR OV tv t):=by
 subst hmg;intro pins s σ H Q I h;refine wpAny_Call_Name_kw (aP (hv pins s σ H _ I h) λu s1 ⟨v,H1,I1,r,q⟩=>?_);rcases q with⟨⟨g,hm,rfl⟩,q⟩|⟨⟨g,hm,rfl⟩,q⟩|⟨⟨g,hm,rfl⟩,q⟩
 .obtain rfl:u=Value.ref g:=r;exact Uy C1 hr ha hk1 he hpl I1 hm q
 .obtain rfl:u=Value.ref g:=r;exact Uy C2 hr ha hk2 he hpl I1 hm q
 .obtain rfl:u=Value.ref g:=r;exact Uy C3 hr ha hk3 he hpl I1 hm q
end
end
section
variable {X:Cx}
theorem KJ:∀{xs:List Str} {its:List Value},Vals (xs.map V.str) its->∃l:List (Str×Tok),its=strValues l/\l.map (·.1)=xs
 |[],_,h=>by cases h;exact{[],rfl,(rfl)}
 |x::xs,_,h=>by
  cases h with
  |cons r t=>
   intros tk rfl r;obtain⟨l,rfl,e⟩:=KJ t;exact{(x,tk)::l,rfl,by rw[kI,e]}
theorem aqF:∀(l:List (Str×Tok)),Vals ((l.map (·.1)).map V.str) (strValues l)
 |[]=> .nil
 |p::l=> .cons {p.2,(rfl)} (aqF l)
theorem Q0:∀(l:List (Str×Tok)),StrsAre (strValues l) (l.map (·.1))
 |[]=> .nil
 |p::l=> .cons p.1 p.2 (Q0 l)
def aMl(z y:Str):(Txt.split z y).length<=z.length+2/\(Builtin.Str.partsBetween z (Builtin.Str.occurrences z y 0 z.length (z.length+1)) y.length).length<=z.length+2:=by
 have hn:=StrLaws.occ_length_le z y 0 z.length (z.length+1);have h2:(Builtin.Str.partsBetween z (Builtin.Str.occurrences z y 0 z.length (z.length+1)) y.length).length<=z.length+2:=by
  rw[length_partsBetween];lia
 refine{?_,h2};unfold Txt.split;split
 .simp
 .split
  .simp
  .exact h2
def aN6:V->List V->Hp->VK->Prop:=λx vs H Q=>∃z y,x = .str z/\vs=[.str y]/\(y.length==0)=false/\z.length<=100000/\∀p,H p=none->Q (.ref p) (upd H p (.lst ((Txt.split z y).map V.str)))
def acJ:vm X "str.split" aN6:=by
 intro pins s σ H x vs v us Q I rx rv h;intros z y rfl rfl hy hz q h;intros t rfl rx;intros u rfl ru rv.one;intros t' rfl ru;have h100:(200000:Nat)<=sizeLine:=∅;have hsz:z.length<=sizeLine:=⋯;obtain⟨f1,f2⟩:=aMl z y;have fin:∀(l:List (Str×Tok)) (k:Nat),l.map (·.1)=Txt.split z y->EP X pins σ Q (.ref s.heap.objs.size) { s with heap:=s.heap.push { cls:= .type "list",data:= .seq (strValues l).toArray },toks:=k }:=λl k e=>
  {.ref s.heap.objs.size,_,I.MQ (t':=k) (ys:=(Txt.split z y).map V.str) (by rw[<-e];exact aqF l) (by rw[aC];lia),rfl,q _ I.fresh}
 cases h1:(decide (z.length<y.length)||decide (Builtin.Str.strKind z<Builtin.Str.strKind y))
 .cases hf:(Builtin.Str.occurrences z y 0 z.length (z.length+1)).isEmpty
  .refine call_meets Yy (typeIs_str _ _ _) Tc (Ub _ _) (meets_str_split_sep z y t t' h1 hy hf hsz ⋯) ?_;show wants _ _ _ { s with toks:=_,heap:=s.heap.push { cls:= .type "list",data:= .seq (strsFrom s.toks (Builtin.Str.partsBetween z (Builtin.Str.occurrences z y 0 z.length (z.length+1)) y.length)).toArray } };rw[strsFrom_eq];exact fin (numbered s.toks _) _ ((numbered_texts _ _).trans ((if_neg (ne_true_of_eq_false h1)).trans (if_neg (ne_true_of_eq_false hf))).symm)
  .exact call_meets Yy (typeIs_str _ _ _) Tc (Ub _ _) (meets_str_split_not_found z y t t' h1 hy hf)
    (fin [(z,t)] s.toks ((if_neg (ne_true_of_eq_false h1)).trans (if_pos hf)).symm)
 .exact call_meets Yy (typeIs_str _ _ _) Tc (Ub _ _) (meets_str_split_cannot_occur z y t t' h1)
   (fin [(z,t)] s.toks (if_pos h1).symm)
def rJoin:V->List V->Hp->VK->Prop:=λx vs H Q=>∃(sep:Str) (l:Addr) (xs:List Str),x = .str sep/\vs=[.ref l]/\H l=some (.lst (xs.map V.str))/\JoinOk sep xs=true/\Q (.str (Str.join sep xs)) H
def Ef:vm X "str.join" rJoin:=by
 intro pins s σ H x vs v us Q I rx rv h;intros sep l xs rfl rfl hH hok q h;intros t rfl rx;intros u rfl ru rv.one;cases ru;obtain⟨z,its,n,r,hl,e⟩:=I.uU hH;obtain⟨l',rfl,e'⟩:=KJ r;rw[<-StrLaws.glued_eq_join]at q;exact SC.join {_,e,rfl,()} e' hok λt' k=>{.str _,H,I.tok k,{()},q}
def aJm:V->List V->Hp->VK->Prop:=λx vs H Q=>∃z y,x = .str z/\vs=[.str y]/\Q (.bl (Txt.startswith z y)) H
def aqp:vm X "str.startswith" aJm:=by
 intro pins s σ H x vs v us Q I rx rv h;intros z y rfl rfl q h;intros t rfl rx;intros u rfl ru rv.one;intros t' rfl ru;exact SC.startswith {.bl _,H,I,rfl,q}
def aNp:V->List V->Hp->VK->Prop:=λx vs H Q=>∃(l:Addr) (xs:List Str) (y:Str),x = .ref l/\vs=[.str y]/\H l=some (.lst (xs.map V.str))/\Q (.int (xs.count y:Nat)) H
theorem acZ(x:Str):∀l:List Str,countIn (.str x) (l.map PyData.str)=((l.count x:Nat):Int)
 |[]=>rfl
 |a::r=>by
  rw[countIn_strs_sum,kI,List.sum_cons,<-countIn_strs_sum,acZ x r,List.count_cons];split<;>simp<;>lia
def aB9:vm X "list.count" aNp:=by
 intro pins s σ H x vs v us Q I rx rv h;intros l xs y rfl rfl hH q h;cases rx;intros u rfl ru rv.one;intros t' rfl ru;obtain⟨z,its,n,r,hl,e⟩:=I.uU hH;obtain⟨l',rfl,e'⟩:=KJ r;refine count_list_strs {_,e,rfl,()} (Q0 l') {.int _,H,I.tok _,{()},?_};rw[e',acZ];exact q
def aq7:V->List V->Hp->VK->Prop:=λx vs H Q=>∃(l:Addr) (xs:List Str) (y:Str) (j:Nat),x = .ref l/\vs=[.str y]/\H l=some (.lst (xs.map V.str))/\xs[j]?=some y/\(∀m,m<j->xs[m]?≠some y)/\Q (.int (j:Int)) H
def ahB(l:List (Str×Tok)){m:Nat}(h:m<(strValues l).toArray.size)(y:Str):apu y (strValues l).toArray[m]=decide ((l.map (·.1))[m]?=some y):=by
 have hm:m<l.length:=by simpa[strValues]using h
 have e:(strValues l).toArray[m] = .str l[m].1 l[m].2:=by simp[strValues]
 rw[e,List.getElem?_map,List.getElem?_eq_getElem hm];show(l[m].1==y)=_;by_cases c:l[m].1=y
 .simp[c]
 .simp[c]
def aME:vm X "list.index" aq7:=by
 intro pins s σ H x vs v us Q I rx rv h;intros l xs y j rfl rfl hH hj hno q h;cases rx;intros u rfl ru rv.one;intros t rfl ru;obtain⟨z,its,nn,r,hl,e⟩:=I.uU hH;obtain⟨l',rfl,e'⟩:=KJ r;subst e';have hjl:j<l'.length:=by
  have:=(List.getElem?_eq_some_iff.mp hj).1;simpa using this
 have hs:(strValues l').toArray.size=l'.length:=by simp[strValues]
 have hsl:l'.length<=sizeLine:=by simpa using z
 have aPR:sizeLine<2^62:=∅;refine call_meets F.slot_list_index {_,e,rfl} F.entry_list_index (F.args_list_index_2 _ _) (SeqAt.list_indexAt l (strValues l').toArray nn none #[] (.str y t) (apu y) j ⋯ ⋯ (by rw[ahB];exact decide_eq_true hj) (λm hm h2=>by rw[ahB];exact decide_eq_false (hno m h2))) {e,λw hw=>?_,?_}
 .exact(eq_isStrOf y t (Q0 l') w (by simpa using hw)).at _ _
 .exact{.int _,H,I.tok _,{()},q}
def aql{x:Str}{i:Str}{pos:Pos}(hg:Gl X x)(hm:∃t,X.mg x=some (.str i t))(hd:(x==("__debug__" : Str))=false:=by decide):PE X (.Name x pos) (tC (.str i)):=by
 intros t e hm;exact Ny hg e {t,(rfl)} hd
def ZD:cG X (binaryOp .Pow) (rI (λi j=>0<=j/\(vJ i:Int)*j<=2^27) λi j=> .int (i^j.toNat)):=Ao λ_ _ _ _ _ _ _ hc q=>pow_int hc.1 hc.2 q
def axf:iM X (.type "int") (λxs H Q=>∃z n,xs=[.str z]/\intText? z=some n/\z.length<=640/\Q (.int n) H):=by
 intro pins s σ H xs us Q I r h;intros z n rfl hn hl q h;obtain⟨u,rfl,t,rfl⟩:=vals1 r;exact W.KIN.call_text hn hl {.int _,H,I.tok _,{()},q}
def aAI:V->Option Int->Option Int->Hp->VK->Prop:=λx lo hi H Q=>∃z,x = .str z/\z.length<=sizeLine/\Q (.str (Txt.slice z lo hi)) H
def Mt:nW X aAI:=by
 intro pins s σ H x v vl vu lo hi sl Q I rx hs pl pu h;intros z rfl hz q h;intros t rfl rx;exists "str",_,F.slot_str_getitem.lookup,typeIs_str _ _ _;have fin:∀t' k,EP X pins σ Q (.str (Txt.slice z lo hi) t') { s with toks:=k }:=λt' k=>{.str _,H,I.tok k,{()},q};cases pl with
 |none=>cases pu with
  |none=>exact wpAny_getItem_str_slice (l:=none) (u:=none) (st:=none) hs rfl (post_val_or_str {cT (Txt.slice_le z _ _) hz,fin})
  |int j tj=>exact wpAny_getItem_str_slice (l:=none) (u:=some (j,tj)) (st:=none) hs rfl (post_val_or_str {cT (Txt.slice_le z _ _) hz,fin})
 |int i ti=>cases pu with
  |none=>exact wpAny_getItem_str_slice (l:=some (i,ti)) (u:=none) (st:=none) hs rfl (post_val_or_str {cT (Txt.slice_le z _ _) hz,fin})
  |int j tj=>exact wpAny_getItem_str_slice (l:=some (i,ti)) (u:=some (j,tj)) (st:=none) hs rfl (post_val_or_str {cT (Txt.slice_le z _ _) hz,fin})
def Its(z:Str):It:={λi _=>i<z.length,λi H x H'=>H'=H/\∃c,z.cps.toList[i]?=some c/\x = .str {(#[c])},λi _=>z.length<=i}
def ai6{z:Str}{H1:Hp}:qx (Its z) (z.cps.toList.map λc=>V.str {(#[c])}) H1:=by
 have hl:z.cps.toList.length=z.length:=by simp[Str.length]
 refine{λi H' g h=>?_,λi H' x H2 g y=>{y.1,λh=>?_},λi H' g h=>?_}
 .rw[aC,hl]at h;exact h
 .intros _ c e rfl y;rw[List.getElem?_map,e];rfl
 .rw[aC,hl]at h;exact h
def aEB{P:Program}{w:World}{K:au}{tg:Expr}(z:Str)(t:Tok)(it:Addr):Turn P w K tg (Its z) [it] it (λi h=>h.IsStrIter it (strIterType z) z t i) where
 mem:=by simp
 obj:=λi h st b hb=>by
  have e:b=it:=by simpa using hb
  subst e;intros o e c d st;exact{o,e,λv z=>by rw[d]at z;cases z}
 keep:=λi h h' st k=>by
  intros o e c d st;exact{o,k it (by simp) o e,c,d}
 item:=by
  intro X hP hw hK hc i pins s σ H E I hf st hg;subst hP hw hK;obtain⟨f0,f1,f2,f3,f4,f5⟩:=hf it (by simp);have hl:z.cps.toList.length=z.length:=by simp[Str.length]
  have hi:i<z.length:=hg;obtain⟨c,hc'⟩:∃c,z.cps.toList[i]?=some c:={_,List.getElem?_eq_getElem ⋯};have hc2:z.cps[i]?=some c:=by simpa using hc'
  cases ha:z.cps.all (· < 128)
  .have et:strIterType z = "str_iterator" := by unfold strIterType;rw[ha];rfl
   rw[et]at st;refine wpAny_pyNext_wide_item st hc2 λh' st' sb=>?_;have I1:Inv X pins σ H { s with heap:=h',toks:=s.toks+1 }:=I.turned (t':=s.toks+1) (λb o hb e=>(sb.2 b hb).trans e) f0 f1 f3 f4 f5;obtain⟨o,e,c',d⟩:=id st';exact{.str {(#[c])} s.toks,rfl,vY (s:={ s with heap:=h',toks:=s.toks+1 }) e c' d ∅ {.str {(#[c])},H,I1,{()},{rfl,c,hc',(rfl)},by rw[et];exact st',λb hb=>(hf b hb).1}}
  .have et:strIterType z = "str_ascii_iterator" := by unfold strIterType;rw[ha];rfl
   rw[et]at st;refine wpAny_pyNext_ascii_item st hc2 λh' st' sb=>?_;have I1:Inv X pins σ H { s with heap:=h',toks:=s.toks+1 }:=I.turned (t':=s.toks+1) (λb o hb e=>(sb.2 b hb).trans e) f0 f1 f3 f4 f5;obtain⟨o,e,c',d⟩:=id st';exact{.str {(#[c])} s.toks,rfl,vY (s:={ s with heap:=h',toks:=s.toks+1 }) e c' d ∅ {.str {(#[c])},H,I1,{()},{rfl,c,hc',(rfl)},by rw[et];exact st',λb hb=>(hf b hb).1}}
 done:=by
  intro X hP hw hK hc i pins s σ H E I hf st hg;subst hP hw hK;obtain⟨f0,f1,f2,f3,f4,f5⟩:=hf it (by simp);have hi:z.length<=i:=hg;have hc2:z.cps[i]?=none:=Array.getElem?_eq_none hi;cases ha:z.cps.all (· < 128)
  .have et:strIterType z = "str_iterator" := by unfold strIterType;rw[ha];rfl
   rw[et]at st;exact wpAny_pyNext_wide_end (I.ok.hd hc) st hc2 λh' eb=>{rfl,I.turned (t':=s.toks) (λb o hb e=>eb b o hb e) f0 f1 f3 f4 f5}
  .have et:strIterType z = "str_ascii_iterator" := by unfold strIterType;rw[ha];rfl
   rw[et]at st;exact wpAny_pyNext_ascii_end (I.ok.hd hc) st hc2 λh' eb=>{rfl,I.turned (t':=s.toks) (λb o hb e=>eb b o hb e) f0 f1 f3 f4 f5}
 self:=λ_ _ _ _ _ st h=>by
  revert st;unfold strIterType;split
  .exactλst=>wpAny_pyIter_striter_ascii st h
  .exactλst=>wpAny_pyIter_striter_wide st h
def aM2(tl:TE):TI:=λσ H R=>tl σ H λx H1=>∃z,x = .str z/\R (Its z) H1
def anR{tg l:Expr}{tl:TE}(hl:PE X l tl):PI X tg l (aM2 tl):=by
 intro pins s σ H R I h;refine aP (hl pins s σ H _ I h) λv s1 ⟨x,H1,I1,r1,q1⟩=>?_;intros z rfl q q1;intros t rfl r1;refine wpAny_pyIter_strU ?_;refine{s1.heap.objs.size,[s1.heap.objs.size],_,_,H1,rfl,I1.kept (t':=s1.toks) λb o e=>Heap.get?_push_of_some _ e,aEB z t _,{_,Heap.get?_push_size _ rfl,rfl,rfl},λb hb=>?_,q};have e:b=s1.heap.objs.size:=by simpa using hb
 subst e;exact I1.tU (bO _) (I1.hok.fresh (bO _))
section
variable (K:au)
def qP{T id:String}{r:V->List V->Hp->VK->Prop}{name:Str}{o e:Expr}{to:TE}{te:TE}{apos cpos:Pos}(pa:PlainAttrs T)(slot:Slot T name id)(hty:typeOf (.builtin id)=pure (.type "method_descriptor"))(hm:vm X id r)(ho:PE X o to)(he:PE X e te)(hK:X.K=K:=by rfl)
  (hbase:attributeBase o name X.env (eval o X.env)=eval o X.env:=by rfl)
  (hfew:((backTo cpos (starEach [e] X.env)).all (λx=>!x.1)&&(backToKw cpos (keywordEach [] X.env)).all (λx=>x.1.isSome)
   && decide ([e].length+([]:List Keyword).length+(if([]:List Keyword).isEmpty then 0 else 1)<30))=true:=by rfl)
  (hline:(apos.endLine==cpos.line)=true:=by rfl) (hs:starEach [e] X.env=(false,eval e X.env)::starEach [] X.env:=by rfl):
  PE X (.Call (.Attribute o name apos) [e] [] cpos) (Oh K T r to (m5 te qz)):=by
 subst hK;exact U6 pa slot hty hm ho (uT he jL hs) hbase hfew hline hs rfl
end
end
section
variable {X:Cx}{E:XK}{sc:Scope}{N:List Str}{cl:List (Str×Addr)}{C:Addr}{s₀:Shared}{H₀:Hp}{ex:List Addr}
theorem acB{h base base':Heap}(k:∀b o,base'.get? b=some o->base.get? b=some o):∀{l:List Env},h.FunFrames base l->h.FunFrames base' l
 |[],_=>trivial
 |env::r,⟨a,⟨L,o,b,c,d,e⟩,f⟩=>by
  have c':base'.get? L=none:=by
   cases q:base'.get? L with
   |none=>rfl
   |some o'=>rw[k L o' q]at c;cases c
  exact{a,{L,o,b,c',d,(e)},acB k f}
theorem afN{h h' base:Heap}:∀{l:List Env},(∀b∈frs l,h'.get? b=h.get? b)->h.FunFrames base l->h'.FunFrames base l
 |[],_,_=>trivial
 |env::r,k,⟨a,⟨L,o,b,c,d,e⟩,f⟩=>{a,{L,o,b,c,(k L (by show L∈(env::r).filterMap (·.frame);rw[FN,b];exact fX)).trans d,e},afN (λx hx=>k x (by
   show x∈(env::r).filterMap (·.frame);rw[FN,b];exact eN _ hx)) f}
def Lets(X:Cx)(E:XK):Prop:=∀(pins:List (Addr×Obj)) (σ:St) (H:Hp) (s:Shared) (C:Addr) (m:Str->Option Value) (e:Value) (s':Shared),Inv X pins σ H s->s.heap.Ns C m->oG X pins H C->iC X.prog X.w X.stack H s E e s'->
 wpAny (model X.prog X.w) X.A (noteFrame e X.env) (λ_ s''=>∃m,s''.heap.Ns C m/\∀h',xY C s''.heap h'->∀cenv:Env,cenv.locals=C->wpAny (model X.prog X.w) X.A (Vp "comprehension.variables-let-go" e cenv:Sem Value) (λ_ _=>False) X.xe { s'' with heap:=h' }) (λ_ _=>False) s'
def M9(X:Cx)(E:XK)(sc:Scope)(N:List Str)(cl:List (Str×Addr))(C:Addr)(s₀:Shared)(H₀:Hp)(ex:List Addr)(e:Value)(s':Shared):Prop:=∃qZ σ' H' s1,Inv (dG X sc N cl C s₀ H₀ ex) qZ σ' H' s1/\iC X.prog X.w X.stack H' s1 E e s'
def qM(X:Cx)(E:XK)(sc:Scope)(N:List Str)(cl:List (Str×Addr))(C:Addr)(s₀:Shared)(H₀:Hp)(ex:List Addr):Cx:=
 (dG X sc N cl C s₀ H₀ ex).wish (M9 X E sc N cl C s₀ H₀ ex)
def axF:Passes (iC X.prog X.w) (qM X E sc N cl C s₀ H₀ ex) E:=λpins σ H s _ _ I h=>{pins,σ,H,s,I.nR,(h)}
def XR{x:Str}{k k':Nat}{ps:List Str}{sp:Sp}{p pos:Pos}{e:Expr}{es:List Expr}{t:TA}(Cc:jc X.prog X.w X.K X.mg X.base x k ps sp)(hr:cD k' X.A)(hg:Gl (qM X E sc N cl C s₀ H₀ ex) x)
  (ha:PA (qM X E sc N cl C s₀ H₀ ex) (e::es) t) (hk:k<=k':=by decide) (hd:(x==("__debug__" : Str))=false:=by decide)
  (he:starEach (e::es) (qM X E sc N cl C s₀ H₀ ex).env=(false,eval e (qM X E sc N cl C s₀ H₀ ex).env)::starEach es (qM X E sc N cl C s₀ H₀ ex).env:=by rfl)
  (hpl:(backTo pos (starEach es (qM X E sc N cl C s₀ H₀ ex).env)).any (·.1)=false:=by rfl):
  PE (qM X E sc N cl C s₀ H₀ ex) (.Call (.Name x p) (e::es) [] pos) (yd sp [] E t):=by
 intros g gd hm hkp hb F Cc.ex;exact Tg (X:=qM X E sc N cl C s₀ H₀ ex) F (hr.mono hk) hg hm hkp hb .nil axF ha hd he hpl
def aje(uW:Lets X E){sc:Scope}{N:List Str}{pins:List (Addr×Obj)}{σ:St}{use:Option (Value->Sem Unit)}{QQ:Value->Shared->Prop}(cl:List (Str×Addr))(D C:Addr)(s₀:Shared)(H₀:Hp)(ex:List Addr)(x:Value)(s':Shared)(hx:M9 X E sc N cl C s₀ H₀ ex x s')
  (k:∀{qZ σ' H' s1},Inv (dG X sc N cl C s₀ H₀ ex) qZ σ' H' s1->Inv X pins σ H' s1/\oG X pins H' C):notedBy (model X.prog X.w) X.A (Ah sc cl C X.env) (λx s'=>compPost (model X.prog X.w) X.A X.xe use QQ (.ref D) C (.error x) s') x s':=by
 intros qZ σ' H' s1 I6 fl hx;obtain⟨m,hn,_⟩:=id I6.loc;refine wpAny_mono (uW pins σ H' s1 C m x s' (k I6).1 hn (k I6).2 fl) (λ_ s11 h11=>?_) λ_ _ z=>z.elim;cases use with
 |none=>exact h11
 |some _=>exact h11
def ah7(uW:Lets X E){tg iter elt:Expr}{ifs:List Expr}{scope sc:Scope}{pos:Pos}{wi:TI}{g:TG}{tc:TT}{te:TE}{N:List Str}{ix:List (Option Nat)}(O:wM X scope sc N ix)(hc:X.calm=true)(hi:PI X tg iter wi)
  (hb:∀cl C s₀ H₀ ex,PG (dG X sc N cl C s₀ H₀ ex) tg g/\rH (dG X sc N cl C s₀ H₀ ex) ifs tc/\PE (qM X E sc N cl C s₀ H₀ ex) elt te)
  (hs:∀x,foldedSetIterable iter X.env x=pure x:=by intro _;rfl):PE X (.ListComp elt [{tg,iter,ifs,(0)}] scope pos) (yZ ix wi g tc te):=by
 intro pins s σ H Q I h;rw[eval_ListComp];exact abJ (cm:=λX=>X.calm=true) (wx:=M9 X E sc N) (use:=none) (QQ:=EP X pins σ Q) O hc (λ_ _ _ _=>hc) hi (λcl C s₀ H₀ ex _=>hb cl C s₀ H₀ ex) hs I h (aje uW) λD C s6 H5 m I7 hn f q=>{m,hn,λh' hs'=>{.ref D,H5,I7.turned (it:=C) (t':=s6.toks) (λb o hb e=>(hs'.2 b hb).trans e) f.1 f.2.1 f.2.2.2.1 f.2.2.2.2.1 f.2.2.2.2.2,rfl,q}}
end
section
variable {X:Cx} {pins:List (Addr×Obj)} {σ:St} {H:Hp} {s:Shared}
def Inv.ayR(I:Inv X pins σ H s)(hex:X.ex=[]){C:Addr}(hC:X.s₀.heap.objs.size<=C){H':Hp}{h':Heap}(keep:∀b o,b≠C->s.heap.get? b=some o->H b=none->b∉frs X.stack->h'.get? b=some o)
  (slot:∀b o,b≠C->s.heap.get? b=some o->H b=none->b∈X.fs->∃sl,h'.get? b=some { o with slots:=sl }) (free:∀b o,s.heap.get? b=some o->H b=none->H' b=none) (there:∀b o,b≠C->s.heap.get? b=some o->∃o',h'.get? b=some o')
  (tups:∀b xs,H b=some (.tup xs)->H' b=some (.tup xs)) (gJ:∀b o u,H b=some (.cP o u)->H' b=some (.cP o u)) (iW:∀b ps,H b=some (.nY ps)->∃more,H' b=some (.nY (ps++more))):
  Un (frs X.outer) [] X.H₀ H' X.s₀.heap h':=by
 have nx:∀b:Addr,b∉X.ex:=λb=>by rw[hex];simp
 have nc:∀b o,X.s₀.heap.get? b=some o->b≠C:=λb o e z=>absurd (cU e) (by rw[z];exact Nat.not_lt.mpr hC);refine{λb o e n hb _=>?_,λb o e n hb _=>?_,λb o e n _=>?_,λb o e _=>?_,λb xs e=>tups b xs (I.base.tups b xs e),λb o u e=>gJ b o u (I.base.gJ b o u e),λb ps e=>?_}
 .exact keep b o (nc b o e) (I.base.keep b o e n hb (nx b)) (I.base.free b o e n (nx b)) (I.Et e hb)
 .obtain⟨sl,e1⟩:=I.base.slot b o e n hb (nx b);obtain⟨sl',e2⟩:=slot b _ (nc b o e) e1 (I.base.free b o e n (nx b)) hb;exact{sl',(e2)}
 .obtain⟨o',e1⟩:=I.base.there b o e (nx b);exact free b o' e1 (I.base.free b o e n (nx b))
 .obtain⟨o',e1⟩:=I.base.there b o e (nx b);exact there b o' (nc b o e) e1
 .obtain⟨m1,e1⟩:=I.base.iW b ps e;obtain⟨m2,e2⟩:=iW b _ e1;exact{m1++m2,by rw[e2,KH]}
end
def Vo{P:Program}{w:World}{K:au}{mg:Str->Option Value}{base:Heap}{N:List Str}{qual:Str}{scope:Scope}{f:Addr}{cdv:Value}{A:Around}{outer:List Env}{s₀:Shared}{H₀:Hp}{E:XK}:Lets (dB P w K mg base N qual scope f cdv A outer s₀ H₀ E) E:=by
 intro pins σ H s C m e s' I hn fC h;intros ea Cc a0 B H' rfl os bare fl hok un old q h.ex;intros Px ee kk h.k2;cases ee;intros c0 c1 c2 c3 c4 c5 fC;have hC:s₀.heap.objs.size<=C:=by
  rcases c3 with z|z
  .cases z
  .exact z
 have cS:C∉frs (envOfC qual scope s₀.heap.objs.size f cdv::outer):=λz=>by
  rcases cX.mp (I.JM C z)with z|z
  .exact c1 z
  .exact c2 z
 intros oC es ep hoC hdC hkC hn;have aus:s'.heap.get? C=some oC:=un.keep C oC hoC c0 cS (by simp);intros f1 f2 f3 f4 fl;have sub:∀b o,(pK B [C]).get? b=some o->B.get? b=some o:=λb o e=>VZ [C] e;have RP:(pK B [C]).get? C=none:=Heap.hide_self B C;have ag6:∀b,B.get? b=none->(pK B [C]).get? b=none:=λb e=>by
  cases q:(pK B [C]).get? b with
  |none=>rfl
  |some o=>rw[sub b o q]at e;cases e
 have trB:∀{hh:Heap} {ff:Value},hh.TracedAtW B ea (.ref Cc) a0 ff->hh.TracedAtW (pK B [C]) ea (.ref Cc) a0 ff:=λ⟨oe,vs,T,oT,ts,a1,a2,a3,a4,a5,a6⟩=>{oe,vs,T,oT,ts,a1,a2,a3,a4,ag6 T a5,a6};refine aaQ (L:=s₀.heap.objs.size) I.ok.frames (acB sub f3) rfl (trB f4) (λb o e=>f1 b o (sub b o e)) (ag6 _ f2) kk λh1 ⟨k1,k2,k3,k4⟩ u1 kk1=>?_;have ZX:∀vs,oC.data≠ .fields vs:=λvs z=>by rw[hdC]at z;cases z
 obtain⟨sl1,oN⟩:=u1 C oC aus ZX;refine{m,{_,es,ep,oN,hdC,hkC},λh2 sb cenv _=>?_};have at2:∀b,b≠C->h2.get? b=h1.get? b:=λb hb=>sb.2 b hb;have nEa:ea≠C:=λz=>by
  intros oe vs T oT ts a1 a2 a3 _ k4;rw[z,oN]at a1;cases a1;exact ZX vs a3
 have tr2:h2.TracedAtW (pK B [C]) ea (.ref Cc) a0 (rawInt s₀.heap.objs.size):=by
  intros oe vs T oT ts a1 a2 a3 a4 a5 a6 a7 a8 a9 k4;have n1:=nEa;have n2:T≠C:=λz=>by rw[z,oN]at a7;cases a7;exact ZX ts a8
  exact{oe,vs,T,oT,ts,(at2 _ n1).trans a1,a2,a3,a4,a5,a6,(at2 _ n2).trans a7,a8,a9}
 refine atR (s:={ s' with heap:=h2 }) (λb o e=>(at2 b λz=>by rw[z,RP]at e;cases e).trans (k1 b o e)) (afN (λb hb=>at2 b λz=>cS (z▸hb)) k3) tr2 (kk1.at (at2 ea nEa)) λh3 fl3 s3 ff3 t3 u3 kk3=>?_;refine afE (s:={ s' with heap:=h3 }) (L:=s₀.heap.objs.size) I.ok.frames ff3 rfl t3 s3 k2 kk3 λh4 Uz u4 UL=>?_;have up:∀b o,b≠C->s'.heap.get? b=some o->(∀vs,o.data≠ .fields vs)->∃sl,h4.get? b=some { o with slots:=sl }:=λb o hb e hd=>by
  obtain⟨sl1,e1⟩:=u1 b o e hd;have e2:=(at2 b hb).trans e1;exact(u3.trans u4) b { o with slots:=sl1 } e2 hd
 have inB:∀b o,s.heap.get? b=some o->b∉frs (envOfC qual scope s₀.heap.objs.size f cdv::outer)->∃o',B.get? b=some o'/\s'.heap.get? b=some o':=λb o e hb=>by
  rcases old b o e with z|⟨o',z⟩
  .exact absurd z hb
  .exact{o',z,f1 b o' z}
 have upF:∀b o,s'.heap.get? b=some o->b∈frs (envOfC qual scope s₀.heap.objs.size f cdv::outer)->∃sl,h4.get? b=some { o with slots:=sl }:=λb o e hb=>by
  obtain⟨_,o',ho',hd⟩:=f3.mem hb;rw[e]at ho';cases ho';exact up b o (λz=>cS (z▸hb)) e hd
 have O5:∀b o,b≠C->B.get? b=some o->(pK B [C]).get? b=some o:=λb o hb e=>Zj [C] e (by simpa using hb);have hC':H' C=none:=un.free C oC hoC c0 (by simp);have hok':d8 P w H' (pK B [C]):=λb o e=>
  (hok b o e).stay (λc u hc qq=>O5 c u (λz=>by
   rcases hc with rfl|hc
   .rw[z,hC']at e;cases e
   .rw[z,hC']at hc;cases hc) qq) (λ_ qq=>qq) λ_ _ qq=>qq
 refine{{ea,Cc,a0,_,H',rfl,os.trans I.os,bare,Uz,hok',I.ayR rfl hC (λb o hb e n hs=>?_) (λb o hb e n hs=>?_) (λb o e n=>un.free b o e n (by simp)) (λb o hb e=>?_) un.tups un.gJ un.iW,λb o e=>?_,q},ea,rfl,UL}
 .obtain⟨o',e1,e2⟩:=inB b o e hs;have e3:=un.keep b o e n hs (by simp);rw[e2]at e3;cases e3;exact Uz.1 b _ (O5 b _ hb e1)
 .obtain⟨sl,e1⟩:=un.slot b o e n (eN _ hs) (by simp);obtain⟨sl',e2⟩:=upF b _ e1 (eN _ hs);exact{sl',(e2)}
 .by_cases hs:b∈frs (envOfC qual scope s₀.heap.objs.size f cdv::outer)
  .obtain⟨o',e1⟩:=un.there b o e (by simp);obtain⟨sl,e2⟩:=upF b o' e1 hs;exact{_,e2}
  .obtain⟨o',e1,_⟩:=inB b o e hs;exact{o',Uz.1 b o' (O5 b o' hb e1)}
 .by_cases hb:b∈frs outer
  .exact .inl hb
  .have nc:b≠C:=λz=>absurd (cU e) (by rw[z];exact Nat.not_lt.mpr hC);obtain⟨o',e1⟩:=I.base.there b o e (by intro z;cases z);obtain⟨o2,e2,_⟩:=inB b o' e1 (I.Et e hb);exact .inr {o2,O5 b o2 nc e2}
def aPJ{X:Cx}{E:XK}(uW:Lets X E){i:Nat}{y:Str}{py spos:Pos}{tg iter elt:Expr}{ifs:List Expr}{scope sc:Scope}{pos:Pos}{wi:TI}{g:TG}{tc:TT}{te:TE}{N:List Str}{ix:List (Option Nat)}(hN:X.N.Nodup)(hi':X.N[i]?=some y)(hx:Loc X.env.scope y)
  (O:wM X scope sc N ix) (hc:X.calm=true) (hi:PI X tg iter wi)
  (hb:∀cl C s₀ H₀ ex,PG (dG X sc N cl C s₀ H₀ ex) tg g/\rH (dG X sc N cl C s₀ H₀ ex) ifs tc/\PE (qM X E sc N cl C s₀ H₀ ex) elt te)
  (hs:∀x,foldedSetIterable iter X.env x=pure x:=by intro _;rfl) (hsw:swapsWith (.ListComp elt [{tg,iter,ifs,(0)}] scope pos) (some (.Name y py)) spos.line X.env=pure true:=by rfl)
  (hf:X.fn y=true∨X.env.scope.names.lookup y=some .local:=by first|exact .inl rfl|exact .inr rfl|assumption):
  PS X (.Assign [.Name y py] (.ListComp elt [{tg,iter,ifs,(0)}] scope pos) spos) (yu (yZ ix wi g tc te) (gM i)):=
 ab1 (cm:=λX=>X.calm=true) (wx:=M9 X E sc N) hN hi' hx O hc (λ_ _ _ _=>hc) hi (λcl C s₀ H₀ ex _=>hb cl C s₀ H₀ ex) (aje uW) hs hsw hf
def cD.hu{k:Nat}{A:Around}(r:cD k A):A.units+1<cLine:=by have:=r.un;lia
end L2
namespace PySem.SeqAt
open AutoSeq1 (wpAny_loadPart')
open MeetsSeq MeetsSeq2 MeetsSeq3 SeqRoads2
end PySem.SeqAt
namespace L2
open PySem PySem.Spec PyProof.Rows
section
open Classical
variable {X:Cx}
def aPP(H:Hp)(c:List Int):Value->Bool:=λv=>match v with
 |.ref t=>decide (H t=some (.lst (c.map V.int)))
 |_=>false
end
def ab5(K:au){X:Cx}(hK:X.K=K:=by rfl):cG X (compareOp .In) (Qn K false):=by subst hK;exact asB
end L2
namespace PyProof.Rows
open PySem
section
variable {prog:Program} {w:World} {A:Around} {E:Value->Shared->Prop} {s:Shared}
section
variable {t:Addr}{items:Array Value}{Q:Unit->Shared->Prop}
theorem aiI{it t:Addr}{items:Array Value}(hne:t≠it):∀(n i:Nat) (s:Shared) (Q:List Value->Shared->Prop),s.heap.IsListIter it t i->s.heap.IsList t items->i+n<=items.size->
  (∀h':Heap,h'.IsListIter it t (i+n)->xY it s.heap h'->Q ((items.toList.drop i).take n) { s with heap:=h' })->wpAny (model prog w) A (draw (.ref it) n) Q E s
 |0,i,s,Q,hit,_,_,hQ=>by
  show wpAny _ _ (pure []) Q E s;exact wpAny_pure (by simpa using hQ s.heap hit (axg ..))
 |n+1,i,s,Q,hit,ht,hle,hQ=>by
  have hlt:i<items.size:=⋯;show wpAny _ _ (pyNext (.ref it)>>=_) Q E s;refine wpAny_bind (wpAny_pyNext_list_item hit ht (x:=items[i]) (by simp[hlt]) λh₁ hit₁ hs₁=>?_);refine wpAny_bind (wpAny_holding (aiI hne n (i+1) _ _ hit₁ (ht.extBut hs₁.extBut hne) ⋯ λh₂ hit₂ hs₂=>wpAny_pure ?_));have hd:items.toList.drop i=items[i]::items.toList.drop (i+1):=by simp[List.drop_eq_getElem_cons,hlt]
  have:=hQ h₂ (by rw[(⋯:i+(n+1)=i+1+n)];exact hit₂) (hs₁.trans hs₂);rw[hd,aoB]at this;exact this
def aAg{Q:List Value->Shared->Prop}(hh:A.handled=none)(ht:s.heap.IsList t items)
  (hQ:∀h',B7 s.heap.objs.size s.heap h'->Q items.toList { s with heap:=h' }):wpAny (model prog w) A (unpackItems (.ref t) items.size none) Q E s:=by
 have hlt:t≠s.heap.objs.size:=by intros o ho _ ht;exact iG (cU ho)
 unfold unpackItems;refine wpAny_bind ?_
 .unfold notIterableAtAll;refine wpAny_bind (wpAny_specialOf ht.typeIs slot_list_iter.lookup ?_);refine wpAny_pure ?_;simp only[Fq,if_false];refine wpAny_bind (wpAny_holding (wpAny_pyIter_list ht ?_));refine wpAny_bind (wpAny_holding (aiI hlt items.size 0 _ _ {_,Heap.get?_push_size _ rfl,rfl,rfl} (ht.push _) ⋯ λh₁ hit₁ hs₁=>?_));have hall:List.take items.size (List.drop 0 items.toList)=items.toList:=by
   rw[Ae];exact tM (by simp)
  rw[hall];rw[if_neg (by simp)];have ht₁:h₁.IsList t items:=(ht.push _).extBut hs₁.extBut hlt;refine wpAny_bind (wpAny_holding (wpAny_pyNext_list_end hh hit₁ ht₁ (by simp) λh₂ he₂=>?_));simp only[adv,Fq,if_false];refine wpAny_pure (hQ h₂ λb o hb e=>he₂ b o hb (hs₁.extBut b o hb (Heap.get?_push_of_some _ e)))
def aIS{targets:List (Bool×(Value->Sem Unit))}(hh:A.handled=none)(ht:s.heap.IsList t items)
  (hn:targets.length=items.size) (hstar:targets.findIdx? (·.1)=none)
  (h:∀h',B7 s.heap.objs.size s.heap h'->wpAny (model prog w) A (assignInOrder (targets.map (·.2)) items.toList) Q E { s with heap:=h' }):
  wpAny (model prog w) A (unpack (.ref t) targets) Q E s:=by
 unfold unpack;rw[hn,hstar];exact wpAny_bind (wpAny_holding (aAg hh ht h))
def aMX{env:Env}{elts:List Expr}{x1}{pos:Pos}(hh:A.handled=none)(ht:s.heap.IsList t items)
  (hn:(assignEach elts env).length=items.size) (hstar:(assignEach elts env).findIdx? (·.1)=none)
  (h:∀h',B7 s.heap.objs.size s.heap h'->wpAny (model prog w) A (assignInOrder ((assignEach elts env).map (·.2)) items.toList) Q E { s with heap:=h' }):
  wpAny (model prog w) A (assign (.Tuple elts x1 pos) env (.ref t)) Q E s:=by
 rw[assign_Tuple];exact wpAny_bind (wpAny_standAt (aIS hh ht hn hstar h))
end
end
end PyProof.Rows
namespace L2
open PySem PySem.Spec PyProof.Rows
section
variable {X:Cx} {pos:Pos}
def aMq(K:au)(n:Nat)(t:sS):TG:=λv σ H Q=>∃a xs,v = .ref a/\ak K H a xs/\xs.length=n/\t xs σ H Q
def ad1(K:au){es:List Expr}{k:Nat}{t:sS}{n:Nat}(hc:X.calm=true)(h:AZ X es t)(hK:X.K=K:=by rfl)
  (hn:(assignEach es X.env).length=n:=by rfl) (hst:(assignEach es X.env).findIdx? (·.1)=none:=by rfl):PG X (.Tuple es k pos) (aMq K n t):=by
 subst hK;intro pins s σ H v u Q I r hw;intros a xs e1 hq hl hw hw;subst e1;cases r;obtain⟨its,rv,⟨o,n,eo,ec,_,ed⟩,hz⟩:=I.list hq;refine aMX (I.ok.hd hc) {o,eo,ec,n,(ed)} (by simp[hn,<-hl,rv.length]) hst λh' hx=>?_;have I1:Inv X pins σ H { s with heap:=h' }:=I.kept (t':=s.toks) λb o e=>hx b o (iG (cU e)) e;exact h pins _ σ H xs _ Q I1 (by simpa using rv) hw
end
section
variable {X:Cx} {pins:List (Addr×Obj)} {σ:St} {H:Hp} {s:Shared}
section
variable {a:Addr}{P:Program}{w:World}{kvs:List (Key×V)}{tg:Expr}
def Inv.swap{u u':HO}(I:Inv X pins σ H s)(e:H a=some u)(h1:∀xs,u≠ .tup xs)(h2:∀x,u≠ .own x)(h3:∀ps,u≠ .nY ps)(hx:∀o v,X.H₀ a≠some (.cP o v))(new:cW X.prog X.w (upd H a u') s.heap a u'):Inv X pins σ (upd H a u') s:=by
 have Ob:∀b,H b=none->(upd H a u') b=none:=λb n=>by rw[cI λz=>by rw[z,e]at n;cases n];exact n
 have ajo:∀b xs,H b=some (.tup xs)->(upd H a u') b=some (.tup xs):=λb xs q=>by rw[cI λz=>by rw[z,e]at q;cases q;exact h1 _ rfl];exact q
 refine{I.ok,I.os,I.bare,{I.base.keep,I.base.slot,λb o q n hb=>Ob b (I.base.free b o q n hb),I.base.there,λb xs q=>ajo b xs (I.base.tups b xs q),λb o v q=>?_,λb ps q=>?_},I.loc,I.cell,Ob _ I.free,λx c q=>Ob _ (I.lY x c q),λp hp=>?_,λb v q=>?_,I.len}
 .rw[cI λz=>hx o v (by rw[<-z];exact q)];exact I.base.gJ b o v q
 .obtain⟨more,q'⟩:=I.base.iW b ps q;exact{more,by rw[cI λz=>by rw[z,e]at q';cases q';exact h3 _ rfl];exact q'}
 .obtain⟨p1,p2,p3⟩:=I.pin p hp;exact{p1,Ob _ p2,p3}
 .by_cases z:b=a
  .subst z;rw[aq]at q;cases q;exact new
  .rw[cI z]at q;exact(I.hok b v q).stay (λ_ _ _ r=>r) (λc r=>by rw[cI λz=>by rw[z,e]at r;cases r;exact h2 _ rfl];exact r) ajo
def cW.awn{H':Hp}{h:Heap}(x:cW P w H h a (.dK kvs)):cW P w H' h a (.dK kvs):=x
def tFz(t:TE):TE:=λσ H Q=>∃(a:Addr) (kvs:List (Key×V)),H a=some (.dK kvs)/\∀o,t σ (upd H a (.cP o (.dK kvs))) λv H2=>H2 a=some (.cP o (.dK kvs))/\Q v (upd H2 a (.dK kvs))
def aDe{e:Expr}{t:TE}(h:PE X e t):PE X e (tFz t):=by
 intro pins s σ H Q I q;intros a kvs hA q q;obtain⟨z,y,vs,rel,o,es,ep,ho,rest⟩:=(show cW X.prog X.w H s.heap a (.dK kvs)from I.hok a _ hA);have nf:∀o v,X.H₀ a≠some (.cP o v):=λo v c=>by
  have:=I.base.gJ a o v c;rw[hA]at this;cases this
 have I1:Inv X pins σ (upd H a (.cP o (.dK kvs))) s:=I.swap hA (λ_ c=>by cases c) (λ_ c=>by cases c) (λ_ c=>by cases c) nf {ho,z,y,vs,rel,o,es,ep,ho,(rest)};refine wpAny_mono (h pins s σ _ _ I1 (q o)) (λu s' hs=>?_) λ_ _ x=>x;intros v H2 I2 r hf q2 hs;obtain⟨_,o2⟩:=(show cW X.prog X.w H2 s'.heap a (.cP o (.dK kvs))from I2.hok a _ hf);exact{v,_,I2.swap hf (λ_ c=>by cases c) (λ_ c=>by cases c) (λ_ c=>by cases c) nf (cW.awn o2),r,q2}
def X3(a:Addr)(o:Obj)(kvs:List (Key×V)):It:=
 {λi H=>H a=some (.cP o (.dK kvs))/\i<kvs.length,λi H x H'=>H'=H/\(kvs[i]?.map λkv=>kV kv.1)=some x,λi H=>H a=some (.cP o (.dK kvs))/\kvs.length<=i}
def aHR{k:Key}{v:Value}(h:(gq P w).is k v=true):RelV (kV k) v:=by
 rcases rW h with⟨i,t,rfl,rfl⟩|⟨x,t,rfl,rfl⟩
 .exact{t,(rfl)}
 .exact{t,(rfl)}
theorem ae3:∀{kvs:List (Key×V)} {vs:List (Key×Value)} {i:Nat} {p:Key×V} {q:Key×Value},KV kvs vs->kvs[i]?=some p->vs[i]?=some q->p.1=q.1
 |_,_,0,_,_,.cons r _,h1,h2=>by cases h1;cases h2;exact r.1
 |_,_,i+1,_,_,.cons _ r,h1,h2=>ae3 (i:=i) r (by simpa using h1) (by simpa using h2)
def axu{K:au}(a it:Addr)(o:Obj)(kvs:List (Key×V)){es:Array DictEntry}{ep:Nat}(hd:o.data = .dict es ep):Turn P w K tg (X3 a o kvs) [it] it (λi h=>i<=kvs.length/\h.IsKeyIter it a i kvs.length ep) where
 mem:=by simp
 obj:=λi h st b hb=>by
  have e:b=it:=by simpa using hb
  subst e;intros _ o e c d st;exact{o,e,λv z=>by rw[d]at z;cases z}
 keep:=λi h h' st k=>by
  intros hi o e c d st;exact{hi,o,k it (by simp) o e,c,d}
 item:=by
  intro X hP hw hK hc i pins s σ H E I hf st hg;subst hP hw hK;intros hA hi hg;obtain⟨ho,z,y,vs,rel,o',es',ep',ho',hex,hd',hk,hp,hn⟩:=(show cW X.prog X.w H s.heap a (.cP o (.dK kvs))from I.hok a _ hA);rw[ho]at ho';cases ho';rw[hd]at hd';cases hd';have hl:kvs.length=vs.length:=rel.length;obtain⟨f0,f1,f2,f3,f4,f5⟩:=hf it (by simp);have hx:vs[i]?=some (vs[i]'⋯):=List.getElem?_eq_getElem _;have hkx:kvs[i]?=some kvs[i]:=List.getElem?_eq_getElem hi;intros _ stI st;rw[hl]at stI;refine wpAny_pyNext_dict_item (knd:=gq X.prog X.w) stI {o,es,ho,hex,hd,hk,hp,(hn)} hx λkey h' hkey st' sb=>?_;have I1:Inv X pins σ H { s with heap:=h' }:=I.turned (t':=s.toks) (λb o hb e=>(sb.2 b hb).trans e) f0 f1 f3 f4 f5;obtain⟨oo,e,c,d⟩:=id st';have ek:kvs[i].1=(vs[i]'⋯).1:=ae3 rel hkx hx;exact{key,rfl,vY (s:={ s with heap:=h' }) e c d ∅ {kV kvs[i].1,H,I1,by rw[ek];exact aHR hkey,{rfl,by rw[hkx];rfl},{hi,by rw[hl];exact st'},λb hb=>(hf b hb).1}}
 done:=by
  intro X hP hw hK hc i pins s σ H E I hf st hg;subst hP hw hK;intros hA hi hg;obtain⟨ho,z,y,vs,rel,o',es',ep',ho',hex,hd',hk,hp,hn⟩:=(show cW X.prog X.w H s.heap a (.cP o (.dK kvs))from I.hok a _ hA);rw[ho]at ho';cases ho';rw[hd]at hd';cases hd';have hl:kvs.length=vs.length:=rel.length;obtain⟨f0,f1,f2,f3,f4,f5⟩:=hf it (by simp);intros _ stI st;rw[hl]at stI;exact wpAny_pyNext_dict_end (knd:=gq X.prog X.w) (I.ok.hd hc) stI {o,es,ho,hex,hd,hk,hp,(hn)} (List.getElem?_eq_none ⋯) λh' eb=>{rfl,I.turned (t':=s.toks) (λb o hb e=>eb b o hb e) f0 f1 f3 f4 f5}
 self:=λ_ _ _ _ _ st h=>wpAny_pyIter_keyiter st.2 h
def ayK(tl:TE):TI:=λσ H R=>tl σ H λx H1=>∃(a:Addr) (o:Obj) (kvs:List (Key×V)),x = .ref a/\H1 a=some (.cP o (.dK kvs))/\R (X3 a o kvs) H1
def aLd{l:Expr}{tl:TE}(hl:PE X l tl):PI X tg l (ayK tl):=by
 intro pins s σ H R I h;refine wpAny_mono (hl pins s σ H _ I h) (λu s1 hs=>?_) λ_ _ x=>x;intros v H1 I1 r a o kvs rfl hA q hs;cases r;obtain⟨ho,z,y,vs,rel,o',es,ep,ho',hex,hd,hk,hp,hn⟩:=(show cW X.prog X.w H1 s1.heap a (.cP o (.dK kvs))from I1.hok a _ hA);rw[ho]at ho';cases ho';have hlen:kvs.length=vs.length:=rel.length;refine wpAny_pyIter_dict (knd:=gq X.prog X.w) y {o,es,ho,hex,hd,hk,hp,(hn)} ?_;have I2:Inv X pins σ H1 { s1 with heap:=s1.heap.push { cls:= .type "dict_keyiterator",data:= .fields #[.ref a,.int 0 0,.int vs.length 0,.int ep 0] } }:=I1.kept (t':=s1.toks) λb o e=>Heap.get?_push_of_some _ e;refine{_,[s1.heap.objs.size],_,_,H1,rfl,I2,axu a _ o kvs hd,{dW _,_,Heap.get?_push_size _ rfl,rfl,by rw[hlen];rfl},λc hc=>?_,q};have e:c=s1.heap.objs.size:=by simpa using hc
 subst e;exact I1.tU (bO _) (I1.hok.fresh (bO _))
def arR{o:Obj}{H1:Hp}(h:H1 a=some (.cP o (.dK kvs))):qx (X3 a o kvs) (kvs.map λkv=>kV kv.1) H1:=by
 refine{λi H' g hi=>?_,λi H' x H2 g y=>{y.1,λhi=>?_},λi H' g hi=>?_}
 .rw[aC]at hi;exact{g _ _ h,hi}
 .rw[List.getElem?_map];exact y.2
 .rw[aC]at hi;exact{g _ _ h,hi}
end
end
def aOV:entryFor table "proto.unchain" = some Builtin.«proto.unchain»:=entryFor_of_tree (by kernel_rfl)
structure Quiet(A:Around)(h:Heap):Prop where
 ex:∃x ox vx,A.handled=some (.ref x)/\h.get? x=some ox/\ox.data = .fields vx/\vx[2]?=some .none
section
variable {α:Type} {prog:Program} {w:World} {A:Around} {E:Value->Shared->Prop} {s:Shared}
section
variable {Q:α->Shared->Prop}{it t:Addr}{i:Nat}{items:Array Value}
def arD{a x:Addr}{oa ox:Obj}{va vx:Array Value}(hh:A.handled=some (.ref x))(hx:s.heap.get? x=some ox)(dx:ox.data = .fields vx)(kx:vx[2]?=some .none)
  (ha:s.heap.get? a=some oa) (da:oa.data = .fields va) (sa:2<va.size) (ne:x≠a) (q:E (.ref a) { s with heap:=s.heap.update a (wI (·.setIfInBounds 2 (.ref x))) }):wpAny (model prog w) A (raiseNew (.ref a):Sem α) Q E s:=by
 unfold raiseNew;refine wpAny_bind (wpAny_handled ?_);rw[hh];have e:(Value.ref x != Value.ref a)=true:=by simpa using ne
 show wpAny _ _ (if(Value.ref x != Value.ref a)=true then _ else _) _ _ _;rw[if_pos e];refine wpAny_bind (wpAny_holding (runValue_entry aOV ?_));show wpAny _ _ (field (.ref x) 2>>=_) _ _ s;refine wpAny_bind (wpAny_field hx dx kx ?_);refine wpAny_pure {(),?_};unfold updateField;refine wpAny_bind (wpAny_bind (wpAny_load ha ?_));rw[da];show wpAny _ _ (if 2<va.size then _ else _) _ _ _;rw[if_pos sa];exact wpAny_update ha (wpAny_throw q)
def amz(hq:Quiet A s.heap)(q:∀(n:Addr) (h':Heap),(∀b o,s.heap.get? b=some o->h'.get? b=some o)->(∃oe,h'.get? n=some oe/\oe.cls = .type "StopIteration")->E (.ref n) { s with heap:=h' }):
  wpAny (model prog w) A (newExc (.type "StopIteration") []>>=λe=>(raiseNew e:Sem α)) Q E s:=by
 intros x ox vx hh hx dx kx hq.ex;refine wpAny_bind ?_;simp only[newTuple,newExc];refine wpAny_bind (wpAny_newObj_type ?_ (by size_fits));refine wpAny_bind (m:=firstArgMember _ _) (wpAny_of_eq (a:=Value.none) rfl (wpAny_newObj_type ?_ (by size_fits)));generalize eo:({ cls:= .type "StopIteration",dict:=none,data:= .fields _ }:Obj)=oe;generalize et:({ cls:= .type "tuple",dict:=none,data:=_ }:Obj)=ot;have ge:=Heap.get?_push_size (s.heap.push ot) (o:=oe) (by rw[<-eo];rfl);have keep:∀b o,s.heap.get? b=some o->((s.heap.push ot).push oe).get? b=some o:=λb o e=>Heap.get?_push_of_some _ (Heap.get?_push_of_some _ e);have ne:x≠(s.heap.push ot).objs.size:=λz=>by
  have:=cU (Heap.get?_push_of_some ot hx);rw[z]at this;exact pI _ this
 refine arD hh (keep x ox hx) dx kx ge (by rw[<-eo]) (by show 2<6;decide) ne (q _ _ (λb o e=>?_) ?_)
 .have hb:(s.heap.push ot).objs.size≠b:=λz=>by
   have:=cU (Heap.get?_push_of_some ot e);rw[<-z]at this;exact pI _ this
  exact(Heap.get?_update_other _ _ hb).trans (keep b o e)
 .exact{_,Heap.get?_update_self _ ge (PB (Ik (by rw[<-eo]) _)),(apZ ..).trans (by rw[<-eo])}
def aBV{l:Addr}{Q:Option Value->Shared->Prop}(hq:Quiet A s.heap)(ni:∀x,A.handled=some (.ref x)->x≠it)(hit:s.heap.IsListIter it l i)(hl:s.heap.IsList l items)(z0:items[i]?=none)
  (q:∀h',B7 it s.heap h'->Q none { s with heap:=h' }):wpAny (model prog w) A (pyNext (.ref it)) Q E s:=by
 obtain⟨u1,u2,u3,u4⟩:=id hit;intros y1 y2 _ y3 y4 hl;unfold pyNext;refine wpAny_bind (wpAny_attempt (wpAny_callSpecial?_slot (name:=Str.ofString "__next__") hit.typeIs slot_listiter_next (wpAny_call_entry slot_listiter_next hit.typeIs entry_listiter_next ?_ (args_listiter_next _))));refine wpAny_bind (m:=field (.ref it) 0) (wpAny_field u2 u4 (x:= .ref l) rfl ?_);refine wpAny_bind (m:=field (.ref it) 1) (wpAny_field u2 u4 (x:= .int i 0) rfl ?_);refine wpAny_bind (m:=seqItems? (.ref l)) (wpAny_seqItems y2 y4 ?_);simp only[z0,d7];refine wpAny_bind (wpAny_rule (wpAny_bind (wpAny_setField u2 u4 (by simp) ?_)));refine amz (A:=A.in1) ?_ λn h' keep ⟨oe,ge,ce⟩=>?_
 .intros x ox vx hh hx dx kx hq.ex;exact{x,ox,vx,hh,(Heap.get?_update_other _ _ (je (ni x hh))).trans hx,dx,kx}
 .refine wpAny_bind (wpAny_isInstance (T:= "StopIteration") (b:=true) {oe,ge,(ce)} isSubtype_stop ?_);exact wpAny_pure (q h' λb o hb e=>keep b o ((Heap.get?_update_other _ _ (je hb)).trans e))
def aH2{Q:Option Value->Shared->Prop}(hq:Quiet A s.heap)(ni:∀x,A.handled=some (.ref x)->x≠it)(hit:IsTupIter s.heap it t i)(ht:IsTup s.heap t items)(z0:items[i]?=none)
  (q:∀h',B7 it s.heap h'->Q none { s with heap:=h' }):wpAny (model prog w) A (pyNext (.ref it)) Q E s:=by
 obtain⟨u1,u2,u3,u4⟩:=id hit;intros y1 y2 _ y3 y4 ht;unfold pyNext;refine wpAny_bind (wpAny_attempt (wpAny_callSpecial?_slot (name:=Str.ofString "__next__") hit.typeIs slot_tupleiter_next (wpAny_call_entry slot_tupleiter_next hit.typeIs entry_tupleiter_next ?_ (args_tupleiter_next _))));refine wpAny_bind (m:=field (.ref it) 0) (wpAny_field u2 u4 (x:= .ref t) rfl ?_);refine wpAny_bind (m:=field (.ref it) 1) (wpAny_field u2 u4 (x:= .int i 0) rfl ?_);refine wpAny_bind (m:=seqItems? (.ref t)) (wpAny_seqItems y2 y4 ?_);simp only[z0,d7];refine wpAny_bind (wpAny_rule (wpAny_bind (wpAny_setField u2 u4 (by simp) ?_)));refine amz (A:=A.in1) ?_ λn h' keep ⟨oe,ge,ce⟩=>?_
 .intros x ox vx hh hx dx kx hq.ex;exact{x,ox,vx,hh,(Heap.get?_update_other _ _ (je (ni x hh))).trans hx,dx,kx}
 .refine wpAny_bind (wpAny_isInstance (T:= "StopIteration") (b:=true) {oe,ge,(ce)} isSubtype_stop ?_);exact wpAny_pure (q h' λb o hb e=>keep b o ((Heap.get?_update_other _ _ (je hb)).trans e))
def at4{env:Env}{elts:List Expr}{x1}{pos:Pos}{Q:Unit->Shared->Prop}(hq:Quiet A s.heap)(ht:IsTup s.heap t items)(hn:(assignEach elts env).length=items.size)(hstar:(assignEach elts env).findIdx? (·.1)=none)
  (h:∀h',B7 s.heap.objs.size s.heap h'->wpAny (model prog w) A (assignInOrder ((assignEach elts env).map (·.2)) items.toList) Q E { s with heap:=h' }):wpAny (model prog w) A (assign (.Tuple elts x1 pos) env (.ref t)) Q E s:=by
 have hlt:t≠s.heap.objs.size:=by intros o ho _ ht;exact iG (cU ho)
 rw[assign_Tuple];refine wpAny_bind (wpAny_standAt ?_);unfold unpack;rw[hn,hstar];refine wpAny_bind (wpAny_holding ?_);unfold unpackItems notIterableAtAll;refine wpAny_bind (wpAny_bind (wpAny_specialOf ht.typeIs slot_tuple_iter.lookup (wpAny_pure ?_)));simp only[if_false,Fq];refine wpAny_bind (wpAny_holding (iter_tuple ht (wpAny_bind (wpAny_holding (draw_tuple hlt items.size 0 _ _ {_,Heap.get?_push_size _ rfl,rfl,rfl} (ht.push _) ⋯ λh₁ hit₁ hs₁=>?_)))));rw[show List.take items.size (List.drop 0 items.toList)=items.toList by rw[Ae];exact tM (by simp),if_neg (by simp)];have keep:∀b o,b≠s.heap.objs.size->s.heap.get? b=some o->h₁.get? b=some o:=λb o hb e=>hs₁.extBut b o hb (Heap.get?_push_of_some _ e);intros x ox vx hh hx dx kx hq.ex;have nx:x≠s.heap.objs.size:=iG (cU hx);refine wpAny_bind (wpAny_holding (aH2 {x,ox,vx,hh,keep x ox nx hx,dx,kx} (λy hy=>by rw[hh]at hy;cases hy;exact nx) hit₁ ((ht.push _).extBut hs₁.extBut hlt) (by simp) λh₂ he₂=>?_));simp only[if_false,Fq,adv];exact wpAny_pure (h h₂ λb o hb e=>he₂ b o hb (keep b o hb e))
end
end
def QX(X:Cx):Prop:=∃x ob u,X.A.handled=some (.ref x)/\X.H₀ x=some (.cP ob u)/\J9 ob
section
variable {X:Cx} {pins:List (Addr×Obj)} {σ:St} {H:Hp} {s:Shared}
def QX.now(q:QX X)(I:Inv X pins σ H s):Quiet X.A s.heap/\∀x,X.A.handled=some (.ref x)->H x≠none:=by
 intros x ob u hh hx vs d k q;have h1:=I.base.gJ x ob u hx;refine{{x,ob,vs,hh,(show cW X.prog X.w H s.heap x (.cP ob u)from I.hok x _ h1).1,d,k},λy hy=>?_};rw[hh]at hy;cases hy;rw[h1];exactλz=>nomatch z
def QX.up(q:QX X){sc:Scope}{N:List Str}(cl:List (Str×Addr))(C:Addr)(fp:List Addr)(I:Inv X pins σ H s):QX (dG X sc N cl C s H fp):=by
 intros x ob u hh hx c q;exact{x,ob,u,hh,I.base.gJ x ob u hx,c}
end
section
variable {X:Cx} (K:au)
def as4{es:List Expr}{k:Nat}{t:sS}{n:Nat}{pos:Pos}(hc:QX X)(h:AZ X es t)(hK:X.K=K:=by rfl)
  (hn:(assignEach es X.env).length=n:=by rfl) (hst:(assignEach es X.env).findIdx? (·.1)=none:=by rfl):PG X (.Tuple es k pos) (aq4 K n t):=by
 subst hK;intro pins s σ H v u Q I r hw;intros a xs e1 hq hl hw hw;subst e1;cases r;obtain⟨its,rv,ht,hz⟩:=I.tuple hq;refine at4 (hc.now I).1 ht (by simp[hn,<-hl,rv.length]) hst λh' hx=>?_;exact h pins _ σ H xs _ Q (I.kept (t':=s.toks) λb o e=>hx b o (iG (cU e)) e) (by simpa using rv) hw
def azj{P:Program}{w:World}{K:au}{tg:Expr}(a it:Addr):Turn P w K tg (uo K a) [it] it (λi h=>h.IsListIter it a i) QX where
 mem:=by simp
 obj:=(Ol (P:=P) (w:=w) (K:=K) (tg:=tg) a it).obj
 keep:=(Ol (P:=P) (w:=w) (K:=K) (tg:=tg) a it).keep
 item:=by
  intro X e1 e2 e3 hc i pins s σ H E I hf st ⟨xs,x,hq,hx⟩;subst e1 e2 e3;obtain⟨its,rv,p,hz⟩:=I.list hq;obtain⟨u,hu,ru⟩:=rv.get hx;obtain⟨f0,f1,f2,f3,f4,f5⟩:=hf it (by simp);refine wpAny_pyNext_list_item st p.isList (x:=u) (by simpa using hu) λh' st' sb=>?_;obtain⟨o,e,c,d⟩:=id st';exact{u,rfl,vY (s:={ s with heap:=h' }) e c d ∅ {x,H,I.turned (t':=s.toks) (λb o hb e=>(sb.2 b hb).trans e) f0 f1 f3 f4 f5,ru,{rfl,λys hy=>by rw[I.acE hy hq];exact hx},st',λb hb=>(hf b hb).1}}
 done:=by
  intro X e1 e2 e3 hc i pins s σ H E I hf st ⟨xs,hq,hx⟩;subst e1 e2 e3;obtain⟨its,rv,p,hz⟩:=I.list hq;obtain⟨f0,f1,f2,f3,f4,f5⟩:=hf it (by simp);have hl:=rv.length;obtain⟨q1,q2⟩:=hc.now I;exact aBV q1 (λy hy z=>q2 y hy (by rw[z];exact f0)) st p.isList (by simp;lia) λh' eb=>{rfl,I.turned (t':=s.toks) (λb o hb e=>eb b o hb e) f0 f1 f3 f4 f5}
 self:=(Ol (P:=P) (w:=w) (K:=K) (tg:=tg) a it).self
def ar7(K:au)(tl:TE):TI:=λσ H R=>tl σ H λx H1=>∃a,x = .ref a/\(∃xs,ak K H1 a xs)/\R (uo K a) H1
def avi{tg l:Expr}{tl:TE}(hl:PE X l tl)(hK:X.K=K:=by rfl):Eo QX X tg l (ar7 K tl):=by
 subst hK;intro pins s σ H R I h;refine aP (hl pins s σ H _ I h) λv s1 ⟨x,H1,I1,r1,a,e,⟨xs,hq⟩,q⟩=>?_;subst e;cases r1;obtain⟨its,rv,p,hz⟩:=I1.list hq;refine wpAny_pyIter_list p.isList ?_;refine{s1.heap.objs.size,[s1.heap.objs.size],_,_,H1,rfl,I1.kept (t':=s1.toks) λb o e=>Heap.get?_push_of_some _ e,azj a _,{_,Heap.get?_push_size _ rfl,rfl,rfl},λb hb=>?_,q};obtain rfl:b=s1.heap.objs.size:=by simpa using hb
 exact I1.tU (bO _) (I1.hok.fresh (bO _))
end
section
variable {X:Cx}{pos:Pos}{N ps:List Str}{P:Program}{w:World}{K:au}{mg:Str->Option Value}{x:Str}{k:Nat}{sp:Sp}{a:Addr}
def aso{i:Nat}{y:Str}{py spos:Pos}{tg iter elt:Expr}{ifs:List Expr}{scope sc:Scope}{wi:TI}{g:TG}{tc:TT}{te:TE}{ix:List (Option Nat)}(hN:X.N.Nodup)(hi':X.N[i]?=some y)(hx:Loc X.env.scope y)
  (O:wM X scope sc N ix) (hc:QX X) (hi:Eo QX X tg iter wi)
  (hb:∀cl C s₀ H₀ ex,QX (dG X sc N cl C s₀ H₀ ex)->PG (dG X sc N cl C s₀ H₀ ex) tg g/\rH (dG X sc N cl C s₀ H₀ ex) ifs tc/\PE (dG X sc N cl C s₀ H₀ ex) elt te)
  (hs:∀x,foldedSetIterable iter X.env x=pure x:=by intro _;rfl) (hsw:swapsWith (.ListComp elt [{tg,iter,ifs,(0)}] scope pos) (some (.Name y py)) spos.line X.env=pure true:=by rfl)
  (hf:X.fn y=true∨X.env.scope.names.lookup y=some .local:=by first|exact .inl rfl|exact .inr rfl|assumption):
  PS X (.Assign [.Name y py] (.ListComp elt [{tg,iter,ifs,(0)}] scope pos) spos) (yu (yZ ix wi g tc te) (gM i)):=
 ab1 (cm:=QX) (wx:=λ_ _ _ _ _ _ _=>False) hN hi' hx O hc (λcl C fp I=>hc.up cl C fp I) hi hb (λ_ _ _ _ _ _ _ _ z=>z.elim) hs hsw hf
structure aor(k:Nat)(A:Around)(x:Addr):Prop where
 hd:A.handled=some (.ref x)
 dp:A.depth+3*k+105<recursionLimit
structure azD(P:Program)(w:World)(K:au)(mg:Str->Option Value)(base:Heap)(k:Nat)(f:Addr)(fd:FuncData)(ps:List Str)(sp:Sp):Prop where
 len:∀vs H Q E,sp vs H Q E->vs.length=ps.length
 run:∀(A:Around) (outer:List Env) (s:Shared) (H:Hp) (args:Args) (us:List Value) (vs:List V) (Q:VK) (x:Addr) (ob:Obj) (u:HO),aor k A x->H x=some (.cP ob u)->J9 ob->wW P w K mg base A outer s H->BindsTo s fd args (ps.zip us)->Vals vs us->sp vs H Q E0->
  codeAny (model P w) A (.call (.ref f) args) (CR (iC P w) outer P w H s Q E0) s
abbrev cxQ(P:Program)(w:World)(K:au)(mg:Str->Option Value)(base:Heap)(N:List Str)(qual:Str)(scope:Scope)(f:Addr)(cdv:Value)(A:Around)(outer:List Env)(s:Shared)(H:Hp):Cx:=Cx.pW { dB P w K mg base N qual scope f cdv A outer s H E0 with calm:=false }
structure UW(P:Program)(w:World)(K:au)(mg:Str->Option Value)(base:Heap)(x:Str)(k:Nat)(ps:List Str)(sp:Sp):Prop where
 ex:∃(g:Addr) (gd:FuncData),mg x=some (.ref g)/\mV K (.ref g)=true/\Binds K gd ps []/\azD P w K mg base k g gd ps sp
def Fn.aFu{base:Heap}{st:Stmt}(F:Fn K mg x st ps)(S:aK N ps (aF st))(len:∀vs H Q E,sp vs H Q E->vs.length=ps.length)
  (hbody:∀(f:Addr) (cdv:Value) (A:Around) (outer:List Env) (s:Shared) (H:Hp) (vs:List V) (Q:VK),QX (cxQ P w K mg base N x (aF st) f cdv A outer s H)->sp vs H Q E0->
   ∃t,iy (cxQ P w K mg base N x (aF st) f cdv A outer s H) (gK st) t/\t { nx:=λ_ H'=>Q .non H',rt:=Q } (start N vs) H):UW P w K mg base x (k+1) ps sp:=by
 intros f fd F m b F.ex;have hkp:=F.kp;intros oc od kV doc pm an cdv ct osl rfl lk hcd F.ex;refine{f,_,m,hkp,b,len,λA outer s H args us vs Q x0 ob u hr hx hcm e0 hb r hsp=>?_};have keep:∀b o,base.get? b=some o->s.heap.get? b=some o:=λb o e=>(e0.bs b o e).1;have KX:K.In s.heap:=e0.mod.vI.keeps keep;have hkind:∀y∈ps.zip us,(aF st).names.lookup y.1=some .local∨((aF st).names.lookup y.1=some .cell/\((cellsFrom (s.heap.objs.size+1) (aF st).names []).lookup y.1).isSome=true):=λ⟨n,v⟩ hy=>
  (S.par n (Ks hy).1).imp id λz=>{z,Tz _ _ _ (.inl z)}
 refine codeAny_call_function (by have:=hr.dp;lia) (KX _ _ lk) rfl S.co S.gen rfl (W.codeRec_of KX hcd) (hb _ _ _ _ (wpAny_newFunctionEnv_cells S.kind hkind λenv he s1 x1=>?_));subst he;refine{(e0.mod.nolimit.keeps keep).keeps x1.toInCall.keep,codeAny_func ?_};obtain⟨t,ht,hq⟩:=hbody f cdv A outer s H vs Q {x0,ob,u,hr.hd,hx,(hcm)} hsp;have I:=(afU (CX:=iC P w) (E:=E0) (cb:=false) S (λz=>nomatch z) e0 (len _ _ _ _ hsp) r x1).wish λ_ _=>False;refine wpAny_mono (ht [] s1 (start N vs) H _ I hq) (λfl s' hs=>?_) λe s' hs=>hs.elim;cases fl with
 |ret u=>
  intros v σ' H' J rv q hs;exact{v,H',J.os,J.bare,J.base,J.hok,rv,(q)}
 |next=>
  intros σ' H' J q hs;exact{.non,H',J.os,J.bare,J.base,J.hok,rfl,q}
 |brk=>intros _ _ _ q hs;exact False.elim q
 |cont=>intros _ _ _ q hs;exact False.elim q
def azI(a:Addr)(sp:Sp)(t:TA):TE:=λσ H Q=>t σ H λvs H1=>∃ob u,H1 a=some (.cP ob u)/\J9 ob/\sp vs H1 Q E0
def anV{k':Nat}{p:Pos}{e:Expr}{es:List Expr}{t:TA}(C:UW X.prog X.w X.K X.mg X.base x k ps sp)(hr:cD k' X.A)(hg:Gl (qw X a) x)(ha:PA (qw X a) (e::es) t)
  (hk:k<=k':=by decide) (hd:(x==("__debug__" : Str))=false:=by decide)
  (he:starEach (e::es) X.env=(false,eval e X.env)::starEach es X.env:=by rfl) (hpl:(backTo pos (starEach es X.env)).any (·.1)=false:=by rfl):PE (qw X a) (.Call (.Name x p) (e::es) [] pos) (azI a sp t):=by
 intros g gd hm hkp hb F C.ex;intro pins s σ H Q I h;refine wpAny_Call_Name_kw (pB I hg hm ?_ hd);refine Cz (h₀:=X.base) I.ok.mod.vI hkp (aP (ha pos pins s σ H _ I h) λus s1 ⟨vs,H1,I1,r,ob,u,h1,h2,q⟩=>{I1.dz,?_}) he hpl;have hl:(us++[]).length=ps.length:=by rw[pG,<-r.length];exact F.len _ _ _ _ q
 have hroom:aor k (qw X a).A a:={rfl,by have:=hr.dp;show X.A.depth+3*k+105<_;lia};refine wpAny_call (codeAny_mono (F.run _ X.stack s1 H1 {us,([])} (us++[]) vs Q a ob u hroom h1 h2 I1.env0 (hb s1 us I1.dz hl) (by rw[pG];exact r) q) λrs s2 hq=>?_);cases rs with
 |ok fl=>
  cases fl with
  |ret u=>exact I1.after hq
  |next=>exact False.elim hq
  |brk=>exact False.elim hq
  |cont=>exact False.elim hq
 |error ev=>exact(Qp hq).elim
def uD:Value->Str | .str s _=>s|_=>Str.empty
def Ft:Value->Nat | .str _ t=>t|_=>0
structure KD(w:World)(K:au)(mg:Str->Option Value)(x:Str)(a:Addr):Prop where
 ex:∃es ep,K.lookup a=some {.type "dict",none,.dict {(es)} ep,#[]}/\es.map (λe=>({Ht w.params (uD e.key),.str (uD e.key) (Ft e.key),e.val}:DictEntry))=es
 ns:(a==sysModules)=false
 mg:mg x=some (.ref a)
def G3(D:KD w K mg x a){h:Heap}(X:K.In h):∃f,Heap.MapOf (gq P w) h a f/\∀s o,bI K a s=some o->f (.inr s)=o:=by
 intros es ep hl hk D.ex;refine{findBy rK {(es)},{_,_,_,X a _ hl,{rfl,rfl,(rfl)},rfl,λe he=>?_,λ_=>rfl},λs o ho=>?_}
 .have he':e∈es:=by simpa using he
  rw[<-hk]at he';obtain⟨e0,_,rfl⟩:=cA.mp he';exact{.inr (uD e0.key),aeZ _ (Ft e0.key),rfl}
 .unfold bI at ho;rw[hl]at ho;unfold findBy;rw[show(({(es)}:Array DictEntry).find? λe=>rK (.inr s) e.key)=es.find? λe=>rK (.inr s) e.key by simp];have ef:(es.find? λe=>rK (.inr s) e.key)=es.find? λe=>e.key.isStr s:=by
   congr 1
   funext e
   show Value.isStrOf s e.key=e.key.isStr s;cases e.key<;>rfl
  rw[ef];cases z:es.find? λe=>e.key.isStr s with
  |some e=>simp only[z]at ho;cases ho;rfl
  |none=>
   simp only[z]at ho;split at ho
   .cases ho
   .cases ho;rfl
end
section
variable {X:Cx} {i:Expr} {ty:TE} {p pos:Pos} {x:Str} {a:Addr}
def agI{w:World}{K:au}{mg:Str->Option Value}(D:KD w K mg x a){s:Shared}(X:K.In s.heap):s.TypeIs (.ref a) "dict" := by
 obtain⟨f,m,_⟩:=G3 (P:=default) D X;exact m.typeIs
def ao7(K:au)(a:Addr)(ty:TE):TE:=λσ H Q=>ty σ H λy H1=>∃s v,y = .str s/\bI K a s=some (some (.ref v))/\Q (.ref v) H1
def axV{K:au}(D:KD X.w X.K X.mg x a)(hg:Gl X x)(hi:PE X i ty)(hK:X.K=K)(hs:Ez i)(hd:(x==("__debug__" : Str))=false):PE X (.Subscript (.Name x p) i pos) (ao7 K a ty):=by
 subst hK;intro pins s σ H Q I h;refine Rj abx.lookup hs (pB I hg D.mg (aP (hi pins s σ H _ I h) λiv s2 ⟨y,H2,I2,ry,k,v,ey,hv,q⟩=>?_) hd);subst ey;obtain⟨t,rfl⟩:=(show ∃t,iv=Value.str k t from ry);obtain⟨f,m,hf⟩:=G3 (P:=X.prog) D I2.dz;exact{agI D I2.dz,wpAny_getItem_of (Jt _ _ k t) m (hf k _ hv) {.ref v,H2,I2.tok _,rfl,q}}
def aNI(D:KD X.w X.K X.mg x a)(K:au)(hg:Gl X x)(hi:PE X i ty)(hs:Ez i)(hK:X.K=K:=by rfl)(hd:(x==("__debug__" : Str))=false:=by decide):PE X (.Subscript (.Name x p) i pos) (ao7 K a ty):=axV D hg hi hK hs hd
def aeA(K:au)(a:Addr)(g:Bool->Bool)(ty:TE):TE:=λσ H Q=>ty σ H λy H1=>∃s o,y = .str s/\bI K a s=some o/\Q (.bl (g o.isSome)) H1
def alN(D:KD X.w X.K X.mg x a)(K:au)(hg:Gl X x)(hi:PE X i ty)(hK:X.K=K:=by rfl)(hd:(x==("__debug__" : Str))=false:=by decide):PC X .In i (.Name x p) (aeA K a id ty):=by
 subst hK;intro pins s σ H Q I h;refine aP (hi pins s σ H _ I h) λiv s1 ⟨y,H1,I1,ry,k,o,ey,ho,q⟩=>pB I1 hg D.mg ?_ hd;subst ey;obtain⟨t,rfl⟩:=(show ∃t,iv=Value.str k t from ry);obtain⟨f,m,hf⟩:=G3 (P:=X.prog) D I1.dz;refine wpAny_in_of (Jt _ _ k t) D.ns m ?_;rw[hf k o ho];exact{.bl _,H1,I1.tok _,rfl,q}
def aAA(D:KD X.w X.K X.mg x a)(K:au)(hg:Gl X x)(hi:PE X i ty)(hK:X.K=K:=by rfl)(hd:(x==("__debug__" : Str))=false:=by decide):PC X .NotIn i (.Name x p) (aeA K a not ty):=by
 subst hK;intro pins s σ H Q I h;refine aP (hi pins s σ H _ I h) λiv s1 ⟨y,H1,I1,ry,k,o,ey,ho,q⟩=>pB I1 hg D.mg ?_ hd;subst ey;obtain⟨t,rfl⟩:=(show ∃t,iv=Value.str k t from ry);obtain⟨f,m,hf⟩:=G3 (P:=X.prog) D I1.dz;refine wpAny_notIn_of (Jt _ _ k t) D.ns m ?_;rw[hf k o ho];exact{.bl _,H1,I1.tok _,rfl,q}
end
def agj(P:Program)(w:World)(K:au)(mg:Str->Option Value)(base:Heap)(a:Addr)(k:Nat)(ps:List Str)(T:List (Str×Str))(sp:Str->Sp):Prop:=
 ∀s∈T.map (·.1),∃g gd,bI K a s=some (some (.ref g))/\mV K (.ref g)=true/\Binds K gd ps []/\jg P w K mg base (iC P w) k g gd ps (sp s)
section
variable {P:Program} {w:World} {K:au} {mg:Str->Option Value} {base:Heap} {a:Addr} {k:Nat} {ps:List Str} {sp:Str->Sp}
structure Lf(K:au)(mg:Str->Option Value)(a:Addr)(T:List (Str×Str)):Prop where
 at_:∀p∈T,∀g,mg p.2=some (.ref g)->bI K a p.1=some (some (.ref g))
 is_:∀s∈T.map (·.1),∃v,bI K a s=some (some v)
def am9{h:Heap}(X:K.In h)(G:h.Ns mainGlobals mg){T:List (Str×Str)}(e:T.map (λp=>bI K a p.1)=T.map λp=>bI K mainGlobals p.2)(hs:(T.all λp=>match bI K a p.1 with|some (some _)=>true|_=>false)=true):Lf K mg a T:=by
 have some_:∀p∈T,∃v,bI K a p.1=some (some v):=λp hp=>by
  have h1:=jU.mp hs p hp;cases z:bI K a p.1 with
  |none=>rw[z]at h1;cases h1
  |some o=>
   cases o with
   |none=>rw[z]at h1;cases h1
   |some v=>exact{v,(rfl)}
 refine{λp hp g hg=>?_,λs hs=>?_}
 .obtain⟨v,z⟩:=some_ p hp;have e1:bI K a p.1=bI K mainGlobals p.2:=List.map_inj_left.mp e p hp;have:=eY X G (e1.symm.trans z);rw[this]at hg;cases hg;exact z
 .obtain⟨p,hp,rfl⟩:=cA.mp hs;exact some_ p hp
def gZ(P:Program)(w:World)(K:au)(mg:Str->Option Value)(base:Heap)(k:Nat)(ps:List Str)(T:List (Str×Str))(sp:Str->Sp):Prop:=∀p∈T,∃j,j<=k/\jc P w K mg base p.2 j ps (sp p.1)
def gZ.nil:gZ P w K mg base k ps [] sp:=λ_ h=>nomatch h
def gZ.cons{j:Nat}{s f:Str}{T:List (Str×Str)}(C:jc P w K mg base f j ps (sp s))(r:gZ P w K mg base k ps T sp)(hk:j<=k:=by decide):gZ P w K mg base k ps ((s,f)::T) sp:=λp hp=>by
 rcases cX.mp hp with rfl|hp
 .exact{j,hk,(C)}
 .exact r p hp
def gZ.of{T:List (Str×Str)}(F:Lf K mg a T)(C:gZ P w K mg base k ps T sp):agj P w K mg base a k ps T sp:=λs hs=>by
 obtain⟨p,hp,rfl⟩:=cA.mp hs;obtain⟨j,hk,C⟩:=C p hp;intros g gd m c d e C.ex;exact{g,gd,F.at_ p hp g m,c,d,e.mono hk}
structure Nb(K:au)(a:Addr)(l:List Str):Prop where
 at_:∀s∈l,bI K a s=some none
def Ua{l:List Str}(h:(l.all λs=>match bI K a s with|some none=>true|_=>false)=true):Nb K a l:={λs hs=>by
 have h1:=jU.mp h s hs;cases z:bI K a s with
 |none=>rw[z]at h1;cases h1
 |some o=>
  cases o with
  |none=>rfl
  |some v=>rw[z]at h1;cases h1}
def vR:List Value->Option (List Str)
 |[]=>some []
 |.str s _::r=>(vR r).map (s :: ·)
 |_=>none
theorem aeD:∀{l:List Value} {xs:List Str},vR l=some xs->Vals (xs.map V.str) l
 |[],_,h=>by cases h;exact .nil
 |v::r,xs,h=>by
  cases v<;>first|cases h|skip
  rename_i s t
  cases z:vR r with
  |none=>rw[show vR (.str s t::r)=(vR r).map (s :: ·)from rfl,z]at h;cases h
  |some ys=>
   rw[show vR (.str s t::r)=(vR r).map (s :: ·)from rfl,z]at h;cases h;exact .cons {t,(rfl)} (aeD z)
structure KDT(K:au)(a:Addr)(T:List (Str×List Str)):Prop where
 at_:∀p∈T,∃t,bI K a p.1=some (some (.ref t))/\∀H,ao K H t (p.2.map V.str)
def aby(K:au)(a:Addr)(p:Str×List Str):Bool:=match bI K a p.1 with
 |some (some (.ref t))=>match K.lookup t with
  |some ⟨.type "tuple",_,.seq its _,_⟩=>decide (vR its.toList=some p.2)&&decide (its.size<=1000)
  |_=>false
 |_=>false
def asu{T:List (Str×List Str)}(h:T.all (aby K a)=true):KDT K a T:={λp hp=>by
 have h1:=jU.mp h p hp;unfold aby at h1;split at h1
 .rename_i t e
  split at h1
  .rename_i its n sl e2
   rw[pH,decide_eq_true_eq,decide_eq_true_eq]at h1;exact{t,e,λH=> .inr {_,its,_,e2,rfl,rfl,cT h1.2 (by rw[sizeLine_eq];decide),aeD h1.1}}
  .cases h1
 .cases h1}
def arQ(T:List (Str×Str))(sp:Str->Sp)(E:XK)(ty:TE)(t:TA):TE:=λσ H Q=>ty σ H λy H1=>∃s,y = .str s/\s∈T.map (·.1)/\t σ H1 λvs H2=>sp s vs H2 Q E
def aqY{N:List Str}{qual:Str}{scope:Scope}{f:Addr}{cdv:Value}{A:Around}{outer:List Env}{s₀:Shared}{H₀:Hp}{E:XK}{x:Str}{T:List (Str×Str)}{i e:Expr}{es:List Expr}{p p' pos:Pos}{ty:TE}{t:TA}
  (D:KD w K mg x a) (C:agj P w K mg base a k ps T sp) (hr:cD k (dB P w K mg base N qual scope f cdv A outer s₀ H₀ E).A) (hg:Gl (dB P w K mg base N qual scope f cdv A outer s₀ H₀ E) x) (hi:PE (dB P w K mg base N qual scope f cdv A outer s₀ H₀ E) i ty) (hs:Ez i) (ha:PA (dB P w K mg base N qual scope f cdv A outer s₀ H₀ E) (e::es) t)
  (hd:(x==("__debug__" : Str))=false:=by decide)
  (he:starEach (e::es) (dB P w K mg base N qual scope f cdv A outer s₀ H₀ E).env=(false,eval e (dB P w K mg base N qual scope f cdv A outer s₀ H₀ E).env)::starEach es (dB P w K mg base N qual scope f cdv A outer s₀ H₀ E).env:=by rfl) (hpl:(backTo pos (starEach es (dB P w K mg base N qual scope f cdv A outer s₀ H₀ E).env)).any (·.1)=false:=by rfl):
  PE (dB P w K mg base N qual scope f cdv A outer s₀ H₀ E) (.Call (.Subscript (.Name x p) i p') (e::es) [] pos) (arQ T sp E ty t):=by
 intro pins s σ H Q I h;show wpAny _ _ (do
  let fv<-eval (.Subscript (.Name x p) i p') (dB P w K mg base N qual scope f cdv A outer s₀ H₀ E).env
  callWith pos fv [] (backTo pos (starEach (e::es) (dB P w K mg base N qual scope f cdv A outer s₀ H₀ E).env)) (backToKw pos (keywordEach [] (dB P w K mg base N qual scope f cdv A outer s₀ H₀ E).env))) _ _ s
 refine wpAny_bind (Rj abx.lookup hs (pB I hg D.mg (aP (hi pins s σ H _ I h) λiv s2 ⟨y,H2,I2,ry,z,ey,hz,q⟩=>?_) hd));subst ey;obtain⟨u,rfl⟩:=(show ∃u,iv=Value.str z u from ry);obtain⟨g,gd,hv,hkp,hb,F⟩:=C z hz;obtain⟨m,hm,hf⟩:=G3 (P:=P) D I2.dz;refine{agI D I2.dz,wpAny_getItem_of (Jt _ _ z u) hm (hf z _ hv) ?_};refine Cz (h₀:=base) I.ok.mod.vI hkp (aP (ha pos pins _ σ H2 _ (I2.tok _) q) λus s3 ⟨vs,H3,I3,r,q3⟩=>{I3.dz,?_}) he hpl;refine Nu F hr hb .nil ap9 I3 r ?_;rw[pG];exact q3
end
structure uz(K:au)(C:Addr)(m qual:Str)(st:Stmt)(ps:List Str):Prop where
 ex:∃(f:Addr) (fd:FuncData),rN K m qual st f fd/\Meth K C m f/\Binds K fd ps []
structure CG(P:Program)(w:World)(K:au)(mg:Str->Option Value)(base:Heap)(C:Addr)(m:Str)(k:Nat)(ps:List Str)(sp:Sp):Prop where
 ex:∃(f:Addr) (fd:FuncData),Meth K C m f/\Binds K fd ps []/\jg P w K mg base (iC P w) k f fd ps sp
section
variable {P:Program} {w:World} {K:au} {mg:Str->Option Value} {base:Heap} {C:Addr} {m qual:Str} {st:Stmt} {ps:List Str}
def uz.dN{N:List Str}{k:Nat}{sp:Sp}(F:uz K C m qual st ps)(S:aK N ps (aF st))(len:∀vs H Q E,sp vs H Q E->vs.length=ps.length)
  (hbody:∀(f:Addr) (cdv:Value) (A:Around) (outer:List Env) (s:Shared) (H:Hp) (vs:List V) (Q:VK) (E:XK),cD k (A.deeper (envOfC qual (aF st) s.heap.objs.size f cdv))->sp vs H Q E->
   ∃t,iy (dB P w K mg base N qual (aF st) f cdv A outer s H E) (gK st) t/\t { nx:=λ_ H'=>Q .non H',rt:=Q } (start N vs) H):CG P w K mg base C m (k+1) ps sp:=by
 intros f fd F m b F.ex;exact{f,fd,m,b,F.okF S len λcdv A outer s H vs Q E hr h=>hbody f cdv A outer s H vs Q E hr h}
def uz.cal{N:List Str}{k:Nat}{sp:Sp}(F:uz K C m qual st ps)(S:aK N ps (aF st))(len:∀vs H Q E,sp vs H Q E->vs.length=ps.length)
  (hbody:∀(f:Addr) (cdv:Value) (A:Around) (outer:List Env) (s:Shared) (H:Hp) (vs:List V) (Q:VK) (E:XK),cD k (A.deeper (envOfC qual (aF st) s.heap.objs.size f cdv))->sp vs H Q E->
   ∃t,iy (dB P w K mg base N qual (aF st) f cdv A outer s H E).pW (gK st) t/\t { nx:=λ_ H'=>Q .non H',rt:=Q } (start N vs) H):CG P w K mg base C m (k+1) ps sp:=
 F.dN S len λf cdv A outer s H vs Q E hr h=>let⟨t,a,b⟩:=hbody f cdv A outer s H vs Q E hr h;{t,a.pW,(b)}
def aB3{f:Addr}{oc:Value}{od:Option Addr}{kV doc pm:Value}{an:Option Addr}{cdv ct:Value}{sl:Array (Option Value)}(a:fW K (.ref C) m=some (some (.ref f)))(i:W.isFn K (.ref f)=true)
  (l:K.lookup f=some {oc,od,.func (nD m qual (j4 st) (gK st) (aF st) .none kV doc pm an cdv ct),sl}) (c:Aa K cdv qual=true) (k:mV K (.ref f)=true)
  (hb:∀(us:List Value),us.length=ps.length->bindArgs (nD m qual (j4 st) (gK st) (aF st) .none kV doc pm an cdv ct) {us,([])}=pure (ps.zip us):=by
   intro us hl;first
    |(obtain⟨_,rfl⟩:=L2.us1 hl;rfl)
    |(obtain⟨_,_,rfl⟩:=L2.V6 hl;rfl)):uz K C m qual st ps:=
 {f,_,YH (st:=st) l c k,{a,i,(k)},.all hb}
structure ClM(K:au)(mg:Str->Option Value)(x:Str)(C:Addr):Prop where
 cl:Cls K C
 makes:N6 K C=true
 kp:mV K (.ref C)=true
 mg:mg x=some (.ref C)
end
section
variable {X:Cx} {C:Addr} {sp:Sp}
def ajb{x:Str}{k k':Nat}{p pos:Pos}(M:ClM X.K X.mg x C)(I:CG X.prog X.w X.K X.mg X.base C "__init__" k ["self"] sp)(hr:cD k' X.A)(hg:Gl X x)(hk:k+1<=k':=by decide)(hdb:(x==("__debug__" : Str))=false:=by decide):PE X (.Call (.Name x p) [] [] pos) (agG C sp [] E0 qz):=by
 intros f fd m b F I.ex;exact aK0 {M.makes,m.at_,m.fn,(M.kp)} F (hr.mono hk) hg M.mg b .nil Mu hdb
def axJ{m:Str}{k k':Nat}{ps:List Str}{o e:Expr}{es:List Expr}{ta:TE}{t:TA}{apos pos:Pos}{pl:Sem Bool}(c:Cls X.K C)(M:CG X.prog X.w X.K X.mg X.base C m k ps sp)(hr:cD k' X.A)(ho:PE X.pW o ta)(ha:PA X.pW (e::es) t)(hk:k<=k':=by decide)
  (hst:starEach (e::es) X.env=(false,eval e X.env)::starEach es X.env:=by rfl) (hpl:(backTo pos (starEach es X.env)).any (·.1)=false:=by rfl)
  (ht:eval (.Call (.Attribute o m apos) (e::es) [] pos) X.env=(do
   let ov<-eval o X.env
   standAt apos.atName
   let(f,first)<-holding [ov] (getMethod ov m pl)
   callWith pos f first (backTo pos (starEach (e::es) X.env)) (backToKw pos (keywordEach [] X.env))):=by rfl):
  PT2 X (.Call (.Attribute o m apos) (e::es) [] pos) (λσ H Q E=>ta σ H λx H1=>∃a dx fs,x = .ref a/\H1 a=some (.ins C dx fs)/\fs.lookup m=none/\t σ H1 λvs H2=>sp (x::vs) H2 Q E):=by
 intro pins s σ H Q E I h;intros f fd hm b F M.ex;refine W.methodCall_KW (pl:=pl) (wpAny_mono (ho pins s σ H _ (I.wish _) h) (λu s1 ⟨x,H1,I1,rx,a,dx,fs,ex,ea,l,q⟩=>?_) λ_ _ z=>z.elim) ht;subst ex;obtain rfl:u=Value.ref a:=rx;refine aCB I1.nR ea c hm l ?_;refine Cz (first:=[.ref a]) (h₀:=X.base) I.ok.mod.vI hm.kp (wpAny_mono (ha pos pins s1 σ H1 _ I1 q) (λus s2 ⟨vs,H2,I2,r,q2⟩=>{I2.dz,?_}) λ_ _ z=>z.elim) hst hpl
 exact amH (us:= .ref a::us) (vs:= .ref a::vs) F (hr.mono hk) b I2.nR (.cons rfl r) q2
end
def WG{X:Cx}(K:au){e:Expr}{f:Str}{pos:Pos}{ta:TE}(he:PE X e ta)(hb:attributeBase e f X.env (eval e X.env)=eval e X.env)(hK:X.K=K:=by rfl):PE X (.Attribute e f pos) (aev K ta f):=by subst hK;exact aIH he hb
def aum{X:Cx}:cG X (binaryOp .Mult) (λx y H Q=>∃(i:Str) (k:Nat),x = .int (k:Int)/\y = .str i/\2<=k/\k<=1000/\1<=i.length/\i.length<=1000/\Q (.str {(cO k i.cps).foldl (·++·) #[]}) H):=by
 intro pins s σ H x y v u Q I rx ry h;intros i k rfl rfl h1 h2 h3 h4 q h;obtain⟨t,rfl⟩:=(show ∃t,v=Value.int (k:Int) t from rx);obtain⟨t',rfl⟩:=(show ∃t,u=Value.str i t from ry);have hm:i.length*k<=1000*1000:=tW h4 h2;have e:((k:Int)==1||i.length==0)=false:=by
  rw[Bool.or_eq_false_iff,beq_eq_false_iff_ne,beq_eq_false_iff_ne];exact{⋯,⋯}
 refine lm_binaryOp_repeat_right (T:= "str") (U:= "int") ∅ (λs'=>typeIs_int s' _ t) (typeIs_str s i t') Z1 noFill_str_mul aj7 lm_noRepeat_int repeat_str Y4.lookup
  (call_gives aj7 (typeIs_int s _ t) F.entry_int_mul (F.args_int_mul_2 _ _) (AutoIntG3.int___mul___int_str_0 _ t i t')
   {rfl,typeIs_str s i t',call_gives F.slot_str_mul (typeIs_str s i t') F.entry_str_mul (F.args_str_mul_2 _ _) (gives_str_mul i (k:Int) t' t (by rw[decide_eq_false ⋯,decide_eq_false ⋯];rfl) (λ_ _=>?_) (λ_ _=>?_)) ?_})
 .have:(1000:Int)<=(2^63-1)/(k:Int):=(Int.le_ediv_iff_mul_le ⋯).mpr ⋯;lia
 .unfold aNf sizeLine;rw[d7];exact decide_eq_false ⋯
 .rw[if_neg ⋯,if_neg (by rw[e];exact fO),d7];refine{?_,{.str _,H,I.tok _,{()},q}};show vh _<=sizeLine;have hz:∀(n:Nat) (a:Array Nat),((cO n i.cps).foldl (·++·) a).size=a.size+n*i.cps.size:=by
   intro n;induction n with
   |zero=>intro a;simp
   |succ n ih=>
    intro a;rw[wV,abG,ih,ahP,oW];lia
  have e2:sizeLine=16777216:=∅;have:=hz k #[];show((cO k i.cps).foldl (·++·) #[]).size<=sizeLine;rw[this,e2,oF];have:i.cps.size=i.length:=rfl;rw[this];have e3:(#[]:Array Nat).size=0:=rfl;lia
end L2
namespace Rm
section
variable {b x y:Int}{rule starts:List Int}{n m:Nat}
def tk(b n:Int):Int:=if b=0 then n else n%b
def eX(n:Int):tk 0 n=n:=if_pos rfl
def oB(h:b≠0)(n:Int):tk b n=n%b:=if_neg h
def xr(b n:Int):tk b (tk b n)=tk b n:=by
 unfold tk;split
 .rfl
 .exact ql _ (rA b)
def Lj(b x y:Int):tk b (tk b x+y)=tk b (x+y):=by
 unfold tk;split
 .rfl
 .exact Int.emod_add_emod ..
def XS(b x y:Int):tk b (x+tk b y)=tk b (x+y):=by
 rw[FZ,Lj,FZ]
def Am(b x y:Int):tk b (x*tk b y)=tk b (x*y):=by
 unfold tk;split
 .rfl
 .rw[sG,ql _ (rA b),<-sG]
def Q9(b x y:Int):tk b (tk b x*y)=tk b (x*y):=by
 rw[iT,Am,iT]
def tY{x' y':Int}(h:tk b x=tk b x')(h':tk b y=tk b y'):tk b (x+y)=tk b (x'+y'):=by
 rw[<-Lj,<-XS,h,h',XS,Lj]
def S(rule:List Int)(f:Nat->Int)(n:Nat):Nat->Int
 |0=>0
 |m+1=>S rule f n m+rule.getD m 0*f (n-1-m)
theorem aqz{rule:List Int}{f g:Nat->Int}{n:Nat}:∀{m:Nat},(∀k,k<m->f (n-1-k)=g (n-1-k))->S rule f n m=S rule g n m
 |0,_=>rfl
 |m+1,h=>by
  unfold S;rw[aqz λk hk=>h k ⋯,h m ⋯]
theorem getD_map{f:Int->Int}(h0:f 0=0):∀(l:List Int) (k:Nat),(l.map f).getD k 0=f (l.getD k 0)
 |[],k=>by simp[h0]
 |x::r,0=>by simp
 |x::r,k+1=>by
  have:=getD_map h0 r k;simpa using this
def row(b:Int)(rule starts:List Int):Nat->List Int
 |0=>[]
 |n+1=>row b rule starts n++[if n<starts.length then starts.getD n 0 else tk b (S rule (λi=>(row b rule starts n).getD i 0) n rule.length)]
theorem su(b:Int)(rule starts:List Int):∀n,(row b rule starts n).length=n
 |0=>rfl
 |n+1=>by simp[row,su b rule starts n]
def at_(b:Int)(rule starts:List Int)(n:Nat):Int:=(row b rule starts (n+1)).getD n 0
theorem ad7(b:Int)(rule starts:List Int):∀{n i:Nat},i<n->(row b rule starts n).getD i 0=at_ b rule starts i
 |n+1,i,h=>by
  by_cases e:i=n
  .subst e;rfl
  .have hi:i<n:=⋯;have hl:=su b rule starts n;have:=ad7 b rule starts (n:=n) (i:=i) hi;rw[<-this];show(row b rule starts n++_).getD i 0=_;rw[List.getD_eq_getElem?_getD,List.getElem?_append_left ⋯,<-List.getD_eq_getElem?_getD]
def K7(b:Int)(rule starts:List Int)(n:Nat):at_ b rule starts n=if n<starts.length then starts.getD n 0 else tk b (S rule (λi=>(row b rule starts n).getD i 0) n rule.length):=by
 unfold at_;have hl:=su b rule starts n;show(row b rule starts n++_).getD n 0=_;rw[List.getD_eq_getElem?_getD,List.getElem?_append_right ⋯,hl];simp
def Mz(h:n<starts.length):at_ b rule starts n=starts.getD n 0:=by
 rw[K7,if_pos h]
def aJ3(hl:rule.length=starts.length)(h:starts.length<=n):at_ b rule starts n=tk b (S rule (at_ b rule starts) n rule.length):=by
 rw[K7,if_neg ⋯];congr 1;refine aqz λk hk=>ad7 b rule starts ⋯
theorem acd(b:Int)(rule starts:List Int):∀n,row b rule starts n=(kj n).map (at_ b rule starts)
 |0=>rfl
 |n+1=>by
  rw[Vm,gR,<-acd b rule starts n];show _++[_]=_++[at_ b rule starts n];rw[K7]
def axZ(b:Int)(rule starts:List Int)(n:Nat):row b rule starts (n+1)=row b rule starts n++[at_ b rule starts n]:=by
 rw[K7];rfl
theorem Yr{b:Int}{rule starts:List Int}:∀{n:Nat},n<=starts.length->row b rule starts n=starts.take n
 |0,_=>by simp[row]
 |n+1,h=>by
  rw[axZ,Yr ⋯,Mz ⋯,Pg,List.getD_eq_getElem?_getD,List.getElem?_eq_getElem ⋯];rfl
def Bd(n:Nat)(x:Int):Prop:=x.natAbs<2^n
def Bd.mono(h:Bd m x)(hmn:m<=n):Bd n x:=gO h (qW ∅ hmn)
def Bd.mul(h:Bd m x)(h':Bd n y):Bd (m+n) (x*y):=by
 unfold Bd at *;rw[yN,tO];exact Nat.mul_lt_mul'' h h'
def Bd.add(h:Bd n x)(h':Bd n y):Bd (n+1) (x+y):=by
 unfold Bd at *;have:=Ng x y;rw[lZ];lia
def Bd.zero(n:Nat):Bd n 0:=Ej ∅
def Bd.of(h1:-(2^n)<x)(h2:x<2^n):Bd n x:=by
 unfold Bd;have e:((2^n:Nat):Int)=(2:Int)^n:=by simp
 lia
def Bd.emod(hb:0<b)(h:Bd n b):Bd n (x%b):=by
 unfold Bd at *;have:=qF x (⋯:b≠0);have:=qI x hb;lia
theorem Bd.S{rule:List Int}{f:Nat->Int}{n a c:Nat}(hr:∀k,Bd a (rule.getD k 0)):∀m:Nat,(∀k,k<m->Bd c (f (n-1-k)))->Bd (a+c+m) (Rm.S rule f n m)
 |0,_=>Bd.zero _
 |m+1,h=>by
  unfold Rm.S;refine Bd.add (n:=a+c+m) (Bd.S hr m λk hk=>h k ⋯) (((hr m).mul (h m ⋯)).mono ⋯)
def aBh(l:List Int)(k:Nat):l.getD k 0=0∨l.getD k 0∈l:=by
 by_cases h:k<l.length
 .right;rw[List.getD_eq_getElem?_getD,List.getElem?_eq_getElem h];exact Cy h
 .left;rw[List.getD_eq_getElem?_getD,List.getElem?_eq_none ⋯];rfl
theorem Bd.getD{l:List Int}{n:Nat}(h:∀x∈l,Bd n x)(k:Nat):Bd n (l.getD k 0):=by
 rcases aBh l k with e|e
 .rw[e];exact .zero n
 .exact h _ e
def xg(hb:0<=b)(hb':Bd n b)(h:Bd n x):Bd n (tk b x):=by
 unfold tk;split
 .exact h
 .exact Bd.emod ⋯ hb'
def ae4{a c:Nat}(hl:rule.length=starts.length)(hb:0<=b)(hb':Bd c b)(hr:∀x∈rule,Bd a x)(hs:∀x∈starts,Bd c x):
  ∀n,Bd (c+n*(a+rule.length)) (at_ b rule starts n):=by
 intro n;induction n using CJ with
 |ind n ih=>
  by_cases h:n<starts.length
  .rw[Mz h];exact(Bd.getD hs n).mono ⋯
  .rw[aJ3 hl ⋯];by_cases h0:rule.length=0
   .rw[h0];exact xg hb (hb'.mono ⋯) (.zero _)
   .have hn:0<n:=⋯;have q:=Bd.S (rule:=rule) (f:=at_ b rule starts) (n:=n) (a:=a) (c:=c+(n-1)*(a+rule.length)) (λk=>Bd.getD hr k) rule.length λk hk=>by
     refine(ih (n-1-k) ⋯).mono ?_;have:(n-1-k)*(a+rule.length)<=(n-1)*(a+rule.length):=qp _ ⋯;lia
    have e:n*(a+rule.length)=(n-1)*(a+rule.length)+(a+rule.length):=by
     obtain⟨m,rfl⟩:∃m,n=m+1:={n-1,⋯};rw[ji,oW]
    exact xg hb (hb'.mono ⋯) (q.mono ⋯)
end
end Rm
namespace Om
section
variable {p a power square:Int}{e left:Nat}
noncomputable def GR:List Nat:=[2,3,5,7,11,13,17,19,23,29,31,37,41,43,47,53,59,61,67,71,73,79,83,89,97,101,103,107,109,113,127,131,137,139,149,151,157,163,167,173,179,181,191,193,197,199,211,223,227,229,233,239,241,251,257,263,269,271,277,281,283,293,307,311,313,317,331,337,347,349,353,359,367,373,379,383,389,397,401,409,419,421,431,433,439,443,449,457,461,463,467,479,487,491,499,503,509,521,523,541,547,557,563,569,571,577,587,593,599,601,607,613,617,619,631,641,643,647,653,659,661,673,677,683,691,701,709,719,727,733,739,743,751,757,761,769,773,787,797,809,811,821,823,827,829,839,853,857,859,863,877,881,883,887,907,911,919,929,937,941,947,953,967,971,977,983,991,997]
def mod_mul{x y x' y':Int}(h:x%p=x'%p)(h':y%p=y'%p):(x*y)%p=(x'*y')%p:=by
 rw[sG,h,h',<-sG]
theorem abj{x x' p:Int}(h:x%p=x'%p):∀n:Nat,(x^n)%p=(x'^n)%p
 |0=>by simp
 |n+1=>by rw[qg,qg];exact mod_mul (abj h n) h
def Keeps(p a:Int)(e:Nat)(power square:Int)(left:Nat):Prop:=(power*square^left)%p=(a^e)%p
def aLM(p a:Int)(e:Nat):Keeps p a e 1 a e:=by unfold Keeps;rw[wu]
theorem Vg(x:Int):∀n:Nat,(x*x)^n=x^(2*n)
 |0=>by simp
 |n+1=>by
  rw[qg,Vg x n,(⋯:2*(n+1)=2*n+1+1),qg,qg,iU]
def atQ(h:Keeps p a e power square left)(ho:left%2=1):Keeps p a e (power*square%p) (square*square%p) (left/2):=by
 unfold Keeps at *;have h1:(power*square%p)%p=(power*square)%p:=ql _ (rA p);have h2:=abj (p:=p) (x:=square*square%p) (x':=square*square) (ql _ (rA p)) (left/2);rw[mod_mul h1 h2,<-h,Vg,iU];have e2:left=2*(left/2)+1:=⋯
 conv=>rhs;rw[e2,qg]
 rw[iT square]
def aN0(h:Keeps p a e power square left)(ho:¬left%2=1):Keeps p a e power (square*square%p) (left/2):=by
 unfold Keeps at *;have h2:=abj (p:=p) (x:=square*square%p) (x':=square*square) (ql _ (rA p)) (left/2);rw[mod_mul rfl h2,<-h,Vg];have e2:left=2*(left/2):=⋯
 conv=>rhs;rw[e2]
def aCK(h:Keeps p a e power square 0):power%p=a^e%p:=by
 unfold Keeps at h
 rwa [LV,jG]at h
end
end Om
namespace Pm
open Rm
section
variable {f f' g g':Nat->Int}{n k i c:Nat}{b x:Int}{p q:List Int}
def sm:Nat->(Nat->Int)->Int
 |0,_=>0
 |n+1,f=>sm n f+f n
theorem iY{f g:Nat->Int}:∀{n:Nat},(∀k,k<n->f k=g k)->sm n f=sm n g
 |0,_=>rfl
 |n+1,h=>by rw[sm,sm,iY λk hk=>h k ⋯,h n ⋯]
theorem adA:∀n:Nat,sm n (λ_=>0)=0
 |0=>rfl
 |n+1=>by rw[sm,adA n];rfl
def QZ(h:∀k,k<n->f k=0):sm n f=0:=by rw[iY h,adA]
theorem Kg(f:Nat->Int):∀n:Nat,sm (n+1) f=f 0+sm n (λi=>f (i+1))
 |0=>by simp[sm]
 |n+1=>by
  rw[sm,Kg f n,sm,aaP]
theorem BJ(f g:Nat->Int):∀n:Nat,sm n (λk=>f k+g k)=sm n f+sm n g
 |0=>rfl
 |n+1=>by rw[sm,sm,sm,BJ f g n];lia
theorem Ba(c:Int)(f:Nat->Int):∀n:Nat,sm n (λk=>c*f k)=c*sm n f
 |0=>by simp[sm]
 |n+1=>by rw[sm,sm,Ba c f n,Ax]
theorem qD{f:Nat->Int}{m:Nat}:∀{n:Nat},m<=n->(∀k,m<=k->k<n->f k=0)->sm n f=sm m f
 |0,h,_=>by rw[(⋯:m=0)]
 |n+1,h,h0=>by
  by_cases e:m=n+1
  .rw[e]
  .rw[sm,qD (n:=n) ⋯ (λk h1 h2=>h0 k h1 ⋯),h0 n ⋯ ⋯,gj]
def tk0(b:Int):tk b 0=0:=by unfold tk;split<;>simp
theorem zW{b:Int}{f g:Nat->Int}:∀{n:Nat},(∀k,k<n->tk b (f k)=tk b (g k))->tk b (sm n f)=tk b (sm n g)
 |0,_=>rfl
 |n+1,h=>by
  rw[sm,sm];exact tY (zW λk hk=>h k ⋯) (h n ⋯)
theorem Kh(f:Nat->Int):∀n:Nat,((kj n).map f).sum=sm n f
 |0=>rfl
 |n+1=>by rw[Vm,gR,List.sum_append,Kh f n];simp[sm]
def cv:(Nat->Int)->(Nat->Int)->Nat->Int
 |f,g,0=>f 0*g 0
 |f,g,k+1=>f 0*g (k+1)+cv (λi=>f (i+1)) g k
theorem gk:∀(f g:Nat->Int) (k:Nat),cv f g k=sm (k+1) (λj=>f j*g (k-j))
 |f,g,0=>by simp[cv,sm]
 |f,g,k+1=>by
  rw[cv,gk _ g k,Kg (λj=>f j*g (k+1-j))];refine congrArg (_ + ·) (iY λj hj=>?_);rw[(⋯:k+1-(j+1)=k-j)]
theorem anM:∀(f g:Nat->Int) (k:Nat),cv f g (k+1)=cv f (λi=>g (i+1)) k+f (k+1)*g 0
 |f,g,0=>rfl
 |f,g,k+1=>by
  rw[cv,anM (λi=>f (i+1)) g k,cv,aaP]
theorem mC:∀(f g:Nat->Int) (k:Nat),cv f g k=cv g f k
 |f,g,0=>iT _ _
 |f,g,k+1=>by
  rw[cv,anM,mC (λi=>f (i+1)) g k,FZ,iT]
def oZ(h:∀i,i<=k->f i=f' i)(h':∀i,i<=k->g i=g' i):cv f g k=cv f' g' k:=by
 rw[gk,gk];exact iY λj hj=>by rw[h j ⋯,h' _ ⋯]
def yw(h:∀i,i<=k->tk b (f i)=tk b (f' i))(h':∀i,i<=k->tk b (g i)=tk b (g' i)):tk b (cv f g k)=tk b (cv f' g' k):=by
 rw[gk,gk];exact zW λj hj=>by rw[<-Q9,<-Am,h j ⋯,h' _ ⋯,Am,Q9]
def mD(f f' g:Nat->Int)(k:Nat):cv (λi=>f i+f' i) g k=cv f g k+cv f' g k:=by
 rw[gk,gk,gk,<-BJ];exact iY λj _=>M5 ..
def WW(f g g':Nat->Int)(k:Nat):cv f (λi=>g i+g' i) k=cv f g k+cv f g' k:=by
 rw[mC,mD,mC,mC g']
def kJ(c:Int)(f g:Nat->Int)(k:Nat):cv (λi=>c*f i) g k=c*cv f g k:=by
 rw[gk,gk,<-Ba];exact iY λj _=>iU ..
theorem lG:∀(f g h:Nat->Int) (k:Nat),cv (cv f g) h k=cv f (cv g h) k
 |f,g,h,0=>by simp[cv,iU]
 |f,g,h,k+1=>by
  have e:(λi=>cv f g (i+1))=λi=>f 0*(λi=>g (i+1)) i+cv (λi=>f (i+1)) g i:=rfl;rw[cv,e,mD (λi=>f 0*(λi=>g (i+1)) i),kJ,lG (λi=>f (i+1)) g h k,cv,cv,cv];rw[Ax,iU];lia
def mH(h:∀i,i<=k->f i=0∨g (k-i)=0):cv f g k=0:=by
 rw[gk];exact QZ λj hj=>by rcases h j ⋯ with e|e<;>rw[e]<;>simp
def co(p:List Int)(k:Nat):Int:=p.getD k 0
def jd(k:Nat):co [] k=0:=by simp[co]
def jk(x:Int)(r:List Int):co (x::r) 0=x:=by simp[co]
def qL(x:Int)(r:List Int)(k:Nat):co (x::r) (k+1)=co r k:=by simp[co]
def cB(h:p.length<=k):co p k=0:=by
 rw[co,List.getD_eq_getElem?_getD,List.getElem?_eq_none h];rfl
def uR(h:k<p.length):co p k=p[k]:=by
 rw[co,List.getD_eq_getElem?_getD,List.getElem?_eq_getElem h];rfl
def Vs(h:k<p.length):co p k∈p:=by rw[uR h];exact Cy h
def aV(n:Nat)(f:Nat->Int):List Int:=(kj n).map f
def eU(n:Nat)(f:Nat->Int):(aV n f).length=n:=by simp[aV]
def kW(n:Nat)(f:Nat->Int)(k:Nat):co (aV n f) k=if k<n then f k else 0:=by
 by_cases h:k<n
 .rw[if_pos h,co,aV,List.getD_eq_getElem?_getD,List.getElem?_map,List.getElem?_range h];rfl
 .rw[if_neg h,cB (by rw[eU];lia)]
def acP(n:Nat)(f:Nat->Int):aV (n+1) f=aV n f++[f n]:=by
 rw[aV,Vm,gR];rfl
def ajh(p:List Int):aV p.length (co p)=p:=by
 apply List.ext_getElem (by rw[eU]);intro i h1 h2;simp only[aV,List.getElem_map,List.getElem_range];exact uR h2
def Ec(hl:p.length=q.length)(h:∀k,co p k=co q k):p=q:=by
 rw[<-ajh p,<-ajh q,hl];exact xG λk _=>h k
def KQ(p:List Int)(i:Nat)(x:Int)(k:Nat)(hi:i<p.length):co (p.set i x) k=if k=i then x else co p k:=by
 unfold co;rw[List.getD_eq_getElem?_getD,List.getElem?_set,List.getD_eq_getElem?_getD];by_cases e:i=k
 .subst e;simp[hi]
 .rw[if_neg e,if_neg (λz=>e z.symm)]
def Nf{f:Int->Int}(h:f 0=0)(p:List Int)(k:Nat):co (p.map f) k=f (co p k):=getD_map h p k
def Vv(p q:List Int)(k:Nat):co (p++q) k=if k<p.length then co p k else co q (k-p.length):=by
 unfold co;by_cases h:k<p.length
 .rw[if_pos h,List.getD_eq_getElem?_getD,List.getElem?_append_left h,<-List.getD_eq_getElem?_getD]
 .rw[if_neg h,List.getD_eq_getElem?_getD,List.getElem?_append_right ⋯,<-List.getD_eq_getElem?_getD]
def trim:List Int->List Int
 |[]=>[]
 |x::r=>if x=0/\trim r=[]then[]else x::trim r
theorem rD:∀(p:List Int) (k:Nat),co (trim p) k=co p k
 |[],k=>rfl
 |x::r,k=>by
  rw[trim];have ih:=rD r;by_cases h:x=0/\trim r=[]
  .rw[if_pos h];rw[h.2]at ih;cases k with
   |zero=>rw[jd,jk,h.1]
   |succ k=>rw[qL,<-ih k,jd,jd]
  .rw[if_neg h];cases k with
   |zero=>rw[jk,jk]
   |succ k=>rw[qL,qL,ih k]
def Pz:trim p=[]↔∀k,co p k=0:=by
 constructor
 .intro h k;rw[<-rD,h,jd]
 .intro h;induction p with
  |nil=>rfl
  |cons x r ih=>
   rw[trim,if_pos {by have:=h 0;rwa [jk]at this,ih λk=>by have:=h (k+1);rwa [qL]at this}]
theorem GV:∀{p q:List Int},(∀k,co p k=co q k)->trim p=trim q
 |[],q,h=>by rw[show trim q=[]from Pz.mpr λk=>by rw[<-h k,jd]];rfl
 |x::r,[],h=>by rw[show trim (x::r)=[]from Pz.mpr λk=>by rw[h k,jd]];rfl
 |x::r,y::s,h=>by
  have e1:=h 0;rw[jk,jk]at e1;have e2:trim r=trim s:=GV λk=>by have:=h (k+1);rwa [qL,qL]at this
  rw[trim,trim,e1,e2]
def aHz(p:List Int):trim (trim p)=trim p:=GV (rD p)
theorem GC:∀p:List Int,(trim p).length<=p.length
 |[]=>bO _
 |x::r=>by
  have:=GC r;rw[trim];split
  .simp
  .simp;lia
theorem aav:∀{p:List Int} {n:Nat},(∀k,n<=k->co p k=0)->(trim p).length<=n
 |[],n,_=>dW _
 |x::r,0,h=>by rw[Pz.mpr λk=>h k (dW _)];exact bO 0
 |x::r,n+1,h=>by
  have:=aav (p:=r) (n:=n) λk hk=>by have:=h (k+1) ⋯;rwa [qL]at this
  rw[trim];split
  .simp
  .simp;lia
def ajS(p:List Int):trim (p++[0])=trim p:=GV λk=>by
 rw[Vv];by_cases h:k<p.length
 .rw[if_pos h]
 .rw[if_neg h,cB (p:=p) ⋯];cases k-p.length with
  |zero=>rfl
  |succ j=>rw[qL,jd]
theorem SD:∀(p:List Int) {x:Int},x≠0->trim (p++[x])=p++[x]
 |[],x,h=>by simp[trim,h]
 |y::r,x,h=>by
  show trim (y::(r++[x]))=_;rw[trim,SD r h,if_neg (by simp)];rfl
def WH(h:x∈trim p):x∈p:=by
 induction p with
 |nil=>exact h
 |cons y r ih=>
  rw[trim]at h;split at h
  .cases h
  .rcases cX.mp h with rfl|h
   .exact fX
   .exact eN _ (ih h)
structure Py(b:Int)(p:List Int):Prop where
 tr:trim p=p
 nu:∀x∈p,tk b x=x
theorem Py.co{b:Int}{p:List Int}(h:Py b p)(k:Nat):tk b (co p k)=co p k:=by
 by_cases hk:k<p.length
 .exact h.nu _ (Vs hk)
 .rw[cB ⋯,tk0]
def Py.ext(h:Py b p)(h':Py b q)(e:∀k,tk b (Pm.co p k)=tk b (Pm.co q k)):p=q:=by
 rw[<-h.tr,<-h'.tr];exact GV λk=>by rw[<-h.co k,<-h'.co k];exact e k
def Py.of(h:∀x∈p,tk b x=x):Py b (trim p):={aHz p,λx hx=>h x (WH hx)}
def Py.nil(b:Int):Py b []:={rfl,λ_ h=>nomatch h}
def mU(h:x∈aV n f):∃k,k<n/\x=f k:=by
 obtain⟨k,hk,e⟩:=cA.mp h;exact{k,qd.mp hk,e.symm}
theorem Py.aV(b:Int)(n:Nat)(f:Nat->Int):Py b (trim (Pm.aV n λk=>tk b (f k))):=Py.of λx hx=>by
 obtain⟨k,_,rfl⟩:=mU hx;exact xr ..
def add(b:Int)(p q:List Int):List Int:=trim (aV (max p.length q.length) λk=>tk b (co p k+co q k))
def mul(b:Int)(p q:List Int):List Int:=trim (aV (p.length+q.length) λk=>tk b (cv (co p) (co q) k))
def aiF(b:Int)(p q:List Int):Py b (mul b p q):=Py.aV ..
def aDH(b:Int)(p q:List Int)(k:Nat):co (add b p q) k=tk b (co p k+co q k):=by
 rw[add,rD,kW];split
 .rfl
 .rw[cB (p:=p) ⋯,cB (p:=q) ⋯,gj,tk0]
def aae(b:Int)(p q:List Int)(k:Nat):co (mul b p q) k=tk b (cv (co p) (co q) k):=by
 rw[mul,rD,kW];split
 .rfl
 .rw[mH,tk0];intro i hi;by_cases h:i<p.length
  .exact .inr (cB ⋯)
  .exact .inl (cB ⋯)
def W(f g:Nat->Int)(i k c:Nat):Int:=sm i (λj=>if j<=c then f j*g (c-j)else 0)+(if i<=c/\c-i<k then f i*g (c-i)else 0)
def ax2(f g:Nat->Int)(c:Nat):W f g 0 0 c=0:=by simp[W,sm]
def asD:W f g i (k+1) c=W f g i k c+(if c=i+k then f i*g k else 0):=by
 unfold W;by_cases h:c=i+k
 .rw[if_pos h,if_pos ⋯,if_neg ⋯,(⋯:c-i=k)];lia
 .rw[if_neg h];by_cases h2:i<=c/\c-i<k
  .rw[if_pos h2,if_pos ⋯];lia
  .rw[if_neg h2,if_neg ⋯];lia
def aAB(hg:∀k,n<=k->g k=0):W f g i n c=W f g (i+1) 0 c:=by
 unfold W;rw[sm,if_neg (⋯:¬(i+1<=c/\c-(i+1)<0))];by_cases h:i<=c
 .rw[if_pos h];by_cases h2:c-i<n
  .rw[if_pos {h,(h2)}];lia
  .rw[if_neg ⋯,hg _ ⋯,fB];lia
 .rw[if_neg ⋯,if_neg h];lia
def aiq{m:Nat}(hf:∀k,m<=k->f k=0):W f g m 0 c=cv f g c:=by
 unfold W;rw[if_neg ⋯,gj,gk];by_cases h:m<=c+1
 .rw[qD (n:=c+1) h λk h1 _=>by rw[hf k h1,ju]];exact iY λj hj=>if_pos ⋯
 .rw[qD (m:=c+1) (n:=m) ⋯ λk h1 _=>if_neg ⋯];exact iY λj hj=>if_pos ⋯
end
end Pm
namespace Pm
open Rm
def ks(p:List Int)(a:Nat->Int)(n:Nat):Int:=sm p.length (λk=>co p k*a (n+k))
def cR(b:Int)(c:List Int):List Int:=aV c.length (λk=>tk b (0-co c (c.length-1-k)))++[1]
def nM(b:Int)(p:List Int):List Int:=aV (p.length-1) (λk=>tk b (0-co p (p.length-1-1-k)))
def o9(b:Int)(c:List Int):(cR b c).length=c.length+1:=by simp[cR,eU]
theorem zp{f:Nat->Int}{c:Nat}:∀n:Nat,(∀k,k<n->Bd c (f k))->Bd (c+n) (sm n f)
 |0,_=>Bd.zero _
 |n+1,h=>by
  rw[sm];exact Bd.add (n:=c+n) (zp n λk hk=>h k ⋯) ((h n ⋯).mono ⋯)
def jo{p:List Int}{u:Nat}(h:∀x∈p,Bd u x)(k:Nat):Bd u (co p k):=Bd.getD h k
def aD2{p q:List Int}{u v:Nat}(h:∀x∈p,Bd u x)(h':∀x∈q,Bd v x)(k:Nat):Bd (u+v+p.length) (cv (co p) (co q) k):=by
 rw[<-aiq (m:=p.length) λj hj=>cB hj,W,if_neg ⋯,gj];refine zp _ λj _=>?_;split
 .exact(jo h j).mul (jo h' _)
 .exact Bd.zero _
def R3{b:Int}{p q:List Int}{u v:Nat}(hb:0<=b)(hb1:b<1000)(hu:10<=u)(h:∀x∈p,Bd u x)(h':∀x∈q,Bd v x):∀x∈mul b p q,Bd (u+v+p.length) x:=by
 intro x hx;obtain⟨k,_,rfl⟩:=mU (WH hx);refine xg hb ?_ (aD2 h h' k);exact(Bd.of (n:=10) ⋯ ⋯).mono ⋯
def O7{b:Int}{c:List Int}{u:Nat}(hb:0<=b)(hb1:b<1000)(hu:10<=u)(h:∀x∈c,Bd u x):∀x∈cR b c,Bd u x:=by
 intro x hx;rcases gP.mp hx with hx|hx
 .obtain⟨k,_,rfl⟩:=mU hx;refine xg hb ((Bd.of (n:=10) ⋯ ⋯).mono ⋯) ?_;have:=jo h (c.length-1-k);unfold Bd at this⊢;rw[Kr,UJ];exact this
 .rw[dX.mp hx];exact(Bd.of (n:=10) ∅ ∅).mono hu
end Pm
namespace Pm
open Rm
section
variable {b:Int}{p m l o:List Int}{s:Nat}
theorem uq(x:Int)(j:Nat):∀n:Nat,sm n (λi=>if i=j then x else 0)=if j<n then x else 0
 |0=>by simp[sm]
 |n+1=>by
  rw[sm,uq x j n];by_cases h:n=j
  .rw[if_pos h,if_neg ⋯,if_pos ⋯];lia
  .rw[if_neg h];by_cases h2:j<n
   .rw[if_pos h2,if_pos ⋯];lia
   .rw[if_neg h2,if_neg ⋯];lia
def BH{x y:Int}:tk b (x-y)=0↔tk b x=tk b y:=by
 constructor
 .intro h;have:=tY (b:=b) (x:=x-y) (x':=0) (y:=y) (y':=y) (by rw[h,tk0]) rfl
  rwa [(⋯:x-y+y=x),ig]at this
 .intro h;have:=tY (b:=b) (x:=x) (x':=y) (y:=-y) (y':=-y) h rfl;rw[(⋯:x + -y=x-y),(⋯:y + -y=0),tk0]at this;exact this
def wH(f:Int)(s:Nat)(g:Nat->Int)(k:Nat):cv (λi=>if i=s then f else 0) g k=if s<=k then f*g (k-s)else 0:=by
 rw[gk];have e:sm (k+1) (λj=>(if j=s then f else 0)*g (k-j))=sm (k+1) (λj=>if j=s then f*g (k-s)else 0):=iY λj _=>by
  by_cases h:j=s
  .rw[if_pos h,if_pos h,h]
  .rw[if_neg h,if_neg h,ju]
 rw[e,uq];by_cases h:s<=k
 .rw[if_pos h,if_pos ⋯]
 .rw[if_neg h,if_neg ⋯]
structure Mon(m:List Int):Prop where
 pos:0<m.length
 one:co m (m.length-1)=1
structure Div(b:Int)(p m q r:List Int):Prop where
 qy:Py b q
 ry:Py b r
 short:r.length<m.length
 eq:∀k,tk b (cv (co q) (co m) k+co r k)=tk b (co p k)
def Div.uniq{q r q' r':List Int}(hm:Mon m)(h:Div b p m q r)(h':Div b p m q' r'):q=q'/\r=r':=by
 have hp:=hm.pos;have e1:∀k,tk b (cv (λi=>co q i-co q' i) (co m) k+(co r k-co r' k))=0:=by
  intro k;have e2:cv (λi=>co q i-co q' i) (co m) k=cv (co q) (co m) k-cv (co q') (co m) k:=by
   have:=mD (co q) (λi=>-1*co q' i) (co m) k;rw[kJ]at this;have e3:(λi=>co q i + -1*co q' i)=λi=>co q i-co q' i:=by funext i;lia
   rw[e3]at this;lia
  rw[e2,(⋯:cv (co q) (co m) k-cv (co q') (co m) k+(co r k-co r' k)=(cv (co q) (co m) k+co r k)-(cv (co q') (co m) k+co r' k)),BH,h.eq,h'.eq]
 have e4:∀d j,q.length+q'.length<=j+d->tk b (co q j-co q' j)=0:=by
  intro d;induction d with
  |zero=>intro j hj;rw[cB ⋯,cB ⋯];exact tk0 b
  |succ d ih=>
   intro j hj;have e5:=e1 (j+(m.length-1));have hs:=h.short;have hs':=h'.short;rw[cB (p:=r) ⋯,cB (p:=r') ⋯,zK,gj,gk]at e5;rw[<-e5];have e6:tk b (sm (j+(m.length-1)+1) λi=>(co q i-co q' i)*co m (j+(m.length-1)-i))=tk b (sm (j+(m.length-1)+1) λi=>if i=j then co q j-co q' j else 0):=zW λi hi=>by
    by_cases c:i=j
    .rw[if_pos c,c,(⋯:j+(m.length-1)-j=m.length-1),hm.one,jG]
    .rw[if_neg c];by_cases c2:i<j
     .rw[cB (p:=m) ⋯,fB]
     .rw[<-Q9,ih i ⋯,ju]
   rw[e6,uq,if_pos ⋯]
 have eq:q=q':=h.qy.ext h'.qy λk=>BH.mp (e4 (q.length+q'.length) k ⋯);refine{eq,h.ry.ext h'.ry λk=>?_};have e7:=e1 k;rw[eq]at e7;have e8:(λi=>co q' i-co q' i)=λ_=>0:=by funext i;lia
 rw[e8,mH (λ_ _=> .inl rfl),ig]at e7;exact BH.mp e7
structure qN(b:Int)(p m:List Int)(s:Nat)(o l:List Int):Prop where
 eq:∀k,tk b (cv (co o) (co m) k+co l k)=tk b (co p k)
 zero:∀k,s+(m.length-1)<=k->co l k=0
 low:∀k,k<s->co o k=0
 ol:o.length=p.length-(m.length-1)
 ll:l.length=p.length
 on:∀k,tk b (co o k)=co o k
 ln:∀k,tk b (co l k)=co l k
def qN.start(hp:∀k,tk b (co p k)=co p k):qN b p m (p.length-(m.length-1)) (aV (p.length-(m.length-1)) λ_=>0) p:=by
 have z:∀k,co (aV (p.length-(m.length-1)) λ_=>0) k=0:=λk=>by rw[kW];split<;>rfl
 exact{λk=>by rw[mH λi _=> .inl (z i),ig],λk hk=>cB ⋯,λk _=>z k,eU _ _,rfl,λk=>by rw[z,tk0],hp}
def lf(b f:Int)(s t:Nat)(l m:List Int)(k:Nat):Int:=if s<=k/\k<s+t then tk b (co l k-f*co m (k-s))else co l k
def aG3(b f:Int)(s:Nat)(l m:List Int)(k:Nat):lf b f s 0 l m k=co l k:=if_neg ⋯
def aBO(b f:Int)(s t:Nat)(l m:List Int)(k:Nat):lf b f s (t+1) l m k=if k=s+t then tk b (lf b f s t l m k-f*co m t)else lf b f s t l m k:=by
 unfold lf;by_cases h:k=s+t
 .rw[if_pos h,if_pos ⋯,if_neg ⋯,(⋯:k-s=t)]
 .rw[if_neg h];by_cases h2:s<=k/\k<s+t
  .rw[if_pos h2,if_pos ⋯]
  .rw[if_neg h2,if_neg ⋯]
def aAY{f:Int}(hl:∀k,tk b (co l k)=co l k)(k:Nat):lf b f s m.length l m k=tk b (co l k-(if s<=k then f*co m (k-s)else 0)):=by
 unfold lf;by_cases h:s<=k
 .rw[if_pos h];by_cases h2:k<s+m.length
  .rw[if_pos {h,(h2)}]
  .rw[if_neg ⋯,cB (p:=m) ⋯,fB,zK,hl]
 .rw[if_neg ⋯,if_neg h,zK,hl]
def qN.step{l':List Int}(hm:Mon m)(h:qN b p m (s+1) o l)(hs:s<p.length-(m.length-1))(hl:l'.length=l.length)(e:∀k,co l' k=lf b (co l (s+(m.length-1))) s m.length l m k):
  qN b p m s (o.set s (co l (s+(m.length-1)))) l':=by
 have hp:=hm.pos;have ho:=h.ol;have eo:co (o.set s (co l (s+(m.length-1))))=λk=>co o k+(if k=s then co l (s+(m.length-1))else 0):=by
  funext k
  rw[KQ _ _ _ _ ⋯];by_cases c:k=s
  .rw[if_pos c,if_pos c,c,h.low s ⋯,ig]
  .rw[if_neg c,if_neg c,gj]
 have el:∀k,co l' k=tk b (co l k-(if s<=k then co l (s+(m.length-1))*co m (k-s)else 0)):=λk=>by rw[e,aAY h.ln]
 refine{λk=>?_,λk hk=>?_,λk hk=>?_,by rw[La,ho],by rw[hl,h.ll],λk=>?_,λk=>by rw[el,xr]}
 .rw[eo,mD (co o),wH,el,XS,<-h.eq k];congr 1;lia
 .rw[el,if_pos ⋯];by_cases c:k=s+(m.length-1)
  .rw[c,(⋯:s+(m.length-1)-s=m.length-1),hm.one,jG,LX,tk0]
  .rw[h.zero k ⋯,cB (p:=m) ⋯,fB,zK,tk0]
 .rw[eo];simp only;rw[h.low k ⋯,if_neg ⋯,gj]
 .rw[KQ _ _ _ _ ⋯];split
  .exact h.ln _
  .exact h.on _
def qN.stop(hm:Mon m)(h:qN b p m 0 o l):Div b p m (trim o) (trim l):=by
 have hp:=hm.pos;have y:∀{x:List Int},(∀k,tk b (co x k)=co x k)->Py b (trim x):=λhx=>Py.of λz hz=>by
  obtain⟨k,hk,e⟩:=wk.mp hz;rw[<-e,<-uR hk];exact hx k
 refine{y h.on,y h.ln,?_,λk=>?_}
 .have:=aav (p:=l) (n:=m.length-1) λk hk=>h.zero k ⋯;lia
 .rw[rD,<-h.eq k];congr 2;exact oZ (λi _=>rD _ _) (λ_ _=>rfl)
end
end Pm
namespace Pm
open Rm
section
variable {b:Int}{p q x g m r:List Int}
def dD(b:Int)(p q x:List Int):Prop:=∃u v,∀k,tk b (co x k)=tk b (cv (co u) (co p) k+cv (co v) (co q) k)
def aMZ(p q:List Int)(k:Nat):co (add 0 p q) k=co p k+co q k:=by rw[aDH,eX]
def apO(p q:List Int)(k:Nat):co (mul 0 p q) k=cv (co p) (co q) k:=by rw[aae,eX]
def dD.left(b:Int)(p q:List Int):dD b p q p:={[1],[],λk=>by
 rw[mH (f:=co []) λi _=> .inl (jd _),gj,gk,qD (m:=1) ⋯ λj h1 _=>by rw[show co [1] j=0 from cB (by simpa using h1),ju]];simp[sm,jk]}
def dD.swap(h:dD b p q x):dD b q p x:=by
 intros u v e h;exact{v,u,λk=>by rw[e,FZ]}
def dD.trans{s:List Int}(hg:dD b p q g)(hs:dD b p q s)(h:dD b g s x):dD b p q x:=by
 intros a c eg hg;intros a' c' es hs;intros u v e h;refine{add 0 (mul 0 u a) (mul 0 v a'),add 0 (mul 0 u c) (mul 0 v c'),λk=>?_};have e1:tk b (cv (co u) (co g) k)=tk b (cv (co u) (λi=>cv (co a) (co p) i+cv (co c) (co q) i) k):=yw (λ_ _=>rfl) λi _=>eg i;have e2:tk b (cv (co v) (co s) k)=tk b (cv (co v) (λi=>cv (co a') (co p) i+cv (co c') (co q) i) k):=yw (λ_ _=>rfl) λi _=>es i;rw[e,tY e1 e2];congr 1;have f1:∀y z:List Int,co (add 0 (mul 0 u y) (mul 0 v z))=λi=>cv (co u) (co y) i+cv (co v) (co z) i:=λy z=>by
  funext i;rw[aMZ,apO,apO]
 rw[f1,f1,mD (cv (co u) (co a)),mD (cv (co u) (co c)),WW,WW,lG,lG,lG,lG];lia
def Div.in1(h:Div b p m q r):dD b m r p:=by
 refine{q,[1],λk=>?_};obtain⟨u,v,e⟩:=dD.left b r [];rw[<-h.eq k];have:cv (co [1]) (co r) k=co r k:=by
  rw[gk,qD (m:=1) ⋯ λj h1 _=>by rw[show co [1] j=0 from cB (by simpa using h1),ju]];simp[sm,jk]
 rw[this]
def Div.in2(h:Div b p m q r):dD b p m r:=by
 refine{[1],q.map (-1 * ·),λk=>?_};have e1:cv (co [1]) (co p) k=co p k:=by
  rw[gk,qD (m:=1) ⋯ λj h1 _=>by rw[show co [1] j=0 from cB (by simpa using h1),ju]];simp[sm,jk]
 have e2:co (q.map (-1 * ·))=λi=>-1*co q i:=by funext i;rw[Nf (by simp)]
 rw[e1,e2,kJ];have:=tY (h.eq k) (rfl:tk b (-1*cv (co q) (co m) k)=tk b (-1*cv (co q) (co m) k));rw[<-this];congr 1;lia
structure Gcd(b:Int)(p q g:List Int):Prop where
 py:Py b g
 mon:Mon g
 sum:dD b p q g
 one:dD b g [] p
 two:dD b g [] q
def dD.dv(h:dD b g [] p):∃u,∀k,tk b (co p k)=tk b (cv (co u) (co g) k):=by
 intros u v e h;exact{u,λk=>by rw[e,mH (g:=co []) λi _=> .inr (jd _),gj]}
end
end Pm
namespace Pm
open Rm
section
variable {p m q g s:List Int}{b:Int}
def aqU(h:p≠[]):p=p.dropLast++[co p (p.length-1)]:=by
 have hp:0<p.length:=tD.mpr h
 conv=>lhs;rw[<-agh h]
 congr 2;rw[uR ⋯,List.getLast_eq_getElem]
def aez(h:p≠[])(h0:co p (p.length-1)≠0):trim p=p:=by
 have e:=aqU h;rw[e,SD _ h0]
def Mj(h:p≠[])(ht:trim p=p):co p (p.length-1)≠0:=by
 intro z;have e:=aqU h;rw[z]at e;have e2:trim p=trim p.dropLast:=by
  conv=>lhs;rw[e]
  exact ajS _
 have:=GC p.dropLast;rw[<-e2,ht,List.length_dropLast]at this;have hp:0<p.length:=tD.mpr h;lia
structure vX(b:Int)(p m:List Int):Prop where
 py:Py b m
 len:m.length=p.length
 mon:p≠[]->Mon m
 to:∃c,∀k,tk b (co m k)=tk b (c*co p k)
 of:∃c,∀k,tk b (co p k)=tk b (c*co m k)
def dD.scale(h:∃c,∀k,tk b (co m k)=tk b (c*co p k))(q:List Int):dD b p q m:=by
 intros c e h;refine{[c],[],λk=>?_};rw[mH (f:=co []) λi _=> .inl (jd _),gj,e,gk,qD (m:=1) ⋯ λj h1 _=>by rw[show co [c] j=0 from cB (by simpa using h1),ju]];simp[sm,jk]
theorem vX.nil(b:Int):vX b [] []:={Py.nil b,rfl,λh=>absurd rfl h,{0,λk=>by rw[jd,ju]},{0,λk=>by rw[jd,ju]}}
def vo(P:Nat)(p:List Int):List Int:=p.map λx=>x*(co p (p.length-1))^(P-2)%(P:Int)
structure vf(b:Int)(p q g s:List Int):Prop where
 gy:Py b g
 sy:Py b s
 gm:g≠[]->Mon g
 sm_:s≠[]->Mon s
 some:s=[]->g≠[]
 gi:dD b p q g
 si:dD b p q s
 pi:dD b g s p
 qi:dD b g s q
def vf.start(hg:vX b p g)(hs:vX b q s)(h:q=[]->p≠[]):vf b p q g s:=by
 have lg:=hg.len;have ls:=hs.len;have pn:g≠[]->p≠[]:=λz e=>z (rY (by rw[lg,e];rfl));have qn:s≠[]->q≠[]:=λz e=>z (rY (by rw[ls,e];rfl));refine{hg.py,hs.py,λz=>hg.mon (pn z),λz=>hs.mon (qn z),λz e=>?_,dD.scale hg.to q,(dD.scale hs.to p).swap,dD.scale hg.of s,(dD.scale hs.of g).swap};have q0:q=[]:=rY (by rw[<-ls,z];rfl);exact h q0 (rY (by rw[<-lg,e];rfl))
def vf.step{o l:List Int}(h:vf b p q g s)(hs:s≠[])(d:Div b g s o l)(hm:vX b l m):vf b p q s m:=by
 have lm:=hm.len;have ln:m≠[]->l≠[]:=λz e=>z (rY (by rw[lm,e];rfl));have li:dD b p q l:=h.gi.trans h.si d.in2;have gs:dD b s m g:=(dD.left b s m).trans (dD.scale hm.of s).swap d.in1;refine{h.sy,hm.py,h.sm_,λz=>hm.mon (ln z),λ_=>hs,h.si,li.trans li (dD.scale hm.to l),?_,?_}
 .exact gs.trans (dD.left b s m) h.pi
 .exact gs.trans (dD.left b s m) h.qi
def vf.stop(h:vf b p q g s)(hs:s=[]):Gcd b p q g:=by
 subst hs;exact{h.gy,h.gm (h.some rfl),h.gi,h.pi,h.qi}
end
end Pm
namespace Pm
open Rm
def Qd{p:List Int}{k:Nat}(h:co p k≠0):k<p.length:=by
 by_cases c:k<p.length
 .exact c
 .exact absurd (cB ⋯) h
def azl{b:Int}(hb:tk b 1=1){p q:List Int}(hp:Mon p)(hq:Mon q):Mon (mul b p q)/\(mul b p q).length=p.length+q.length-1:=by
 have h1:=hp.pos;have h2:=hq.pos;have e:co (mul b p q) (p.length+q.length-2)=1:=by
  rw[aae,gk];have:sm (p.length+q.length-2+1) (λj=>co p j*co q (p.length+q.length-2-j))=sm (p.length+q.length-2+1) (λj=>if j=p.length-1 then 1 else 0):=iY λj hj=>by
   by_cases c:j=p.length-1
   .rw[if_pos c,c,hp.one,(⋯:p.length+q.length-2-(p.length-1)=q.length-1),hq.one];rfl
   .rw[if_neg c];by_cases c2:j<p.length-1
    .rw[cB (p:=q) ⋯,fB]
    .rw[cB (p:=p) ⋯,ju]
  rw[this,uq,if_pos ⋯,hb]
 have l1:=Qd (p:=mul b p q) (k:=p.length+q.length-2) (by rw[e];decide);have l2:(mul b p q).length<=p.length+q.length-1:=by
  refine aav λk hk=>?_;rw[kW];split
  .rw[mH λi hi=>?_,tk0];by_cases c:i<p.length
   .exact .inr (cB ⋯)
   .exact .inl (cB ⋯)
  .rfl
 have l3:(mul b p q).length=p.length+q.length-1:=⋯;exact{{⋯,by rw[l3,(⋯:p.length+q.length-1-1=p.length+q.length-2)];exact e},l3}
def Ci(b:Int)(c:List Int):Mon (cR b c):={by rw[o9];lia,by
 rw[o9,cR,Vv,eU,if_neg ⋯,(⋯:c.length+1-1-c.length=0)];rfl}
def ZF(b:Int)(p:List Int):(nM b p).length=p.length-1:=by rw[nM,eU]
end Pm
namespace Om
def cF(p:Nat):Prop:=2<=p/\∀d,d∣p->d=1∨d=p
def cF.cop{p x:Nat}(h:cF p)(hx:¬p∣x):Nat.Coprime p x:=by
 rcases h.2 _ (ag2 p x)with e|e
 .exact e
 .exact absurd (e▸aj6 p x) hx
def cF.dvd{p x y:Nat}(h:cF p)(hd:p∣x*y):p∣x∨p∣y:=by
 by_cases c:p∣x
 .exact .inl c
 .exact .inr ((h.cop c).dvd_of_dvd_mul_left hd)
def ch:Nat->Nat->Nat
 |_,0=>1
 |0,_+1=>0
 |n+1,k+1=>ch n k+ch n (k+1)
def HD(n:Nat):ch n 0=1:=by cases n<;>rfl
theorem BQ:∀(n k:Nat),n<k->ch n k=0
 |0,k+1,_=>rfl
 |n+1,k+1,h=>by rw[ch,BQ n k ⋯,BQ n (k+1) ⋯]
theorem aoi:∀n,ch n n=1
 |0=>rfl
 |n+1=>by rw[ch,aoi n,BQ n (n+1) ⋯]
theorem PX:∀n k:Nat,(k+1)*ch (n+1) (k+1)=(n+1)*ch n k
 |0,0=>rfl
 |0,k+1=>by
  have e:ch (0+1) (k+1+1)=ch 0 (k+1)+ch 0 (k+1+1):=rfl;rw[e,BQ 0 (k+1) ⋯,BQ 0 (k+1+1) ⋯];simp
 |n+1,0=>by
  have:=PX n 0;have e:ch (n+1+1) (0+1)=ch (n+1) 0+ch (n+1) (0+1):=rfl;simp only[HD]at e⊢;rw[e];rw[HD]at this;lia
 |n+1,k+1=>by
  have h1:=PX n k;have h2:=PX n (k+1);rw[ch,yx];have e1:(k+1+1)*ch (n+1) (k+1)=(n+1)*ch n k+ch (n+1) (k+1):=by rw[oW,h1]
  rw[e1,h2];have e2:ch (n+1) (k+1)=ch n k+ch n (k+1):=rfl;rw[e2,oW (n+1),yx];lia
def cF.dch{p k:Nat}(h:cF p)(h0:0<k)(hk:k<p):p∣ch p k:=by
 obtain⟨n,rfl⟩:∃n,p=n+1:={p-1,by have:=h.1;lia};obtain⟨j,rfl⟩:∃j,k=j+1:={k-1,⋯};have e:=PX n j;rcases h.dvd (x:=j+1) (y:=Om.ch (n+1) (j+1)) (by rw[e];exact amS ..)with d|d
 .exact absurd (wL ⋯ d) ⋯
 .exact d
def sN(f:Nat->Nat):Nat->Nat
 |0=>0
 |n+1=>sN f n+f n
theorem an5{f g:Nat->Nat}:∀{n:Nat},(∀k,k<n->f k=g k)->sN f n=sN g n
 |0,_=>rfl
 |n+1,h=>by rw[sN,sN,an5 λk hk=>h k ⋯,h n ⋯]
theorem ajm(f g:Nat->Nat):∀n,sN (λk=>f k+g k) n=sN f n+sN g n
 |0=>rfl
 |n+1=>by rw[sN,sN,sN,ajm f g n];lia
theorem ald(c:Nat)(f:Nat->Nat):∀n,sN (λk=>c*f k) n=c*sN f n
 |0=>rfl
 |n+1=>by rw[sN,sN,ald c f n,yx]
theorem Pr(f:Nat->Nat):∀n,sN f (n+1)=f 0+sN (λk=>f (k+1)) n
 |0=>by rw[sN,sN,sN];lia
 |n+1=>by rw[sN,Pr f n,sN];lia
theorem acC{p:Nat}{f:Nat->Nat}:∀{n:Nat},(∀k,k<n->p∣f k)->p∣sN f n
 |0,_=>Nat.dvd_zero _
 |n+1,h=>Nat.dvd_add (acC λk hk=>h k ⋯) (h n ⋯)
theorem ahb(a:Nat):∀n,(a+1)^n=sN (λk=>ch n k*a^k) (n+1)
 |0=>by simp[sN,ch]
 |n+1=>by
  rw[lZ,ahb a n,Pr (λk=>ch (n+1) k*a^k) (n+1)];have e1:sN (λk=>ch (n+1) (k+1)*a^(k+1)) (n+1)=sN (λk=>a*(ch n k*a^k)) (n+1)+sN (λk=>ch n (k+1)*a^(k+1)) (n+1):=by
   rw[<-ajm];refine an5 λk _=>?_;rw[ch,QW,lZ];congr 1;rw[oF a,R9]
  have e2:sN (λk=>ch n k*a^k) (n+1)=1+sN (λk=>ch n (k+1)*a^(k+1)) (n+1):=by
   have e3:sN (λk=>ch n k*a^k) (n+1+1)=sN (λk=>ch n k*a^k) (n+1):=by rw[sN,BQ n (n+1) ⋯,aiP,Nat.add_zero]
   rw[<-e3,Pr];rw[HD,Qh]
  rw[e1,ald,HD,Qh,yx,abY,oF];lia
theorem cF.pow{p:Nat}(h:cF p):∀a:Nat,a^p%p=a%p
 |0=>by rw[Nat.zero_pow (by have:=h.1;lia)]
 |a+1=>by
  obtain⟨n,rfl⟩:∃n,p=n+1:={p-1,by have:=h.1;lia};have e:(a+1)^(n+1)=1+sN (λk=>ch (n+1) (k+1)*a^(k+1)) n+a^(n+1):=by
   rw[ahb,sN,Pr,HD,Qh,aoi,IG,IG]
  obtain⟨c,hc⟩:(n+1)∣sN (λk=>ch (n+1) (k+1)*a^(k+1)) n:=acC λk hk=>ZV (h.dch ⋯ ⋯) (amS ..);rw[e,hc,(⋯:1+(n+1)*c+a^(n+1)=(a^(n+1)+1)+(n+1)*c),acN,Nat.add_mod,cF.pow h a,<-Nat.add_mod]
def cF.aLA{p a:Nat}(h:cF p)(h0:a≠0)(ha:a<p):a^(p-1)%p=1:=by
 have hp:=h.1;have e:=h.pow a;obtain⟨n,rfl⟩:∃n,p=n+1:={p-1,⋯};rw[ji];have one:1<=a^n:=Ej ⋯;have d:(n+1)∣a*(a^n-1):=by
  have e2:a*(a^n-1)=a^(n+1)-a:=by rw[Nat.mul_sub,abY,lZ,oF]
  rw[e2];exact Nat.dvd_of_mod_eq_zero (Nat.sub_mod_eq_zero_of_mod_eq e)
 rcases h.dvd d with d|⟨c,hc⟩
 .exact absurd (wL ⋯ d) ⋯
 .rw[(⋯:a^n=1+(n+1)*c),acN];exact Gx ⋯
end Om
namespace Pm
open Rm
section
variable {f g:Nat->Int}{m:List Int}{n:Nat}{b x:Int}
def Fs(f:Nat->Int)(n:Nat):Prop:=∀k,n<=k->f k=0
theorem Fs.co(p:List Int):Fs (co p) p.length:=λ_ h=>cB h
def Fs.mono{m:Nat}(h:Fs f m)(hmn:m<=n):Fs f n:=λk hk=>h k ⋯
def Fs.add(h:Fs f n)(h':Fs g n):Fs (λk=>f k+g k) n:=λk hk=>by show f k+g k=0;rw[h k hk,h' k hk];rfl
def Fs.mul(c:Int)(h:Fs f n):Fs (λk=>c*f k) n:=λk hk=>by show c*f k=0;rw[h k hk,fB]
def Fs.cv1{m:Nat}(h:Fs f m)(h':Fs g n){k:Nat}(hk:m+n<=k+1):Pm.cv f g k=0:=mH λi _=>by
 by_cases c:m<=i
 .exact .inl (h i c)
 .exact .inr (h' _ ⋯)
theorem Fs.cv{f g:Nat->Int}{m n:Nat}(h:Fs f m)(h':Fs g n):Fs (Pm.cv f g) (m+n):=λk hk=>h.cv1 h' ⋯
def ai0{a c:Nat}(h:Fs f (a+1))(h':Fs g (c+1)):Pm.cv f g (a+c)=f a*g c:=by
 rw[gk,iY (g:=λi=>if i=a then f a*g c else 0) λi _=>?_,uq,if_pos ⋯];by_cases e:i=a
 .rw[if_pos e,e,Nk]
 .rw[if_neg e];by_cases l:i<a
  .rw[h' _ ⋯,fB]
  .rw[h i ⋯,ju]
def aag(y:Int)(h:tk b x=0):tk b (y*x)=0:=by rw[<-Am,h,fB,tk0]
def WY(hm:Mon m){f:Nat->Int}{n:Nat}(hf:Fs f n)(h:∀k,m.length-1<=k->tk b (cv f (co m) k)=0):∀k,tk b (f k)=0:=by
 have q:∀d j,n<=j+d->tk b (f j)=0:=λd=>by
  induction d with
  |zero=>intro j hj;rw[hf j hj,tk0]
  |succ d ih=>
   intro j hj;have e:=h (j+(m.length-1)) ⋯;rw[gk]at e;have e2:tk b (sm (j+(m.length-1)+1) λi=>f i*co m (j+(m.length-1)-i))=tk b (sm (j+(m.length-1)+1) λi=>if i=j then f j else 0):=zW λi hi=>by
    by_cases c:i=j
    .rw[if_pos c,c,Nk,hm.one,jG]
    .rw[if_neg c,tk0];by_cases d2:i<j
     .rw[cB (by have:=hm.pos;lia),fB,tk0]
     .rw[iT];exact aag _ (ih i ⋯)
   rw[e2,uq,if_pos ⋯]at e;exact e
 exactλk=>q n k ⋯
def Dv(b:Int)(m:List Int)(f:Nat->Int):Prop:=∃s n,Fs s n/\∀k,tk b (f k)=tk b (cv s (co m) k)
def Dv.congr(e:∀k,tk b (f k)=tk b (g k))(h:Dv b m f):Dv b m g:=by
 intros s n hs h h;exact{s,n,hs,λk=>by rw[<-e,h]}
theorem Dv.add{b:Int}{m:List Int}{f g:Nat->Int}(h:Dv b m f)(h':Dv b m g):Dv b m λk=>f k+g k:=by
 intros s n hs h h;intros s' n' hs' h' h';exact{λk=>s k+s' k,n+n',(hs.mono ⋯).add (hs'.mono ⋯),λk=>by rw[mD];exact tY (h k) (h' k)}
def Dv.smul(c:Int)(h:Dv b m f):Dv b m λk=>c*f k:=by
 intros s n hs h h;exact{λk=>c*s k,n,hs.mul c,λk=>by rw[kJ,<-Am,h,Am]}
def Dv.sub(h:Dv b m f)(h':Dv b m g):Dv b m λk=>f k-g k:=
 (h.add (h'.smul (-1))).congr λk=>by rw[(⋯:f k + -1*g k=f k-g k)]
def Dv.mul(hg:Fs g n)(h:Dv b m f):Dv b m (cv g f):=by
 intros s n' hs h h;exact{cv g s,n+n',hg.cv hs,λk=>by rw[lG];exact yw (λi _=>rfl) λi _=>h i}
def Dv.self(hg:Fs g n):Dv b m (cv g (co m)):={g,n,hg,λ_=>rfl}
def Dv.short(hm:Mon m){f:Nat->Int}(hf:Fs f (m.length-1))(h:Dv b m f):∀k,tk b (f k)=0:=by
 intros s n hs h h;have z:=WY (b:=b) hm hs λk hk=>by rw[<-h,hf k hk,tk0]
 intro k;rw[h,<-tk0 b,<-mH (f:=λ_=>(0:Int)) (g:=co m) (k:=k) λi _=> .inl rfl];exact yw (λi _=>by rw[z,tk0]) λi _=>rfl
def abP(hm:Mon m){p:List Int}(hp:∀k,tk b (co p k)=co p k):∃q r,Div b p m q r:=by
 have go:∀d,d<=p.length-(m.length-1)->∃o l,qN b p m (p.length-(m.length-1)-d) o l:=λd=>by
  induction d with
  |zero=>intro _;exact{_,_,qN.start hp}
  |succ d ih=>
   intro hd;obtain⟨o,l,I⟩:=ih ⋯;obtain⟨s,hs⟩:∃s,p.length-(m.length-1)-d=s+1:={p.length-(m.length-1)-d-1,⋯};rw[hs]at I;refine{o.set s (co l (s+(m.length-1))),aV l.length λk=>lf b (co l (s+(m.length-1))) s m.length l m k,?_};rw[(⋯:p.length-(m.length-1)-(d+1)=s)];refine I.step hm ⋯ (eU ..) λk=>?_;rw[kW];by_cases c:k<l.length
   .rw[if_pos c]
   .rw[if_neg c];have hl:=I.ll;have hmp:=hm.pos;unfold lf;rw[if_neg ⋯,cB ⋯]
 obtain⟨o,l,I⟩:=go _ (bO _);rw[CY]at I;exact{_,_,I.stop hm}
theorem Dv.by{b:Int}{m:List Int}{f:Nat->Int}(h:Dv 0 m f):Dv b m f:=by
 intros s n hs h h;exact{s,n,hs,λk=>by have:=h k;rw[eX,eX]at this;rw[this]}
def Dv.len(h1:tk b 1=1){m p:List Int}(hm:Mon m)(hp:Mon p)(h:Dv b m (co p)):m.length<=p.length:=by
 by_cases c:m.length<=p.length
 .exact c
 .exfalso
  have:=h.short hm ((Fs.co p).mono ⋯) (p.length-1);rw[hp.one,h1]at this;exact absurd this ∅
def akL(h1:tk b 1=1){P g:List Int}(hP:Mon P)(hg:Mon g)(h:Dv b g (co P)):∃L:List Int,Mon L/\(∀k,tk b (co L k)=co L k)/\L.length+g.length=P.length+1/\∀k,tk b (co P k)=tk b (cv (co L) (co g) k):=by
 have hl:=h.len h1 hg hP;have hp:=hP.pos;have hgp:=hg.pos;intros s n hs h h;have key:∀d j,n<=j+d->P.length-g.length<j->tk b (s j)=0:=λd=>by
  induction d with
  |zero=>intro j hj _;rw[hs j hj,tk0]
  |succ d ih=>
   intro j hj hj2;have e:=h (j+(g.length-1));rw[cB ⋯,tk0,gk]at e;have e2:tk b (sm (j+(g.length-1)+1) λi=>s i*co g (j+(g.length-1)-i))=tk b (sm (j+(g.length-1)+1) λi=>if i=j then s j else 0):=zW λi hi=>by
    by_cases c:i=j
    .rw[if_pos c,c,Nk,hg.one,jG]
    .rw[if_neg c,tk0];by_cases d2:i<j
     .rw[cB ⋯,fB,tk0]
     .rw[iT];exact aag _ (ih i ⋯ ⋯)
   rw[e2,uq,if_pos ⋯]at e;exact e.symm
 have z:∀k,P.length-g.length<k->tk b (s k)=0:=λk hk=>key n k ⋯ hk;have t1:tk b (s (P.length-g.length))=1:=by
  have e:=h (P.length-1);rw[hP.one,h1,gk]at e;have e2:tk b (sm (P.length-1+1) λi=>s i*co g (P.length-1-i))=tk b (sm (P.length-1+1) λi=>if i=P.length-g.length then s (P.length-g.length)else 0):=zW λi hi=>by
   by_cases c:i=P.length-g.length
   .rw[if_pos c,c,(⋯:P.length-1-(P.length-g.length)=g.length-1),hg.one,jG]
   .rw[if_neg c,tk0];by_cases d2:i<P.length-g.length
    .rw[cB ⋯,fB,tk0]
    .rw[iT];exact aag _ (z i ⋯)
  rw[e2,uq,if_pos ⋯]at e;exact e.symm
 have hc:∀k,co (aV (P.length-g.length+1) λk=>tk b (s k)) k=tk b (s k):=λk=>by
  rw[kW];by_cases c:k<P.length-g.length+1
  .rw[if_pos c]
  .rw[if_neg c,z k ⋯]
 refine{aV (P.length-g.length+1) λk=>tk b (s k),{by rw[eU];lia,?_},λk=>?_,by rw[eU];lia,λk=>?_}
 .rw[eU,ji,hc,t1]
 .rw[hc,xr]
 .rw[h k];exact yw (λi _=>by rw[hc,xr]) λi _=>rfl
def ay3(hm:Mon m){f g:Nat->Int}{n n':Nat}(hf:Fs f n)(hg:Fs g n')(h:∀k,tk b (cv f (co m) k)=tk b (cv g (co m) k)):∀k,tk b (f k)=tk b (g k):=λk=>by
 refine BH.mp (WY (b:=b) hm (f:=λk=>f k-g k) (n:=n+n') (λk hk=>?_) (λk _=>?_) k)
 .show f k-g k=0;rw[hf k ⋯,hg k ⋯];rfl
 .have e:cv (λk=>f k-g k) (co m) k=cv f (co m) k + -1*cv g (co m) k:=by
   rw[<-kJ,<-mD];exact oZ (λi _=>⋯) λi _=>rfl
  rw[e,tY (h k) rfl,show ∀x:Int,x + -1*x=0 fromλx=>⋯,tk0]
def ahg(h:Fs f n):∃S:List Int,∀k,co S k=f k:={aV n f,λk=>by
 rw[kW];by_cases c:k<n
 .rw[if_pos c]
 .rw[if_neg c,h k ⋯]}
def Tf{L:List Int}(hL:Mon L){N:Int}(hN:N≠0){f:Nat->Int}{n:Nat}(hf:Fs f n)(h:Dv 0 L λk=>N*f k):Dv 0 L f:=by
 obtain⟨p,hp⟩:=ahg hf;obtain⟨o,r,D⟩:=abP (b:=0) hL (p:=p) λk=>eX _;have e:∀k,f k=cv (co o) (co L) k+co r k:=λk=>by have:=D.eq k;rw[eX,eX]at this;rw[<-hp,this]
 have z:=(h.sub ((Dv.self (b:=0) (m:=L) (Fs.co o)).smul N)).short hL λk hk=>by
  have:=D.short;show N*f k-N*cv (co o) (co L) k=0;rw[e,cB (p:=r) ⋯,gj,LX]
 refine{co o,o.length,Fs.co o,λk=>congrArg _ ?_};have:=z k;rw[eX,<-GD]at this;have:=(Mr.mp this).resolve_left hN;lia
def Div.dv{P M q r:List Int}(h:Div b P M q r)(hM:Mon M):r=[]↔Dv b M (co P):=by
 constructor
 .rintro rfl;exact{co q,q.length,Fs.co q,λk=>by rw[<-h.eq k,jd,gj]}
 .intro d;have e:Dv b M (co r):=(d.sub (Dv.self (b:=b) (m:=M) (Fs.co q))).congr λk=>by
   have e1:tk b (co P k + -cv (co q) (co M) k)=tk b ((cv (co q) (co M) k+co r k) + -cv (co q) (co M) k):=tY (h.eq k).symm rfl;rw[(⋯:co P k-cv (co q) (co M) k=co P k + -cv (co q) (co M) k),e1];exact congrArg (tk b) ⋯
  have z:=e.short hM ((Fs.co r).mono (by have:=h.short;lia));rw[<-h.ry.tr];exact Pz.mpr λk=>by rw[<-h.ry.co k];exact z k
def aEV(x:Int)(q:List Int)(f:Nat->Int)(k:Nat):cv (co (x::q)) f k=x*f k+(if k=0 then 0 else cv (co q) f (k-1)):=by
 cases k with
 |zero=>rw[cv,jk,if_pos rfl,gj]
 |succ k=>
  rw[cv,jk,if_neg ⋯,ji];congr 1
def ahc:tk b x=0↔b∣x:=by
 by_cases h:b=0
 .rw[h,eX,Int.zero_dvd]
 .rw[oB h];exact Int.dvd_iff_emod_eq_zero.symm
def tp(P:List Int)(a:Nat->Int)(k:Nat):Int:=sm (P.length-1-k) λi=>co P (k+1+i)*a i
end
end Pm
namespace Pm
open Rm
theorem am7:∀(B A:Nat) (f:Nat->Nat),(∀c,c<A->f c<B)->B<A->∃i j,i<j/\j<A/\f i=f j
 |0,A,f,h,hA=>absurd (h 0 hA) (Rb _)
 |B+1,A,f,h,hA=>by
  by_cases e:∃c,c<A-1/\f c=f (A-1)
  .intros c h1 h2 e;exact{c,A-1,h1,⋯,h2}
  .have ne:∀c,c<A-1->f c≠f (A-1):=λc hc z=>e {c,hc,(z)};have hv:=h (A-1) ⋯;obtain⟨i,j,h1,h2,h3⟩:=am7 B (A-1) (λc=>if f (A-1)<f c then f c-1 else f c) (λc hc=>by
    have h1:=h c ⋯;have h2:=ne c hc;show(if f (A-1)<f c then f c-1 else f c)<B;split<;>lia) ⋯
   exists i,j,h1,⋯;have n1:=ne i ⋯;have n2:=ne j h2;change (if f (A-1)<f i then f i-1 else f i)=(if f (A-1)<f j then f j-1 else f j)at h3;split at h3<;>split at h3<;>lia
def dig(s j c:Nat):Nat:=c/2^(s*j)%2^s
theorem aiL{s:Nat}:∀{n c c':Nat},(∀j,j<n->dig s j c=dig s j c')->c%2^(s*n)=c'%2^(s*n)
 |0,c,c',_=>by rw[aaB,Qh,Nat.mod_one,Nat.mod_one]
 |n+1,c,c',h=>by
  have h1:=aiL (n:=n) λj hj=>h j ⋯;have h2:c/2^(s*n)%2^s=c'/2^(s*n)%2^s:=h n ⋯;rw[EY,tO,Nat.mod_mul,Nat.mod_mul,h1,h2]
def tG(R:Nat)(y:Nat->Nat):Nat->Nat
 |0=>0
 |n+1=>tG R y n*2^R+y n
theorem aer{R:Nat}{y:Nat->Nat}:∀{n:Nat},(∀i,i<n->y i<2^R)->tG R y n<2^(R*n)
 |0,_=>by rw[aaB];exact Nat.one_pos
 |n+1,h=>by
  have h1:=qp (2^R) (aer (n:=n) λi hi=>h i ⋯);have h2:=h n ⋯;rw[EY,tO];rw[oW]at h1;show tG R y n*2^R+y n<_;lia
theorem ap2{R:Nat}{y y':Nat->Nat}:∀{n:Nat},(∀i,i<n->y i<2^R)->(∀i,i<n->y' i<2^R)->tG R y n=tG R y' n->∀i,i<n->y i=y' i
 |0,_,_,_,i,hi=>absurd hi (Rb _)
 |n+1,h,h',e,i,hi=>by
  have e':tG R y n*2^R+y n=tG R y' n*2^R+y' n:=e;have e1:=congrArg (· % 2^R) e';simp only[Nat.mul_add_mod_self_right,Gx (h n ⋯),Gx (h' n ⋯)]at e1;by_cases c:i=n
  .rw[c];exact e1
  .exact ap2 (λi hi=>h i ⋯) (λi hi=>h' i ⋯) (Nat.eq_of_mul_eq_mul_right (Nat.two_pow_pos R) (⋯:tG R y n*2^R=tG R y' n*2^R)) i ⋯
theorem ae0{f g:Nat->Int}:∀n,sm n (λj=>f j-g j)=sm n f-sm n g
 |0=>rfl
 |n+1=>by show sm n _+(f n-g n)=sm n f+f n-(sm n g+g n);rw[ae0 n];lia
def aJ8{n m:Nat}(A:Nat->Nat->Int)(s R:Nat)(hA:∀i,i<m->∀x:Nat->Nat,(∀j,x j<2^s)->Bd R (sm n λj=>A i j*(x j:Nat)))(h:(R+1)*m<s*n):
  ∃x:Nat->Int,(∃j,j<n/\x j≠0)/\(∀j,Bd s (x j))/\∀i,i<m->sm n (λj=>A i j*x j)=0:=by
 have dl:∀c j,dig s j c<2^s:=λc j=>Nat.mod_lt _ (Nat.two_pow_pos _);have hb:=λc i hi=>hA i hi _ (dl c);have hy:∀c i,i<m->((sm n λj=>A i j*(dig s j c:Nat))+(2^R:Nat)).toNat<2^(R+1):=λc i hi=>by
  have:=hb c i hi;unfold Bd at this;rw[lZ];lia
 obtain⟨a,b,h1,h2,h3⟩:=am7 (2^((R+1)*m)) (2^(s*n)) (λc=>tG (R+1) (λi=>((sm n λj=>A i j*(dig s j c:Nat))+(2^R:Nat)).toNat) m) (λc _=>aer λi hi=>hy c i hi) (Nat.pow_lt_pow_right ∅ h);refine{λj=>(dig s j a:Int)-(dig s j b:Int),?_,λj=>?_,λi hi=>?_}
 .apply xQ;intro z;have e:=aiL (n:=n) (s:=s) (c:=a) (c':=b) λj hj=>xQ λw=>z {j,hj,(⋯:(dig s j a:Int)-(dig s j b:Int)≠0)};rw[Gx ⋯,Gx h2]at e;lia
 .have:=dl a j;have:=dl b j;show((dig s j a:Int)-(dig s j b:Int)).natAbs<2^s;lia
 .have k:=ap2 (λi hi=>hy a i hi) (λi hi=>hy b i hi) h3 i hi;have b1:=hb a i hi;have b2:=hb b i hi;unfold Bd at b1 b2;rw[show(λj=>A i j*((dig s j a:Int)-(dig s j b:Int)))=λj=>A i j*(dig s j a:Int)-A i j*(dig s j b:Int)from funext λj=>GD ..,ae0];lia
end Pm
namespace Pm
open Rm
section
variable {p:Nat}{f T:Nat->Int}{P g s:List Int}{N:Int}
def aK2:∀n:Nat,2<=n->∃p,Om.cF p/\p∣n:=λn=>by
 induction n using CJ with
 |ind n ih=>
  intro hn;by_cases h:∀d,d∣n->d=1∨d=n
  .exact{n,{hn,(h)},Nat.dvd_refl n}
  .obtain⟨d,hd⟩:=MX.mp h;obtain⟨hd,hn1⟩:=Classical.not_imp.mp hd;have h0:d≠0:=λe=>by rw[e]at hd;have:=Nat.eq_zero_of_zero_dvd hd;lia
   have hl:=wL ⋯ hd;have h1:d≠1:=λe=>hn1 (.inl e);have h2:d≠n:=λe=>hn1 (.inr e);obtain⟨p,hp,hq⟩:=ih d ⋯ ⋯;exact{p,hp,ZV hq hd}
def least_of{Q:Nat->Prop}(h:∃n,Q n):∃n,Q n/\∀m,Q m->n<=m:=by
 intros n hn h;induction n using CJ with
 |ind n ih=>
  by_cases c:∃m,m<n/\Q m
  .intros m h1 h2 c;exact ih m h1 h2
  .exact{n,hn,λm hm=>by
    by_cases d:m<n
    .exact absurd {m,d,(hm)} c
    .lia}
def HM{x:Int}:(p:Int)∣x↔p∣x.natAbs:=Int.ofNat_dvd_left
def W3(hp:Om.cF p){x y:Int}(h:(p:Int)∣x*y):(p:Int)∣x∨(p:Int)∣y:=by
 rw[HM,yN]at h;rcases hp.dvd h with h|h
 .exact .inl (HM.mpr h)
 .exact .inr (HM.mpr h)
theorem ai9{d:Int}{f:Nat->Int}:∀{n:Nat},(∀k,k<n->d∣f k)->d∣sm n f
 |0,_=>{0,by rw[fB];rfl}
 |n+1,h=>uM (ai9 λk hk=>h k ⋯) (h n ⋯)
def aym{d:Int}{n j:Nat}(hj:j<n)(h:d∣sm n f)(ho:∀k,k<n->k≠j->d∣f k):d∣f j:=by
 have e:sm n f=sm n (λk=>if k=j then f j else 0)+sm n (λk=>if k=j then 0 else f k):=by
  rw[<-BJ];refine iY λk _=>?_;by_cases c:k=j
  .rw[if_pos c,if_pos c,c,gj]
  .rw[if_neg c,if_neg c,ig]
 rw[uq,if_pos hj]at e;have h2:d∣sm n (λk=>if k=j then 0 else f k):=ai9 λk hk=>by
  by_cases c:k=j
  .rw[if_pos c];exact{0,by rw[fB]}
  .rw[if_neg c];exact ho k hk c
 have:f j=sm n f-sm n (λk=>if k=j then 0 else f k):=⋯;rw[this];exact Int.dvd_sub h h2
def asj(hp:Om.cF p){f g:Nat->Int}(h:∀k,(p:Int)∣cv f g k):(∀k,(p:Int)∣f k)∨∀k,(p:Int)∣g k:=by
 by_cases hf:∀k,(p:Int)∣f k
 .exact .inl hf
 by_cases hg:∀k,(p:Int)∣g k
 .exact .inr hg
 obtain⟨i,hi,hi'⟩:=least_of (MX.mp hf);obtain⟨j,hj,hj'⟩:=least_of (MX.mp hg);have e:=h (i+j);rw[gk]at e;have t:=aym (j:=i) ⋯ e λk hk hne=>by
  by_cases c:k<i
  .have:(p:Int)∣f k:=xQ λz=>by have:=hi' k z;lia
   exact Em this (Jo ..)
  .have:(p:Int)∣g (i+j-k):=xQ λz=>by have:=hj' _ z;lia
   exact Em this (aeG ..)
 rw[Nk]at t;rcases W3 hp t with t|t
 .exact absurd t hi
 .exact absurd t hj
theorem Fs.top{f:Nat->Int}:∀{n:Nat},Fs f n->(∀k,f k=0)∨∃d,d<n/\f d≠0/\Fs f (d+1)
 |0,h=> .inl λk=>h k (dW _)
 |n+1,h=>by
  by_cases c:f n=0
  .have h':Fs f n:=λk hk=>by
    by_cases e:k=n
    .rw[e];exact c
    .exact h k ⋯
   rcases Fs.top h' with z|⟨d,h1,h2,h3⟩
   .exact .inl z
   .exact .inr {d,⋯,h2,h3}
  .exact .inr {n,⋯,c,h}
def I2(P:List Int)(T f:Nat->Int):Prop:=∃(N:Int) (A B:Nat->Int) (n:Nat),N≠0/\Fs A n/\Fs B n/\∀k,N*f k=cv A (co P) k+cv B T k
def XO(f:Nat->Int)(k:Nat):cv (λk=>if k=0 then 1 else 0) f k=f k:=by rw[wH,if_pos (dW _),wu,vD]
def Tj(f:Nat->Int)(k:Nat):cv (λ_=>0) f k=0:=mH λ_ _=> .inl rfl
def Zx:Fs (λk=>if k=0 then 1 else 0) 1:=λk hk=>if_neg ⋯
def I2.left(P:List Int)(T:Nat->Int):I2 P T (co P):={1,_,λ_=>0,1,∅,Zx,λ_ _=>rfl,λk=>by rw[XO,Tj,wu,gj]}
def I2.right(P:List Int)(T:Nat->Int):I2 P T T:={1,λ_=>0,_,1,∅,λ_ _=>rfl,Zx,λk=>by rw[XO,Tj,wu,ig]}
def I2.div{c:Int}(hc:c≠0)(h:I2 P T λk=>c*f k):I2 P T f:=by
 intros N A B n hN hA hB e h;exact{N*c,A,B,n,Kz hN hc,hA,hB,λk=>by rw[iU,e]}
def I2.step{q G:Nat->Int}{m:Nat}(c:Int)(hG:Fs G m)(hq:I2 P T q)(hf:I2 P T f):I2 P T λk=>c*q k+cv G f k:=by
 intros N A B n hN hA hB e hq;intros N' A' B' n' hN' hA' hB' e' hf;refine{N*N',λk=>c*N'*A k+N*cv G A' k,λk=>c*N'*B k+N*cv G B' k,n+(m+n'),Kz hN hN',((hA.mul _).mono ⋯).add (((hG.cv hA').mul _).mono ⋯),((hB.mul _).mono ⋯).add (((hG.cv hB').mul _).mono ⋯),λk=>?_};have e2:N'*cv G f k=cv G (cv A' (co P)) k+cv G (cv B' T) k:=by
  rw[<-WW,mC G f,<-kJ,mC];exact oZ (λ_ _=>rfl) λi _=>e' i
 rw[mD,mD,kJ,kJ,kJ,kJ,lG,lG,Ax,show N*N'*(c*q k)=c*N'*(N*q k)by ac_rfl,e k,iU N,e2,Ax,Ax];lia
structure Lk(P:List Int)(T:Nat->Int)(d:Nat)(f:Nat->Int):Prop where
 fs:Fs f (d+1)
 ne:f d≠0
 kf:I2 P T f
def ajD{d:Nat}(hf:Lk P T d f)(hd:∀e g,Lk P T e g->d<=e):∀(n:Nat) (q:Nat->Int),Fs q n->I2 P T q->∃(m:Int) (G:Nat->Int) (N:Nat),m≠0/\Fs G N/\∀k,m*q k=cv G f k:=λn=>by
 induction n using CJ with
 |ind n ih=>
  intro q hq hk;rcases hq.top with z|⟨e,hen,hne,hfe⟩
  .exact{1,λ_=>0,0,∅,λ_ _=>rfl,λk=>by rw[z k,Tj];rfl}
  .have hde:=hd e q {hfe,hne,(hk)};have kl:=I2.step (G:=λi=>if i=e-d then -(q e)else 0) (m:=e-d+1) (f d) (λk h=>if_neg ⋯) hk hf.kf;have fl:Fs (λk=>f d*q k+cv (λi=>if i=e-d then -(q e)else 0) f k) e:=λk hk=>by
    show f d*q k+cv (λi=>if i=e-d then -(q e)else 0) f k=0;rw[wH,if_pos ⋯];by_cases c:k=e
    .rw[c,(⋯:e-(e-d)=d),Od,iT (q e),Int.add_right_neg]
    .rw[hfe k ⋯,hf.fs (k-(e-d)) ⋯,fB,fB];rfl
   obtain⟨m,G,N,hm,hG,hE⟩:=ih e hen _ fl kl;refine{m*f d,λk=>G k+m*(if k=e-d then q e else 0),N+(e-d+1),Kz hm hf.ne,λk hk=>?_,λk=>?_}
   .show G k+m*(if k=e-d then q e else 0)=0;rw[hG k ⋯,if_neg ⋯,fB];rfl
   .rw[mD,kJ,<-hE k,wH,wH,iU,<-Ax];refine congrArg (m * ·) ?_;split
    .rw[Od,Int.neg_add_cancel_right]
    .rw[gj,gj]
def aCM{nT:Nat}(hP:Mon P)(hT:Fs T nT):∃g,Mon g/\I2 P T (co g)/\Dv 0 g (co P)/\Dv 0 g T:=by
 have hp:=hP.pos;have p0:Lk P T (P.length-1) (co P):={by rw[(⋯:P.length-1+1=P.length)];exact Fs.co P,by rw[hP.one];decide,I2.left P T};obtain⟨d,⟨f0,hf0⟩,hd⟩:=least_of (Q:=λd=>∃f,Lk P T d f) {_,_,p0};have hd':∀e g,Lk P T e g->d<=e:=λe g h=>hd e {g,(h)};obtain⟨c,⟨f,hf,hc⟩,hc'⟩:=least_of (Q:=λc=>∃f,Lk P T d f/\(f d).natAbs=c) {_,f0,hf0,rfl};obtain⟨m0,G0,N0,hm0,hG0,hE0⟩:=ajD hf hd' P.length (co P) (Fs.co P) (I2.left P T);obtain⟨n,⟨m,G,N,hm,hG,hE,hn⟩,hn'⟩:=least_of (Q:=λn=>∃(m:Int) (G:Nat->Int) (N:Nat),m≠0/\Fs G N/\(∀k,m*co P k=cv G f k)/\m.natAbs=n) {_,m0,G0,N0,hm0,hG0,hE0,rfl};have h1:m.natAbs=1:=by
  by_cases c2:m.natAbs=1
  .exact c2
  .have h0:m.natAbs≠0:=⋯;obtain⟨p,hp,hd⟩:=aK2 m.natAbs ⋯;have hpp:=hp.1;have hp0:(p:Int)≠0:=⋯;obtain⟨m',em⟩:=HM.mpr hd;have hm':m'≠0:=λz=>hm (by rw[em,z,fB]);rcases asj hp (f:=G) (g:=f) λk=>by rw[<-hE k,em,iU];exact Jo .. with z|z
   .exfalso
    obtain⟨G',hg⟩:=afd.mp z;refine absurd (hn' m'.natAbs {m',G',N,hm',λk hk=>?_,λk=>?_,rfl}) ?_
    .have:=hg k;rw[hG k hk]at this;exact(Mr.mp this.symm).resolve_left hp0
    .refine Int.eq_of_mul_eq_mul_left hp0 ?_;rw[<-kJ,<-iU,<-em,hE k];exact oZ (λi _=>hg i) λ_ _=>rfl
    .rw[<-hn,em,yN,adI];have:0<m'.natAbs:=⋯;have:2*m'.natAbs<=p*m'.natAbs:=qp _ hpp;lia
   .exfalso
    obtain⟨f',hg⟩:=afd.mp z;have e:f=λk=>p*f' k:=funext λk=>hg k;have q:Lk P T d f':={λk hk=>by
     have:=hg k;rw[hf.fs k hk]at this;exact(Mr.mp this.symm).resolve_left hp0,λz=>hf.ne (by rw[hg d,z,fB]),by
     have:=hf.kf;rw[e]at this;exact this.div hp0}
    refine absurd (hc' _ {_,q,rfl}) ?_;have e2:=congrArg Int.natAbs (hg d);rw[yN,adI,hc]at e2;have hne:=q.ne;have:0<(f' d).natAbs:=⋯;have:2*(f' d).natAbs<=p*(f' d).natAbs:=qp _ hpp;rw[e2];show ¬p*(f' d).natAbs<=(f' d).natAbs;lia
 have hu:(f d).natAbs=1:=by
  rcases hG.top with z|⟨e,_,hne,hfe⟩
  .exfalso
   have:=hE (P.length-1);rw[hP.one,jG,mH λi _=> .inl (z i)]at this;exact hm this
  .have t:cv G f (e+d)=G e*f d:=ai0 hfe hf.fs;have hx:G e*f d≠0:=Kz hne hf.ne;have e1:=hE (e+d);rw[t]at e1;have hl:e+d=P.length-1:=by
    by_cases c3:P.length<=e+d
    .rw[cB c3,fB]at e1;exact absurd e1.symm hx
    .by_cases c4:e+d=P.length-1
     .exact c4
     .exfalso
      have e2:=hE (P.length-1);rw[hP.one,jG,mH λi hi=>by
       by_cases c5:e+1<=i
       .exact .inl (hfe i c5)
       .exact .inr (hf.fs _ ⋯)]at e2
      exact hm e2
   rw[hl,hP.one,jG]at e1;have e3:=congrArg Int.natAbs e1;rw[yN,h1]at e3;exact Nat.eq_one_of_mul_eq_one_left e3.symm
 have hs:f d*f d=1:=by
  rcases Int.natAbs_eq (f d)with h|h<;>rw[h,hu]<;>rfl
 have hLc:∀k,co (aV (d+1) λk=>f d*f k) k=f d*f k:=λk=>by
  rw[kW];by_cases c3:k<d+1
  .rw[if_pos c3]
  .rw[if_neg c3,hf.fs k ⋯,fB]
 have hM:Mon (aV (d+1) λk=>f d*f k):={by rw[eU];lia,by rw[eU,ji,hLc,hs]};have dv:∀(q:Nat->Int) (n:Nat),Fs q n->I2 P T q->Dv 0 (aV (d+1) λk=>f d*f k) q:=λq n h h'=>by
  obtain⟨m,G,N,hm,hG,hE⟩:=ajD hf hd' n q h h';refine Tf hM hm h {λk=>f d*G k,N,hG.mul _,λk=>congrArg _ ?_};show m*q k=_;rw[hE,kJ,oZ (g:=co (aV (d+1) λk=>f d*f k)) (g':=λk=>f d*f k) (λ_ _=>rfl) λi _=>hLc i,mC G λk=>f d*f k,kJ,<-iU,hs,wu,mC]
 refine{aV (d+1) λk=>f d*f k,hM,I2.div hf.ne ?_,dv _ _ (Fs.co P) (I2.left P T),dv _ _ hT (I2.right P T)};rw[show(λk=>f d*co (aV (d+1) λk=>f d*f k) k)=f from funext λk=>by rw[hLc,<-iU,hs,wu]];exact hf.kf
theorem amT(f:Nat->Int)(a:Nat):∀b,sm (a+b) f=sm a f+sm b λj=>f (a+j)
 |0=>(gj _).symm
 |b+1=>by rw[<-Zt,sm,sm,amT f a b,aaP]
def aj9{g:Nat->Int}{a:Nat}(h:Fs f a)(k:Nat):cv f g k=sm a λj=>(if j<=k then g (k-j)else 0)*f j:=by
 have e:=qD (f:=λj=>(if j<=k then g (k-j)else 0)*f j) (m:=a) (n:=a+(k+1)) ⋯ λj hj _=>by rw[h j hj,fB]
 rw[gk,<-e,qD (n:=a+(k+1)) (m:=k+1) ⋯ λj hj _=>by rw[if_neg ⋯,ju]];exact iY λj hj=>by rw[if_pos ⋯,iT]
structure lA(P:List Int)(T:Nat->Int)(g:List Int)(N:Int):Prop where
 mon:Mon g
 ne:N≠0
 one:Dv 0 g (co P)
 two:Dv 0 g T
 sum:∃(A B:Nat->Int) (n:Nat),Fs A n/\Fs B n/\∀k,N*co g k=cv A (co P) k+cv B T k
def lA.small{L:List Int}{t:Nat->Int}(hg:Mon g)(hL:Mon L)(eP:∀k,co P k=cv (co L) (co g) k)(eT:∀k,T k=cv t (co g) k)(ht:Fs t (L.length-1))(hI:I2 P T (co g))(hl:L.length<=13){u:Nat}(hu:∀k,Bd u (co L k))(hv:∀k,Bd u (t k)):∃N,lA P T g N/\Bd (25*(u+26)) N:=by
 have hp:=hL.pos;obtain⟨l,el⟩:∃l,L.length=l+1:={L.length-1,⋯};rw[el,ji]at ht;have fL:Fs (co L) (l+1):=by rw[<-el];exact Fs.co L
 obtain⟨s,hs⟩:∃s,s=24*(u+26)+1:={()};obtain⟨x,⟨j,hj,hx⟩,bx,hz⟩:=aJ8 (n:=l+1+l) (m:=2*l) (λi j=>if j<l+1 then(if j<=i+1 then co L (i+1-j)else 0)else if j-(l+1)<=i+1 then t (i+1-(j-(l+1)))else 0) s (u+s+25) (λi hi x hx=>by
  refine(zp (c:=u+s) _ λj _=>Bd.mul ?_ (show Bd s (x j:Int)from hx j)).mono ⋯;split
  .split
   .exact hu _
   .exact Bd.zero _
  .split
   .exact hv _
   .exact Bd.zero _) (by
  have:s*(2*l+1)=s*(2*l)+s:=EY ..;have e2:(u+s+25+1)*(2*l)=(u+26)*(2*l)+s*(2*l):=by rw[<-QW];congr 1;lia
  have h3:(u+26)*(2*l)<=(u+26)*24:=pU _ ⋯;rw[(⋯:l+1+l=2*l+1),e2,this];lia)
 obtain⟨U,hU⟩:∃U:Nat->Int,U=λk=>if k<l+1 then x k else 0:={()};obtain⟨V,hV⟩:∃V:Nat->Int,V=λk=>if k<l then x (l+1+k)else 0:={()};have fU:Fs U (l+1):=λk hk=>by rw[hU];exact if_neg ⋯
 have fV:Fs V l:=λk hk=>by rw[hV];exact if_neg ⋯
 have bz:∀k,k≠0->cv U (co L) k+cv V t k=0:=λk hk=>by
  by_cases c:k<=2*l
  .have:=hz (k-1) ⋯;rw[amT,(⋯:k-1+1=k)]at this;rw[aj9 fU,aj9 fV];refine Qa (congr (congrArg _ (iY λj hj=>?_)) (iY λj hj=>?_)) this
   .rw[hU];show _*(if j<l+1 then x j else 0)=_;rw[if_pos hj,if_pos hj]
   .rw[hV];show _*(if j<l then x (l+1+j)else 0)=_;rw[if_pos hj,if_neg (⋯:¬l+1+j<l+1),(⋯:l+1+j-(l+1)=j)]
  .rw[fU.cv1 fL ⋯,fV.cv1 ht ⋯];rfl
 obtain⟨N,hN⟩:∃N,N=cv U (co L) 0+cv V t 0:={()};have bez:∀k,cv U (co L) k+cv V t k=if k=0 then N else 0:=λk=>by
  by_cases c:k=0
  .rw[if_pos c,c,hN]
  .rw[if_neg c,bz k c]
 refine{N,{hg,λz=>?_,{co L,_,Fs.co L,λk=>congrArg _ (eP k)},{t,_,ht,λk=>congrArg _ (eT k)},U,V,l+1,fU,fV.mono ⋯,λk=>?_},?_}
 .intros N0 A B n Oe hA hB e hI;have b0:∀k,cv A (co L) k+cv B t k=if k=0 then N0 else 0:=λk=>by
   have:=ay3 (b:=0) hg (f:=λk=>cv A (co L) k+cv B t k) (g:=λk=>if k=0 then N0 else 0) (((hA.cv fL).mono (n:=n+(l+1)) ⋯).add ((hB.cv ht).mono ⋯)) (λk (hk:1<=k)=>if_neg ⋯) (λk=>by
    rw[mD,lG,lG,wH,if_pos (dW _),vD,e k];exact congrArg _ (congr (congrArg _ (oZ (λ_ _=>rfl) λi _=>(eP i).symm)) (oZ (λ_ _=>rfl) λi _=>(eT i).symm))) k
   rwa [eX,eX]at this
  have d0:Dv 0 L λk=>N0*V k:={λk=>cv A V k + -1*cv B U k,n+(l+1),((hA.cv fV).mono ⋯).add (((hB.cv fU).mul _)),λk=>congrArg _ ?_}
  .have v0:=(Tf hL Oe fV d0).short hL (by rw[el];exact fV);have u0:=WY (b:=0) hL fU λk _=>by
    have:=bez k;rw[z,ite_self,mH (f:=V) λi _=> .inl (by have:=v0 i;rwa [eX]at this),gj]at this;rw[this];rfl
   have QC:=v0 (j-(l+1));have u0':=u0 j;rw[eX]at QC u0';rw[hV]at QC;rw[hU]at u0';by_cases c:j<l+1
   .exact hx (by simpa[c]using u0')
   .refine hx ?_;have:(if j-(l+1)<l then x (l+1+(j-(l+1)))else 0)=0:=QC
    rwa [if_pos ⋯,(⋯:l+1+(j-(l+1))=j)]at this
  .have e1:N0*V k=cv (λk=>cv A (co L) k+cv B t k) V k:=by
    rw[show(λk=>cv A (co L) k+cv B t k)=λk=>if k=0 then N0 else 0 from funext b0,wH,if_pos (dW _),vD]
   have e2:cv B (cv V t) k=-1*cv B (cv U (co L)) k:=by
    rw[mC B (cv U _),<-kJ,mC];refine oZ (λi _=>?_) λ_ _=>rfl;have:=bez i;rw[z,ite_self]at this;lia
   show N0*V k=_;rw[e1,mD,mD,kJ,lG,lG,lG,lG,<-e2];exact congr (congrArg _ (oZ (λ_ _=>rfl) λi _=>mC ..)) (oZ (λ_ _=>rfl) λi _=>mC ..)
 .have e1:N*co g k=cv (λk=>cv U (co L) k+cv V t k) (co g) k:=by
   rw[show(λk=>cv U (co L) k+cv V t k)=λk=>if k=0 then N else 0 from funext bez,wH,if_pos (dW _),vD]
  rw[e1,mD,lG,lG];exact congr (congrArg _ (oZ (λ_ _=>rfl) λi _=>(eP i).symm)) (oZ (λ_ _=>rfl) λi _=>(eT i).symm)
 .have bU:Bd s (U 0):=by rw[hU];show Bd s (if 0<l+1 then x 0 else 0);rw[if_pos ⋯];exact bx _
  have bV:Bd s (V 0):=by
   rw[hV];show Bd s (if 0<l then x (l+1+0)else 0);split
   .exact bx _
   .exact Bd.zero _
  rw[hN,cv,cv];exact((bU.mul (hu 0)).add (bV.mul (hv 0))).mono ⋯
def lA.dv{b:Int}(h:lA P T g N)(h1:Dv b s (co P))(h2:Dv b s T):Dv b s λk=>N*co g k:=by
 intros A B n hA hB e h.sum;exact((h1.mul hA).add (h2.mul hB)).congr λk=>by rw[e]
def lA.all(h:lA P T g N)(hs:Mon s)(h1:Dv 0 s (co P))(h2:Dv 0 s T):Dv 0 s (co g):=Tf hs h.ne (Fs.co g) (h.dv h1 h2)
def lA.good(h:lA P T g N){p:Nat}(hN:¬(p:Int)∣N)(hs:Mon s)(h1:Dv p s (co P))(h2:Dv p s T):s.length<=g.length:=aoc λz=>hN (by
 have:=(h.dv h1 h2).short hs (λk hk=>by show N*co g k=0;rw[cB ⋯,fB]) (g.length-1);rw[h.mon.one,jG]at this;exact ahc.mp this)
end
end Pm
namespace Pm
open Rm
section
variable {p prime bad good:Nat}{b N M:Int}{g P t s:List Int}{ripe:Bool}
def aPu{p:Int}(hp:p≠0){x y:Int}:tk p x=tk p y↔p∣x-y:=by
 rw[<-BH,ahc]
def OB(hp:Om.cF p):tk (p:Int) 1=1:=by
 have:=hp.1;rw[oB ⋯];exact Ss ∅ ⋯
def Dv.same{m p:List Int}(hm:Mon m)(hp:Mon p)(h:Dv b m (co p))(hl:m.length=p.length)(k:Nat):tk b (co p k)=tk b (co m k):=
 BH.mp ((h.sub ({_,1,Zx,λk=>by rw[XO]}:Dv b m (co m))).short hm (λk hk=>by
  show co p k-co m k=0;by_cases c:k=m.length-1
  .rw[c,hm.one,hl,hp.one];rfl
  .rw[cB ⋯,cB ⋯];rfl) k)
structure Seen(g:List Int)(N:Int)(p:Nat)(s:List Int):Prop where
 mon:Mon s
 nu:∀k,tk (p:Int) (co s k)=co s k
 ge:g.length<=s.length
 eq:s.length=g.length->∀k,(p:Int)∣co s k-co g k
 good:¬(p:Int)∣N->s.length=g.length
def dD.to{p q:List Int}(h:dD b g [] p)(e:∀k,tk b (co p k)=tk b (co q k)):Dv b g (co q):=by
 intros u h h.dv;exact{co u,u.length,Fs.co u,λk=>by rw[<-e,h]}
def lA.seen(h:lA P (co t) g N){p:Nat}(hp:Om.cF p){P' t' s:List Int}(eP:∀k,tk (p:Int) (co P' k)=tk p (co P k))(et:∀k,tk (p:Int) (co t' k)=tk p (co t k))(hs:Gcd p P' t' s):Seen g N p s:=by
 have h2:=hp.1;have h1:=OB hp;have d1:Dv p s (co P):=hs.one.to eP;have d2:Dv p s (co t):=hs.two.to et;have d3:Dv p g (co s):=by
  intros u v e hs.sum;refine((((h.one.by (b:=p))).mul (Fs.co u)).add ((h.two.by (b:=p)).mul (Fs.co v))).congr λk=>?_;rw[e];exact tY (yw (λ_ _=>rfl) λi _=>(eP i).symm) (yw (λ_ _=>rfl) λi _=>(et i).symm)
 have hge:=d3.len h1 h.mon hs.mon;exact{hs.mon,hs.py.co,hge,λe k=>(aPu ⋯).mp (d3.same h.mon hs.mon e.symm k),λz=>by
  have:=h.good z hs.mon d1 d2;lia}
def lA.told{h:List Int}(H:lA P (co t) g N)(hh:Mon h)(h1:Dv 0 h (co P))(h2:Dv 0 h (co t))(hl:g.length<=h.length):h=g:=by
 have d:=H.all hh h1 h2;have:=d.len rfl hh H.mon;exact Ec ⋯ λk=>by have:=d.same hh H.mon ⋯ k;rw[eX,eX]at this;exact this.symm
def nr(M x:Int):Int:=if 2*(x%M)>M then x%M-M else x%M
def Nr(M x:Int):Prop:=-M<2*x/\2*x<=M
def K5(M x:Int):M∣nr M x-x:=by
 have e:=Int.emod_add_mul_ediv x M;unfold nr;split
 .exact{-(x/M)-1,by rw[GD,ZS];lia}
 .exact{-(x/M),by rw[ZS];lia}
def Uq(hM:0<M)(x:Int):Nr M (nr M x):=by
 have h0:=qF x (⋯:M≠0);have h1:=qI x hM;unfold nr Nr;split<;>lia
def Nr.eq{x y:Int}(hM:0<M)(hx:Nr M x)(hy:Nr M y)(h:M∣x-y):x=y:=by
 intros c hc h;unfold Nr at hx hy;by_cases c0:c=0
 .rw[c0,fB]at hc;lia
 .exfalso
  rcases Int.lt_or_gt_of_ne c0 with l|l
  .have:M*c<=M*(-1):=WT ⋯ ⋯;lia
  .have:M*1<=M*c:=WT ⋯ ⋯;lia
def ayD(hM:2<=M){x:Int}(h:M∣x-1):nr M x=1:=Nr.eq (M:=M) ⋯ (Uq ⋯ x) (by unfold Nr;lia) (by
 have:=uM (K5 M x) h
 rwa [(⋯:nr M x-x+(x-1)=nr M x-1)]at this)
def Xq(hp:Om.cF p)(hM:¬(p:Int)∣M){x:Int}(h1:M∣x)(h2:(p:Int)∣x):M*p∣x:=by
 intros y rfl h1;rcases W3 hp h2 with z|⟨e,he⟩
 .exact absurd z hM
 .exact{e,by rw[he,iU]}
structure kZ(P g:List Int)(N:Int)(told:List Int)(M:Int)(prime:Nat)(ripe:Bool)(bad good:Nat):Prop where
 mon:Mon told
 ge:g.length<=told.length
 le:told.length<=P.length
 pos:0<M
 div:∀q:Nat,Om.cF q->(q:Int)∣M->q<=prime
 aak:told.length=g.length->∀k,M∣co told k-co g k
 near:M≠1->∀k,Nr M (co told k)
 zU:∃X:Nat,(X:Int)∣N/\2^(19*bad)<=X/\∀q:Nat,Om.cF q->q∣X->q<=prime
 EJ:0<good->told.length=g.length/\2^(19*good)<=M
 anO:2<=good->(∀k,2*(co g k).natAbs<2^(19*(good-1)))->ripe=true/\told=g
 hi:M<=2^(22*(bad+good))
 first:M=1->told=P
def kZ.start(hP:Mon P)(hl:g.length<=P.length)(prime:Nat):kZ P g N P 1 prime true 0 0:=
 {hP,hl,bO _,∅,λq hq h=>by
  have:=hq.1;have h3:=Int.le_of_dvd ∅ h;lia,λ_ k=>{_,(wu _).symm},λh=>absurd rfl h,{1,{N,(wu N).symm},∅,λq hq h=>by
  have:=hq.1;have h3:=wL ∅ h;lia},λh=>absurd h ∅,λh=>absurd h ∅,∅,λ_=>rfl}
def UQ(hp:Om.cF p)(hlt:prime<p)(hbig:2^19<=p)(hN:(p:Int)∣N)(h:∃X:Nat,(X:Int)∣N/\2^(19*bad)<=X/\∀q:Nat,Om.cF q->q∣X->q<=prime):
  ∃X:Nat,(X:Int)∣N/\2^(19*(bad+1))<=X/\∀q:Nat,Om.cF q->q∣X->q<=p:=by
 intros X h1 h2 h3 h;refine{X*p,?_,?_,λq hq hd=>?_}
 .have:=Xq (M:=(X:Int)) hp (λz=>by have:=h3 p hp (C6.mp z);lia) h1 hN
  rwa [sX]
 .rw[yx,tO];exact tW h2 hbig
 .rcases hq.dvd hd with z|z
  .have:=h3 q hq z;lia
  .exact wL ⋯ z
def kZ.stay{told:List Int}(h:kZ P g N told M prime ripe bad good)(hp:Om.cF p)(hlt:prime<p)(hbig:2^19<=p)(hs:Seen g N p s)(hl:told.length<s.length):kZ P g N told M p ripe (bad+1) good:=by
 have hN:(p:Int)∣N:=xQ λz=>by have:=hs.good z;have:=h.ge;lia
 exact{h.mon,h.ge,h.le,h.pos,λq hq hd=>by have:=h.div q hq hd;lia,h.aak,h.near,UQ hp hlt hbig hN h.zU,h.EJ,h.anO,TN h.hi (by
  have:(2:Nat)^(22*(bad+good))<=2^(22*(bad+1+good)):=qW ∅ ⋯
  exact_mod_cast this),h.first}
def kZ.anew{told:List Int}(h:kZ P g N told M prime ripe bad good)(hp:Om.cF p)(hlt:prime<p)(hbig:2^19<=p)(hhi:p<=2^22)(hs:Seen g N p s)(hl:s.length<told.length):
  ∃qH qQ,qH+qQ=bad+good+1/\kZ P g N (s.map (nr p)) p p true qH qQ:=by
 have hp2:=hp.1;have hg0:good=0:=by
  by_cases c:good=0
  .exact c
  .have:=(h.EJ ⋯).1;have:=hs.ge;lia
 have hle:=h.le;have hsp:=hs.mon.pos;have hpp:(2:Int)<=p:=⋯;have hc:∀k,co (s.map (nr p)) k=nr p (co s k):=λk=>Nf (by unfold nr;rw[Int.zero_emod];split<;>lia) s k;have hm:Mon (s.map (nr p)):={by rw[aC];exact hsp,by rw[aC,hc,hs.mon.one];exact ayD hpp {0,by rw[fB];rfl}};have Bo:(s.map (nr p)).length=g.length->∀k,(p:Int)∣co (s.map (nr p)) k-co g k:=λe k=>by
  rw[hc];have:=uM (K5 p (co s k)) (hs.eq (by rwa [aC]at e) k)
  rwa [(⋯:nr p (co s k)-co s k+(co s k-co g k)=nr p (co s k)-co g k)]at this
 have hnear:(p:Int)≠1->∀k,Nr p (co (s.map (nr p)) k):=λ_ k=>by rw[hc];exact Uq ⋯ _
 have hdiv:∀q:Nat,Om.cF q->(q:Int)∣p->q<=p:=λq _ hd=>wL ⋯ (C6.mp hd);by_cases c:s.length=g.length
 .refine{bad,1,⋯,hm,by rw[aC];exact hs.ge,by rw[aC];lia,⋯,hdiv,Bo,hnear,?_,λ_=>{by rw[aC];exact c,by exact_mod_cast hbig},λz=>absurd z ∅,?_,λz=>⋯}
  .intros X h1 h2 h3 h.zU;exact{X,h1,h2,λq hq hd=>by have:=h3 q hq hd;lia}
  .have:(2:Nat)^22<=2^(22*(bad+1)):=qW ∅ ⋯
   exact_mod_cast cT hhi this
 .have hN:(p:Int)∣N:=xQ λz=>c (hs.good z);refine{bad+1,0,⋯,hm,by rw[aC];exact hs.ge,by rw[aC];lia,⋯,hdiv,Bo,hnear,UQ hp hlt hbig hN h.zU,λz=>absurd z ∅,λz=>absurd z ∅,?_,λz=>⋯};have:(2:Nat)^22<=2^(22*(bad+1+0)):=qW ∅ ⋯
  exact_mod_cast cT hhi this
def kZ.join{told jz:List Int}{Xc:Bool}(h:kZ P g N told M prime ripe bad good)(hp:Om.cF p)(hlt:prime<p)(hbig:2^19<=p)(hhi:p<=2^22)(hs:Seen g N p s)(hl:s.length=told.length)
  (hl':jz.length=told.length) (ht:∀k,k<told.length->∃w:Int,(p:Int)∣M*w-(co s k-co told k)/\co jz k=nr (M*p) (co told k+M*w)) (hr:Xc=true↔jz=told):
  ∃qH qQ,qH+qQ=bad+good+1/\kZ P g N jz (M*p) p Xc qH qQ:=by
 have hp2:=hp.1;have hM:=h.pos;have xM:¬(p:Int)∣M:=λz=>by have:=h.div p hp z;lia
 have hpp:(2:Int)<=p:=⋯;have Y0:(2:Int)<=M*p:=by
  have:1*(2:Int)<=M*p:=QK ⋯ hpp ∅ ⋯;lia
 have hle:=h.le;have hge:=h.ge;have htp:=h.mon.pos;have a1:∀k,M∣co jz k-co told k:=λk=>by
  by_cases c:k<told.length
  .obtain⟨w,_,e⟩:=ht k c;rw[e];have e1:M∣nr (M*p) (co told k+M*w)-(co told k+M*w):=Em (Jo M p) (K5 _ _);have e2:M∣M*w:=Jo ..;have:=uM e1 e2
   rwa [(⋯:nr (M * ↑p) (co told k+M*w)-(co told k+M*w)+M*w=nr (M * ↑p) (co told k+M*w)-co told k)]at this
  .rw[cB ⋯,cB ⋯];exact{0,by rw[fB];rfl}
 have a2:∀k,(p:Int)∣co jz k-co s k:=λk=>by
  by_cases c:k<told.length
  .obtain⟨w,h1,e⟩:=ht k c;rw[e];have e1:(p:Int)∣nr (M*p) (co told k+M*w)-(co told k+M*w):=Em (aeG M p) (K5 _ _);have:=uM e1 h1
   rwa [(⋯:nr (M * ↑p) (co told k+M*w)-(co told k+M*w)+(M*w-(co s k-co told k))=nr (M * ↑p) (co told k+M*w)-co s k)]at this
  .rw[cB ⋯,cB ⋯];exact{0,by rw[fB];rfl}
 have hnear:M*p≠1->∀k,Nr (M*p) (co jz k):=λ_ k=>by
  by_cases c:k<told.length
  .obtain⟨w,_,e⟩:=ht k c;rw[e];exact Uq ⋯ _
  .rw[cB ⋯];unfold Nr;lia
 have atk:co jz (jz.length-1)=1:=by
  rw[hl'];refine Nr.eq (M:=M*p) ⋯ (hnear ⋯ _) (by unfold Nr;lia) (Xq hp xM ?_ ?_)
  .have:=a1 (told.length-1)
   rwa [h.mon.one]at this
  .have:=a2 (told.length-1);have e:=hs.mon.one;rw[hl]at e
   rwa [e]at this
 have hm:Mon jz:={⋯,atk};have hdiv:∀q:Nat,Om.cF q->(q:Int)∣M*p->q<=p:=λq hq hd=>by
  rcases W3 hq hd with z|z
  .have:=h.div q hq z;lia
  .exact wL ⋯ (C6.mp z)
 have Bo:jz.length=g.length->∀k,M*p∣co jz k-co g k:=λe k=>by
  refine Xq hp xM ?_ ?_
  .have:=uM (a1 k) (h.aak ⋯ k)
   rwa [(⋯:co jz k-co told k+(co told k-co g k)=co jz k-co g k)]at this
  .have:=uM (a2 k) (hs.eq ⋯ k)
   rwa [(⋯:co jz k-co s k+(co s k-co g k)=co jz k-co g k)]at this
 have hhi':∀x,x=bad+good+1->M*p<=2^(22*x):=λx hx=>by
  rw[hx,(⋯:22*(bad+good+1)=22*(bad+good)+22),Int.pow_add];exact QK h.hi (by exact_mod_cast hhi) ⋯ (Int.le_of_lt (Int.pow_pos ∅))
 by_cases c:s.length=g.length
 .refine{bad,good+1,⋯,hm,⋯,⋯,⋯,hdiv,Bo,hnear,?_,λ_=>{⋯,?_},λh2 hb=>?_,hhi' _ ⋯,λz=>⋯}
  .intros X h1 h2 h3 h.zU;exact{X,h1,h2,λq hq hd=>by have:=h3 q hq hd;lia}
  .rw[(⋯:19*(good+1)=19*good+19),Int.pow_add];refine QK ?_ (by exact_mod_cast hbig) ∅ ⋯;by_cases c0:good=0
   .rw[c0];show(1:Int)<=M;lia
   .exact(h.EJ ⋯).2
  .rw[ji]at hb;have hgo:=h.EJ ⋯;have hM1:M≠1:=λz=>by
    rw[z]at hgo;have h3:=hgo.2;have:(2:Int)^(19*1)<=2^(19*good):=by exact_mod_cast qW (n:=2) ∅ (⋯:19*1<=19*good)
    have:(2:Int)^(19*1)=524288:=∅;lia
   have gn:∀k,Nr M (co g k):=λk=>by
    have h3:=hb k;have h4:=hgo.2;have h5:((2*(co g k).natAbs:Nat):Int)<M:=Int.lt_of_lt_of_le (by exact_mod_cast h3) h4;unfold Nr;lia
   have et:told=g:=Ec hgo.1 λk=>(h.near hM1 k).eq hM (gn k) (h.aak hgo.1 k);have gn':∀k,Nr (M*p) (co g k):=λk=>by
    have h3:=gn k;unfold Nr at h3⊢;have:M*1<=M*p:=WT ⋯ ⋯;lia
   have et':jz=g:=Ec ⋯ λk=>(hnear ⋯ k).eq ⋯ (gn' k) (Bo ⋯ k);exact{hr.mpr (by rw[et',et]),et'}
 .have hN:(p:Int)∣N:=xQ λz=>c (hs.good z);have hg0:good=0:=by
   by_cases c0:good=0
   .exact c0
   .have:=(h.EJ ⋯).1;lia
  subst hg0;exact{bad+1,0,⋯,hm,⋯,⋯,⋯,hdiv,Bo,hnear,UQ hp hlt hbig hN h.zU,λz=>absurd z ∅,λz=>absurd z ∅,hhi' _ ⋯,λz=>⋯}
def kZ.few{told:List Int}{U V:Nat}(h:kZ P g N told M prime ripe bad good)(hN:N≠0)(hV:Bd V N)(hU:∀k,Bd U (co g k))(hne:¬(ripe=true/\told=g)):19*(bad+good)<=V+U+38:=by
 intros X h1 h2 _ h.zU;have b1:19*bad<=V:=by
  have h3:=wL ⋯ (HM.mp h1);have h4:2^(19*bad)<2^V:=A9 (cT h2 h3) hV;have:=(agE (∅:1<2)).mp h4;lia
 have b2:19*good<=U+38:=by
  by_cases c:2<=good
  .by_cases d:∀k,2*(co g k).natAbs<2^(19*(good-1))
   .exact absurd (h.anO c d) hne
   .obtain⟨k,hk⟩:=MX.mp d;have h3:(co g k).natAbs<2^U:=hU k;have h4:2^(19*(good-1))<2^(U+1):=by rw[lZ];lia
    have:=(agE (∅:1<2)).mp h4;lia
  .lia
 lia
structure Gc(b:Int)(P t g:List Int):Prop where
 mon:Mon g
 nu:∀k,tk b (co g k)=co g k
 one:Dv b g (co P)
 two:Dv b g (co t)
 all:∀h:List Int,Mon h->Dv b h (co P)->Dv b h (co t)->Dv b h (co g)
def lA.gc(h:lA P (co t) g N):Gc 0 P t g:={h.mon,λ_=>eX _,h.one,h.two,λ_=>h.all}
def dD.to'{p:List Int}(h:dD b g [] p):Dv b g (co p):=by
 intros u e h.dv;exact{co u,u.length,Fs.co u,e}
def Gcd.gc(h:Gcd b P t g):Gc b P t g:=by
 refine{h.mon,λk=>?_,h.one.to',h.two.to',λd _ h1 h2=>?_}
 .by_cases c:k<g.length
  .exact h.py.nu _ (Vs c)
  .rw[cB ⋯,tk0]
 .intros u v e h.sum;refine Dv.congr (λk=>(e k).symm) (Dv.add (Dv.mul (Fs.co u) h1) (Dv.mul (Fs.co v) h2))
def Gc.uniq(h1:tk b 1=1){P t g g':List Int}(h:Gc b P t g)(h':Gc b P t g'):g=g':=by
 have d1:=h'.all g h.mon h.one h.two;have d2:=h.all g' h'.mon h'.one h'.two;have l1:=d1.len h1 h.mon h'.mon;have l2:=d2.len h1 h'.mon h.mon;refine Ec ⋯ λk=>?_;rw[<-h.nu k,<-h'.nu k];exact(d1.same h.mon h'.mon ⋯ k).symm
end
end Pm
namespace Pm
open Rm
def ev(p:List Int)(x:Int):Int:=sm p.length λk=>co p k*x^k
def wz{p:List Int}{n:Nat}(h:p.length<=n)(x:Int):sm n (λk=>co p k*x^k)=ev p x:=
 qD h λk h1 _=>by rw[cB h1,ju]
def MK(x:Int):ev [] x=0:=rfl
def Xm(c x:Int):ev [c] x=c:=by
 show 0+co [c] 0*x^0=c;rw[jk,LV,jG,ig]
abbrev lin(r:Int):List Int:=[0-r,1]
def aEy(r:Int):Mon (lin r):={by show 0<2;decide,rfl}
def alP(f:Nat->Int)(r:Int):∀k,cv f (co (lin r)) k=(if k=0 then 0 else f (k-1))-r*f k:=λk=>by
 rw[gk];cases k with
 |zero=>
  show 0+f 0*co (lin r) 0=_;rw[if_pos rfl,jk,ig,GD,fB,iT]
 |succ k=>
  rw[if_neg (apY _),ji];rw[sm,CY,sm,(⋯:k+1-k=1)];rw[QZ λj hj=>by rw[cB (p:=lin r) (⋯:2<=k+1-j),fB]];rw[jk,qL,jk,jG,ig,GD,fB,Kr,iT (f (k+1))];rfl
def ahe(f:Nat->Int)(x:Int):∀n,sm (n+1) (λk=>(if k=0 then 0 else f (k-1))*x^k)=x*sm n λk=>f k*x^k:=λn=>by
 rw[Kg,if_pos rfl,ju,ig,<-Ba];refine iY λk _=>?_;rw[if_neg (apY _),ji,qg,iT (x^k) x,<-iU,<-iU,iT (f k) x]
theorem Div.ev{p q l:List Int}{r:Int}(h:Div 0 p (lin r) q l)(x:Int):Pm.ev p x=(x-r)*Pm.ev q x+Pm.ev l x:=by
 obtain⟨n,h1,h2,h3⟩:∃n,p.length<=n+1/\q.length<=n/\l.length<=n+1:={p.length+q.length+l.length,⋯,⋯,⋯};rw[<-wz h1 x,<-wz h2 x,<-wz h3 x];have e:∀k,co p k=(if k=0 then 0 else co q (k-1))-r*co q k+co l k:=λk=>by
  have:=h.eq k;rw[eX,eX,alP]at this;exact this.symm
 rw[iY (g:=λk=>(if k=0 then 0 else co q (k-1))*x^k+(-r*(co q k*x^k)+co l k*x^k)) λk _=>?_,BJ,BJ,ahe,Ba]
 .have e2:sm (n+1) (λk=>co q k*x^k)=sm n λk=>co q k*x^k:=by
   rw[sm,cB h2,ju,gj]
  rw[e2,Qz,Od];lia
 .rw[e k,M5,Qz,Od,iU];lia
def Div.root{p q l:List Int}{r:Int}(h:Div 0 p (lin r) q l):l=[]↔Pm.ev p r=0:=by
 have e:=h.ev r;rw[LX,ju,ig]at e;have hs:l.length<2:=h.short
 match l,hs,h.ry with
 |[],_,_=>exact{λ_=>by rw[e,MK],λ_=>rfl}
 |[c],_,hr=>
  rw[Xm]at e;constructor
  .intro z;cases z
  .intro z;rw[e]at z
   exfalso
   have:=hr.tr;rw[z]at this;simp[trim]at this
end Pm
namespace Pm
open Rm
def Ky{n:Nat}{x:Int}(h:Bd n x):Bd n (-x):=by unfold Bd at h ⊢;rw[UJ];exact h
def aLl(a:Int)(p:List Int)(x:Int):ev (a::p) x=a+x*ev p x:=by
 rw[<-wz (p:=a::p) (n:=p.length+1) (bO _) x,Kg,jk,LV,jG,<-wz (p:=p) (bO _) x,<-Ba];congr 1;refine iY λk _=>?_;rw[qL,qg,iT (x^k) x,<-iU,<-iU,iT (co p k) x]
theorem amr(x:Int)(g:List Int):∀(L P:List Int),(∀k,co P k=cv (co L) (co g) k)->ev P x=ev L x*ev g x
 |[],P,h=>by
  rw[MK,ju];unfold ev;exact QZ λk _=>by rw[h,mH (λi _=> .inl (jd i)),ju]
 |a::L,P,h=>by
  obtain⟨Q,hQ⟩:∃Q:List Int,∀k,co Q k=cv (co L) (co g) k:=ahg ((Fs.co L).cv (Fs.co g));have ih:=amr x g L Q hQ;obtain⟨n,h1,h2,h3⟩:∃n,P.length<=n+1/\Q.length<=n/\g.length<=n+1:={P.length+Q.length+g.length,⋯,⋯,⋯};have e:∀k,co P k=a*co g k+(if k=0 then 0 else co Q (k-1)):=λk=>by
   rw[h,aEV];split
   .rfl
   .rw[hQ]
  rw[aLl,<-wz h1 x,iY (g:=λk=>a*(co g k*x^k)+(if k=0 then 0 else co Q (k-1))*x^k) λk _=>by rw[e k,M5,iU],BJ,Ba,ahe,wz h3,wz h2,ih,M5,iU]
def acK(p:List Int)(r:Int):∃q l,Div 0 p (lin r) q l/\(∀k,co p k=(if k=0 then 0 else co q (k-1))-r*co q k+co l k)/\q.length<=p.length-1:=by
 obtain⟨q,l,h⟩:=abP (b:=0) (aEy r) (p:=p) λk=>eX _;have e:∀k,co p k=(if k=0 then 0 else co q (k-1))-r*co q k+co l k:=λk=>by
  have:=h.eq k;rw[eX,eX,alP]at this;exact this.symm
 have hs:l.length<2:=h.short;exists q,l,h,e;by_cases hq:q=[]
 .rw[hq];exact dW _
 .have h0:=Mj hq h.qy.tr;have hp:0<q.length:=tD.mpr hq;have h1:=e q.length;rw[if_neg ⋯,cB (p:=q) (bO _),fB,cB (p:=l) ⋯,zK,gj]at h1;have:=Qd (p:=p) (k:=q.length) (by rw[h1];exact h0);lia
theorem aqE:∀(m:Nat) (L:List Int),Mon L->L.length=m+1->∀xs:List Int,xs.Nodup->(∀x∈xs,ev L x=0)->xs.length<=m
 |_,_,_,_,[],_,_=>dW _
 |0,L,hL,hl,r::ys,_,hr=>by
  exfalso
  have e:L=[1]:=Ec (q:=[1]) hl λk=>by
   cases k with
   |zero=>have:=hL.one;rw[hl]at this;exact this
   |succ k=>rw[cB ⋯,cB (by show 1<=k+1;lia)]
  have:=hr r (fX ..);rw[e,Xm]at this;exact absurd this ∅
 |m+1,L,hL,hl,r::ys,hn,hr=>by
  obtain⟨q,l,h,e,lq⟩:=acK L r;have h0:=hr r (fX ..);have l0:=h.root.mpr h0;subst l0;have hm:co q m=1:=by
   have h1:=e (m+1);rw[if_neg ⋯,ji,cB (p:=q) (⋯:q.length<=m+1),fB,jd,zK,gj]at h1;have h2:=hL.one;rw[hl,ji,h1]at h2;exact h2
  have hlq:q.length=m+1:=by
   have:=Qd (p:=q) (k:=m) (by rw[hm];decide);lia
  obtain⟨hn1,hn2⟩:=yg.mp hn;have:=aqE m q {⋯,by rw[hlq,ji];exact hm} hlq ys hn2 λy hy=>by
   have h1:=h.ev y;rw[hr y (eN _ hy),MK,gj]at h1;rcases Mr.mp h1.symm with z|z
   .exact absurd (⋯:y=r) (λz=>hn1 (z▸hy))
   .exact z
  rw[kO];lia
def aq2{M:Nat}{x y:Int}(hx:x≠0)(h:Bd M (x*y)):Bd M y:=by
 unfold Bd at h⊢;rw[yN]at h;have h1:1<=x.natAbs:=⋯;have:1*y.natAbs<=x.natAbs*y.natAbs:=qp _ h1;lia
theorem akX{e:Nat}:∀(d:Nat) (g:List Int) (M:Nat),g.length<=d->∀xs:List Int,xs.Nodup->d<=xs.length->(∀x∈xs,Bd e x)->(∀x∈xs,Bd M (ev g x))->∀k,Bd (M+d*(e+3)) (co g k)
 |0,g,_,hl,_,_,_,_,_,k=>by rw[cB ⋯];exact Bd.zero _
 |d+1,_,_,_,[],_,hd,_,_,_=>absurd hd (by show ¬d+1<=0;lia)
 |d+1,g,M,hl,r::ys,hn,hd,hx,hv,k=>by
  obtain⟨q,l,h,eq,lq⟩:=acK g r;obtain⟨hn1,hn2⟩:=yg.mp hn;have hl2:l.length<2:=h.short;have er:ev l r=ev g r:=by rw[h.ev r,LX,ju,ig]
  have el:∀x,ev l x=co l 0:=λx=>by
   match l,hl2 with
   |[],_=>rw[MK,jd]
   |[c],_=>rw[Xm,jk]
  have c0:co l 0=ev g r:=by rw[<-el r,er]
  have hr:=hv r (fX ..);have ih:=akX (e:=e) d q (M+1) ⋯ ys hn2 (by rw[kO]at hd;lia) (λx h=>hx x (eN _ h)) λy hy=>by
   refine aq2 (x:=y-r) (λz=>hn1 ((⋯:y=r)▸hy)) ?_;have h1:=h.ev y;rw[el y,c0]at h1;rw[(⋯:(y-r)*ev q y=ev g y + -(ev g r))];exact(hv y (eN _ hy)).add (Ky hr)
  have b1:Bd (e+(M+1+d*(e+3))) (if k=0 then 0 else co q (k-1)):=by
   split
   .exact Bd.zero _
   .exact(ih _).mono ⋯
  have b2:=Ky ((hx r (fX ..)).mul (ih k));have b3:Bd (e+(M+1+d*(e+3))+1) (co l k):=by
   cases k with
   |zero=>rw[c0];exact hr.mono ⋯
   |succ k=>rw[cB ⋯];exact Bd.zero _
  have b4:=(b1.add b2).add b3;have e1:(d+1)*(e+3)=d*(e+3)+(e+3):=oW ..;rw[eq k,amf];exact b4.mono ⋯
def asH{P:List Int}{x:Int}{u e:Nat}(hu:∀k,Bd u (co P k))(hx:Bd e x):Bd (u+P.length*(e+1)+P.length) (ev P x):=by
 have hp:∀k,Bd (k*e+1) (x^k):=λk=>by
  induction k with
  |zero=>rw[LV];exact(Bd.of (n:=1) ∅ ∅).mono ⋯
  |succ k ih=>
   have e1:(k+1)*e=k*e+e:=oW ..;rw[qg];exact(ih.mul hx).mono ⋯
 unfold ev;refine(zp (c:=u+P.length*(e+1)) P.length λk hk=>((hu k).mul (hp k)).mono ?_).mono ⋯;have h1:(k+1)*(e+1)<=P.length*(e+1):=qp _ ⋯;have h2:(k+1)*(e+1)=k*(e+1)+(e+1):=oW ..;have h3:k*(e+1)=k*e+k:=EY ..;lia
theorem adw(p:Int->Bool):∀xs:List Int,xs.length=(xs.filter p).length+(xs.filter λx=>!p x).length
 |[]=>rfl
 |x::xs=>by
  have:=adw p xs;cases h:p x
  .rw[aj1 (by rw[h];decide),ad9 (by rw[h];rfl),kO,kO];lia
  .rw[ad9 h,aj1 (by rw[h];decide),kO,kO];lia
def LN{P L g:List Int}(hL:Mon L)(he:∀k,co P k=cv (co L) (co g) k)(hP:P.length<=13)(hg:g.length<=13)(hl:L.length+g.length<=14){u:Nat}(hu:∀k,Bd u (co P k))(k:Nat):Bd (u+169) (co g k):=by
 obtain⟨xs,hxs⟩:∃xs:List Int,xs=(kj 13).map Int.ofNat:={()};have nd:xs.Nodup:=by rw[hxs];decide +kernel
 have ln:xs.length=13:=by rw[hxs];rfl
 have bx:∀x∈xs,Bd 4 x:=by rw[hxs];unfold Bd;decide +kernel
 have hp:=hL.pos;have h0:=aqE (L.length-1) L hL ⋯ _ (nd.filter λx=>decide (ev L x=0)) λx hx=>of_decide_eq_true (wj.mp hx).2;have hc:=adw (λx=>decide (ev L x=0)) xs;refine(akX (e:=4) g.length g (u+78) (bO _) (xs.filter λx=>!decide (ev L x=0)) (nd.filter _) ⋯ (λx hx=>bx x (wj.mp hx).1) (λx hx=>?_) k).mono ⋯;have hne:ev L x≠0:=λz=>by
  have:=(wj.mp hx).2;rw[decide_eq_true z]at this;exact absurd this ∅
 refine aq2 hne ?_;rw[<-amr x g L P he];exact(asH hu (bx x (wj.mp hx).1)).mono ⋯
def aJG{P t:List Int}(hP:Mon P)(hl:P.length<=13)(ht:t.length<P.length){u:Nat}(hu:∀k,Bd u (co P k))(hv:∀k,Bd u (co t k)):∃g N,lA P (co t) g N/\Bd (25*(u+195)) N/\∀k,Bd (u+169) (co g k):=by
 obtain⟨g,hg,hI,d1,d2⟩:=aCM hP (Fs.co t);obtain⟨L,hL,_,hLl,hE⟩:=akL (b:=0) rfl hP hg d1;obtain⟨o,r,D⟩:=abP (b:=0) hg (p:=t) λk=>eX _;have er:=(D.dv hg).mpr d2;subst er;have hLp:=hL.pos;have hgp:=hg.pos;have eP:∀k,co P k=cv (co L) (co g) k:=λk=>by have:=hE k;rwa [eX,eX]at this
 have eT:∀k,co t k=cv (co o) (co g) k:=λk=>by have:=D.eq k;rw[eX,eX,jd,gj]at this;exact this.symm
 have lo:o.length<=L.length-1:=by
  by_cases c:o=[]
  .rw[c];exact dW _
  .have op:0<o.length:=tD.mpr c;have:=ai0 (f:=co o) (g:=co g) (a:=o.length-1) (c:=g.length-1) ((Fs.co o).mono ⋯) ((Fs.co g).mono ⋯);rw[<-eT,hg.one,jG]at this;have:=Qd (p:=t) (k:=o.length-1+(g.length-1)) (by rw[this];exact Mj c D.qy.tr);lia
 have b1:=LN hg (λk=>by rw[eP,mC]) hl ⋯ ⋯ hu (g:=L);have b2:=LN hg (λk=>by rw[eT,mC]) (P:=t) (g:=o) ⋯ ⋯ ⋯ hv;obtain⟨N,G,hN⟩:=lA.small hg hL eP eT ((Fs.co o).mono lo) hI ⋯ b1 b2;exact{g,N,G,hN.mono ⋯,LN hL eP hl ⋯ ⋯ hu}
end Pm
namespace Om
def Vb{n:Nat}(h2:2<=n)(h:∀d,2<=d->d*d<=n->¬d∣n):cF n:={h2,λd hd=>by
 by_cases c1:d=1
 .exact .inl c1
 by_cases c2:d=n
 .exact .inr c2
 exfalso
 intros e he hd;have d0:d≠0:=λz=>by rw[z,aiP]at he;lia
 have e0:e≠0:=λz=>by rw[z,aaB]at he;lia
 have e1:e≠1:=λz=>by rw[z,abY]at he;lia
 by_cases c:d<=e
 .exact h d ⋯ (by rw[he];exact pU d c) {e,(he)}
 .exact h e ⋯ (by rw[he];exact qp e ⋯) {d,by rw[he,oF]}}
def awM{n d:Nat}(h2:2<=d)(h:d*d<=n)(hd:d∣n):¬cF n:=λhp=>by
 have:d*2<=d*d:=pU d h2;rcases hp.2 d hd with e|e<;>lia
def PR:Nat:=2882621014340294521571244258528284104343249149144577971201760448178194543385755817010525790849133642168126090119046747188084932022231183749373719591224726901401690494982962278487515548196514867457796872593713570763575868084540513076674494412188946690677598742561473739644469661310585310248868621894181599416698421136991141244665871519984535902616326139550773074719461136460742239051431180263318564092942496093994469006165928770578426106703959659846739977508362111335664941374511314623779521533384375971515968285861946738320072403905130361136135633100865394234198974360812274995326381100076191495791602547699231350471981024698619874149183808441186821481350215139533179633293706309434030590449433715618916643782657495097156449203974799744272339963210
def aPx:∀d,d<1760->2<=d->xJ d PR≠1:=by decide +kernel
def asa{n:Nat}(h2:2<=n)(hn:n<3097600)(h:xJ n PR=1):cF n:=Vb h2 λd hd hdd hdv=>by
 by_cases c:d<1760
 .refine aPx d c hd ?_;have:xJ d PR∣xJ n PR:=Nat.dvd_gcd (ZV (ag2 ..) hdv) (aj6 ..);rw[h]at this;exact Nat.dvd_one.mp this
 .have:1760*1760<=d*d:=tW ⋯ ⋯;lia
inductive Many:Nat->Nat->Prop
 |none (c:Nat):Many 0 c
 |more {k c q:Nat}:cF q->c<q->q<3097600->Many k q->Many (k+1) c
def Many.down{k c c':Nat}(h:Many k c)(hc:c'<=c):Many k c':=by
 cases h with
 |none=>exact .none _
 |more h1 h2 h3 h4=>exact .more h1 ⋯ h3 h4
def cnt:Nat->Nat->Nat:=Nat.rec (λc=>Bool.rec 0 1 (Nv (xJ c PR) 1)) (λd ih c=>Ku (ih c) (ih (Ku c (Nat.pow 2 (Nat.succ d)))))
def av0:Nat.ble 120000 (cnt 20 1000001)=true:=by decide +kernel
theorem Vj:∀(d c k:Nat),2<=c->c+2^(d+1)<=3097600->Many k (c+2^(d+1)-1)->Many (cnt d c+k) (c-1)
 |0,c,k,h2,hc,h=>by
  have e:cnt 0 c=Bool.rec 0 1 (Nv (xJ c PR) 1):=rfl;have hc':c+2<=3097600:=hc;have h':Many k (c+2-1):=h;rw[e];cases hb:Nv (xJ c PR) 1 with
  |false=>show Many (0+k) (c-1);rw[Nat.zero_add];exact h'.down ⋯
  |true=>show Many (1+k) (c-1);rw[YC];exact .more (asa h2 ⋯ (Nat.eq_of_beq_eq_true hb)) ⋯ ⋯ (h'.down ⋯)
 |d+1,c,k,h2,hc,h=>by
  have e:cnt (d+1) c=cnt d c+cnt d (c+2^(d+1)):=rfl;have p:2^(d+1+1)=2^(d+1)+2^(d+1):=by rw[lZ];lia
  rw[p]at hc h;have i1:=Vj d c (cnt d (c+2^(d+1))+k) h2;have i2:=Vj d (c+2^(d+1)) k;rw[e,Zt];generalize 2^(d+1)=m at hc h i1 i2⊢;exact i1 ⋯ (i2 ⋯ ⋯ (by rw[Zt];exact h))
theorem Many.few:∀{k k' c:Nat},Many k c->k'<=k->Many k' c
 |_,0,c,_,_=> .none c
 |0,_+1,_,_,h=>absurd h ⋯
 |_+1,_+1,_,.more h1 h2 h3 h4,h=> .more h1 h2 h3 (h4.few ⋯)
def aIO{n d c:Nat}(h2:2<=c)(hc:c+2^(d+1)<=3097600)(h:Nat.ble n (cnt d c)=true):Many n (c-1):=(Vj d c 0 h2 hc (.none _)).few (Nat.le_of_ble_eq_true h)
def many:Many 120000 1000000:=aIO ∅ ∅ av0
def Many.next{k c:Nat}(h:Many (k+1) c):∃q,cF q/\c<q/\q<3097600/\∀p,p<=q->Many k p:=by
 cases h with
 |more h1 h2 h3 h4=>exact{_,h1,h2,h3,λp hp=>h4.down hp}
def cF.ajF{p:Nat}{a:Int}(h:cF p)(h0:0<a)(ha:a<(p:Int)):a^(p-1)%(p:Int)=1:=by
 obtain⟨n,rfl⟩:∃n:Nat,a=(n:Int):={a.toNat,⋯};have:=h.aLA (a:=n) ⋯ ⋯;have e:((n^(p-1)%p:Nat):Int)=((1:Nat):Int):=by rw[this]
 rw[Int.natCast_emod,ajk]at e;exact e
end Om
namespace Pm
open Rm
def aI5{P:Nat}(hP:Om.cF P){p:List Int}(hp:Py P p)(hn:p≠[]):vX P p (vo P p):=by
 have h2:=hP.1;have hpos:0<p.length:=tD.mpr hn;have hP0:(P:Int)≠0:=⋯;have pO:∀n,tk (P:Int) n=n%(P:Int):=λn=>oB hP0 n;have l0:=Mj hn hp.tr;have l1:=hp.co (p.length-1);rw[pO]at l1;have r0:0<=co p (p.length-1):=by rw[<-l1];exact qF _ hP0
 have r1:co p (p.length-1)<(P:Int):=by rw[<-l1];exact qI _ ⋯
 generalize hl:co p (p.length-1)=a at l0 r0 r1;have hinv:(a^(P-2)*a)%(P:Int)=1:=by
  rw[<-qg,(⋯:(P-2).succ=P-1)];exact hP.ajF ⋯ r1
 have e:∀k,co (vo P p) k=co p k*a^(P-2)%(P:Int):=λk=>by
  rw[vo,Nf (by simp),hl]
 have len:(vo P p).length=p.length:=by rw[vo,aC]
 have top:co (vo P p) ((vo P p).length-1)=1:=by
  rw[len,e,hl,iT];exact hinv
 have hm:vo P p≠[]:=λz=>by rw[z]at len;simp at len;lia
 refine{{aez hm (by rw[top];decide),λx hx=>?_},len,λ_=>{⋯,top},{a^(P-2),λk=>?_},{a,λk=>?_}}
 .obtain⟨y,_,rfl⟩:=cA.mp hx;rw[pO];exact ql _ (rA _)
 .rw[e,pO,pO,ql _ (rA _),iT]
 .rw[e,pO,pO,sG a,ql _ (rA _),<-sG,afW a,iT a,sG,hinv];rw[jG,ql _ (rA _)]
def auZ{P:Nat}(hP:Om.cF P){one other:Int}(h0:0<other)(h:other<(P:Int)):(P:Int)∣other*(one*other^(P-2)%(P:Int))-one:=by
 have h2:=hP.1;have hinv:(other^(P-2)*other)%(P:Int)=1:=by
  rw[<-qg,(⋯:(P-2).succ=P-1)];exact hP.ajF h0 h
 have h1:(1:Int)%(P:Int)=1:=Ss ∅ ⋯;refine Mp (Int.emod_eq_emod_iff_emod_sub_eq_zero.mp ?_);rw[sG,ql _ (rA _),<-sG,afW,iT other,sG,hinv,jG,ql _ (rA _)]
def aAw{b f:Int}{s t:Nat}{l m:List Int}{u v:Nat}(hb:0<=b)(hb1:b<4194304)(hu:22<=u)(hf:Bd u f)(hl:∀k,Bd u (co l k))(hm:∀x∈m,Bd v x)(k:Nat):Bd (u+v+1) (lf b f s t l m k):=by
 unfold lf;split
 .refine xg hb ((Bd.of (n:=22) ⋯ ⋯).mono ⋯) ?_;rw[amf];refine Bd.add ((hl k).mono ⋯) ?_;have:=hf.mul (jo hm (k-s));unfold Bd at this⊢;rw[UJ];exact this
 .exact(hl k).mono ⋯
def jw(M t:Int)(p:Nat)(s:Int):Int:=(tk p (s-t))*(tk p M)^(p-2)%(p:Int)
def jn(M t:Int)(p:Nat)(s:Int):Int:=nr (M*p) (t+M*jw M t p s)
def aDE{M t s:Int}{p:Nat}(hp:Om.cF p)(hM:¬(p:Int)∣M):(p:Int)∣M*jw M t p s-(s-t):=by
 have h2:=hp.1;have hp0:(p:Int)≠0:=⋯;have r0:=qF M hp0;have r1:=qI M (⋯:(0:Int)<p);have rn:M%(p:Int)≠0:=λz=>hM (Mp z);have h:=auZ hp (one:=tk p (s-t)) (other:=M%(p:Int)) ⋯ r1;unfold jw;rw[oB hp0 M];generalize tk (p:Int) (s-t)*(M%(p:Int))^(p-2)%(p:Int)=w at h;rw[oB hp0]at h;have e1:(p:Int)∣M*w-M%(p:Int)*w:=by
  rw[<-Qz];exact Em (aqR) (Jo ..)
 have e2:(p:Int)∣(s-t)%(p:Int)-(s-t):=by
  have:(p:Int)∣(s-t)-(s-t)%(p:Int):=aqR;have:=Int.dvd_neg.mpr this
  rwa [Int.neg_sub]at this
 have:=uM (uM e1 h) e2
 rwa [(⋯:M*w-M%(p:Int)*w+(M%(p:Int)*w-(s-t)%(p:Int))+((s-t)%(p:Int)-(s-t))=M*w-(s-t))]at this
def aAD{M t s:Int}{p:Nat}(hp:Om.cF p):0<=jw M t p s/\jw M t p s<p:=by
 have h2:=hp.1;exact{qF _ ⋯,qI _ ⋯}
end Pm
namespace Tx
open PySem PySem.StrLaws PySem.NumText PySem.Builtin PySem.Builtin.Str
section
variable {c j:Nat}{cs:List Nat}{w:Str}{n b:Int}{rule starts:List Int}
def one(c:Nat):Str:={(#[c])}
def take_one(l:List Nat)(c i:Nat):((l.drop i).take 1==[c])=decide (l[i]?=some c):=by
 rw[<-List.head?_drop];cases l.drop i with
 |nil=>simp
 |cons a r=>
  simp only[aoB,amF,List.head?_cons,Option.some.injEq];by_cases h:a=c<;>simp[h]
def subAt_one(x:Str)(c i:Nat):subAt x (one c) i=decide (x.cps.toList[i]?=some c):=by
 rw[subAt_eq];exact take_one ..
def um(x:Str)(c i:Nat):Bool:=decide (x.cps.toList[i]?=some c)
theorem Sw(x:Str)(c lim:Nat)(hl:lim=x.length+1):∀(n i:Nat) (st:Array Nat×Nat),i+n=x.length+1->st.1.size<=i->st.2<=i->
  (forIn (MP i n) st (occBody x (one c) x.length lim)).run.fst.toList=st.1.toList++(MP i n).filter (um x c)
 |0,i,st,_,_,_=>by simp
 |n+1,i,st,h1,h2,h3=>by
  rw[aqQ,VW];unfold occBody;have hx:x.cps.toList.length=x.length:=by simp[Str.length]
  by_cases hh:um x c i=true
  .have hi:i<x.length:=by
    have:=of_decide_eq_true hh;obtain⟨h,_⟩:=List.getElem?_eq_some_iff.mp this;lia
   rw[if_pos {{{⋯,h3},by show i+1<=_;lia},by rw[subAt_one];exact hh}];have ih:=Sw x c lim hl n (i+1) (st.1.push i,i+1) ⋯ (by simp;lia) (bO _);unfold occBody at ih;rw[pZ,if_pos hh];refine Qa ih ?_;simp
  .have hh':um x c i=false:=by simpa using hh
   rw[if_neg λz=>by rw[subAt_one]at z;exact hh z.2];have ih:=Sw x c lim hl n (i+1) st ⋯ ⋯ ⋯;unfold occBody at ih;rw[pZ,if_neg hh];exact ih
def aIx(x:Str)(c:Nat):occurrences x (one c) 0 x.length (x.length+1)=(MP 0 (x.length+1)).filter (um x c):=by
 rw[occ_eq,vD];have:=Sw x c _ rfl (x.length+1) 0 (#[],0) ⋯ (by simp) (bO _);rw[this];simp
def amQ{x:Str}{a:Nat}(h:∀k,a<=k->k<j->um x c k=false):c∉(strSub x a j).cps.toList:=λhm=>by
 rw[strSub_toList]at hm;obtain⟨k,hk,e⟩:=wk.mp hm;rw[nK,yL]at hk;have e1:x.cps.toList[a+k]?=some c:=by
  rw[List.getElem_take,List.getElem_drop]at e;rw[List.getElem?_eq_getElem ⋯,e]
 have:=h (a+k) ⋯ ⋯;unfold um at this;rw[e1]at this;simp at this
theorem abV(x:Str)(c:Nat):∀(n i a:Nat),i+n=x.length+1->a<=i->(∀k,a<=k->k<i->um x c k=false)->∀p∈partsFrom x 1 a ((MP i n).filter (um x c)),c∉p.cps.toList
 |0,i,a,h1,_,h3,p,hp=>by
  rw[dX.mp hp];exact amQ λk k1 k2=>h3 k k1 ⋯
 |n+1,i,a,h1,h2,h3,p,hp=>by
  rw[aqQ,pZ]at hp;by_cases hh:um x c i=true
  .rw[if_pos hh]at hp;rcases cX.mp hp with e|e
   .rw[e];exact amQ h3
   .exact abV x c n (i+1) (i+1) ⋯ (bO _) (λk k1 k2=>absurd k2 ⋯) p e
  .rw[if_neg hh]at hp;refine abV x c n (i+1) a ⋯ ⋯ (λk k1 k2=>?_) p hp;by_cases e:k=i
   .rw[e];simpa using hh
   .exact h3 k k1 ⋯
def axE(x:Str){c:Nat}(hc:c<256):¬Builtin.Str.strKind x<Builtin.Str.strKind (one c):=by
 have:Builtin.Str.strKind (one c)=1:=by
  unfold Builtin.Str.strKind;rw[if_pos];simp[one,hc]
 rw[this];unfold Builtin.Str.strKind;split
 .lia
 .split<;>lia
def aAb(x:Str){c:Nat}(hc:c<256):∀p∈Txt.split x (one c),c∉p.cps.toList:=by
 intro p hp;unfold Txt.split at hp;have key:∀p∈partsBetween x (occurrences x (one c) 0 x.length (x.length+1)) (one c).length,c∉p.cps.toList:=by
  rw[partsBetween_eq,aIx];exact abV x c (x.length+1) 0 0 ⋯ (bO _) (λk _ k2=>absurd k2 (Rb _))
 split at hp
 .rename_i h
  have hl:x.length<1:=by
   simp only[Ia,decide_eq_true_eq]at h;rcases h with h|h
   .exact h
   .exact absurd h (axE x hc)
  rw[dX.mp hp];have:x.cps.toList=[]:=rY (by show x.cps.toList.length=0;have:x.cps.toList.length=x.length:=(by simp[Str.length]);lia);rw[this];simp
 .split at hp
  .rename_i h1 h2
   rw[List.isEmpty_iff]at h2;rw[dX.mp hp];refine key x ?_;rw[h2,partsBetween_eq];show x∈[strSub x 0 x.length];rw[sub_whole];simp
  .exact key p hp
def jn(c:Nat):List (List Nat)->List Nat
 |[]=>[]
 |[p]=>p
 |p::q::r=>p++c::jn c (q::r)
theorem YG(c:Nat):∀ws:List Str,(Str.join (one c) ws).cps.toList=jn c (ws.map λw=>w.cps.toList)
 |[]=>rfl
 |[_]=>rfl
 |p::q::r=>by
  have ih:=YG c (q::r);show(p++one c++Str.join (one c) (q::r)).cps.toList=p.cps.toList++c::jn c ((q::r).map λw=>w.cps.toList);rw[<-ih];simp[Str.cps_append,one]
theorem ah9{c:Nat}:∀{p q u v:List Nat},c∉p->c∉q->p++c::u=q++c::v->p=q/\u=v
 |[],[],_,_,_,_,h=>{rfl,(FP h).2}
 |[],b::q,_,_,_,h2,h=>by
  have:=(FP h).1;exact absurd (by rw[this];simp) h2
 |a::p,[],_,_,h1,_,h=>by
  have:=(FP h).1;exact absurd (by rw[this];simp) h1
 |a::p,b::q,u,v,h1,h2,h=>by
  obtain⟨e1,e2⟩:=FP h;obtain⟨e3,e4⟩:=ah9 (λz=>h1 (eN _ z)) (λz=>h2 (eN _ z)) e2;exact{by rw[e1,e3],e4}
theorem ajf{c:Nat}:∀{ps qs:List (List Nat)},ps≠[]->qs≠[]->(∀p∈ps,c∉p)->(∀q∈qs,c∉q)->jn c ps=jn c qs->ps=qs
 |[],_,h,_,_,_,_=>absurd rfl h
 |_,[],_,h,_,_,_=>absurd rfl h
 |[p],[q],_,_,_,_,e=>by rw[show p=q from e]
 |[p],q::q'::r,_,_,h1,_,e=>by
  have:p=q++c::jn c (q'::r):=e;exact absurd (by rw[this];simp) (h1 p (by simp))
 |p::p'::r,[q],_,_,_,h2,e=>by
  have:p++c::jn c (p'::r)=q:=e;exact absurd (by rw[<-this];simp) (h2 q (by simp))
 |p::p'::r,q::q'::t,_,_,h1,h2,e=>by
  obtain⟨e1,e2⟩:=ah9 (h1 p (by simp)) (h2 q (by simp)) (show p++c::jn c (p'::r)=q++c::jn c (q'::t)from e);have:=ajf (by simp) (by simp) (λz hz=>h1 z (eN _ hz)) (λz hz=>h2 z (eN _ hz)) e2;rw[e1,this]
theorem map_toList_inj:∀{ws vs:List Str},(ws.map λw=>w.cps.toList)=(vs.map λw=>w.cps.toList)->ws=vs
 |[],[],_=>rfl
 |[],_::_,h=>by simp at h
 |_::_,[],h=>by simp at h
 |a::r,b::t,h=>by
  simp only[kI,List.cons.injEq]at h;rw[Str.ext' (KL.mp h.1),map_toList_inj h.2]
def aKF(x y:Str):Txt.split x y≠[]:=by
 unfold Txt.split;split
 .simp
 .split
  .simp
  .rw[partsBetween_eq];obtain⟨p,r,e⟩:=partsFrom_ne x y.length 0 (occurrences x y 0 x.length (x.length+1));rw[e];simp
def Ym(hc:c<256){ws:List Str}(hn:ws≠[])(h:∀w∈ws,c∉w.cps.toList):Txt.split (Str.join (one c) ws) (one c)=ws:=by
 refine map_toList_inj (ajf (c:=c) (by simpa using aKF _ _) (by simpa using hn) ?_ ?_ ?_)
 .intro p hp;obtain⟨w,hw,rfl⟩:=cA.mp hp;exact aAb _ hc w hw
 .intro p hp;obtain⟨w,hw,rfl⟩:=cA.mp hp;exact h w hw
 .rw[<-YG,<-YG,StrLaws.join_split]
def aof(s:String):(Str.ofString s).cps.toList=s.toList.map Char.toNat:=aBy s
def aJ(n:Int):Str:=Str.ofString (toString n)
def gC(m:Nat):List Nat:=(oK 10 m).map Char.toNat
def Ou(m:Nat):(aJ (m:Int)).cps.toList=gC m:=by
 rw[aJ,aof];show(Nat.repr m).toList.map Char.toNat=_;rw[ao5];rfl
def LY{m:Nat}(h:0<m):(aJ (-(m:Int))).cps.toList=45::gC m:=by
 obtain⟨k,rfl⟩:∃k,m=k+1:={m-1,⋯};rw[aJ,aof];have e:toString (-((k+1:Nat):Int)) = "-" ++ Nat.repr (k+1):=rfl;rw[e,String.toList_append,ao5];simp[gC]
def HB(m:Nat):AllDigits (gC m):=λc hc=>by
 obtain⟨ch,hch,rfl⟩:=cA.mp hc;have:=Nat.isDigit_of_mem_toDigits ∅ ∅ hch;simp only[Char.isDigit,pH,decide_eq_true_eq]at this;exact this
def aoJ(m:Nat):gC m≠[]:=by
 intro h;have:=congrArg ak7 h;simp only[gC,aC,an7]at this;have:=Nat.toDigits_ne_nil (n:=m) (b:=10)
 simp_all
def K8(cs:List Nat):Prop:=cs=[48]∨∃c r,cs=c::r/\49<=c
def toNat_ofNat(h:AllDigits cs):(cs.map Char.ofNat).map Char.toNat=cs:=by
 rw[gh]
 conv=>rhs;rw[<-anS cs]
 refine xG λc hc=>?_;have:=h c hc;show(Char.ofNat c).toNat=c;have v:c.isValidChar:=lE ⋯;rw[Char.ofNat,dif_pos v];rfl
def aio(h:AllDigits cs)(hn:K8 cs):gC (digitsVal cs)=cs:=by
 have hp:cs≠[]:=by rcases hn with e|⟨c,r,e,_⟩<;>rw[e]<;>simp
 have hl:0<cs.length:=tD.mpr hp;unfold gC;rw[toDigits_digitsVal (cs.length-1) cs ⋯ h,toNat_ofNat h];rcases hn with e|e
 .exact .inl (by rw[e];rfl)
 .exact .inr e
def aGo:∀(cs:List Nat),AllDigits cs->digitsVal cs<10^cs.length:=by
 intro cs;induction hn:cs.length generalizing cs with
 |zero=>intro _;rw[rY hn];decide
 |succ n ih=>
  intro h;have hne:cs≠[]:=by intro e;rw[e]at hn;simp at hn
  have e:=agh hne;generalize cs.dropLast=ini at e;generalize cs.getLast hne=c at e;subst e;rw[fP,XH]at hn;have hi:AllDigits ini:=λd hd=>h d (BF _ hd);have hc:=h c (mW _ (dX.mpr rfl));have:=ih ini ⋯ hi;rw[digitsVal_snoc,lZ];lia
theorem abB:∀(k m:Nat),m<10^(k+1)->(gC m).length<=k+1
 |0,m,h=>by
  unfold gC;rw[Aj ⋯];simp
 |k+1,m,h=>by
  by_cases h10:m<10
  .unfold gC;rw[Aj h10];simp
  .have ih:=abB k (m/10) (by rw[lZ]at h;lia);have t:oK 10 (m/10)++oK 10 (m%10)=oK 10 (10*(m/10)+m%10):=Xi ∅ ⋯ ⋯;rw[YM]at t;unfold gC at ih⊢;rw[<-t,Aj (⋯:m%10<10)];simp only[aC,fP,XH]at ih⊢;lia
def digit_back:∀d:Nat,d<10->(MV d).toNat-48=d:=∅
def Gv(m:Nat):digitsVal (gC m)=m:=by
 induction m using CJ with
 |_ m ih=>
  unfold gC;by_cases h:m<10
  .rw[Aj h];have e:=digit_back m h;show 0*10+((MV m).toNat-48)=m;lia
  .have hm:m%10<10:=Nat.mod_lt m ∅;have t:oK 10 (m/10)++oK 10 (m%10)=oK 10 (10*(m/10)+m%10):=Xi ∅ ⋯ hm;rw[YM]at t;rw[<-t,gR,Aj hm];have ih':=ih (m/10) ⋯;unfold gC at ih';show digitsVal ((oK 10 (m/10)).map Char.toNat++[(MV (m%10)).toNat])=m;rw[digitsVal_snoc,ih',digit_back (m%10) hm];lia
def amM(m:Nat):K8 (gC m):=by
 by_cases h0:m=0
 .subst h0;exact .inl ∅
 .right;induction m using CJ with
  |_ m ih=>
   by_cases h:m<10
   .have e:gC m=[(MV m).toNat]:=by unfold gC;rw[Aj h];rfl
    have e2:=digit_back m h;exact{_,[],e,⋯}
   .have t:oK 10 (m/10)++oK 10 (m%10)=oK 10 (10*(m/10)+m%10):=Xi ∅ ⋯ ⋯;rw[YM]at t;obtain⟨c,r,e,hc⟩:=ih (m/10) ⋯ ⋯;refine{c,r++(oK 10 (m%10)).map Char.toNat,?_,hc};unfold gC at e⊢;rw[<-t,gR,e];rfl
def Wr(w:Str):Prop:=∃(s:Bool) (cs:List Nat),w.cps.toList=(if s then 45::cs else cs)/\AllDigits cs/\1<=cs.length/\cs.length<=60/\K8 cs/\(s=true->cs≠[48])
def aAK(hn:K8 cs)(h:cs≠[48]):0<digitsVal cs:=by
 rcases hn with e|⟨c,r,e,hc⟩
 .exact absurd e h
 .rw[e];exact digitsVal_pos hc
def Wr.reads(h:Wr w):∃n:Int,intText? w=some n/\aJ n=w/\n.natAbs<10^60:=by
 intros s cs e hd l1 l2 hn hs h;have hne:cs≠[]:=tD.mp l1;have hp:=aGo cs hd;have hp2:10^cs.length<=10^60:=qW ∅ l2;have hwl:w.length=w.cps.toList.length:=by simp[Str.length]
 cases s with
 |false=>
  have e':w.cps.toList=cs:=e;refine{_,intText_digits (by rw[e'];exact hd) (by rw[e'];exact hne) (by rw[hwl,e'];lia),?_,?_}
  .refine Str.ext' (KL.mp ?_);rw[e',Ou,aio hd hn]
  .rw[e'];show digitsVal cs<_;lia
 |true=>
  have e':w.cps.toList=45::cs:=e;have hv:=aAK hn (hs rfl);refine{_,intText_neg e' hd hne (by rw[hwl,e'];simp;lia),?_,?_}
  .refine Str.ext' (KL.mp ?_);rw[e',LY hv,aio hd hn]
  .show(-((digitsVal cs:Nat):Int)).natAbs<_;lia
def yE(h:n.natAbs<10^60):Wr (aJ n):=by
 by_cases h0:0<=n
 .obtain⟨m,rfl⟩:=Yl h0;exact{false,gC m,Ou m,HB m,tD.mpr (aoJ m),abB 59 m (by simpa using h),amM m,λz=>by cases z}
 .obtain⟨m,e,hm⟩:∃m:Nat,n=-(m:Int)/\0<m:={n.natAbs,⋯,⋯};subst e;refine{true,gC m,LY hm,HB m,tD.mpr (aoJ m),abB 59 m ⋯,amM m,λ_ e=>?_};have:=Gv m;rw[e]at this;have:(0:Nat)=m:=this;lia
def aJL{a:Int}(e:aJ a=aJ b):a=b:=by
 have hs:∀z:Int,(∃m:Nat,z=m/\(aJ z).cps.toList=gC m)∨(∃m:Nat,z=-(m:Int)/\(aJ z).cps.toList=45::gC m):=λz=>by
  by_cases c:0<=z
  .obtain⟨m,rfl⟩:=Yl c;exact .inl {m,rfl,Ou m}
  .refine .inr {z.natAbs,⋯,?_};have:=LY (m:=z.natAbs) ⋯;rw[(⋯:-((z.natAbs:Nat):Int)=z)]at this;exact this
 have no:∀m k:Nat,gC m≠45::gC k:=λm k z=>by
  have:=HB m 45 (by rw[z];simp);lia
 rcases hs a with⟨m,ea,fa⟩|⟨m,ea,fa⟩<;>rcases hs b with⟨k,eb,fb⟩|⟨k,eb,fb⟩<;>rw[e,fb]at fa
 .rw[ea,eb,<-Gv m,<-Gv k,fa]
 .exact absurd fa.symm (no m k)
 .exact absurd fa (no k m)
 .rw[ea,eb,<-Gv m,<-Gv k,(FP fa).2]
def bar:Str:=one 124
def nO:Str:={(#[98,121])}
def XD(n:Int):∀c∈(aJ n).cps.toList,c=45∨(48<=c/\c<=57):=λc hc=>by
 by_cases h:0<=n
 .obtain⟨m,rfl⟩:=Yl h;rw[Ou]at hc;exact .inr (HB m c hc)
 .have e:=LY (m:=n.natAbs) ⋯;rw[(⋯:-((n.natAbs:Nat):Int)=n)]at e;rw[e]at hc;rcases cX.mp hc with z|z
  .exact .inl z
  .exact .inr (HB _ c z)
def ako(n:Int):aJ n≠bar:=λe=>by
 have:=XD n 124 (by rw[e];simp[bar,one]);lia
def aGe(n:Int):aJ n≠nO:=λe=>by
 have:=XD n 98 (by rw[e];simp[nO]);lia
def j8(b:Int):List Str:=if b>0 then[nO,aJ b]else[]
def wordsOf(b:Int)(rule starts:List Int):List Str:=rule.map aJ++bar::(starts.map aJ++j8 b)
def textOf(b:Int)(rule starts:List Int):Str:=Str.join (one 32) (wordsOf b rule starts)
def PY(h:w∈j8 b):w=nO∨w=aJ b:=by
 unfold j8 at h;split at h
 .simpa using h
 .cases h
def ayw(h:w∈wordsOf b rule starts):w=bar∨w=nO∨∃n,w=aJ n:=by
 rcases gP.mp h with h|h
 .obtain⟨n,_,e⟩:=cA.mp h;exact .inr (.inr {n,(e.symm)})
 .rcases cX.mp h with h|h
  .exact .inl h
  .rcases gP.mp h with h|h
   .obtain⟨n,_,e⟩:=cA.mp h;exact .inr (.inr {n,(e.symm)})
   .rcases PY h with h|h
    .exact .inr (.inl h)
    .exact .inr (.inr {_,h})
def MR:∀w∈wordsOf b rule starts,32∉w.cps.toList:=λw hw hm=>by
 rcases ayw hw with e|e|⟨n,e⟩
 .rw[e]at hm;simp[bar,one]at hm
 .rw[e]at hm;simp[nO]at hm
 .rw[e]at hm;have:=XD n 32 hm;lia
def Y7:wordsOf b rule starts≠[]:=by unfold wordsOf;simp
def aze(b:Int)(rule starts:List Int):Txt.split (textOf b rule starts) (one 32)=wordsOf b rule starts:=Ym (c:=32) ∅ Y7 MR
def aar:bar∉rule.map aJ:=λh=>by
 obtain⟨n,_,e⟩:=cA.mp h;exact ako n e
def atD:nO∉rule.map aJ:=λh=>by
 obtain⟨n,_,e⟩:=cA.mp h;exact aGe n e
def ae9:bar∉starts.map aJ++j8 b:=λh=>by
 rcases gP.mp h with h|h
 .exact aar h
 .rcases PY h with h|h
  .exact absurd (congrArg (λz:Str=>z.cps) h) ∅
  .exact ako b h.symm
def ari(b:Int)(rule starts:List Int):(wordsOf b rule starts).count bar=1:=by
 unfold wordsOf;rw[List.count_append,al3 aar,List.count_cons_self,al3 ae9]
def aNT{ws:List Str}(h:ws.count bar=1):∃j:Nat,ws[j]?=some bar/\∀m:Nat,m<j->ws[m]?≠some bar:=by
 have hm:bar∈ws:=List.count_pos_iff.mp (by rw[h];decide);refine{ws.idxOf bar,?_,λm hmj e=>?_}
 .rw[List.getElem?_eq_getElem (List.idxOf_lt_length_of_mem hm),List.getElem_idxOf]
 .obtain⟨h1,h2⟩:=List.getElem?_eq_some_iff.mp e;have:=List.not_of_lt_findIdx (p:=(·==bar)) (xs:=ws) (i:=m) hmj;rw[h2]at this;simp at this
def aCx(hj:(wordsOf b rule starts)[j]?=some bar):j=rule.length:=by
 unfold wordsOf at hj;by_cases h1:j<rule.length
 .rw[List.getElem?_append_left (by simpa using h1)]at hj;exact absurd (List.mem_of_getElem? hj) aar
 .by_cases h2:j=rule.length
  .exact h2
  .rw[List.getElem?_append_right (by simp;lia),aC,(⋯:j-rule.length=(j-rule.length-1)+1),List.getElem?_cons_succ]at hj;exact absurd (List.mem_of_getElem? hj) ae9
def aFr(b:Int)(rule starts:List Int):(wordsOf b rule starts).take rule.length=rule.map aJ:=by
 unfold wordsOf;rw[aoh (by simp),tM (by simp)]
def aKH(b:Int)(rule starts:List Int):(wordsOf b rule starts).drop (rule.length+1)=starts.map aJ++j8 b:=by
 unfold wordsOf;rw[List.drop_append,Ey (by simp),aC,(⋯:rule.length+1-rule.length=1)];rfl
def m9(w:Str):Int:=(intText? w).getD 0
def Wr.val(h:Wr w):intText? w=some (m9 w)/\aJ (m9 w)=w/\(m9 w).natAbs<10^60:=by
 intros n h1 h2 h3 h.reads;have e:m9 w=n:=by unfold m9;rw[h1];rfl
 rw[e];exact{h1,h2,(h3)}
def K9(h:n.natAbs<10^60):m9 (aJ n)=n:=aJL (yE h).val.2.1
def awp{ns:List Int}(h:∀n∈ns,n.natAbs<10^60):(ns.map aJ).map m9=ns:=by
 rw[gh]
 conv=>rhs;rw[<-anS ns]
 exact xG λn hn=>K9 (h n hn)
end
end Tx
namespace Tx
open PySem PySem.StrLaws PySem.NumText PySem.Builtin PySem.Builtin.Str
def ay6{S T:Int}{a b:Nat}(hS:S=(a:Int))(hT:T=(b:Int)):sliceRange S T 1=(kj (b-a)).map λk=>a+k:=by
 subst hS hT;unfold sliceRange;simp only[show(1:Int)>0 from ∅,if_true];by_cases hlt:(a:Int)<b
 .have e3:(((b:Int)-a+1-1)/1).toNat=b-a:=by rw[Ze];lia
  simp only[hlt,if_true,e3];refine xG λk _=>?_;lia
 .have:b-a=0:=⋯;simp[hlt,this]
def aK9(l u:Option Nat)(n:Nat):strSliceIndices (l.map λa=>(a:Int)) (u.map λa=>(a:Int)) 1 n=(kj (min (u.getD n) n-min (l.getD 0) n)).map (λk=>min (l.getD 0) n+k):=by
 unfold strSliceIndices;cases l<;>cases u<;>refine ay6 ?_ ?_<;>simp<;>lia
def anm(x:Str)(l u:Option Nat):(Txt.slice x (l.map λa=>(a:Int)) (u.map λa=>(a:Int))).cps.toList=(x.cps.toList.drop (min (l.getD 0) x.length)).take (min (u.getD x.length) x.length-min (l.getD 0) x.length):=by
 have hx:x.cps.toList.length=x.length:=by simp[Str.length]
 unfold Txt.slice;rw[aK9];split
 .rename_i h
  simp only[beq_self_eq_true,Z4,beq_iff_eq,aC,wA]at h;rw[tM (by rw[yL,hx];lia),(⋯:min (l.getD 0) x.length=0),Ae]
 .have p:=picks x.cps.toList (min (u.getD x.length) x.length-min (l.getD 0) x.length) (min (l.getD 0) x.length) (by rw[hx];lia);simpa using p
def adS(x:Str)(a:Nat):(Txt.slice x (some (a:Int)) none).cps.toList=x.cps.toList.drop a:=by
 have hx:x.cps.toList.length=x.length:=by simp[Str.length]
 have:=anm x (some a) none;refine Qa this ?_;simp only[adN,PN];by_cases h:a<=x.length
 .rw[Yb h,amc,tM (by rw[yL,hx];lia)]
 .rw[WC ⋯,Ey ⋯,Ey ⋯,aiE]
def aiU(x:Str)(b:Nat):(Txt.slice x none (some (b:Int))).cps.toList=x.cps.toList.take b:=by
 have hx:x.cps.toList.length=x.length:=by simp[Str.length]
 have:=anm x none (some b);refine Qa this ?_;simp only[adN,PN,Nat.zero_min,Ae,vD];rw[<-hx,ai2];lia
def agM(x:Str)(c:Nat):Txt.startswith x (one c)=decide (x.cps.toList.head?=some c):=by
 have hx:x.cps.toList.length=x.length:=by simp[Str.length]
 unfold Txt.startswith;rw[subAt_one,List.head?_eq_getElem?];show(decide (0+1<=x.length)&&_)=_;by_cases h:1<=x.length
 .rw[decide_eq_true ⋯,Z4]
 .rw[decide_eq_false ⋯,am6,List.getElem?_eq_none ⋯];rfl
def iI(w:Str):List Nat:=if w.cps.toList.head?=some 45 then w.cps.toList.drop 1 else w.cps.toList
noncomputable def Lb:List Nat:=[48,49,50,51,52,53,54,55,56,57]
def akl(c:Nat):c∈Lb↔48<=c/\c<=57:=by
 unfold Lb;simp only[cX,acj,or_false];lia
def aEX(w:Str):Wr w↔(1<=(iI w).length/\(iI w).length<=60/\(∀c∈iI w,c∈Lb)/\(w.cps.toList=[48]∨¬(iI w).head?=some 48)):=by
 constructor
 .rintro⟨s,cs,e,hd,l1,l2,hn,hs⟩;have ef:iI w=cs:=by
   unfold iI;cases s with
   |true=>rw[e];rfl
   |false=>
    rw[e];refine if_neg λz=>?_;cases cs with
    |nil=>cases z
    |cons a r=>
     have:=hd a (by simp);have:a=45:=m7 z;lia
  rw[ef];refine{l1,l2,λc hc=>(akl c).mpr (hd c hc),?_};rcases hn with z|⟨c,r,z,hc⟩
  .cases s with
   |true=>exact absurd z (hs rfl)
   |false=>left;rw[e];exact z
  .right;rw[z];intro y;have:c=48:=m7 y;lia
 .rintro⟨l1,l2,hd,h0⟩;have hd':AllDigits (iI w):=λc hc=>(akl c).mp (hd c hc);have hne:iI w≠[]:=tD.mp l1;by_cases c:w.cps.toList.head?=some 45
  .have ef:iI w=w.cps.toList.drop 1:=if_pos c;have ew:w.cps.toList=45::iI w:=by
    rw[ef];cases h:w.cps.toList with
    |nil=>rw[h]at c;cases c
    |cons a r=>rw[h]at c;rw[m7 c];rfl
   have h1:¬(iI w).head?=some 48:=by
    rcases h0 with z|z
    .rw[z]at c;cases c
    .exact z
   have hn:∃a r,iI w=a::r/\49<=a:=by
    cases h:iI w with
    |nil=>exact absurd h hne
    |cons a r=>
     have:=hd' a (by rw[h];simp);exists a,r,rfl;have:a≠48:=λz=>h1 (by rw[h,z];rfl);lia
   exact{true,iI w,ew,hd',l1,l2,.inr hn,λ_ z=>h1 (by rw[z];rfl)}
  .have ef:iI w=w.cps.toList:=if_neg c;refine{false,iI w,by rw[ef];rfl,hd',l1,l2,?_,λz=>by cases z};rcases h0 with z|z
   .exact .inl (by rw[ef];exact z)
   .right;cases h:iI w with
    |nil=>exact absurd h hne
    |cons a r=>
     have:=hd' a (by rw[h];simp);exists a,r,rfl;have:a≠48:=λy=>z (by rw[h,y];rfl);lia
end Tx
namespace K52
open PySem L2
open Pm Rm Tx Om
seal PA PE PS iy PT PW PI PG AZ PO rH
set_option hygiene false
local macro_rules | `(#[$e])=>`(uT $e jL)
local macro_rules | `(#[$e,$x,*])=>`(uT $e #[$x,*])
local macro_rules | `(#[-$i:num])=>`(uT (aL K (pv $i) aN) jL)
local macro_rules | `(#[-$i:num,$x,*])=>`(uT (aL K (pv $i) aN) #[$x,*])
local macro_rules | `(#[""])=>`(MB iu jL)
local macro_rules | `(#["",$x,*])=>`(MB iu #[$x,*])
local macro_rules | `(#[_])=>`(MB aN jL)
local macro_rules | `(#[_,$x,*])=>`(MB aN #[$x,*])
local macro_rules | `(#[$i:num])=>`(aoQ (pv $i) jL)
local macro_rules | `(#[$i:num,$x,*])=>`(aoQ (pv $i) #[$x,*])
local macro_rules | `(#[(),$a,$c])=>`(anl $a (aH $c))
local macro_rules | `(#[(),$a,$c,$x,*])=>`(anl $a #[(),$c,$x,*])
local macro_rules | `(($e :))=>`($e)
local macro_rules | `((($e) :))=>`(($e :))
local macro_rules | `((_ :))=>`(aN)
local macro_rules | `(("" :))=>`(iu)
local macro_rules | `(($i:num :))=>`(pv $i)
local macro_rules | `((-$i:num :))=>`(aL K (pv $i) aN)
local macro_rules | `(($a+$b :))=>`(pad K ($a :) ($b :))
local macro_rules | `(($a-$b :))=>`(jB aK7 ($a :) ($b :))
local macro_rules | `(($a*$b :))=>`(jB v_mul ($a :) ($b :))
local macro_rules | `(($a/$b :))=>`(jB aCD ($a :) ($b :))
local macro_rules | `(($a%$b :))=>`(jB aOa ($a :) ($b :))
local macro_rules | `(($a==$b :))=>`(w6 (lV K hr) ($a :) ($b :))
local macro_rules | `(($(a) != $(b) :))=>`(w6 (xne K hr) ($a :) ($b :))
local macro_rules | `(($a<$b :))=>`(w6 Qc ($a :) ($b :))
local macro_rules | `(($a>$b :))=>`(w6 al8 ($a :) ($b :))
local macro_rules | `(($a<=$b :))=>`(w6 anP ($a :) ($b :))
local macro_rules | `(($a>=$b :))=>`(w6 aJT ($a :) ($b :))
set_option hygiene true
def top(i:Nat):Stmt:=PySem.Challenge.pw_nextbyrule_k52_desk_makes_rows.main.body.getD i (.Pass {0,0,0,(0)})
abbrev aa3:Stmt:=top 12
abbrev acq:Stmt:=top 13
abbrev Wm:Stmt:=top 14
abbrev Vk:Stmt:=top 15
abbrev QD:Stmt:=top 16
abbrev Rz:Stmt:=top 17
abbrev Qv:Stmt:=top 18
abbrev Ql:Stmt:=top 22
abbrev Yx:Stmt:=top 23
abbrev ab0:Stmt:=top 24
abbrev aaE:Stmt:=top 25
abbrev acv:Stmt:=top 26
abbrev acw:Stmt:=top 27
abbrev Wz:Stmt:=top 31
abbrev Xl:Stmt:=top 32
abbrev abn:Stmt:=top 33
abbrev QV:Stmt:=top 34
abbrev Rn:Stmt:=top 35
abbrev ZR:Stmt:=top 36
abbrev abo:Stmt:=top 37
abbrev UC:Stmt:=top 38
abbrev aaq:Stmt:=top 39
abbrev WM:Stmt:=top 42
abbrev aaX:Stmt:=top 43
abbrev Rg:Stmt:=top 44
abbrev aa7:Stmt:=top 45
abbrev Zy:Stmt:=top 46
abbrev Qx:Stmt:=top 47
abbrev Wo:Stmt:=top 48
abbrev abt:Stmt:=top 50
abbrev U7:Stmt:=top 51
abbrev TX:Stmt:=top 52
abbrev abh:Stmt:=top 56
abbrev TV:Stmt:=top 57
abbrev Wy:Stmt:=top 58
abbrev Ye:Stmt:=top 62
abbrev aaZ:Stmt:=top 63
abbrev UG:Stmt:=top 64
abbrev Qq:Stmt:=top 65
abbrev Q6:Stmt:=top 66
abbrev Yp:Stmt:=top 67
abbrev Wv:Stmt:=top 68
abbrev Vq:Stmt:=top 69
abbrev Za:Stmt:=top 70
abbrev Ve:Stmt:=top 71
abbrev Xd:Stmt:=top 72
abbrev ab8:Stmt:=top 73
abbrev XI:Stmt:=top 74
abbrev Vz:Stmt:=top 75
abbrev aad:Stmt:=top 76
abbrev Yu:Stmt:=top 91
abbrev Wk:Stmt:=top 94
abbrev abE:Stmt:=top 97
abbrev Xj:Stmt:=top 98
abbrev Sy:Stmt:=top 99
abbrev XJ:Stmt:=top 101
abbrev Wu:Stmt:=top 123
abbrev Sx:Stmt:=top 124
abbrev ZM:Stmt:=top 125
abbrev Vx:Stmt:=top 126
abbrev X8:Stmt:=top 127
abbrev X5:Stmt:=top 128
abbrev aaV:Stmt:=top 129
abbrev Rh:Stmt:=top 130
abbrev abF:Stmt:=top 136
abbrev Vi:Stmt:=top 137
abbrev Yi:Stmt:=top 138
abbrev VB:Stmt:=top 139
abbrev XE:Stmt:=top 140
abbrev VG:Stmt:=top 141
abbrev aaY:Stmt:=top 142
abbrev R6:Stmt:=top 143
abbrev Xo:Stmt:=top 144
abbrev acz:Stmt:=top 145
abbrev QJ:Stmt:=top 146
abbrev Zi:Stmt:=top 147
abbrev aa5:Stmt:=top 148
abbrev abb:Stmt:=top 149
abbrev UN:Stmt:=top 150
abbrev VD:Stmt:=top 151
abbrev aa0:Stmt:=top 153
abbrev ab2:Stmt:=inClass (top 164) 0
abbrev Tr:Stmt:=inClass (top 164) 1
abbrev abw:Stmt:=top 166
abbrev RW:Stmt:=top 167
abbrev Wn:Stmt:=top 168
abbrev Tp:Stmt:=top 169
abbrev VJ:Stmt:=top 170
abbrev SN:Stmt:=top 171
abbrev aaj:Stmt:=top 172
abbrev Yj:Stmt:=top 173
abbrev Ri:Stmt:=top 174
abbrev abq:Stmt:=top 175
abbrev aa4:Stmt:=top 176
abbrev Rp:Stmt:=top 177
abbrev Sq:Stmt:=top 178
abbrev Zh:Stmt:=top 179
abbrev Yc:Stmt:=top 180
abbrev aaG:Stmt:=top 181
abbrev WB:Stmt:=top 182
abbrev xZ:Stmt:=top 183
def aJF:aK ["thing"] ["thing"] (aF aa3):=aO
def YB:aK ["number","divisor"] ["number"] (aF acq):=aO
def aOE:aK ["thing"] ["thing"] (aF Wm):=aO
def aM4:aK ["by","thing"] ["by","thing"] (aF Vk):=aO
def aMV:aK ["by","number"] ["by","number"] (aF QD):=aO
def zy:aK ["prime","number","power","square","left"] ["prime","number"] (aF Rz):=aO
def aNE:aK ["by","one","other"] ["by","one","other"] (aF Qv):=aO
def aJd:aK ["by","thing"] ["by","thing"] (aF Ql):=aO
def O8:aK ["thing","by","rule","starts"] ["thing"] (aF Yx):=aO
def aBA:aK ["one","other"] ["one","other"] (aF ab0):=aO
def auI:aK ["row"] ["row"] (aF aaE):=aO
def PD:aK ["by","rule","before","total","k"] ["by","rule","before"] (aF acv):=aO
def J6:aK ["row","count","by","rule","starts","found"] ["row","count"] (aF acw):=aO
def Zn:aK ["numbers","end"] ["numbers"] (aF Wz):=aO
def aOh:aK ["poly","k"] ["poly","k"] (aF Xl):=aO
def NS:aK ["by","one","other","total","i","k"] ["by","one","other"] (aF abn):=aO
def zc:aK ["by","one","other","top","often","left","shift","factor","k"] ["by","one","other"] (aF QV):=aO
def ahT:aK ["prime","poly","last"] ["prime","poly"] (aF Rn):=aO
def Bk:aK ["by","one","other","great","small","left"] ["by","one","other"] (aF ZR):=aO
def QS:aK ["by","rule","length","numbers"] ["by","rule"] (aF abo):=aO
def alL:aK ["by","poly","length"] ["by","poly"] (aF UC):=aO
def aBN:aK ["by","poly","found","n"] ["by","poly","found","n"] (aF aaq):=aO
def Tv:aK ["number","found"] ["number"] (aF WM):=aO
def aJg:aK ["monic_one","poly"] ["monic_one","poly"] (aF aaX):=aO
def awq:aK ["prime","poly"] ["prime","poly"] (aF Rg):=aO
def ap5:aK ["modulus","number","rest"] ["modulus","number"] (aF aa7):=aO
def ac8:aK ["modulus","number","prime","rest","more"] ["modulus","number","prime","rest"] (aF Zy):=aO
def mL:aK ["one","other","told","modulus","prime","ripe","seen","before"] ["one","other"] (aF Qx):=aO
def aIg:aK ["by","one","other"] ["by","one","other"] (aF Wo):=aO
def Aq:aK ["row","poly","by","starts","top","k","parts"] ["row","poly"] (aF abt):=aO
def Kw:aK ["row","by","poly","top"] ["row"] (aF U7):=aO
def V1:aK ["row","least","rule"] ["row"] (aF TX):=aO
def amK:aK ["rule","sums","k","reach"] ["rule","sums","k"] (aF abh):=aO
def NZ:aK ["rule","count","sums","k","own"] ["rule","count"] (aF TV):=aO
def ZG:aK ["sums","rule","k"] ["sums"] (aF Wy):=aO
def aHj:aK ["length"] ["length"] (aF Ye):=aO
def avm:aK ["start","step"] ["start","step"] (aF aaZ):=aO
def RX:aK ["by","rule","starts","rule_taken","starts_taken"] ["by","rule","starts"] (aF UG):=aO
def asM:aK ["ours","theirs","n"] ["ours","theirs","n"] (aF Qq):=aO
def aI6:aK ["ours","theirs","n"] ["ours","theirs","n"] (aF Q6):=aO
def aPl:aK ["ours","theirs","n"] ["ours","theirs","n"] (aF Yp):=aO
def Mw:aK ["one","other","rule","pair_place","length","ours","theirs"] ["one","other","rule","pair_place"] (aF Wv):=aO
def Dg:aK ["one","other","pair_place","by","ours","theirs","poly"] ["one","other","pair_place"] (aF Vq):=aO
def as5:aK ["one","other"] ["one","other"] (aF Za):=aO
def avs:aK ["one","other"] ["one","other"] (aF Ve):=aO
def zE:aK ["one","other","ours","theirs","length","our_sums","their_sums","rule"] ["one","other"] (aF Xd):=aO
def ayQ:aK ["row","number"] ["row","number"] (aF ab8):=aO
def CD:aK ["row","by","least","length","poly","found"] ["row"] (aF XI):=aO
def BL:aK ["row","start","step","least","length","sums","found","rule"] ["row","start","step"] (aF Vz):=aO
def Vw:aK ["row","numbers","least","rule"] ["row","numbers"] (aF aad):=aO
def V4:aK ["row","divisor","rule","starts"] ["row","divisor"] (aF Yu):=aO
def aEw:aK ["row","prime"] ["row","prime"] (aF Wk):=aO
def aK8:aK ["by","n"] ["by","n"] (aF abE):=aO
def Cu:aK ["by","poly","n","left","figure","doubled"] ["by","poly","n"] (aF Xj):=aO
def Qe:aK ["row","n","by","rule","left"] ["row","n"] (aF Sy):=aO
def Hh:aK ["row","n","by","numbers","near","starts"] ["row","n"] (aF XJ):=aO
def aEo:aK [] [] (aF Wu):=aO
def arF:aK ["number"] ["number"] (aF Sx):=aO
def ape:aK ["row","words"] ["row"] (aF ZM):=aO
def agw:aK ["word","figures"] ["word"] (aF Vx):=aO
def aFV:aK ["word"] ["word"] (aF X8):=aO
def agr:aK ["word","prime"] ["word"] (aF X5):=aO
def PL:aK ["rule_words","start_words","by","rule","starts","row"] ["rule_words","start_words","by"] (aF aaV):=aO
def Eh:aK ["text","words","bar","behind","end"] ["text"] (aF Rh):=aO
def aqm:aK ["text","words"] ["text"] (aF abF):=aO
def Lg:aK ["words","kinds","count"] ["words"] (aF Vi):=aO
def azp:aK ["word"] ["word"] (aF Yi):=aO
def apA:aK ["kept","word","name"] ["kept","word"] (aF VB):=aO
def aLu:aK ["kept","kind","word"] ["kept","kind","word"] (aF XE):=aO
def at9:aK ["said"] ["said"] (aF VG):=aO
def aBq:aK ["said"] ["said"] (aF aaY):=aO
def aDa:aK ["said"] ["said"] (aF R6):=aO
def auu:aK ["said"] ["said"] (aF Xo):=aO
def awr:aK ["said"] ["said"] (aF acz):=aO
def aDX:aK ["said"] ["said"] (aF QJ):=aO
def aAu:aK ["said"] ["said"] (aF Zi):=aO
def aFk:aK ["said"] ["said"] (aF aa5):=aO
def avE:aK ["said"] ["said"] (aF abb):=aO
def aLU:aK ["said"] ["said"] (aF UN):=aO
def asC:aK ["said"] ["said"] (aF VD):=aO
def awU:aK ["said"] ["said"] (aF aa0):=aO
def awZ:aK ["self"] ["self"] (aF ab2):=aO
def Pn:aK ["self","row","words","kinds","said"] ["self","row"] (aF Tr):=aO
def aBT:aK ["_law_script","_law_k"] ["_law_script","_law_k"] (aF abw):=aO
def pJ:aK ["_law_cell","_law_turn","_law_signs","_law_size","_law_spots","_law_k","_law_word_here","_law_at","_law_found","_law_sign"] ["_law_cell","_law_turn"] (aF RW):=aO
def aGF:aK ["_law_cell","_law_k"] ["_law_cell","_law_k"] (aF Wn):=aO
def aj8:aK ["_law_number_here","_law_other"] ["_law_number_here"] (aF Tp):=aO
def afF:aK ["_law_by_here","_law_number_here","_law_kind"] ["_law_by_here","_law_number_here"] (aF VJ):=aO
def J3:aK ["_law_by_here","_law_cell","_law_many","_law_found","_law_number_here","_law_k"] ["_law_by_here","_law_cell","_law_many"] (aF SN):=aO
def BD:aK ["_law_by_here","_law_cell","_law_most","_law_many","_law_rule","_law_starts"] ["_law_by_here","_law_cell","_law_most"] (aF aaj):=aO
def aEF:aK ["_law_by_here","_law_number_here"] ["_law_by_here","_law_number_here"] (aF Yj):=aO
def Dd:aK ["_law_e","_law_some","_law_words"] ["_law_e"] (aF Ri):=aO
def Gd:aK ["_law_desk","_law_text_here","_law_found","_law_word_here","_law_e"] ["_law_desk","_law_text_here"] (aF abq):=aO
def aal:aK ["_law_word_here","_law_rows","_law_numbers_here","_law_one","_law_other"] ["_law_word_here","_law_rows","_law_numbers_here"] (aF aa4):=aO
def Jh:aK ["_law_word_here","_law_rows","_law_numbers_here","_law_found","_law_refused","_law_e"] ["_law_word_here","_law_rows","_law_numbers_here"] (aF Rp):=aO
def Lr:aK ["_law_number_here","_law_first","_law_second","_law_prime"] ["_law_number_here"] (aF Sq):=aO
def vg:aK ["_law_word_here","_law_names","_law_numbers_here","_law_new","_law_one","_law_other","_law_tail"] ["_law_word_here","_law_names","_law_numbers_here"] (aF Zh):=aO
def arY:aK ["_law_row"] ["_law_row"] (aF Yc):=aO
def LZ:aK ["_law_desk","_law_kept","_law_names","_law_name","_law_due_here"] ["_law_desk","_law_kept","_law_names"] (aF aaG):=aO
def wB:aK ["_law_desk","_law_kept","_law_names","_law_number_here","_law_by_here","_law_words","_law_word_here","_law_some","_law_found","_law_numbers_here","_law_due_here"] ["_law_desk","_law_kept","_law_names","_law_number_here","_law_by_here"] (aF WB):=aO
def uQ:aK ["_law_script","_law_names","_law_by_here","_law_desk","_law_kept","_law_j","_law_own","_law_number_here"] ["_law_script"] (aF xZ):=aO
abbrev aI2:=cZ [(".0",.local),("part",.local),("is_number",.globalImplicit),("by",.cell)]
abbrev auU:=cZ [(".0",.local),("number",.local),("over",.globalImplicit),("last",.cell),("prime",.cell)]
abbrev arH:=cZ [(".0",.local),("k",.local),("taken",.globalImplicit),("by",.cell),("length",.cell),("rule",.cell)]
abbrev awa:=cZ [(".0",.local),("k",.local),("taken",.globalImplicit),("by",.cell),("length",.cell),("poly",.cell)]
abbrev aHd:=cZ [(".0",.local),("k",.local),("found",.cell),("n",.cell),("poly",.cell)]
abbrev aPr:=cZ [(".0",.local),("number",.local),("taken",.globalImplicit),("prime",.cell)]
abbrev aAQ:=cZ [(".0",.local),("rest",.local),("nearest",.globalImplicit),("prime",.cell)]
abbrev aBX:=cZ [(".0",.local),("k",.local),("joined",.globalImplicit),("before",.cell),("modulus",.cell),("prime",.cell),("seen",.cell)]
abbrev auX:=cZ [(".0",.local),("j",.local),("k",.cell),("poly",.cell),("starts",.cell)]
abbrev aHS:=cZ [(".0",.local),("i",.local),("k",.cell),("rule",.cell),("sums",.cell)]
abbrev atb:=cZ [(".0",.local),("number",.local),("taken",.globalImplicit),("by",.cell)]
abbrev az7:=cZ [(".0",.local),("number",.local),("taken",.globalImplicit),("by",.cell)]
abbrev avr:=cZ [(".0",.local),("i",.local),("n",.cell),("ours",.cell),("theirs",.cell)]
abbrev aGn:=cZ [(".0",.local),("n",.local),("ours",.cell),("pair_place",.cell),("theirs",.cell)]
abbrev aMj:=cZ [(".0",.local),("k",.local),("our_sums",.cell),("their_sums",.cell)]
abbrev aMD:=cZ [(".0",.local),("start",.local),("number",.cell)]
abbrev aIn:=cZ [(".0",.local),("n",.local),("sum",.globalImplicit),("found",.cell)]
abbrev atl:=cZ [(".0",.local),("k",.local),("step",.cell),("sums",.cell)]
abbrev aA3:=cZ [(".0",.local),("k",.local),("found",.cell),("start",.cell),("step",.cell)]
abbrev aJ9:=cZ [(".0",.local),("number",.local),("taken",.globalImplicit),("divisor",.cell)]
abbrev ayG:=cZ [(".0",.local),("number",.local),("taken",.globalImplicit),("divisor",.cell)]
abbrev ata:=cZ [(".0",.local),("i",.local),("number_at",.globalImplicit),("left",.cell)]
abbrev arN:=cZ [(".0",.local),("m",.local),("sum_at",.globalImplicit),("by",.cell),("near",.cell),("numbers",.cell)]
abbrev aDc:=cZ [(".0",.local),("number",.local),("number_shown",.globalImplicit)]
abbrev aHC:=cZ [(".0",.local),("number",.local),("number_shown",.globalImplicit)]
abbrev auD:=cZ [(".0",.local),("figure",.local),("FIGURES",.globalImplicit)]
abbrev aw9:=cZ [(".0",.local),("word",.local),("read_number",.globalImplicit)]
abbrev azh:=cZ [(".0",.local),("word",.local),("read_number",.globalImplicit)]
abbrev aG0:=cZ [(".0",.local),("sign",.local),("NAME_SIGNS",.globalImplicit)]
abbrev aD4:=cZ [(".0",.local),("number",.local),("taken",.globalImplicit),("said",.cell)]
abbrev arG:=cZ [(".0",.local),("k",.local),("read_word",.globalImplicit),("kinds",.cell),("self",.cell),("words",.cell)]
abbrev aN5:=cZ [(".0",.local),("_law_k",.local),("_law_signs",.cell)]
abbrev aDp:=cZ [(".0",.local),("_law_k",.local),("_law_word_here",.cell)]
abbrev aGR:=cZ [(".0",.local),("_law_number_here",.local)]
abbrev aMu:=cZ [(".0",.local),("_law_number_here",.local)]
abbrev axP:=cZ [(".0",.local),("_law_number_here",.local),("_law_rest",.globalImplicit),("_law_by_here",.cell)]
abbrev axK:=cZ [(".0",.local),("_law_said",.local),("_law_word_here",.local)]
abbrev avv:=cZ [(".0",.local),("_law_number_here",.local),("_law_rest",.globalImplicit),("_law_one",.cell)]
abbrev aKx:=cZ [(".0",.local),("_law_k",.local),("_law_number_here",.cell)]
abbrev aEp:=cZ [(".0",.local),("_law_number_here",.local),("str",.globalImplicit)]
abbrev aFY:=cZ [(".0",.local),("_law_number_here",.local),("abs",.globalImplicit)]
abbrev aCR:=cZ [(".0",.local),("_law_name",.local),("_law_is_small",.globalImplicit),("_law_kept",.cell)]
structure Bt(mg:Str->Option Value):Prop where
 aC5:mg "ValueError" = none
 alr:mg "abs" = none
 aaN:mg "all" = none
 aQf:mg "any" = none
 asb:mg "bool" = none
 V5:mg "int" = none
 lH:mg "isinstance" = none
 bY:mg "len" = none
 Jb:mg "list" = none
 amd:mg "max" = none
 aCU:mg "min" = none
 eZ:mg "range" = none
 aQi:mg "reversed" = none
 rT:mg "str" = none
 Fy:mg "sum" = none
 jl:mg "tuple" = none
 Zr:∃t,mg "ABOVE_ALL_BYS" = some (.int 1000 t)
 ahV:∃t,mg "ABOVE_ALL_NUMBERS" = some (.int 1000000 t)
 Y6:∃t,mg "BELOW_THE_PRIMES" = some (.int 1000000 t)
 ahU:∃t,mg "FARTHEST" = some (.int 300 t)
 UO:∃t,mg "FARTHEST_BY_0" = some (.int 400 t)
 ZP:∃t,mg "FARTHEST_START" = some (.int 100 t)
 QM:∃t,mg "FIGURES" = some (.str "0123456789" t)
 Np:∃t,mg "LONGEST" = some (.int 12 t)
 acu:∃t,mg "LONGEST_NAME" = some (.int 8 t)
 ZC:∃t,mg "MOST_AHEAD" = some (.int 12 t)
 abl:∃t,mg "MOST_FIGURES_READ" = some (.int 60 t)
 ah2:∃t,mg "MOST_WINDOWS" = some (.int 4096 t)
 Wb:∃t,mg "NAME_SIGNS" = some (.str "abcdefghijklmnopqrstuvwxyz0123456789" t)
 Yd:∃t,mg "WIDEST_STEP" = some (.int 10 t)
structure Ms(P:Program)(w:World)(K:au)(mg:Str->Option Value)(base:Heap)(aU bJ jr jt iQ iz jf aR aX:Addr):Prop where
 aFC:mg "NoBy" = some (.ref aU)
 avy:mg "NoName" = some (.ref bJ)
 aIM:mg "NoNumber" = some (.ref jr)
 aGX:mg "NoRow" = some (.ref jt)
 aMW:mg "NoText" = some (.ref iQ)
 ago:mg "RuleError" = some (.ref iz)
 ayh:mg "TooBig" = some (.ref jf)
 ax0:mg "TooFar" = some (.ref aR)
 aLb:mg "TooLong" = some (.ref aX)
 amY:zB mg base "NoBy" aU
 apP:pQ base aU iz
 awW:oE K aU
 W6:aZ K (.ref aU) (.ref aU)=some true
 XF:aZ K (.ref aU) (.ref bJ)=some false
 Sv:aZ K (.ref aU) (.ref jr)=some false
 Tn:aZ K (.ref aU) (.ref jt)=some false
 Yz:aZ K (.ref aU) (.ref iQ)=some false
 ab7:aZ K (.ref aU) (.ref jf)=some false
 W8:aZ K (.ref aU) (.ref aR)=some false
 abe:aZ K (.ref aU) (.ref aX)=some false
 Qt:aZ K (.ref aU) (.type "ValueError")=some true
 aF0:zB mg base "NoName" bJ
 ae8:pQ base bJ iz
 aHc:oE K bJ
 Ra:aZ K (.ref bJ) (.ref aU)=some false
 SG:aZ K (.ref bJ) (.ref bJ)=some true
 V8:aZ K (.ref bJ) (.ref jr)=some false
 SV:aZ K (.ref bJ) (.ref jt)=some false
 R4:aZ K (.ref bJ) (.ref iQ)=some false
 acp:aZ K (.ref bJ) (.ref jf)=some false
 U5:aZ K (.ref bJ) (.ref aR)=some false
 Z2:aZ K (.ref bJ) (.ref aX)=some false
 Qy:aZ K (.ref bJ) (.type "ValueError")=some true
 Jg:zB mg base "NoText" iQ
 agm:zB mg base "TooFar" aR
 ahn:pQ base aR iz
 aFX:oE K aR
 V7:aZ K (.ref aR) (.ref aU)=some false
 Yn:aZ K (.ref aR) (.ref bJ)=some false
 Vc:aZ K (.ref aR) (.ref jr)=some false
 ace:aZ K (.ref aR) (.ref jt)=some false
 Qo:aZ K (.ref aR) (.ref iQ)=some false
 RQ:aZ K (.ref aR) (.ref jf)=some false
 Tt:aZ K (.ref aR) (.ref aR)=some true
 YD:aZ K (.ref aR) (.ref aX)=some false
 WD:aZ K (.ref aR) (.type "ValueError")=some true
 aGb:zB mg base "TooLong" aX
 alh:pQ base aX iz
 arM:oE K aX
 RV:aZ K (.ref aX) (.ref aU)=some false
 QN:aZ K (.ref aX) (.ref bJ)=some false
 aau:aZ K (.ref aX) (.ref jr)=some false
 aaK:aZ K (.ref aX) (.ref jt)=some false
 ZY:aZ K (.ref aX) (.ref iQ)=some false
 Zf:aZ K (.ref aX) (.ref jf)=some false
 Ro:aZ K (.ref aX) (.ref aR)=some false
 abM:aZ K (.ref aX) (.ref aX)=some true
 ab6:aZ K (.ref aX) (.type "ValueError")=some true
abbrev aW{P:Program}{w:World}{K:au}{mg:Str->Option Value}{base:Heap}{aU bJ jr jt iQ iz jf aR aX:Addr}(M:Ms P w K mg base aU bJ jr jt iQ iz jf aR aX)(x:Str)(k:Nat)(ps:List Str)(sp:Sp):=jc P w K mg base x k ps sp
abbrev aCc{P:Program}{w:World}{K:au}{mg:Str->Option Value}{base:Heap}{aU bJ jr jt iQ iz jf aR aX:Addr}(M:Ms P w K mg base aU bJ jr jt iQ iz jf aR aX)(x:Str)(k:Nat)(ps:List Str)(sp:Sp):=UW P w K mg base x k ps sp
abbrev HZ:List (Str×List Str):=[("row",["NEW","TEXT"]),("short",["NEW","A"]),("add",["NEW","A","A"]),("multiply",["NEW","A","A"]),("roll",["NEW","A","A"]),("scale",["NEW","A","NUMBER"]),("sum",["NEW","A"]),("every",["NEW","A","NUMBER","NUMBER"]),("ahead",["NEW","A","NUMBER"]),("on",["NEW","A","NUMBER"]),("rest",["NEW","A","BY"]),("drop",["A"]),("show",["A"]),("places",["A","NUMBER"]),("at",["A","NUMBER"]),("part",["A","A"]),("round",["A"]),("where",["A","NUMBER"]),("closed",["A"]),("divisor",["A"]),("divides",["A","NUMBER","NUMBER","NUMBER"])]
abbrev aiS:List Str:=[]
abbrev DP:List (Str×Str):=[("row","make_row"),("short","make_short"),("add","make_add"),("multiply","make_multiply"),("roll","make_roll"),("scale","make_scale"),("sum","make_sum"),("every","make_every"),("ahead","make_ahead"),("on","make_on"),("rest","make_rest")]
abbrev ac9:List Str:=["drop","show","places","at","part","round","where","closed","divisor","divides"]
abbrev MD:List (Str×Str):=[("show","tell_show")]
abbrev ZW:List Str:=["row","short","add","multiply","roll","scale","sum","every","ahead","on","rest","drop"]
structure Dk(w:World)(K:au)(mg:Str->Option Value)(pF nJ nQ cM:Addr):Prop where
 akJ:KD w K mg "FORMS" pF
 aHy:KDT K pF HZ
 aqg:Nb K pF aiS
 afe:KD w K mg "MAKERS" nJ
 aqw:Lf K mg nJ DP
 Z5:Nb K nJ ac9
 afO:KD w K mg "TELLERS" nQ
 acA:Lf K mg nQ MD
 Qk:Nb K nQ ZW
 yp:ClM K mg "Desk" cM
 Nx:yH K cM "kept"
abbrev W4:Nat:=24
section
variable {A B C D E F G H I J K L M N O:Type}
end
section
variable {X:Cx}{r:Rw}{b x k:Int}{pos:Pos}{p m n i l s P:Nat}{xs L:List Int}{ix:List (Option Nat)}{te:TE}{σ:St}{H1:Hp}{Q:VK}
def aG(i:Nat){x:Str}{e:Expr}{te:TE}{pos pos':Pos}(hN:X.N.Nodup)(he:PE X e te)(hi:X.N[i]?=some x:=by rfl)(hx:Loc X.env.scope x:=by exact lE rfl)(hs:swapsWith e (some (.Name x pos')) pos.line X.env=pure false:=by rfl)
  (hf:X.fn x=true∨X.env.scope.names.lookup x=some .local:=by first|exact .inl rfl|exact .inr rfl|assumption):PS X (.Assign [.Name x pos'] e pos) (yu te (gM i)):=fQ hN hi hx he hs hf
def cu(i:Nat){x:Str}{pos:Pos}(hN:X.N.Nodup)(hi:X.N[i]?=some x:=by rfl)(hx:Loc X.env.scope x:=by exact lE rfl)(hf:X.fn x=true∨X.env.scope.names.lookup x=some .local:=by first|exact .inl rfl|exact .inr rfl|assumption):PG X (.Name x pos) (gM i):=TJ hN hi hx hf
def aL(K:au){a b:Expr}{ta tb:TE}{pos:Pos}(ha:PE X a ta)(hb:PE X b tb)(hK:X.K=K:=by rfl)(hs:ad4 b:=by exactλ_ _=>rfl):PE X (.Subscript a b pos) (mZ (BX K) ta tb):=azv (xix K hK) ha hb hs
def pad(K:au){a b:Expr}{ta tb:TE}{pos:Pos}(ha:PE X a ta)(hb:PE X b tb)(hK:X.K=K:=by rfl):PE X (.BinOp a .Add b pos) (mZ (E5 K) ta tb):=jB (aPt K hK) ha hb
def bZ(K:au)(hm:X.mg "len" = none){e:Expr}{es:List Expr}{t:TA}{p pos:Pos}(ha:PA X (e::es) t)(hg:Gl X "len" := by rfl)(hK:X.K=K:=by rfl)
  (he:starEach (e::es) X.env=(false,eval e X.env)::starEach es X.env:=by rfl) (hpl:(backTo pos (starEach es X.env)).any (·.1)=false:=by rfl):PE X (.Call (.Name "len" p) (e::es) [] pos) (Pk (acs K) t):=
 fH (asZ K hK) hg hm boot_len ha ∅ ∅ he hpl
def w6{op:CmpOp}{r:R2}{a b:Expr}{ta tb:TE}(ho:cG X (compareOp op) r)(ha:PE X a ta)(hb:PE X b tb)(hm:behindInMarks op b=false:=by exact kE _):PT X (.Compare a [op] [b] pos) (wU (mZ r ta tb)):=LK ho ha hb hm
def aA{x:Str}{k k':Nat}{ps:List Str}{sp:Sp}{p:Pos}{e:Expr}{es:List Expr}{t:TA}(C:jc X.prog X.w X.K X.mg X.base x k ps sp)(hr:cD k' X.A)(ha:PA X (e::es) t)(hg:Gl X x:=by rfl)
  (hk:k<=k':=by decide) (hd:(x==("__debug__" : Str))=false:=by decide)
  (he:starEach (e::es) X.env=(false,eval e X.env)::starEach es X.env:=by rfl) (hpl:(backTo pos (starEach es X.env)).any (·.1)=false:=by rfl):PE X (.Call (.Name x p) (e::es) [] pos) (yd sp [] E0 t):=aI1 C hr hg ha hk hd he hpl
def bN(n:Nat)(h:n<=10000:=by decide):n<=sizeLine:=cT h ∅
abbrev MM:Int:=2147483647
def cellAt(ns:List Int)(k:Int):Int:=if k<(ns.length:Int)then ns.getD k.toNat 0 else 0
def ou(c k:Int):Int:=(c%MM+1)*(48271+7*k)%MM
def Ur(c k:Int):0<=ou c k:=qF _ ∅
def Tw(c k:Int):ou c k<MM:=qI _ ∅
def dM(a:Int){b:Int}(h:0<b):0<=a%b:=qF _ ⋯
def dJ(a:Int){b:Int}(h:0<b):a%b<b:=qI _ h
def fR{ns:List Int}(h0:0<=k)(h1:k<(ns.length:Int)):iJ (ns.map V.int) k=some (.int (ns.getD k.toNat 0)):=by
 have e:k=((k.toNat:Nat):Int):=⋯;have hk:k.toNat<ns.length:=⋯
 conv=>lhs;rw[e]
 exact qO (by rw[List.getElem?_map,List.getElem?_eq_getElem hk,List.getD_eq_getElem?_getD,List.getElem?_eq_getElem hk]<;>rfl)
def Qm{α:Type}{xs:List α}{v:α}(j:Nat)(e:k=(j:Int))(h:xs[j]?=some v):iJ xs k=some v:=by rw[e];exact qO h
def dec_true{p:Prop}[Decidable p](c:decide p=true):p:=of_decide_eq_true c
def dec_false{p:Prop}[Decidable p](c:¬decide p=true):¬p:=of_decide_eq_false (SR.mpr c)
def Mi:List Int:=[11,13,17,101,499,503,941,991]
def Ti(x:Int):List Int:=[0,2,0,3,5,0,7,31,x,997]
def X6(n:Int):Int:=(Ti (Mi.getD (n/10%8).toNat 0)).getD (n%10).toNat 0
def bys:List Int:=[0,2,3,5,7,31,11,13,17,101,499,503,941,991,997]
def aIV:∀k<10,∀j<8,(Ti (Mi.getD j 0)).getD k 0∈bys:=∅
def aKc(n:Int):X6 n∈bys:=aIV _ (by have:=dJ n (∅:(0:Int)<10);have:=dM n (∅:(0:Int)<10);lia) _ (by have:=dJ (n/10) (∅:(0:Int)<8);have:=dM (n/10) (∅:(0:Int)<8);lia)
def mY(b n:Int):Int:=if b>0 then n%b else if n%8<2 then 0 else if n%8<5 then n/8%5-2 else if n%8<7 then n/8%41-20 else(n/8)^3%10^20*(1-2*(n/16%2))
def j6(b x:Int):Prop:=b=0∨(0<=x/\x<b)
def aG9(hb:0<=b)(n:Int):j6 b (mY b n):=by
 unfold j6 mY;by_cases h:b>0
 .rw[if_pos h];exact .inr {dM n h,dJ n h}
 .exact .inl ⋯
def v8(c:Int):Nat->Int
 |0=>c
 |k+1=>v8 c k*48271%MM
def afA{c:Int}(h0:0<=c)(h1:c<MM):∀k,0<=v8 c k/\v8 c k<MM
 |0=>{h0,(h1)}
 |_+1=>{qF _ ∅,qI _ ∅}
def qC(b c:Int):Nat->List Int
 |0=>[]
 |k+1=>qC b c k++[mY b (v8 c (k+1))]
theorem Oo(b c:Int):∀k,(qC b c k).length=k
 |0=>rfl
 |k+1=>by simp[qC,Oo b c k]
theorem Vl{b:Int}(hb:0<=b)(c:Int):∀k,∀x∈qC b c k,j6 b x
 |0=>λx h=>by cases h
 |k+1=>λx h=>by
  rcases gP.mp h with h|h
  .exact Vl hb c k x h
  .rw[dX.mp h];exact aG9 hb _
structure Rw where
 b:Int
 rule:List Int
 starts:List Int
structure lK(r:Rw):Prop where
 len:r.rule.length=r.starts.length
 short:r.rule.length<=24
 jP:0<=r.b
 tu:r.b<1000
 rE:∀x∈r.rule,j6 r.b x
 pN:∀x∈r.starts,j6 r.b x
 j5:∀x∈r.rule,Bd 29000 x
 lu:∀x∈r.starts,Bd 52300 x
def Rw.row(r:Rw)(n:Nat):List Int:=Rm.row r.b r.rule r.starts n
def Rw.at(r:Rw)(n:Nat):Int:=Rm.at_ r.b r.rule r.starts n
def lK.bd(h:lK r)(n:Nat)(hn:n<=1000):Bd 61000000 (r.at n):=by
 have q:=ae4 (b:=r.b) (rule:=r.rule) (starts:=r.starts) (a:=29000) (c:=52300) h.len h.jP ((Bd.of (n:=10) (by have:=h.jP;lia) (by have:=h.tu;lia)).mono ∅) h.j5 h.lu n;refine q.mono ?_;have h1:=h.short;have h2:n*(29000+r.rule.length)<=1000*29024:=tW hn ⋯;lia
def lK.amk(h:lK r)(n:Nat)(hn:n<=1000):∀x∈r.row n,Bd 61000000 x:=by
 intro x hx;have e:r.row n=(kj n).map r.at:=acd ..;rw[e]at hx;obtain⟨i,hi,rfl⟩:=cA.mp hx;exact h.bd i (by have:=qd.mp hi;lia)
theorem Rw.su(r:Rw)(n:Nat):(r.row n).length=n:=Rm.su ..
def pY{y:Int}(h:Bd m x)(h':Bd n y)(hn:m+n<=134217728):IntMulOk x y:=
 IntMulOk.of_le (intBits_le_iff.mpr h) (intBits_le_iff.mpr h') hn
def bQ(H:Hp)(v:V)(r:Rw):Prop:=
 ∃a p q,v = .ref a/\H a=some (.tup [.int r.b,.ref p,.ref q])/\H p=some (.tup (r.rule.map V.int))/\H q=some (.tup (r.starts.map V.int))
def bQ.same{H H':Hp}{v:V}(h:bQ H v r)(g:Same H H'):bQ H' v r:=by
 intros a p q e h1 h2 h3 h;exact{a,p,q,e,g _ _ h1,g _ _ h2,g _ _ h3}
def ah8(xs:List Int)(x:Int):(xs++[x]).map V.int=xs.map V.int++[.int x]:=by rw[gR];rfl
def Told(H:Hp)(Q:VK)(xs:List V):Prop:=∀r H',Same H H'->H r=none->H' r=some (.lst xs)->Q (.ref r) H'
inductive aLz(K:au)(vs:List V)(H:Hp)(Q:VK)(E:XK):Prop|mk (a:Addr) (ns:List Int) (bf:vs=[.ref a]) (aY:ak K H a (ns.map V.int)) (bG:ns.length<=63) (cj:(∀x∈ns,vJ x<=1048576)) (cN:∀H',Q (.bl true) H')
def WX(K:au):Sp:=aLz K
def vU(xs:List V)(k:Nat):fY xs none (some (k:Int))=xs.take k:=by
 unfold fY;rw[HT.xP,HT.zH,Ae,vD,ai2];lia
def aqh(xs:List V)(k:Nat):fY xs (some (k:Int)) none=xs.drop k:=by
 unfold fY;rw[HT.xP,HT.zH];by_cases h:k<=xs.length
 .rw[Yb h,tM (by rw[yL];lia)]
 .rw[WC ⋯,Ey (bO _),Ey ⋯,aiE]
def aud(xs:List V)(i:Nat):fY xs (some ((i:Int)+1)) none=xs.drop (i+1):=aqh xs (i+1)
def sW(H:Hp)(Q:VK)(ns:List Int):Prop:=∀p H',Same H H'->H' p=some (.tup (ns.map V.int))->Q (.ref p) H'
def afm(h:0<n)(hn:n<=xs.length):xs.take n=xs.take (n-1)++[xs.getD (n-1) 0]:=by
 obtain⟨m,rfl⟩:∃m,n=m+1:={n-1,⋯};rw[ji,Pg,List.getElem?_eq_getElem ⋯,List.getD_eq_getElem?_getD,List.getElem?_eq_getElem ⋯];rfl
def aDj(h:0<n)(hn:n<=xs.length)(ht:Pm.trim (xs.take n)=Pm.trim xs)(h0:xs.getD (n-1) 0=0):Pm.trim (xs.take (n-1))=Pm.trim xs:=by
 rw[afm h hn,h0,ajS]at ht;exact ht
def ad8(hn:n<=xs.length)(ht:Pm.trim (xs.take n)=Pm.trim xs)(h0:n=0∨xs.getD (n-1) 0≠0):xs.take n=Pm.trim xs:=by
 rcases h0 with h0|h0
 .subst h0;rw[<-ht];rfl
 .by_cases hz:n=0
  .subst hz;rw[<-ht];rfl
  .rw[<-ht,afm ⋯ hn,SD _ h0]
def Qw{j:Nat}{i:Int}(e:i=(j:Int))(h:j<n):vq n i=some j:=by
 subst e;unfold vq;rw[if_pos ⋯,if_pos ⋯,d7]
def aaT(L:List Int)(j:Nat)(x:Int):(L.map V.int).set j (.int x)=(L.set j x).map V.int:=by rw[List.map_set]
def Wg(n:Nat):(cO n [V.int 0]).flatten=(aV n λ_=>0).map V.int:=by
 induction n with
 |zero=>rfl
 |succ n ih=>
  rw[acP,gR,<-ih,List.replicate_succ',List.flatten_append];rfl
def JR(hz:n<=1000){rest:St}(hst:cst ix σ=none::rest)(f:Nat->Int)
  (he:∀H' k,Same H1 H'->k<n->∀kk:VK,kk (.int (f k)) H'->te (some (.int (0+(k:Int)))::rest) H' kk)
  (hQ:∀D,H1 D=none->Q (.ref D) (upd H1 D (.lst ((aV n f).map V.int)))):kY ix (gM 0) oh te σ Q (pL 0 n) H1:=by
 refine tH Gu (by rw[aC,wA];exact gW (fZ hz)) hst (λ_=>true) (λx=>match x with | .int k=> .int (f k.toNat)|_=> .non) ?_ ?_ ?_
 .intro H2 x g2 hx k hk;exact hk
 .intro H2 x g2 hx _ k hk;obtain⟨j,hj,rfl⟩:=cA.mp hx;have e1:(0+(j:Int)).toNat=j:=⋯;refine he H2 j g2 (qd.mp hj) k ?_;have hk':k (V.int (f (0+(j:Int)).toNat)) H2:=hk
  rwa [e1]at hk'
 .intro D hD;have el:((((kj n).map λi=>V.int (0+(i:Nat))).filter λ_=>true).map λx=>match x with | .int k=>V.int (f k.toNat)|_=>V.non)=(aV n f).map V.int:=by
   rw[tX.mpr (by simp),gh,aV,gh];refine xG λk _=>?_;show V.int (f (0+(k:Int)).toNat)=V.int (f k);rw[(⋯:(0+(k:Int)).toNat=k)]
  rw[el];exact hQ D hD
def JC{K:au}{a:Addr}(hA:H1 a=some (.tup (xs.map V.int)))(hz:xs.length<=1000){rest:St}(hst:cst ix σ=none::rest)(f:Int->Int)
  (he:∀H' x,Same H1 H'->x∈xs->∀kk:VK,kk (.int (f x)) H'->te (some (.int x)::rest) H' kk)
  (hQ:∀D,H1 D=none->Q (.ref D) (upd H1 D (.lst ((xs.map f).map V.int)))):kY ix (gM 0) oh te σ Q (ED K a) H1:=by
 refine tH (Bl (ao.of hA)) (by rw[aC];exact gW (fZ hz)) hst (λ_=>true) (λx=>match x with | .int k=> .int (f k)|_=> .non) ?_ ?_ ?_
 .intro H2 x g2 hx k hk;exact hk
 .intro H2 x g2 hx _ k hk;obtain⟨y,hy,rfl⟩:=cA.mp hx;exact he H2 y g2 hy k hk
 .intro D hD;have el:(((xs.map V.int).filter λ_=>true).map λx=>match x with | .int k=>V.int (f k)|_=>V.non)=(xs.map f).map V.int:=by
   rw[tX.mpr (by simp),gh,gh];rfl
  rw[el];exact hQ D hD
def afX:∀P∈GR,2<=P/\P<1000:=by decide +kernel
def awY:∀b∈bys,b=0∨(0<=b/\b.toNat∈GR):=by decide +kernel
def ByP(b:Int):Prop:=b=0∨∃P:Nat,P∈GR/\b=(P:Int)
structure gY(b:Int):Prop where
 lo:0<=b
 hi:b<1000
 one:tk b 1=1
 p:ByP b
def vV(hb:0<=b)(x:Int):j6 b (tk b x):=by
 by_cases h:b=0
 .exact .inl h
 .rw[oB h];exact .inr {dM _ ⋯,dJ _ ⋯}
def vZ(hb:gY b)(hn:10<=n)(h:Bd n x):Bd n (tk b x):=
 xg hb.lo ((Bd.of (n:=10) (by have:=hb.lo;lia) (by have:=hb.hi;lia)).mono hn) h
def Mv(r:Rw)(n:Nat):r.row n=aV n r.at:=acd ..
inductive aNr(vs:List V)(H:Hp)(Q:VK)(E:XK):Prop|mk (z y:Int) (bf:vs=[.int z,.int y]) (aY:0<=z) (bG:Q (.int (tk z y)) H)
def arp:Sp:=aNr
inductive aB0(K:au)(vs:List V)(H:Hp)(Q:VK)(E:XK):Prop|mk (b:Int) (r s:Addr) (rule before:List Int) (bf:vs=[.int b,.ref r,.ref s]) (aY:0<=b) (bG:ao K H r (rule.map V.int)) (cj:ak K H s (before.map V.int)) (cN:rule.length<=before.length) (dZ:rule.length<=24) (iR:before.length<=1000) (j7:(∀y∈rule,Bd 29000 y)) (nU:(∀y∈before,Bd 61000000 y)) (AJ:Q (.int (tk b (Rm.S rule (λz=>before.getD z 0) before.length rule.length))) H)
def azY(K:au):Sp:=aB0 K
inductive aKa(K:au)(vs:List V)(H:Hp)(Q:VK)(E:XK):Prop|mk (v:V) (r:Rw) (c:Int) (bf:vs=[v,.int c]) (aY:bQ H v r) (bG:lK r) (cj:0<=c) (cN:c<=900) (dZ:Told H Q ((r.row c.toNat).map V.int))
def aIu(K:au):Sp:=aKa K
inductive arU(vs:List V)(H:Hp)(Q:VK)(E:XK):Prop|mk (y:Nat) (bf:vs=[.int y]) (aY:y<4194304) (bG:∀z:Bool,(z=true↔cF y)->Q (.bl z) H)
def awf:Sp:=arU
inductive atU(vs:List V)(H:Hp)(Q:VK)(E:XK):Prop|mk (n q:Nat) (bf:vs=[.int n]) (aY:cF q) (bG:n<q) (cj:q<4194304) (cN:∀z:Nat,cF z->n<z->z<=q->Q (.int z) H)
def au9:Sp:=atU
inductive aOX(vs:List V)(H:Hp)(Q:VK)(E:XK):Prop|mk (P:Nat) (a:Int) (bf:vs=[.int P,.int a]) (aY:cF P) (bG:P<4194304) (cj:0<a) (cN:a<(P:Int)) (dZ:∀z:Int,0<=z->z<4194304->z%(P:Int)=a^(P-2)%(P:Int)->Q (.int z) H)
def asY:Sp:=aOX
def iv0{l:Int}(h:0<=l):(l/2).toNat=l.toNat/2:=⋯
def iv1{l:Int}(h:0<=l):l%2=1↔l.toNat%2=1:=⋯
inductive aJK(vs:List V)(H:Hp)(Q:VK)(E:XK):Prop|mk (P:Nat) (one other:Int) (bf:vs=[.int P,.int one,.int other]) (aY:cF P) (bG:P<4194304) (cj:0<other) (cN:other<(P:Int)) (dZ:Q (.int (one*other^(P-2)%(P:Int))) H)
def aPE:Sp:=aJK
inductive aMm(K:au)(vs:List V)(H:Hp)(Q:VK)(E:XK):Prop|mk (l:Addr) (z:List Int) (bf:vs=[.ref l]) (aY:ak K H l (z.map V.int)) (bG:sW H Q (Pm.trim z))
def aLE(K:au):Sp:=aMm K
inductive azs(vs:List V)(H:Hp)(Q:VK)(E:XK):Prop|mk (a:Addr) (z:List Int) (k:Int) (bf:vs=[.ref a,.int k]) (aY:H a=some (.tup (z.map V.int))) (bG:0<=k) (cj:Q (.int (Pm.co z k.toNat)) H)
def aCF:Sp:=azs
inductive aOI(vs:List V)(H:Hp)(Q:VK)(E:XK):Prop|mk (z:Int) (a c:Addr) (y v:List Int) (bf:vs=[.int z,.ref a,.ref c]) (aY:0<=z) (bG:H a=some (.tup (y.map V.int))) (cj:H c=some (.tup (v.map V.int))) (cN:y.length<=400) (dZ:v.length<=400) (iR:(∀u∈y,Bd 4000000 u)) (j7:(∀u∈v,Bd 4000000 u)) (nU:sW H Q (Pm.mul z y v))
def aOA:Sp:=aOI
def aDu(H:Hp)(Q:VK)(b:Int)(P M:List Int)(W:Nat):Prop:=∀t x y q r H',Same H H'->H' t=some (.tup [.ref x,.ref y])->H' x=some (.tup (uw V.int q))->H' y=some (.tup (uw V.int r))->Pm.Div b P M q r->
 (∀z∈r,Bd W z)->Q (.ref t) H'
inductive awX(vs:List V)(H:Hp)(Q:VK)(E:XK):Prop|mk (b:Int) (a c:Addr) (z M:List Int) (u v:Nat) (bf:vs=[.int b,.ref a,.ref c]) (aY:0<=b) (bG:b<4194304) (cj:H a=some (.tup (z.map V.int))) (cN:H c=some (.tup (M.map V.int))) (dZ:z.length<=40) (iR:M.length<=40) (j7:Pm.Mon M) (nU:(∀y,tk b (Pm.co z y)=Pm.co z y)) (AJ:(∀t∈z,Bd u t)) (Vd:(∀t∈M,Bd v t)) (ag0:22<=u) (aAy:u+40*(v+1)<=120000000) (aLo:aDu H Q b z M (u+40*(v+1)))
def aKv:Sp:=awX
def ayB{u:Nat}(h:∀k,Bd u (Pm.co L k)):∀x∈Pm.trim L,Bd u x:=λx hx=>by
 obtain⟨k,hk,e⟩:=wk.mp hx;rw[<-e,<-uR hk,rD];exact h k
def max_zero(m n:Nat):(if(m:Int)-((n:Int)-1)>0 then(m:Int)-((n:Int)-1)else 0).toNat=m-(n-1)∨n=0:=by
 by_cases h:n=0
 .exact .inr h
 .left;split<;>lia
def dq0(hn:p-(m-1)=n)(es:n-(i+1)=s)(hi:i<n)(hl:l=p)(hm:0<m):s+m<=l:=⋯
def dq3(hn:p-(m-1)=n)(es:n-(i+1)=s)(hi:i<n)(hl:l=p-(m-1)):s<l:=⋯
def dq4(es:n-(i+1)=s)(hi:i<n):(n:Int)-1-(i:Int)=(s:Int):=⋯
def dq1(h:0<m)(hl:s+m<=l):((s:Int)+((m:Int)-1)).toNat=s+(m-1)/\0<=(s:Int)+((m:Int)-1)/\(s:Int)+((m:Int)-1)<(l:Int):=⋯
def dq2{t:Nat}(h:t<m)(hl:s+m<=l):((s:Int)+(0+(t:Int))).toNat=s+t/\0<=(s:Int)+(0+(t:Int))/\(s:Int)+(0+(t:Int))<(l:Int)/\0<=0+(t:Int)/\0+(t:Int)<(m:Int)/\s+t<l/\(0+(t:Int)).toNat=t/\(s:Int)+(0+(t:Int))=((s+t:Nat):Int):=⋯
def aG2(H:Hp)(Q:VK)(b:Int)(p:List Int):Prop:=∀t m H',Same H H'->H' t=some (.tup (uw V.int m))->vX b p m->Q (.ref t) H'
inductive aLh(vs:List V)(H:Hp)(Q:VK)(E:XK):Prop|mk (P:Nat) (a:Addr) (p:List Int) (bf:vs=[.int P,.ref a]) (aY:cF P) (bG:P<4194304) (cj:H a=some (.tup (p.map V.int))) (cN:p.length<=300) (dZ:Py P p) (iR:aG2 H Q P p)
def au3:Sp:=aLh
def atx(H:Hp)(Q:VK)(b:Int)(p r:List Int):Prop:=∀t g H',Same H H'->H' t=some (.tup (uw V.int g))->Pm.Gcd b p r g->g.length<=max p.length r.length->Q (.ref t) H'
inductive aGf(vs:List V)(H:Hp)(Q:VK)(E:XK):Prop|mk (P:Nat) (a c:Addr) (p r:List Int) (bf:vs=[.int P,.ref a,.ref c]) (aY:cF P) (bG:P<4194304) (cj:H a=some (.tup (p.map V.int))) (cN:H c=some (.tup (r.map V.int))) (dZ:p.length<=40) (iR:r.length<=40) (j7:Py P p) (nU:Py P r) (AJ:(r=[]->p≠[])) (Vd:atx H Q P p r)
def aB6:Sp:=aGf
def aiw(h0:2<=P)(h:P<4194304){p:List Int}(hp:Py P p):∀x∈p,Bd 22 x:=λx hx=>by
 have:=hp.nu x hx;rw[oB ⋯]at this;rw[<-this];exact Bd.emod ⋯ ((Bd.of (n:=22) ⋯ ⋯).mono ∅)
inductive awe(vs:List V)(H:Hp)(Q:VK)(E:XK):Prop|mk (M z:Int) (bf:vs=[.int M,.int z]) (aY:0<M) (bG:Q (.int (Pm.nr M z)) H)
def avY:Sp:=awe
inductive axe(vs:List V)(H:Hp)(Q:VK)(E:XK):Prop|mk (M t:Int) (z:Nat) (y:Int) (bf:vs=[.int M,.int t,.int z,.int y]) (aY:cF z) (bG:z<4194304) (cj:0<M) (cN:¬(z:Int)∣M) (dZ:Q (.int (Pm.jn M t z y)) H)
def aKM:Sp:=axe
inductive aHg(vs:List V)(H:Hp)(Q:VK)(E:XK):Prop|mk (z:Nat) (a:Addr) (P:List Int) (bf:vs=[.int z,.ref a]) (aY:0<z) (bG:H a=some (.tup (P.map V.int))) (cj:P.length<=100) (cN:sW H Q (Pm.trim (P.map (tk z))))
def aDS:Sp:=aHg
inductive axl(vs:List V)(H:Hp)(Q:VK)(E:XK):Prop|mk (m a:Addr) (M z:List Int) (bf:vs=[.ref m,.ref a]) (aY:H m=some (.tup (M.map V.int))) (bG:H a=some (.tup (z.map V.int))) (cj:M.length<=40) (cN:z.length<=40) (dZ:Pm.Mon M) (iR:(∀v∈M,Bd 2640000 v)) (j7:(∀v∈z,Bd 2700000 v)) (nU:∀y H',Same H H'->(y=true↔Dv 0 M (Pm.co z))->Q (.bl y) H')
def aCE:Sp:=axl
inductive awh(vs:List V)(H:Hp)(Q:VK)(E:XK):Prop|mk (a c:Addr) (P t:List Int) (bf:vs=[.ref a,.ref c]) (aY:H a=some (.tup (P.map V.int))) (bG:H c=some (.tup (t.map V.int))) (cj:Pm.Mon P) (cN:P.length<=13) (dZ:t.length<P.length) (iR:(∀z∈P,Bd 81400 z)) (j7:(∀z∈t,Bd 81400 z)) (nU:∀g,Pm.Gc 0 P t g->sW H Q g)
def azO:Sp:=awh
def QF(p:Nat)(P:List Int)(k:Nat):tk (p:Int) (Pm.co (Pm.trim (P.map (tk p))) k)=tk p (Pm.co P k):=by
 rw[rD,Nf (tk0 _),xr]
def apt(p:Nat)(P:List Int):Py p (Pm.trim (P.map (tk p))):=Py.of λx hx=>by
 obtain⟨y,_,rfl⟩:=cA.mp hx;exact xr ..
def akc(p:Nat)(P:List Int):(Pm.trim (P.map (tk p))).length<=P.length:=by
 have:=GC (P.map (tk p))
 rwa [aC]at this
def azL(hp:cF p){P:List Int}(hP:Pm.Mon P):Pm.trim (P.map (tk p))≠[]:=λz=>by
 have:=QF p P (P.length-1);rw[z,jd,hP.one,Pm.OB hp,tk0]at this;exact absurd this ∅
def aOq{P g told:List Int}{N M:Int}{prime bad good:Nat}{ripe:Bool}(I:kZ P g N told M prime ripe bad good)(bP:∀x∈P,Bd 2640000 x)(h:bad+good<=119900):∀x∈told,Bd 2640000 x:=λx hx=>by
 by_cases c:M=1
 .rw[I.first c]at hx;exact bP x hx
 .obtain⟨k,hk,e⟩:=wk.mp hx;have n:=I.near c k;rw[uR hk,e]at n;unfold Nr at n;have h1:=I.hi;have h2:(2:Int)^(22*(bad+good))<=2^2637800:=by exact_mod_cast qW (n:=2) ∅ (⋯:22*(bad+good)<=2637800)
  have h3:M<=2^2637800:=TN h1 h2;have hpos:=I.pos;refine(show Bd 2637800 x from ?_).mono ∅;generalize hB:(2:Int)^2637800=B at h3;have h4:-B<x/\x<B:=⋯;unfold Bd;have h5:(x.natAbs:Int)<((2^2637800:Nat):Int):=by
   rw[ajk];show(x.natAbs:Int)<(2:Int)^2637800;rw[hB];lia
  exact_mod_cast h5
def afp(H:Hp)(a c:Addr)(P' g:List Int)(N:Int)(m:Nat)(σ':St)(H':Hp):Prop:=∃(o6 o7:Option V) (tt:Addr) (told:List Int) (M:Int) (prime:Nat) (ripe:Bool) (bad good:Nat),m=120000-(bad+good)/\σ'=[some (.ref a),some (.ref c),some (.ref tt),some (.int M),some (.int (prime:Int)),some (.bl ripe),o6,o7]/\Same H H'/\H' tt=some (.tup (told.map V.int))/\kZ P' g N told M prime ripe bad good/\Many (120000-(bad+good)) prime/\1000000<=prime/\bad+good<=119900
inductive avM(vs:List V)(H:Hp)(Q:VK)(E:XK):Prop|mk (z:Int) (a:Addr) (c:List Int) (bf:vs=[.int z,.ref a]) (aY:0<=z) (bG:H a=some (.tup (c.map V.int))) (cj:c.length<=100) (cN:sW H Q (cR z c))
def asU:Sp:=avM
inductive aEL(vs:List V)(H:Hp)(Q:VK)(E:XK):Prop|mk (z:Int) (a:Addr) (y:List Int) (bf:vs=[.int z,.ref a]) (aY:0<=z) (bG:H a=some (.tup (y.map V.int))) (cj:0<y.length) (cN:y.length<=100) (dZ:sW H Q (nM z y))
def aEd:Sp:=aEL
def ajT{lo:Int}(hz:n<=1000){rest:St}(hst:cst ix σ=none::rest)(f:Nat->Int)
  (he:∀H' k,Same H1 H'->k<n->∀kk:VK,kk (.int (f k)) H'->te (some (.int (lo+(k:Int)))::rest) H' kk)
  (hQ:∀D,H1 D=none->Q (.ref D) (upd H1 D (.lst ((aV n f).map V.int)))):kY ix (gM 0) oh te σ Q (pL lo n) H1:=by
 refine tH Gu (by rw[aC,wA];exact gW (fZ hz)) hst (λ_=>true) (λx=>match x with | .int k=> .int (f (k-lo).toNat)|_=> .non) ?_ ?_ ?_
 .intro H2 x g2 hx k hk;exact hk
 .intro H2 x g2 hx _ k hk;obtain⟨j,hj,rfl⟩:=cA.mp hx;have e1:(lo+(j:Int)-lo).toNat=j:=⋯;refine he H2 j g2 (qd.mp hj) k ?_;have hk':k (V.int (f (lo+(j:Int)-lo).toNat)) H2:=hk
  rwa [e1]at hk'
 .intro D hD;have el:((((kj n).map λi=>V.int (lo+(i:Nat))).filter λ_=>true).map λx=>match x with | .int k=>V.int (f (k-lo).toNat)|_=>V.non)=(aV n f).map V.int:=by
   rw[tX.mpr (by simp),gh,aV,gh];refine xG λk _=>?_;show V.int (f (lo+(k:Int)-lo).toNat)=V.int (f k);rw[(⋯:(lo+(k:Int)-lo).toNat=k)]
  rw[el];exact hQ D hD
def aFy:(GR.all λp=>(kj 32).all λd=>decide (d<2)||decide (p<d*d)||decide (p%d≠0))=true:=by decide +kernel
def apc(h:P∈GR):cF P:=by
 have hr:=afX P h;refine Vb hr.1 λd hd hdd hdv=>?_;have h32:d<32:=by
  by_cases c:d<32
  .exact c
  .have:32*32<=d*d:=tW ⋯ ⋯;lia
 have:=jU.mp (jU.mp aFy P h) d (qd.mpr h32);simp only[Ia,decide_eq_true_eq]at this;have:=Nat.mod_eq_zero_of_dvd hdv;lia
def Ai(r:Rw):List Int:=Pm.trim (aV r.rule.length λk=>tk r.b (Pm.tp (cR r.b r.rule) r.at k))
def aKP(r:Rw):(Ai r).length<=r.rule.length:=by
 have:=GC (aV r.rule.length λk=>tk r.b (Pm.tp (cR r.b r.rule) r.at k))
 rwa [eU]at this
def lK.Rk(ok:lK r):∀x∈cR r.b r.rule,Bd 29000 x:=O7 ok.jP ok.tu ∅ ok.j5
def aEI(ok:lK r):∀x∈Ai r,Bd 81400 x:=λx hx=>by
 obtain⟨k,_,rfl⟩:=mU (WH hx);refine xg ok.jP ((Bd.of (n:=10) (by have:=ok.jP;lia) (by have:=ok.tu;lia)).mono ∅) ?_;have hs:=ok.short;have hl:=ok.len;unfold Pm.tp;rw[o9,ji];refine(zp (c:=81300) _ λi hi=>?_).mono ⋯;refine(Bd.mul (m:=29000) (n:=52300) (jo ok.Rk _) ?_).mono ⋯;have e:r.at i=r.starts.getD i 0:=Mz ⋯;rw[e];exact Bd.getD ok.lu _
inductive aEn(vs:List V)(H:Hp)(Q:VK)(E:XK):Prop|mk (v:V) (z:Rw) (a:Addr) (bf:vs=[v,.ref a]) (aY:bQ H v z) (bG:lK z) (cj:H a=some (.tup ((cR z.b z.rule).map V.int))) (cN:sW H Q (Ai z))
def ayF:Sp:=aEn
def an3(h:Pm.Mon L)(hn:∀k,tk b (Pm.co L k)=Pm.co L k):Py b L:={aez (λz=>by have:=h.pos;rw[z]at this;exact absurd this ∅) (by rw[h.one];decide),λx hx=>by
 obtain⟨k,hk,e⟩:=wk.mp hx;have:=hn k
 rwa [uR hk,e]at this}
def aHr(b:Int)(c:List Int)(h1:tk b 1=1)(k:Nat):tk b (Pm.co (cR b c) k)=Pm.co (cR b c) k:=by
 have h:∀x∈cR b c,tk b x=x:=λx hx=>by
  rcases gP.mp hx with hx|hx
  .obtain⟨j,_,e⟩:=mU hx;rw[e,xr]
  .rw[dX.mp hx,h1]
 by_cases hk:k<(cR b c).length
 .exact h _ (Vs hk)
 .rw[cB ⋯,tk0]
structure Bc(r:Rw):Prop where
 ok:lK r
 hB:gY r.b
 cL:r.rule.length<=12
inductive aNi(vs:List V)(H:Hp)(Q:VK)(E:XK):Prop|mk (b:Int) (a c:Addr) (P t:List Int) (bf:vs=[.int b,.ref a,.ref c]) (aY:H a=some (.tup (P.map V.int))) (bG:H c=some (.tup (t.map V.int))) (cj:ByP b) (cN:Pm.Mon P) (dZ:P.length<=13) (iR:t.length<P.length) (j7:(∀z∈P,Bd 81400 z)) (nU:(∀z∈t,Bd 81400 z)) (AJ:Py b P) (Vd:Py b t) (ag0:∀g,Pm.Gc b P t g->sW H Q g)
def aFW:Sp:=aNi
def ant(hB:gY b){P g L:List Int}(hP:P.length<=13)(hg:Pm.Mon g)(nL:∀k,tk b (Pm.co L k)=Pm.co L k)(e:∀k,tk b (Pm.co P k)=tk b (cv (Pm.co g) (Pm.co L) k))(hl:g.length+L.length=P.length+1){u:Nat}(J8:10<=u)(hu:∀k,Bd u (Pm.co P k))(k:Nat):Bd (u+169) (Pm.co L k):=by
 have hp:=hg.pos;by_cases h0:b=0
 .subst h0;exact LN hg (λk=>by have:=e k;rwa [eX,eX]at this) hP ⋯ ⋯ hu k
 .rw[<-nL k];have:=(vV hB.lo (Pm.co L k)).resolve_left h0;exact(Bd.of (n:=10) ⋯ (by have:=hB.hi;lia)).mono ⋯
def Sh(r:Rw)(L:List Int):Prop:=∃g,Pm.Gc r.b (cR r.b r.rule) (Ai r) g/\Pm.Div r.b (cR r.b r.rule) g L []
theorem Sh.uniq{r:Rw}(hB:gY r.b){L L':List Int}(h:Sh r L)(h':Sh r L'):L=L':=by
 intros g G D h;intros g' G' D' h';obtain rfl:=G.uniq hB.one G';exact(D.uniq G.mon D').1
def akT(hB:gY b){P t g:List Int}(hP:Pm.Mon P)(G:Pm.Gc b P t g):∃L,Pm.Mon L/\(∀k,tk b (Pm.co L k)=Pm.co L k)/\L.length+g.length=P.length+1/\(∀k,tk b (Pm.co P k)=tk b (cv (Pm.co L) (Pm.co g) k))/\Pm.Div b P g L []:=by
 obtain⟨L,hL,nL,lL,eL⟩:=akL hB.one hP G.mon G.one;exact{L,hL,nL,lL,eL,an3 hL nL,Py.nil _,G.mon.pos,λk=>by rw[jd,gj];exact(eL k).symm}
inductive av7(vs:List V)(H:Hp)(Q:VK)(E:XK):Prop|mk (v:V) (r:Rw) (bf:vs=[v]) (aY:bQ H v r) (bG:Bc r) (cj:∀L,Sh r L->sW H Q L)
def aFU:Sp:=av7
def Lz(r:Rw)(L:List Int):Rw:={r.b,nM r.b L,r.starts.take (L.length-1)}
end
open Classical in
section
variable {xs rule sums:List Int}{ix:List (Option Nat)}{te:TE}{σ:St}{H1:Hp}{Q:VK}{n Z k w:Nat}{x:Int}{r:Rw}
def sh(r:Rw):Rw:=if h:∃L,Sh r L then Lz r h.choose else r
structure Fb(r:Rw):Prop where
 by_:(sh r).b=r.b
 len:(sh r).rule.length=(sh r).starts.length
 le:(sh r).rule.length<=r.rule.length
 rE:∀x∈(sh r).rule,j6 r.b x
 pN:∀x∈(sh r).starts,x∈r.starts
 j5:∀u,10<=u->(∀x∈r.rule,Bd u x)->∀x∈(sh r).rule,Bd (u+169) x
theorem Sh.ok{r:Rw}(o:Bc r){L:List Int}(h:Sh r L):sh r=Lz r L/\0<L.length/\L.length<=r.rule.length+1/\Fb r:=by
 have ex:∃L,Sh r L:={L,(h)};have e:sh r=Lz r L:=by
  unfold sh;rw[dif_pos ex,ex.choose_spec.uniq o.hB h]
 have hm:=Ci r.b r.rule;have lq:(cR r.b r.rule).length=r.rule.length+1:=o9 ..;have cL:=o.cL;have hl:=o.ok.len;intros g G D h;obtain⟨L',hL,nL,lL,eL,D'⟩:=akT o.hB hm G;obtain⟨rfl,_⟩:=D.uniq G.mon D';have hp:=hL.pos;have gp:=G.mon.pos;exists e,hp,⋯;have lr:(nM r.b L).length=L.length-1:=ZF ..;refine{by rw[e];rfl,?_,?_,?_,?_,?_}<;>rw[e]
 .show(nM r.b L).length=(r.starts.take _).length;rw[lr,nK];lia
 .show(nM r.b L).length<=_;lia
 .intro x hx;obtain⟨k,_,rfl⟩:=mU (show x∈aV _ _ from hx);exact vV o.ok.jP _
 .exactλx hx=>Ma hx
 .intro u J8 hu x hx;obtain⟨k,_,rfl⟩:=mU (show x∈aV _ _ from hx);refine vZ o.hB ⋯ ?_;rw[Kr];exact Ky (ant o.hB ⋯ G.mon nL (λk=>by rw[eL k,mC]) ⋯ J8 (jo (O7 o.ok.jP o.ok.tu J8 hu)) _)
inductive aOD(vs:List V)(H:Hp)(Q:VK)(E:XK):Prop|mk (v:V) (z:Rw) (bf:vs=[v]) (aY:bQ H v z) (bG:Bc z) (cj:∀v' H',Same H H'->bQ H' v' (sh z)->Fb z->Q v' H')
def akC:Sp:=aOD
def ajs{J:It}{xs:List V}(I:qx J xs H1)(hz:xs.length<=sizeLine){rest:St}(hst:cst ix σ=none::rest)(F:V->V)
  (he:∀(H':Hp) (x:V),Same H1 H'->x∈xs->∀k:VK,(∀H2,Same H' H2->k (F x) H2)->te (some x::rest) H' k)
  (hQ:∀D H',H1 D=none->Same H1 H'->H' D=some (.lst (xs.map F))->Q (.ref D) H'):
  kY ix (gM 0) oh te σ Q J H1:=by
 constructor;intro D hD;refine{λi m σ' H'=>m=xs.length-i/\i<=xs.length/\(∃o,σ'=o::rest)/\Same H1 H'/\H' D=some (.lst ((xs.take i).map F)),{xs.length,by simp,dW _,{none,(hst)},Same.new hD _,by rw[aq];rfl},?_};rintro i m σ' H' ⟨rfl,hi,⟨o,rfl⟩,g,hl⟩;by_cases hlt:i<xs.length
 .refine .inr {I.go i _ g hlt,λx H2 y=>?_};obtain⟨rfl,hx⟩:=I.mK i _ x H2 g y;have hx:=hx hlt;have hm:x∈xs:=List.mem_of_getElem? hx;have et:xs.take (i+1)=xs.take i++[x]:=by rw[Pg,hx];rfl
  change te (some x::rest) H2 _;refine he H2 x g hm _ λH3 g3=>{_,g3 _ _ hl,by rw[aC,nK];lia,xs.length-(i+1),⋯,rfl,hlt,{()},Same.upd (g.trans g3) hD _,?_};rw[aq,et,gR];rfl
 .have e:i=xs.length:=⋯;subst e;rw[zG]at hl;exact .inl {I.stop _ _ g (bO _),hQ D H' hD g hl}
def xH(hz:n<=1000){rest:St}(hst:cst ix σ=none::rest)(f:Nat->Int)
  (he:∀H' k,Same H1 H'->k<n->∀kk:VK,(∀H2,Same H' H2->kk (.int (f k)) H2)->te (some (.int (0+(k:Int)))::rest) H' kk)
  (hQ:∀D H',H1 D=none->Same H1 H'->H' D=some (.lst ((aV n f).map V.int))->Q (.ref D) H'):kY ix (gM 0) oh te σ Q (pL 0 n) H1:=by
 refine ajs Gu (by rw[aC,wA];exact gW (fZ hz)) hst (λx=>match x with | .int k=> .int (f k.toNat)|_=> .non) ?_ ?_
 .intro H2 x g2 hx k hk;obtain⟨j,hj,rfl⟩:=cA.mp hx;have e1:(0+(j:Int)).toNat=j:=⋯;refine he H2 j g2 (qd.mp hj) k λH3 g3=>?_;have hk':k (V.int (f (0+(j:Int)).toNat)) H3:=hk H3 g3
  rwa [e1]at hk'
 .intro D H' hD g hl;refine hQ D H' hD g ?_;rw[hl,aV,gh,gh];refine congrArg (λz=>some (HO.lst z)) (xG λk _=>?_);show V.int (f (0+(k:Int)).toNat)=V.int (f k);rw[(⋯:(0+(k:Int)).toNat=k)]
def oY(rule sums:List Int)(k:Nat):Int:=Pm.sm (min (k-1) rule.length) λi=>Pm.co rule i*Pm.co sums (k-2-i)
abbrev Le(x:Int)(n:Nat):Prop:=x.natAbs<=n
theorem Le.sm{f:Nat->Int}{c:Nat}:∀n:Nat,(∀k,k<n->Le (f k) c)->Le (Pm.sm n f) (n*c)
 |0,_=>dW _
 |n+1,h=>by
  have h1:=Le.sm n λk hk=>h k ⋯;have h2:=h n ⋯;have h3:=Ng (Pm.sm n f) (f n);show(Pm.sm n f+f n).natAbs<=(n+1)*c;rw[oW];unfold Le at h1 h2;lia
def Le.mul{y:Int}{m:Nat}(h1:Le x m)(h2:Le y n):Le (x*y) (m*n):=by
 show(x*y).natAbs<=m*n;rw[yN];exact tW h1 h2
def Le.bd(h:Le x (2^n)):Bd (n+1) x:=by
 show x.natAbs<2^(n+1);have:0<2^n:=Ej ∅;rw[lZ];unfold Le at h;lia
def aJx(hk:1<=k)(hl:rule.length=k-1)(hr:∀i,i<k-1->Le (Pm.co rule i) (Z^(i+1)))(hs:∀i,i<k->Le (Pm.co sums i) (Z^(i+1))):Le ((Pm.co sums (k-1)-oY rule sums k)/(k:Int)) (Z^k):=by
 have e1:Le (oY rule sums k) ((k-1)*Z^k):=by
  unfold oY;rw[hl,amc];refine Le.sm (k-1) λi hi=>?_;have:=(hr i hi).mul (hs (k-2-i) ⋯);rw[<-tO,(⋯:i+1+(k-2-i+1)=k)]at this;exact this
 have e2:=hs (k-1) ⋯;rw[(⋯:k-1+1=k)]at e2;obtain⟨m,rfl⟩:∃m,k=m+1:={k-1,⋯};rw[ji]at e1 e2⊢;generalize Pm.co sums m=s at e2;generalize oY rule sums (m+1)=t at e1;generalize Z^(m+1)=z at e1 e2;clear hr hs hl;have h3:Le (s-t) ((m+1)*z):=by
  unfold Le at *;rw[oW];exact cT (Int.natAbs_sub_le s t) (YC (m*z) z▸Nat.add_le_add e2 e1)
 generalize s-t=d at h3;unfold Le at *;have h4:-(((m+1)*z:Nat):Int)<=d/\d<=(((m+1)*z:Nat):Int):=⋯;rw[sX]at h4;have p:(0:Int)<((m+1:Nat):Int):=⋯;have h5:d/((m+1:Nat):Int)<=(z:Int):=by
  have:=aqu p h4.2;rw[aph _ ⋯]at this;exact this
 have h6:-(z:Int)<=d/((m+1:Nat):Int):=by
  have:=aqu p h4.1;rw[<-ZS,aph _ ⋯]at this;exact this
 lia
theorem alY{X:Nat}(hX:2<=X)(c:Nat):∀(n:Nat) (f:Nat->Int),(∀i,i<n->Le (f i) (c*X^(n-i)))->Le (Pm.sm n f) (c*(2*X^n))
 |0,_,_=>dW _
 |n+1,f,h=>by
  have h0:=h 0 ⋯;have h1:=alY hX c n (λi=>f (i+1)) λi hi=>by have:=h (i+1) ⋯;rw[(⋯:n+1-(i+1)=n-i)]at this;exact this
  rw[Kg];have h3:=Ng (f 0) (Pm.sm n λi=>f (i+1));have e:X^(n+1-0)=X^n*X:=lZ ..;rw[e]at h0;have e2:c*(2*X^(n+1))=c*(X^n*X)+c*(X^n*X):=by rw[lZ,<-yx,<-Nat.two_mul]
  have e3:c*(2*X^n)<=c*(X^n*X):=pU _ (by rw[oF];exact pU _ hX);unfold Le at *;lia
def aCa(hk:1<=k)(hr:∀i,Le (Pm.co rule i) (2^w))(hs:∀i,i<k-1->Le (Pm.co sums i) ((2^(w+3))^(i+1))):Le ((if k<=rule.length then(k:Int)*Pm.co rule (k-1)else 0)+oY rule sums k) ((2^(w+3))^k):=by
 obtain⟨m,rfl⟩:∃m,k=m+1:={k-1,⋯};rw[ji]at hs⊢;have X2:2<=2^(w+3):=by
  have:0<2^w:=Ej ∅;rw[tO];lia
 have e1:Le (oY rule sums (m+1)) (2^w*(2*(2^(w+3))^m)):=by
  have e:oY rule sums (m+1)=Pm.sm m λi=>if i<rule.length then Pm.co rule i*Pm.co sums (m+1-2-i)else 0:=by
   unfold oY;rw[ji,qD (m:=min m rule.length) (n:=m) ⋯ λi h1 h2=>if_neg ⋯];exact iY λi hi=>(if_pos ⋯).symm
  rw[e];refine alY X2 _ m _ λi hi=>?_;split
  .have:=(hr i).mul (hs (m+1-2-i) ⋯);rw[(⋯:m+1-2-i+1=m-i)]at this;exact this
  .exact dW _
 have e2:Le (if m+1<=rule.length then((m+1:Nat):Int)*Pm.co rule m else 0) ((m+1)*2^w):=by
  split
  .have h1:Le ((m+1:Nat):Int) (m+1):=by unfold Le;lia
   exact h1.mul (hr m)
  .exact dW _
 have h3:=Ng (if m+1<=rule.length then((m+1:Nat):Int)*Pm.co rule m else 0) (oY rule sums (m+1));have kX:∀m,m+1<=6*8^m:=λm=>by
  induction m with
  |zero=>decide
  |succ m ih=>rw[lZ];lia
 have p8:8^m<=(2^(w+3))^m:=acF (by
  have:0<2^w:=Ej ∅;rw[tO];lia) m
 have e5:(2^(w+3))^(m+1)=2^w*(2*(2^(w+3))^m)+2^w*(6*(2^(w+3))^m):=by
  rw[lZ,oF,tO,<-yx,<-QW,R9]
 have e6:(m+1)*2^w<=2^w*(6*(2^(w+3))^m):=by
  rw[oF];refine pU _ (cT (kX m) (pU _ p8))
 unfold Le at *;lia
def vL(h:n<xs.length):iJ (xs.map V.int) (n:Int)=some (.int (Pm.co xs n)):=by
 rw[fR ⋯ ⋯,d7];rfl
def ahq(n:Nat)(f:Nat->Int):(aV n f).sum=Pm.sm n f:=by rw[aV,Kh]
structure Wf(r:Rw):Prop where
 hB:gY r.b
 len:r.rule.length=r.starts.length
 cL:r.rule.length<=12
 rE:∀x∈r.rule,j6 r.b x
 pN:∀x∈r.starts,j6 r.b x
structure Sm(r:Rw):Prop where
 wf:Wf r
 j5:∀x∈r.rule,Bd 67 x
 lu:∀x∈r.starts,Bd 67 x
def Sm.jT(h:Sm r):Bc r:=
 {{h.wf.len,cT h.wf.cL ∅,h.wf.hB.lo,h.wf.hB.hi,h.wf.rE,h.wf.pN,λx hx=>(h.j5 x hx).mono ∅,λx hx=>(h.lu x hx).mono ∅},h.wf.hB,h.wf.cL}
def Fb.wf(o:Bc r)(k:Fb r):Wf (sh r):=
 {by rw[k.by_];exact o.hB,k.len,cT k.le o.cL,by rw[k.by_];exact k.rE,by rw[k.by_];exactλx hx=>o.ok.pN x (k.pN x hx)}
structure Kn(r:Rw):Prop where
 ok:lK r
 hB:gY r.b
 cL:r.rule.length<=12
 bd:∀x∈r.rule,Bd 236 x
 at_:∀k,Bd (67+248*k) (r.at k)
def Sm.kn(h:Sm r)(k:Fb r):Kn (sh r):=by
 have w:=k.wf h.jT;have lo:=w.hB.lo;have hi:=w.hB.hi;have b1:=k.j5 67 ∅ h.j5;have b2:∀x∈(sh r).starts,Bd 67 x:=λx hx=>h.lu x (k.pN x hx);refine{{w.len,cT w.cL ∅,lo,hi,w.rE,w.pN,λx hx=>(b1 x hx).mono ∅,λx hx=>(b2 x hx).mono ∅},w.hB,w.cL,b1,λn=>?_};refine(ae4 w.len lo ((Bd.of (n:=10) ⋯ ⋯).mono ∅) b1 b2 n).mono ?_;have:=pU n (show 236+(sh r).rule.length<=248 by have:=w.cL;lia);rw[oF 248];exact aja this 67
def gY.pr{b:Int}(h:gY b):b=0∨cF b.toNat:=h.p.imp id λ⟨P,hP,e⟩=>by rw[e];exact apc hP
def amD(h:Bd 67 x):x.natAbs<10^60:=Bw h (by decide +kernel)
inductive Cl|by_|long|far
abbrev Out:=Sum Rw Cl
def adr(CB CL CF:Addr):Cl->Addr
 |.by_=>CB
 |.long=>CL
 |.far=>CF
def jA(A:Cl->Addr)(o:Out)(H:Hp)(Q:VK)(E:XK):Prop:=match o with
 |.inl r=>∀v' H',Same H H'->bQ H' v' r->Wf r->Q v' H'
 |.inr c=>∀H',Same H H'->E (.ref (A c)) none H'
def Iu(r:Rw)(H:Hp)(Q:VK):Prop:=∀v' H',Same H H'->bQ H' v' r->Wf r->Q v' H'
def jA.from{A:Cl->Addr}{o:Out}{H:Hp}{E:XK}(g:Same H H1)(q:jA A o H Q E):jA A o H1 Q E:=by
 cases o with
 |inl r=>exactλv' H' g' hR'=>q v' H' (g.trans g') hR'
 |inr c=>exactλH' g'=>q H' (g.trans g')
def told(b:Int)(ns ms:List Int):Rw:=sh {b,ns.map (tk b),ms.map (tk b)}
abbrev PF:=(Nat->Int)->(Nat->Int)->Nat->Int
def AH:PF:=λa c n=>a n+c n
def Oq:PF:=λa c n=>a n*c n
def Cp:PF:=λa c n=>Pm.sm (n+1) λi=>a i*c (n-i)
def yc(s e:Int):Prop:=0<=s/\s<=100/\1<=e/\e<=10
abbrev uh(n:Nat):List Int:=aV n λ_=>0
def gQ(rule:List Int):Nat->List Int
 |0=>[]
 |k+1=>gQ rule k++[(if k+1<=rule.length then((k+1:Nat):Int)*Pm.co rule k else 0)+oY rule (gQ rule k) (k+1)]
def oO(sums:List Int):Nat->List Int
 |0=>[]
 |k+1=>oO sums k++[(Pm.co sums k-oY (oO sums k) sums (k+1))/((k+1:Nat):Int)]
theorem wN(rule:List Int):∀n,(gQ rule n).length=n
 |0=>rfl
 |n+1=>by rw[gQ,fP,wN rule n];rfl
theorem uF(sums:List Int):∀n,(oO sums n).length=n
 |0=>rfl
 |n+1=>by rw[oO,fP,uF sums n];rfl
def Le.list{z:Nat}(hz:(xs.length)*w+1<=z)(h:∀i,i<xs.length->Le (Pm.co xs i) ((2^w)^(i+1))):∀x∈xs,Bd z x:=λx hx=>by
 obtain⟨k,hk,e⟩:=wk.mp hx;have:=h k hk;rw[uR hk,e,<-YJ]at this;refine this.bd.mono ?_;have:w*(k+1)<=xs.length*w:=by rw[oF];exact qp _ hk
 lia
def Le.grow(hl:xs.length=n)(h:∀i,i<n->Le (Pm.co xs i) (Z^(i+1)))(hx:Le x (Z^(n+1))):∀i,i<n+1->Le (Pm.co (xs++[x]) i) (Z^(i+1)):=λi hi=>by
 rw[Vv];by_cases d:i<n
 .rw[if_pos ⋯];exact h i d
 .have e:i=n:=⋯;subst e;rw[if_neg ⋯,hl,CY];exact hx
theorem B4{rule:List Int}(h:∀i,Le (Pm.co rule i) (2^236)):∀n i,i<n->Le (Pm.co (gQ rule n) i) ((2^239)^(i+1))
 |0=>λi hi=>absurd hi ⋯
 |n+1=>Le.grow (wN rule n) (B4 h n) (aCa (w:=236) (k:=n+1) ⋯ h λj hj=>B4 h n j ⋯)
theorem Z9{sums:List Int}{m:Nat}(h:∀i,i<m->Le (Pm.co sums i) ((2^2390)^(i+1))):∀n,n<=m->∀i,i<n->Le (Pm.co (oO sums n) i) ((2^2390)^(i+1))
 |0=>λ_ i hi=>absurd hi ⋯
 |n+1=>λhn=>Le.grow (uF sums n) (Z9 h n ⋯) (aJx (k:=n+1) ⋯ (uF sums n) (λj hj=>Z9 h n ⋯ j ⋯) λj hj=>h j ⋯)
def Yv(f:PF)(o t:Rw)(ns:List Int):Rw:=told o.b ns (aV ns.length (f o.at t.at))
end
open Classical in
def wD(f:PF)(r s:Rw):Out:=if r.b=s.b then if(sh r).rule.length+(sh s).rule.length<=12 then .inl (Yv f (sh r) (sh s) (nM r.b (Pm.mul r.b (cR r.b (sh r).rule) (cR r.b (sh s).rule))))else .inr .long else .inr .by_
open Classical in
def Dj(r s:Rw):Out:=if r.b=s.b then if(sh r).rule.length*(sh s).rule.length<=12 then .inl (Yv Oq (sh r) (sh s) (oO (aV ((sh r).rule.length*(sh s).rule.length) λk=>Pm.co (gQ (sh r).rule ((sh r).rule.length*(sh s).rule.length)) k*Pm.co (gQ (sh s).rule ((sh r).rule.length*(sh s).rule.length)) k) ((sh r).rule.length*(sh s).rule.length)))else .inr .long else .inr .by_
open Classical in
def HC(r:Rw):Out:=if(sh r).rule.length+1<=12 then .inl (told r.b (nM r.b (Pm.mul r.b (cR r.b (sh r).rule) [tk r.b (-1),1])) (aV ((sh r).rule.length+1) λn=>Pm.sm (n+1) (sh r).at))else .inr .long
def evR(r:Rw)(st e N:Nat):Rw:=told r.b (oO (aV N λk=>Pm.co (gQ (sh r).rule (e*N)) (e*(k+1)-1)) N) (aV N λk=>(sh r).at (st+e*k))
open Classical in
def Du(r:Rw)(x y:Int):Out:=if yc x y then .inl (evR r x.toNat y.toNat (sh r).rule.length)else .inr .far
open Classical in
section
variable {xs:List Int}{ix:List (Option Nat)}{te:TE}{σ:St}{H1:Hp}{Q:VK}{a:Addr}{b:Int}{m n:Nat}{r:Rw}
def CK(r:Rw)(l:List Int):Out:=if(sh r).rule.length+l.length<=12 then .inl (told r.b ((sh r).rule++uh l.length) (l.map (tk r.b)++(sh r).starts))else .inr .long
inductive aNX(C:Addr)(vs:List V)(H:Hp)(Q:VK)(E:XK):Prop|mk (v1 v2:V) (r1 r2:Rw) (bf:vs=[v1,v2]) (aY:bQ H v1 r1) (bG:bQ H v2 r2) (cj:(r1.b=r2.b->Q (.int r1.b) H)) (cN:(r1.b≠r2.b->E (.ref C) none H))
def aDi(C:Addr):Sp:=aNX C
def vp{J:It}(I:qx J (xs.map V.int) H1)(hz:xs.length<=1000){rest:St}(hst:cst ix σ=none::rest)(f:Int->Int)
  (he:∀H' x,Same H1 H'->x∈xs->∀kk:VK,kk (.int (f x)) H'->te (some (.int x)::rest) H' kk)
  (hQ:∀D,H1 D=none->Q (.ref D) (upd H1 D (.lst ((xs.map f).map V.int)))):kY ix (gM 0) oh te σ Q J H1:=by
 refine tH I (by rw[aC];exact gW (fZ hz)) hst (λ_=>true) (λx=>match x with | .int k=> .int (f k)|_=> .non) ?_ ?_ ?_
 .intro H2 x g2 hx k hk;exact hk
 .intro H2 x g2 hx _ k hk;obtain⟨y,hy,rfl⟩:=cA.mp hx;exact he H2 y g2 hy k hk
 .intro D hD;have el:(((xs.map V.int).filter λ_=>true).map λx=>match x with | .int k=>V.int (f k)|_=>V.non)=(xs.map f).map V.int:=by
   rw[tX.mpr (by simp),gh,gh];rfl
  rw[el];exact hQ D hD
def Ints(H:Hp)(a:Addr)(xs:List Int):Prop:=H a=some (.lst (xs.map V.int))∨H a=some (.tup (xs.map V.int))
def Ints.same{H H':Hp}(h:Ints H a xs)(g:Same H H'):Ints H' a xs:=h.imp (g _ _) (g _ _)
def amo{K:au}(hA:Ints H1 a xs)(hz:xs.length<=1000){rest:St}(hst:cst ix σ=none::rest)(f:Int->Int)
  (he:∀H' x,Same H1 H'->x∈xs->∀kk:VK,kk (.int (f x)) H'->te (some (.int x)::rest) H' kk)
  (hQ:∀D,H1 D=none->Q (.ref D) (upd H1 D (.lst ((xs.map f).map V.int)))):apw K (V.ref a) H1 λJ H1=>kY ix (gM 0) oh te σ Q J H1:=by
 rcases hA with h|h
 .exact{a,rfl,.inl {{_,ak.of h},vp (qj (ak.of h)) hz hst f he hQ}}
 .exact{a,rfl,.inr {{_,ao.of h},vp (Bl (ao.of h)) hz hst f he hQ}}
inductive awc(C:Addr)(vs:List V)(H:Hp)(Q:VK)(E:XK):Prop|mk (n:Int) (bf:vs=[.int n]) (aY:(n<=12->Q .non H)) (bG:(12<n->E (.ref C) none H))
def aJE(C:Addr):Sp:=awc C
inductive aCL(vs:List V)(H:Hp)(Q:VK)(E:XK):Prop|mk (z:Int) (a e:Addr) (ns ms:List Int) (bf:vs=[.int z,.ref a,.ref e]) (aY:Ints H a ns) (bG:Ints H e ms) (cj:gY z) (cN:ns.length<=12) (dZ:ms.length=ns.length) (iR:(∀x∈ns,Bd 29000 x)) (j7:(∀x∈ms,Bd 52300 x)) (nU:Iu (told z ns ms) H Q)
def atn:Sp:=aCL
def abU(hb:gY b){u:Nat}(hu:10<=u){xs:List Int}(h:∀x∈xs,Bd u x):(∀x∈xs.map (tk b),Bd u x)/\∀x∈xs.map (tk b),j6 b x:=
 {λx hx=>by obtain⟨y,hy,rfl⟩:=cA.mp hx;exact vZ hb hu (h y hy),λx hx=>by obtain⟨y,_,rfl⟩:=cA.mp hx;exact vV hb.lo _}
def Cr{a:Nat->Int}(h:n<m):iJ ((aV m a).map V.int) (n:Int)=some (.int (a n)):=by
 rw[fR ⋯ (by rw[eU];lia),d7];show some (V.int (Pm.co (aV m a) n))=_;rw[kW,if_pos h]
inductive aMb(f:PF)(vs:List V)(H:Hp)(Q:VK)(E:XK):Prop|mk (l1 l2:Addr) (y:Nat) (z c:Nat->Int) (x:Nat) (bf:vs=[.ref l1,.ref l2,.int (x:Int)]) (aY:H l1=some (.lst ((aV y z).map V.int))) (bG:H l2=some (.lst ((aV y c).map V.int))) (cj:x<y) (cN:y<=12) (dZ:(∀i,i<=12->Bd 20000 (z i))) (iR:(∀i,i<=12->Bd 20000 (c i))) (j7:∀H',Same H H'->Q (.int (f z c x)) H')
def Wl(f:PF):Sp:=aMb f
def MG(mg:Str->Option Value)(g:Addr)(f:PF):Prop:=(mg "sum_place" = some (.ref g)/\f=AH)∨(mg "rolled_place" = some (.ref g)/\f=Cp)∨(mg "product_place" = some (.ref g)/\f=Oq)
def MG.bd{mg:Str->Option Value}{g:Addr}{f:PF}(h:MG mg g f){a c:Nat->Int}(ha:∀i,i<=12->Bd 3100 (a i))(hc:∀i,i<=12->Bd 3100 (c i)){n:Nat}(hn:n<=12):Bd 6300 (f a c n):=by
 rcases h with⟨_,rfl⟩|⟨_,rfl⟩|⟨_,rfl⟩
 .exact((ha n hn).add (hc n hn)).mono ∅
 .exact(zp (n+1) λi hi=>(ha i ⋯).mul (hc (n-i) ⋯)).mono ⋯
 .exact((ha n hn).mul (hc n hn)).mono ∅
def Kn.few(h:Kn r)(i:Nat)(hi:i<=12):Bd 3100 (r.at i):=(h.at_ i).mono ⋯
inductive aBH(mg:Str->Option Value)(vs:List V)(H:Hp)(Q:VK)(E:XK):Prop|mk (f:PF) (v1 v2:V) (t g:Addr) (r1 r2:Rw) (ns:List Int) (bf:vs=[v1,v2,.ref t,.ref g]) (aY:MG mg g f) (bG:bQ H v1 r1) (cj:bQ H v2 r2) (cN:Kn r1) (dZ:Kn r2) (iR:Ints H t ns) (j7:ns.length<=12) (nU:(∀x∈ns,Bd 29000 x)) (AJ:Iu (Yv f r1 r2 ns) H Q)
def azm(mg:Str->Option Value):Sp:=aBH mg
def Kn.poly(h:Kn r):∀x∈cR r.b r.rule,Bd 236 x:=O7 h.hB.lo h.hB.hi ∅ h.bd
def aen(hB:gY b){p q:List Int}(hp:Pm.Mon p)(hq:Pm.Mon q)(bp:∀x∈p,Bd 236 x)(bq:∀x∈q,Bd 236 x)(hl:p.length+q.length<=15):(Pm.mul b p q).length=p.length+q.length-1/\(nM b (Pm.mul b p q)).length=p.length+q.length-2/\∀x∈nM b (Pm.mul b p q),Bd 29000 x:=by
 have l:=(azl hB.one hp hq).2;refine{l,by rw[ZF,l];lia,λx hx=>?_};obtain⟨k,_,rfl⟩:=mU (show x∈aV _ _ from hx);refine vZ hB ∅ ?_;rw[Kr];exact Ky (jo (λx hx=>(R3 hB.lo hB.hi ∅ bp bq x hx).mono ⋯) _)
inductive atv(CB CL CF:Addr)(mg:Str->Option Value)(vs:List V)(H:Hp)(Q:VK)(E:XK):Prop|mk (f:PF) (v1 v2:V) (g:Addr) (z s:Rw) (bf:vs=[v1,v2,.ref g]) (aY:MG mg g f) (bG:bQ H v1 z) (cj:bQ H v2 s) (cN:Sm z) (dZ:Sm s) (iR:jA (adr CB CL CF) (wD f z s) H Q E)
def ars(CB CL CF:Addr)(mg:Str->Option Value):Sp:=atv CB CL CF mg
inductive avd(CB CL CF:Addr)(f:PF)(vs:List V)(H:Hp)(Q:VK)(E:XK):Prop|mk (v1 v2:V) (z s:Rw) (bf:vs=[v1,v2]) (aY:bQ H v1 z) (bG:bQ H v2 s) (cj:Sm z) (cN:Sm s) (dZ:jA (adr CB CL CF) (wD f z s) H Q E)
def abK(CB CL CF:Addr)(f:PF):Sp:=avd CB CL CF f
inductive aNZ(vs:List V)(H:Hp)(Q:VK)(E:XK):Prop|mk (a c:Addr) (rule sums:List Int) (k:Nat) (bf:vs=[.ref a,.ref c,.int (k:Int)]) (aY:Ints H a rule) (bG:Ints H c sums) (cj:1<=k) (cN:k<=130) (dZ:k-1<=sums.length) (iR:(∀x∈rule,Bd 29000 x)) (j7:(∀x∈sums,Bd 29000 x)) (nU:∀H',Same H H'->Q (.int (oY rule sums k)) H')
def aPn:Sp:=aNZ
theorem Kn.co{r:Rw}(h:Kn r)(i:Nat):Le (Pm.co r.rule i) (2^236):=gW (jo h.bd i)
def ach{rule:List Int}(h:∀i,Le (Pm.co rule i) (2^236)){n:Nat}(hn:n<=120):∀x∈gQ rule n,Bd 29000 x:=Le.list (w:=239) (by rw[wN];lia) λi hi=>B4 h n i (by rw[wN]at hi;exact hi)
def WL{sums:List Int}(h:∀i,i<m->Le (Pm.co sums i) ((2^2390)^(i+1))){n:Nat}(hn:n<=m)(h12:n<=12):∀x∈oO sums n,Bd 29000 x:=Le.list (w:=2390) (by rw[uF];lia) λi hi=>Z9 h n hn i (by rw[uF]at hi;exact hi)
inductive aIF(vs:List V)(H:Hp)(Q:VK)(E:XK):Prop|mk (a:Addr) (rule:List Int) (z:Nat) (bf:vs=[.ref a,.int (z:Int)]) (aY:H a=some (.tup (rule.map V.int))) (bG:z<=120) (cj:(∀x∈rule,Bd 236 x)) (cN:∀l H',Same H H'->H' l=some (.lst ((gQ rule z).map V.int))->Q (.ref l) H')
def aLJ:Sp:=aIF
inductive ayA(vs:List V)(H:Hp)(Q:VK)(E:XK):Prop|mk (c:Addr) (sums:List Int) (z:Nat) (bf:vs=[.ref c]) (aY:H c=some (.lst (sums.map V.int))) (bG:sums.length=z) (cj:z<=12) (cN:(∀i,i<z->Le (Pm.co sums i) ((2^2390)^(i+1)))) (dZ:∀l H',Same H H'->H' l=some (.lst ((oO sums z).map V.int))->Q (.ref l) H')
def atu:Sp:=ayA
inductive aL1(CB CL CF:Addr)(vs:List V)(H:Hp)(Q:VK)(E:XK):Prop|mk (v1 v2:V) (z s:Rw) (bf:vs=[v1,v2]) (aY:bQ H v1 z) (bG:bQ H v2 s) (cj:Sm z) (cN:Sm s) (dZ:jA (adr CB CL CF) (Dj z s) H Q E)
def aps(CB CL CF:Addr):Sp:=aL1 CB CL CF
inductive aBZ(C:Addr)(vs:List V)(H:Hp)(Q:VK)(E:XK):Prop|mk (s e:Int) (bf:vs=[.int s,.int e]) (aY:(yc s e->Q .non H)) (bG:(¬yc s e->E (.ref C) none H))
def aHG(C:Addr):Sp:=aBZ C
inductive aKt(CB CL CF:Addr)(vs:List V)(H:Hp)(Q:VK)(E:XK):Prop|mk (v:V) (s e:Int) (z:Rw) (bf:vs=[v,.int s,.int e]) (aY:bQ H v z) (bG:Sm z) (cj:jA (adr CB CL CF) (Du z s e) H Q E)
def afV(CB CL CF:Addr):Sp:=aKt CB CL CF
inductive awS(vs:List V)(H:Hp)(Q:VK)(E:XK):Prop|mk (v:V) (r:Rw) (x:Int) (bf:vs=[v,.int x]) (aY:bQ H v r) (bG:Sm r) (cj:Bd 200 x) (cN:Iu (told r.b r.rule (r.starts.map λs=>x*s)) H Q)
def aqs:Sp:=awS
def aBs(a:Nat->Int)(h:n<=m):(aV m a).take n=aV n a:=by
 rw[aV,aV,<-vH,List.take_range,Yb h]
inductive aD0(CB CL CF:Addr)(vs:List V)(H:Hp)(Q:VK)(E:XK):Prop|mk (v:V) (z:Rw) (bf:vs=[v]) (aY:bQ H v z) (bG:Sm z) (cj:jA (adr CB CL CF) (HC z) H Q E)
def apf(CB CL CF:Addr):Sp:=aD0 CB CL CF
inductive aGx(CB CL CF:Addr)(vs:List V)(H:Hp)(Q:VK)(E:XK):Prop|mk (v:V) (z:Rw) (ln:Addr) (l:List Int) (bf:vs=[v,.ref ln]) (aY:bQ H v z) (bG:Sm z) (cj:H ln=some (.lst ((l.map (tk z.b)).map V.int))) (cN:l.length<=12) (dZ:(∀x∈l,Bd 67 x)) (iR:jA (adr CB CL CF) (CK z l) H Q E)
def apQ(CB CL CF:Addr):Sp:=aGx CB CL CF
def xK(b n:Int):Prop:=0<=n/\(b=0->n<=400)
inductive awz(C:Addr)(vs:List V)(H:Hp)(Q:VK)(E:XK):Prop|mk (z n:Int) (bf:vs=[.int z,.int n]) (aY:(xK z n->Q .non H)) (bG:(¬xK z n->E (.ref C) none H))
def axN(C:Addr):Sp:=awz C
end
open Classical in
section
variable {b n:Int}{r:Rw}{K:au}{a:Addr}{xs:List Int}{ix:List (Option Nat)}{te:TE}{σ:St}{H1:Hp}{Q:VK}
def P0(b:Int)(P p:List Int):List Int:=if h:∃r q,Pm.Div b p P q r then h.choose else[]
def amj{P p q r:List Int}(hm:Pm.Mon P)(h:Pm.Div b p P q r):P0 b P p=r:=by
 have ex:∃r q,Pm.Div b p P q r:={r,q,(h)};unfold P0;rw[dif_pos ex];exact(ex.choose_spec.choose_spec.uniq hm h).2
def yF(b:Int)(P:List Int)(n B:Nat):Nat->List Int
 |0=>P0 b P [1]
 |i+1=>P0 b P (if n/2^(B-(i+1))%2=1 then Pm.mul b (Pm.mul b (yF b P n B i) (yF b P n B i)) [0,1]else Pm.mul b (yF b P n B i) (yF b P n B i))
def Gw(b:Int)(rule:List Int)(n:Nat):List Int:=yF b (cR b rule) n (vJ (n:Int)) (vJ (n:Int))
def Ko(b:Int)(rule:List Int)(n:Nat):List Int:=aV rule.length (Pm.co (Gw b rule n))
inductive aEW(vs:List V)(H:Hp)(Q:VK)(E:XK):Prop|mk (z:Int) (a:Addr) (rule:List Int) (y:Nat) (bf:vs=[.int z,.ref a,.int y]) (aY:gY z) (bG:H a=some (.tup ((cR z rule).map V.int))) (cj:rule.length<=12) (cN:(∀x∈rule,Bd 67 x)) (dZ:(z=0->y<=400)) (iR:Bd 400 (y:Int)) (j7:∀p H',Same H H'->H' p=some (.tup ((Gw z rule y).map V.int))->(∀x∈Gw z rule y,Bd 3100000 x)->Q (.ref p) H')
def aLZ:Sp:=aEW
def ajU(b:Int)(p q:List Int):(Pm.mul b p q).length<=p.length+q.length:=by
 refine cT (GC _) ?_;rw[eU];exact bO _
def OB(hb:gY b)(k:Nat):tk b (Pm.co [1] k)=Pm.co [1] k:=by
 cases k with
 |zero=>rw[jk];exact hb.one
 |succ k=>rw[qL,jd];exact tk0 b
def ahE:∀x∈([0,1]:List Int),Bd 1 x:=λx hx=>by
 rcases cX.mp hx with rfl|hx
 .exact Bd.zero _
 .rw[dX.mp hx];exact Bd.of ∅ ∅
inductive aE5(C:Addr)(vs:List V)(H:Hp)(Q:VK)(E:XK):Prop|mk (v:V) (r:Rw) (n:Int) (bf:vs=[v,.int n]) (aY:bQ H v r) (bG:Sm r) (cj:Bd 400 n) (cN:(¬xK r.b n->E (.ref C) none H)) (dZ:(xK r.b n->(∀x∈Ko r.b r.rule n.toNat,Bd 3100000 x)->sW H Q (Ko r.b r.rule n.toNat)))
def aur(C:Addr):Sp:=aE5 C
inductive aON(vs:List V)(H:Hp)(Q:VK)(E:XK):Prop|mk (b:Int) (a l:Addr) (p f:List Int) (n:Nat) (bf:vs=[.int b,.ref a,.ref l,.int (0+(n:Int))]) (aY:0<=b) (bG:H a=some (.tup (p.map V.int))) (cj:(H l=some (.lst (f.map V.int))∨H l=some (.tup (f.map V.int)))) (cN:n+p.length<=f.length) (dZ:p.length<=1000) (iR:(∀x∈p,Bd 4000000 x)) (j7:(∀x∈f,Bd 61000000 x)) (nU:∀H',Same H H'->Q (.int (tk b (ks p (Pm.co f) n))) H')
def aCo:Sp:=aON
def Rw.on(r:Rw)(n:Nat):Rw:={r.b,r.rule,aV r.rule.length λm=>tk r.b (ks (Ko r.b r.rule n) (Pm.co (r.row (2*r.rule.length))) m)}
inductive atz(C:Addr)(vs:List V)(H:Hp)(Q:VK)(E:XK):Prop|mk (v:V) (r:Rw) (n:Int) (bf:vs=[v,.int n]) (aY:bQ H v r) (bG:Sm r) (cj:Bd 400 n) (cN:(¬xK r.b n->E (.ref C) none H)) (dZ:(xK r.b n->∀v' H',Same H H'->bQ H' v' (r.on n.toNat)->Q v' H'))
def alk(C:Addr):Sp:=atz C
inductive aDZ(C:Addr)(vs:List V)(H:Hp)(Q:VK)(E:XK):Prop|mk (v:V) (r:Rw) (bf:vs=[v]) (aY:bQ H v r) (bG:(r.b=0->Q .non H)) (cj:(r.b≠0->E (.ref C) none H))
def aru(C:Addr):Sp:=aDZ C
def Rw.rests(r:Rw)(d:Int):Rw:={d,r.rule.map (tk d),r.starts.map (tk d)}
theorem lK.rests{r:Rw}(h:lK r){d:Int}(hd:gY d):lK (r.rests d):=by
 have h0:=hd.lo;have h1:=hd.hi;refine{?_,?_,h0,h1,λx hx=>?_,λx hx=>?_,λx hx=>?_,λx hx=>?_}
 .show(r.rule.map (tk d)).length=(r.starts.map (tk d)).length;rw[aC,aC,h.len]
 .show(r.rule.map (tk d)).length<=24;rw[aC];exact h.short
 .obtain⟨y,_,rfl⟩:=cA.mp hx;exact vV h0 _
 .obtain⟨y,_,rfl⟩:=cA.mp hx;exact vV h0 _
 .obtain⟨y,hy,rfl⟩:=cA.mp hx;exact vZ hd ∅ (h.j5 y hy)
 .obtain⟨y,hy,rfl⟩:=cA.mp hx;exact vZ hd ∅ (h.lu y hy)
inductive ayL(vs:List V)(H:Hp)(Q:VK)(E:XK):Prop|mk (v:V) (r:Rw) (d:Int) (bf:vs=[v,.int d]) (aY:bQ H v r) (bG:lK r) (cj:0<d) (cN:∀v' H',Same H H'->bQ H' v' (r.rests d)->Q v' H')
def azc:Sp:=ayL
inductive aGH(C:Addr)(vs:List V)(H:Hp)(Q:VK)(E:XK):Prop|mk (v:V) (r:Rw) (d:Int) (bf:vs=[v,.int d]) (aY:bQ H v r) (bG:lK r) (cj:0<d) (cN:(r.b≠0->E (.ref C) none H)) (dZ:(r.b=0->∀v' H',Same H H'->bQ H' v' (r.rests d)->Q v' H'))
def aoE(C:Addr):Sp:=aGH C
structure T8(r:Rw):Prop where
 len:r.rule.length=r.starts.length
 short:r.rule.length<=12
 jP:0<=r.b
 tu:r.b<1000
 byp:r.b=0∨cF r.b.toNat
 rE:∀x∈r.rule,j6 r.b x
 pN:∀x∈r.starts,j6 r.b x
 j5:∀x∈r.rule,x.natAbs<10^60
 lu:∀x∈r.starts,x.natAbs<10^60
def txt(r:Rw):Str:=Tx.textOf r.b r.rule r.starts
inductive aMc(vs:List V)(H:Hp)(Q:VK)(E:XK):Prop|mk (i:Int) (bf:vs=[.int i]) (aY:Q (.bl true) H)
def aEC:Sp:=aMc
inductive aLg(vs:List V)(H:Hp)(Q:VK)(E:XK):Prop|mk (b:Int) (bf:vs=[.int b]) (aY:0<=b) (bG:b<1000) (cj:(b=0∨cF b.toNat)) (cN:Q (.bl true) H)
def aHa:Sp:=aLg
def j6.cases{x:Int}(h:j6 b x):b=0∨(0<=x/\x<b):=h
inductive axB(vs:List V)(H:Hp)(Q:VK)(E:XK):Prop|mk (b x:Int) (bf:vs=[.int b,.int x]) (aY:j6 b x) (bG:Q (.bl true) H)
def aJO:Sp:=axB
inductive aE1(vs:List V)(H:Hp)(Q:VK)(E:XK):Prop|mk (z:Int) (p:Addr) (xs:List Int) (bf:vs=[.int z,.ref p]) (aY:H p=some (.tup (xs.map V.int))) (bG:xs.length<=12) (cj:(∀x∈xs,j6 z x)) (cN:∀H',Same H H'->Q (.bl true) H')
def awC:Sp:=aE1
inductive aNH(vs:List V)(H:Hp)(Q:VK)(E:XK):Prop|mk (v:V) (r:Rw) (bf:vs=[v]) (aY:bQ H v r) (bG:T8 r) (cj:∀H',Same H H'->Q (.bl true) H')
def aIL:Sp:=aNH
def adL:(jq "|")=Tx.bar:=by decide +kernel
def Q7:(jq "by")=nO:=by decide +kernel
def nG:(jq " ")=Tx.one 32:=by decide +kernel
def az4:(jq "-")=Tx.one 45:=by decide +kernel
def aqN:(jq "0")=Tx.one 48:=by decide +kernel
def aJD:(jq "0123456789").cps.toList=Lb:=by decide +kernel
def yR(h:n.natAbs<10^60):n.natAbs.log2<1920:=by
 by_cases z:n.natAbs=0
 .rw[z];decide
 .exact(Nat.log2_lt z).mpr (gO h (by decide +kernel))
def aBB:(10:Int)^60<=((10^50)^8)^10:=by decide +kernel
def aNq:(vJ ((10:Int)^(50:Int).toNat):Int)*8<=2^27:=by decide +kernel
def aFo:(vJ (((10:Int)^(50:Int).toNat)^(8:Int).toNat):Int)*10<=2^27:=by decide +kernel
def azM:Sp:=λvs H Q _=>vs=[]/\Q (.int (((10^50)^8)^10)) H
inductive axA(vs:List V)(H:Hp)(Q:VK)(E:XK):Prop|mk (z:Int) (bf:vs=[.int z]) (aY:z.natAbs<10^60) (bG:Q (.str (aJ z)) H)
def ayZ:Sp:=axA
def akY(hA:H1 a=some (.tup (xs.map V.int)))(hz:xs.length<=1000){rest:St}(hst:cst ix σ=none::rest)
  (he:∀H' x,Same H1 H'->x∈xs->∀kk:VK,kk (.str (aJ x)) H'->te (some (.int x)::rest) H' kk)
  (hQ:∀D,H1 D=none->Q (.ref D) (upd H1 D (.lst ((xs.map aJ).map V.str)))):kY ix (gM 0) oh te σ Q (ED K a) H1:=by
 refine tH (Bl (ao.of hA)) (by rw[aC];exact gW (fZ hz)) hst (λ_=>true) (λx=>match x with | .int k=> .str (aJ k)|_=> .non) ?_ ?_ ?_
 .intro H2 x g2 hx k hk;exact hk
 .intro H2 x g2 hx _ k hk;obtain⟨y,hy,rfl⟩:=cA.mp hx;exact he H2 y g2 hy k hk
 .intro D hD;have el:(((xs.map V.int).filter λ_=>true).map λx=>match x with | .int k=>V.str (aJ k)|_=>V.non)=(xs.map aJ).map V.str:=by
   rw[tX.mpr (by simp),gh,gh];rfl
  rw[el];exact hQ D hD
def CV(h:n.natAbs<10^60):(aJ n).length<=61:=by
 obtain⟨s,cs,e,_,_,l,_,_⟩:=yE h;have:(aJ n).length=(aJ n).cps.toList.length:=by simp[vh]
 rw[this,e];cases s
 .show cs.length<=61;lia
 .show cs.length+1<=61;lia
def T8.vM(t:T8 r):r.b.natAbs<10^60:=by
 have:=t.jP;have:=t.tu;exact gO (⋯:r.b.natAbs<1000) (by decide +kernel)
def T8.few(t:T8 r):(Tx.wordsOf r.b r.rule r.starts).length<=27:=by
 have:=t.short;have:=t.len;unfold Tx.wordsOf j8;rw[fP,aC,kO,fP,aC];split<;>simp<;>lia
def T8.words(t:T8 r):∀w∈Tx.wordsOf r.b r.rule r.starts,w.length<=61:=λw hw=>by
 rcases gP.mp hw with h|h
 .obtain⟨n,hn,rfl⟩:=cA.mp h;exact CV (t.j5 n hn)
 .rcases cX.mp h with h|h
  .rw[h];decide
  .rcases gP.mp h with h|h
   .obtain⟨n,hn,rfl⟩:=cA.mp h;exact CV (t.lu n hn)
   .rcases PY h with h|h
    .rw[h];decide
    .rw[h];exact CV t.vM
def T8.join(t:T8 r):Az (Tx.one 32) (Tx.wordsOf r.b r.rule r.starts)=true:=by
 unfold Az;rw[Uu (B:=61) t.words (by
  have:=t.few;have e:(Tx.one 32).length=1:=rfl;rw[e];lia)]
 rfl
def T8.OL(t:T8 r):(txt r).length<=2000:=by
 have h:=am3 (Tx.one 32) (Tx.wordsOf r.b r.rule r.starts);have h2:=af6 (B:=61) _ t.words;have:=t.few;have e:(Tx.one 32).length=1:=rfl;rw[e]at h;unfold txt Tx.textOf;lia
inductive aN2(vs:List V)(H:Hp)(Q:VK)(E:XK):Prop|mk (v:V) (z:Rw) (bf:vs=[v]) (aY:bQ H v z) (bG:T8 z) (cj:∀H',Same H H'->Q (.str (txt z)) H')
def axS:Sp:=aN2
def Wr.len{w:Str}(h:Tx.Wr w):w.length<=61:=by
 intros s cs e _ _ l _ _ h;have:w.length=w.cps.toList.length:=by simp[vh]
 rw[this,e];cases s
 .show cs.length<=61;lia
 .show cs.length+1<=61;lia
inductive aA2(vs:List V)(H:Hp)(Q:VK)(E:XK):Prop|mk (w:Str) (bf:vs=[.str w]) (aY:Tx.Wr w) (bG:∀H',Same H H'->Q (.bl true) H')
def aAp:Sp:=aA2
inductive aw3(vs:List V)(H:Hp)(Q:VK)(E:XK):Prop|mk (w:Str) (bf:vs=[.str w]) (aY:Tx.Wr w) (bG:∀H',Same H H'->Q (.int (m9 w)) H')
def aA9:Sp:=aw3
inductive awm(vs:List V)(H:Hp)(Q:VK)(E:XK):Prop|mk (w:Str) (p:Nat) (bf:vs=[.str w]) (aY:Tx.Wr w) (bG:m9 w=(p:Int)) (cj:cF p) (cN:p<1000) (dZ:∀H',Same H H'->Q (.int (p:Int)) H')
def aGu:Sp:=awm
def ahK(hA:H1 a=some (.lst ((xs.map aJ).map V.str)))(hz:xs.length<=1000)(hx:∀x∈xs,x.natAbs<10^60){rest:St}(hst:cst ix σ=none::rest)
  (he:∀(H':Hp) (w:Str),Tx.Wr w->∀k:VK,(∀H2,Same H' H2->k (.int (m9 w)) H2)->te (some (.str w)::rest) H' k)
  (hQ:∀D H',H1 D=none->Same H1 H'->H' D=some (.lst (xs.map V.int))->Q (.ref D) H'):kY ix (gM 0) oh te σ Q (uo K a) H1:=by
 refine ajs (qj (ak.of hA)) (by rw[aC,aC];exact gW (fZ hz)) hst (λx=>match x with | .str w=> .int (m9 w)|_=> .non) ?_ ?_
 .intro H' x g hm k hk;obtain⟨w,hw,rfl⟩:=cA.mp hm;obtain⟨n,hn,rfl⟩:=cA.mp hw;exact he H' _ (yE (hx n hn)) k hk
 .intro D H' hD g h;refine hQ D H' hD g ?_;rw[h];have:(xs.map aJ).map m9=xs:=awp hx
  conv=>rhs;rw[<-this]
  simp only[gh];rfl
inductive aMC(vs:List V)(H:Hp)(Q:VK)(E:XK):Prop|mk (a1 a2:Addr) (r:Rw) (bf:vs=[.ref a1,.ref a2,.int r.b]) (aY:H a1=some (.lst ((r.rule.map aJ).map V.str))) (bG:H a2=some (.lst ((r.starts.map aJ).map V.str))) (cj:T8 r) (cN:∀v H',Same H H'->bQ H' v r->Q v H')
def aeC:Sp:=aMC
def aIA(r:Rw):FT (txt r) (Tx.one 32)=Tx.wordsOf r.b r.rule r.starts:=aze ..
inductive aBM(vs:List V)(H:Hp)(Q:VK)(E:XK):Prop|mk (z:Rw) (bf:vs=[.str (txt z)]) (aY:T8 z) (bG:∀v H',Same H H'->bQ H' v z->Q v H')
def aHZ:Sp:=aBM
def Sm.t8(h:Sm r):T8 r:=
 {h.wf.len,h.wf.cL,h.wf.hB.lo,h.wf.hB.hi,h.wf.hB.pr,h.wf.rE,h.wf.pN,λx hx=>amD (h.j5 x hx),λx hx=>amD (h.lu x hx)}
end
open Classical in
def MN(r:Rw)(x:Int):Out:=if xK r.b x then .inl (r.on x.toNat)else .inr .far
def Jm(r:Rw)(p:Int):Out:=if r.b=0 then .inl (r.rests p)else .inr .by_
section
variable {CB CL CF:Addr} {r s:Rw} {H:Hp} {Q:VK} {E:XK} {v v2:V}
def alj(h:Sm r)(hR:bQ H v r)(q:Iu (sh r) H Q):akC [v] H Q E:={v,r,rfl,hR,h.jT,λv' H' g h' k=>q v' H' g h' (k.wf h.jT)}
def Nh{f:PF}(h:Sm r)(h2:Sm s)(hR:bQ H v r)(fJ:bQ H v2 s)(q:jA (adr CB CL CF) (wD f r s) H Q E):abK CB CL CF f [v,v2] H Q E:={v,v2,r,s,rfl,hR,fJ,h,h2,(q)}
def afa(h:Sm r)(h2:Sm s)(hR:bQ H v r)(fJ:bQ H v2 s)(q:jA (adr CB CL CF) (Dj r s) H Q E):aps CB CL CF [v,v2] H Q E:={v,v2,r,s,rfl,hR,fJ,h,h2,(q)}
def aoR(h:Sm r)(hR:bQ H v r){x:Int}(hx:x.natAbs<10^60)(q:Iu (told r.b r.rule (r.starts.map λs=>tk r.b x*s)) H Q):aqs [v,.int (tk r.b x)] H Q E:={v,r,(),hR,h,vZ h.wf.hB ∅ (Bw hx (by decide +kernel)),q}
def aiC(h:Sm r)(hR:bQ H v r)(q:jA (adr CB CL CF) (HC r) H Q E):apf CB CL CF [v] H Q E:={v,r,rfl,hR,h,(q)}
def afk(h:Sm r)(hR:bQ H v r){x y:Int}(q:jA (adr CB CL CF) (Du r x y) H Q E):afV CB CL CF [v,.int x,.int y] H Q E:={v,x,y,r,rfl,hR,h,(q)}
def adq(h:Sm r)(hR:bQ H v r){l:List Int}{a:Addr}(ha:H a=some (.lst ((l.map (tk r.b)).map V.int)))(hl:l.length<=12)(hb:∀x∈l,Bd 67 x)(q:jA (adr CB CL CF) (CK r l) H Q E):apQ CB CL CF [v,.ref a] H Q E:={v,r,a,l,rfl,hR,h,ha,hl,hb,(q)}
def acL(h:Sm r)(hR:bQ H v r){x:Int}(hx:x.natAbs<10^60)(q:jA (adr CB CL CF) (MN r x) H Q E):alk CF [v,.int x] H Q E:=by
 have wf:=h.wf;unfold MN at q;refine{v,r,x,rfl,hR,h,Bw hx (by decide +kernel),λe=>?_,λe v' H' g hR'=>?_}
 .rw[if_neg e]at q;exact q H (Same.refl _)
 .rw[if_pos e]at q;refine q v' H' g hR' {wf.hB,by show r.rule.length=(aV _ _).length;rw[eU],wf.cL,wf.rE,λy hy=>?_};obtain⟨k,_,rfl⟩:=mU (show y∈aV _ _ from hy);exact vV wf.hB.lo _
def aqM(h:Sm r)(hR:bQ H v r){p:Int}(hp:gY p)(hp0:0<p)(q:jA (adr CB CL CF) (Jm r p) H Q E):aoE CB [v,.int p] H Q E:=by
 have ok:=h.jT.ok.rests hp;refine{v,r,p,rfl,hR,h.jT.ok,hp0,λe=>?_,λe v' H' g hR'=>?_}
 .unfold Jm at q;rw[if_neg e]at q;exact q H (Same.refl _)
 .unfold Jm at q;rw[if_pos e]at q;exact q v' H' g hR' {hp,ok.len,by show(r.rule.map _).length<=12;rw[aC];exact h.wf.cL,ok.rE,ok.pN}
end
section
variable {k:Wd}{s w:Str}{M:cJ}{H H' H1:Hp}{was:List Wa}{ys xs:List V}{N:Nat}{o:HO}{C a b:Addr}{ix:List (Option Nat)}{te:TE}{σ:St}{Q:VK}{x y:V}{r:Rw}{K:au}
inductive Dt|row(r:Rw)|int (i:Int)
def yK(H:Hp):Dt->V->Prop
 |.row r,v=>bQ H v r
 |.int i,v=>v = .int i
inductive Wd|row|short|add|multiply|roll|scale|sum|every|ahead|on|rest
def Wd.word:Wd->Str
 |.row=> "row" | .short=> "short" | .add=> "add" | .multiply=> "multiply" | .roll=> "roll" | .scale=> "scale" | .sum=> "sum" | .every=> "every" | .ahead=> "ahead" | .on=> "on" | .rest=> "rest"
def Td:List Wd:=[.row,.short,.add,.multiply,.roll,.scale,.sum,.every,.ahead,.on,.rest]
def al0(k:Wd):k∈Td:=by cases k<;>simp[Td]
def aNg:(Td.map Wd.word).Nodup:=by decide +kernel
def nF{k':Wd}(h:k.word=k'.word):k=k':=by
 have inj:∀{l:List Wd},(l.map Wd.word).Nodup->k∈l->k'∈l->k=k':=λ{l}=>by
  induction l with
  |nil=>intro _ h;cases h
  |cons a l ih=>
   intro hn h1 h2;rw[kI,yg]at hn;rcases cX.mp h1 with e1|h3<;>rcases cX.mp h2 with e2|h4
   .rw[e1,e2]
   .exact absurd (cA.mpr {_,h4,by rw[<-h,e1]}) hn.1
   .exact absurd (cA.mpr {_,h3,by rw[h,e2]}) hn.1
   .exact ih hn.2 h3 h4
 exact inj aNg (al0 k) (al0 k')
inductive jV:Wd->List Dt->Out->Prop
 |row {z:Rw}:Wf z->jV .row [.row z] (.inl z)
 |short {z:Rw}:Sm z->jV .short [.row z] (.inl (sh z))
 |add {z v:Rw}:Sm z->Sm v->jV .add [.row z,.row v] (wD AH z v)
 |multiply {z v:Rw}:Sm z->Sm v->jV .multiply [.row z,.row v] (Dj z v)
 |roll {z v:Rw}:Sm z->Sm v->jV .roll [.row z,.row v] (wD Cp z v)
 |scale {z:Rw} {u:Int}:Sm z->u.natAbs<10^60->jV .scale [.row z,.int u] (.inl (told z.b z.rule (z.starts.map λv=>tk z.b u*v)))
 |sum {z:Rw}:Sm z->jV .sum [.row z] (HC z)
 |every {z:Rw} {u t:Int}:Sm z->jV .every [.row z,.int u,.int t] (Du z u t)
 |ahead {z:Rw} {l:List Int}:Sm z->l.length<=12->(∀u∈l,Bd 67 u)->jV .ahead (.row z::l.map .int) (CK z l)
 |on {z:Rw} {u:Int}:Sm z->u.natAbs<10^60->jV .on [.row z,.int u] (MN z u)
 |rest {z:Rw} {p:Int}:Sm z->gY p->0<p->jV .rest [.row z,.int p] (Jm z p)
inductive aFR(CB CL CF:Addr)(w:Str)(vs:List V)(z:Hp)(Q:VK)(E:XK):Prop|mk (k:Wd) (ds:List Dt) (o:Out) (l:Addr) (v:List V) (bf:vs=[.ref l]) (aY:k.word=w) (bG:z l=some (.lst v)) (cj:Paired (yK z) ds v) (cN:jV k ds o) (dZ:jA (adr CB CL CF) o z Q E)
def oU(CB CL CF:Addr)(w:Str):Sp:=aFR CB CL CF w
inductive aOw(vs:List V)(H:Hp)(Q:VK)(E:XK):Prop|mk (z:Rw) (v:V) (l:Addr) (xs:List V) (bf:vs=[.ref l]) (aY:H l=some (.lst (v::xs))) (bG:bQ H v z) (cj:T8 z) (cN:∀H',Same H H'->Q (.str (txt z)) H')
def ap7:Sp:=aOw
noncomputable def wX:List Nat:=[97,98,99,100,101,102,103,104,105,106,107,108,109,110,111,112,113,114,115,116,117,118,119,120,121,122,48,49,50,51,52,53,54,55,56,57]
def akv:(jq "abcdefghijklmnopqrstuvwxyz0123456789").cps.toList=wX:=by decide +kernel
structure fG(s:Str):Prop where
 lo:1<=s.length
 hi:s.length<=8
 all:∀c∈s.cps.toList,c∈wX
def axL:32∉wX:=∅
def fG.clean(h:fG s):32∉s.cps.toList:=λz=>axL (h.all _ z)
inductive Wa|nw(s:Str)|a (s:Str)|num (i:Int)|by_ (p:Int)|txt (r:Rw)
def Wa.kind:Wa->Str
 |.nw _=> "NEW" | .a _=> "A" | .num _=> "NUMBER" | .by_ _=> "BY" | .txt _=> "TEXT"
def Wa.word:Wa->Str
 |.nw s=>s | .a s=>s | .num i=>aJ i | .by_ p=>aJ p | .txt r=>K52.txt r
def Wa.Ok:Wa->Prop
 |.nw s=>fG s | .a s=>fG s | .num i=>i.natAbs<10^60 | .by_ p=>∃n:Nat,p=(n:Int)/\cF n/\n<1000 | .txt r=>T8 r
abbrev cJ:=Str->Option Rw
def Wa.dt(M:cJ):Wa->Option Dt
 |.nw _=>none | .a s=>(M s).map .row | .num i=>some (.int i) | .by_ p=>some (.int p) | .txt r=>some (.row r)
def yS(M:cJ)(x:Wa)(v:V)(H:Hp):Prop:=(∃s,x = .nw s/\v = .str s)∨∃d,x.dt M=some d/\yK H d v
theorem yK.tup{H H':Hp}(g:∀b ts,H b=some (.tup ts)->H' b=some (.tup ts)){d:Dt}{v:V}(h:yK H d v):yK H' d v:=by
 cases d with
 |row r=>obtain⟨a,p,q,e,h1,h2,h3⟩:=(show bQ H v r from h);exact{a,p,q,e,g _ _ h1,g _ _ h2,g _ _ h3}
 |int i=>exact h
theorem yS.tup{M:cJ}{H H':Hp}(g:∀b ts,H b=some (.tup ts)->H' b=some (.tup ts)){x:Wa}{v:V}(h:yS M x v H):yS M x v H':=h.imp id λ⟨d,e,z⟩=>{d,e,z.tup g}
def azP{ds:List Dt}(h:Paired (λx d=>Wa.dt M x=some d) was ds)(hw:Paired (λx y=>yS M x y H) was ys):Paired (yK H) ds ys:=by
 induction h generalizing ys with
 |nil=>cases hw;exact .nil
 |cons e _ ih=>
  cases hw with
  |cons z hw=>
   refine .cons ?_ (ih hw);rcases z with⟨s,rfl,_⟩|⟨d,e',z⟩
   .cases e
   .rw[e]at e';cases e';exact z
structure fM(H:Hp)(d:Addr)(M:cJ)(N:Nat):Prop where
 ex:∃kvs:List (Key×V),H d=some (.dK kvs)/\kvs.length<=N/\(∀kv∈kvs,∃s,kv.1 = .inr s)/\∀s,match dH kvs (.inr s),M s with
  |some v,some r=>bQ H v r
  |none,none=>True
  |_,_=>False
def cJ.put(M:cJ)(n:Str)(r:Rw):cJ:=λs=>if s=n then some r else M s
def cJ.drop(M:cJ)(n:Str):cJ:=λs=>if s=n then none else M s
def iB(d:Addr)(H H':Hp):Prop:=∀b o,b≠d->H b=some o->H' b=some o
theorem Same.d{d:Addr}{H H':Hp}(g:Same H H'):iB d H H':=λb o _ e=>g b o e
def iB.row{d:Addr}(g:iB d H H'){kvs:List (Key×V)}(hd:H d=some (.dK kvs)){v:V}{r:Rw}(h:bQ H v r):bQ H' v r:=by
 intros a p q e h1 h2 h3 h;have k:∀b ts,H b=some (.tup ts)->H' b=some (.tup ts):=λb ts z=>g b _ (λe=>by rw[e,hd]at z;cases z) z;exact{a,p,q,e,k _ _ h1,k _ _ h2,k _ _ h3}
def fM.get{d:Addr}(h:fM H d M N)(s:Str):(∃v r,jC H d (.str s) (some v)/\M s=some r/\bQ H v r)∨(jC H d (.str s) none/\M s=none):=by
 intros kvs hd _ _ hk h.ex;have q:=hk s;have g:jC H d (.str s) (dH kvs (.inr s)):=jC.k (k:=tQ s) hd;cases e:dH kvs (.inr s)with
 |none=>
  rw[e]at q g;cases e2:M s with
  |none=>exact .inr {g,(rfl)}
  |some r=>rw[e2]at q;exact q.elim
 |some v=>
  rw[e]at q g;cases e2:M s with
  |none=>rw[e2]at q;exact q.elim
  |some r=>rw[e2]at q;exact .inl {v,r,g,rfl,(q)}
theorem fM.same{H H':Hp}{d:Addr}{M:cJ}{N:Nat}(h:fM H d M N)(g:Same H H'):fM H' d M N:=by
 intros kvs hd h1 h2 hk h.ex;refine{kvs,g _ _ hd,h1,h2,λs=>?_};have q:=hk s;revert q;cases dH kvs (.inr s)<;>cases M s<;>intro q
 .exact q
 .exact q
 .exact q
 .exact bQ.same q g
def fM.DR{d e:Addr}(h:fM H d M N)(ne:d≠e)(g:iB e H H'){kvs:List (Key×V)}(he:H e=some (.dK kvs)):fM H' d M N:=by
 intros kvs hd h1 h2 hk h.ex;refine{kvs,g _ _ ne hd,h1,h2,λs=>?_};have q:=hk s;revert q;cases dH kvs (.inr s)<;>cases M s<;>intro q
 .exact q
 .exact q
 .exact q
 .exact g.row he q
def BK{d:Addr}:iB d H (upd H d o):=λb u hb e=>by rw[cI hb];exact e
theorem fM.put{H:Hp}{d:Addr}{M:cJ}{N:Nat}(h:fM H d M N)(hN:N<=100){n:Str}{v:V}{r:Rw}(hR:bQ H v r):∃H',xO H d (.str n) v H'/\iB d H H'/\fM H' d (M.put n r) (N+1):=by
 intros kvs hd h1 h2 hk h.ex;refine{_,xO.k (k:=tQ n) hd (fZ ⋯),BK,_,aq,cT (YV kvs _ _) ⋯,λkv hkv=>?_,λs=>?_}
 .unfold putK at hkv;split at hkv
  .obtain⟨kv',h',rfl⟩:=cA.mp hkv;split
   .exact h2 kv' h'
   .exact h2 kv' h'
  .rcases gP.mp hkv with h'|h'
   .exact h2 _ h'
   .rw[dX.mp h'];exact{n,(rfl)}
 .rw[aMr];unfold cJ.put;by_cases e:s=n
  .rw[if_pos e,if_pos (by rw[e])];exact BK.row hd hR
  .rw[if_neg e,if_neg (λz=>e (RD z))];have q:=hk s;revert q;cases dH kvs (.inr s)<;>cases M s<;>intro q
   .exact q
   .exact q
   .exact q
   .exact BK.row hd q
def aO7{kvs:List (Key×V)}{k j:Key}:dH (lF kvs k) j=if j=k then none else dH kvs j:=by
 induction kvs with
 |nil=>unfold lF;split<;>rfl
 |cons p l ih=>
  by_cases e:p.1=k
  .rw[axQ e,ih];by_cases e2:j=k
   .rw[if_pos e2,if_pos e2]
   .rw[if_neg e2,if_neg e2,j9 (by rw[e];exactλz=>e2 z.symm)]
  .rw[awg e];by_cases e2:p.1=j
   .rw[mR e2,if_neg (by rw[<-e2];exact e),mR e2]
   .rw[j9 e2,ih,j9 e2]
theorem fM.drop{H:Hp}{d:Addr}{M:cJ}{N:Nat}(h:fM H d M N){n:Str}{r:Rw}(hn:M n=some r):∃kvs v,H d=some (.dK kvs)/\dH kvs (.inr n)=some v/\iB d H (upd H d (.dK (lF kvs (.inr n))))/\fM (upd H d (.dK (lF kvs (.inr n)))) d (M.drop n) N:=by
 intros kvs hd h1 h2 hk h.ex;have q:=hk n;rw[hn]at q;cases e:dH kvs (.inr n)with
 |none=>rw[e]at q;exact q.elim
 |some v=>
  refine{kvs,v,hd,e,BK,_,aq,cT (ahY kvs _) h1,λkv hkv=>h2 kv (aFK hkv),λs=>?_};rw[aO7];unfold cJ.drop;by_cases e:s=n
  .rw[if_pos e,if_pos (by rw[e])];exact True.intro
  .rw[if_neg e,if_neg (λz=>e (RD z))];have q:=hk s;revert q;cases dH kvs (.inr s)<;>cases M s<;>intro q
   .exact q
   .exact q
   .exact q
   .exact BK.row hd q
def fM.none_{d:Addr}(h:H d=some (.dK [])):fM H d (λ_=>none) 0:={[],h,bO _,(λ_ z=>nomatch z),λ_=>True.intro}
def fM.up{d:Addr}{N':Nat}(h:fM H d M N)(hN:N<=N'):fM H d M N':=by
 intros kvs h1 h2 h3 h4 h.ex;exact{kvs,h1,cT h2 hN,h3,h4}
structure dU(C:Addr)(H:Hp)(p d:Addr)(M:cJ)(N:Nat):Prop where
 ob:∃dx,H p=some (.ins C dx (jm "kept" (.ref d) []))
 kp:fM H d M N
def Uj{d:Addr}:(jm "kept" (.ref d) []:List (Str×V)).lookup ("kept" : Str)=some (.ref d):=by rw[KP,if_pos rfl]
def aBU{d:Addr}:(jm "kept" (.ref d) []:List (Str×V)).lookup ("say" : Str)=none:=by
 rw[KP,if_neg (by decide +kernel)];rfl
theorem dU.same{C:Addr}{H H':Hp}{p d:Addr}{M:cJ}{N:Nat}(h:dU C H p d M N)(g:Same H H'):dU C H' p d M N:=by
 obtain⟨⟨dx,h1⟩,h2⟩:=h;exact{{dx,g _ _ h1},h2.same g}
def dU.ne{p d:Addr}(h:dU C H p d M N):p≠d:=by
 obtain⟨⟨dx,h1⟩,h2⟩:=h;intros kvs h3 _ h2.ex;exact mj h1 h3 (by intro z;cases z)
def avF{α:Type}{xs:List α}(hz:xs.length<=1000){rest:St}(hst:cst ix σ=none::rest)(R:α->V->Hp->Prop)(hR:∀x y (H' H2:Hp),(∀b ts,H' b=some (.tup ts)->H2 b=some (.tup ts))->R x y H'->R x y H2)
  (he:∀(H':Hp) (k:Nat) (x:α),Same H1 H'->xs[k]?=some x->∀kk:VK,(∀y H2,Same H' H2->R x y H2->kk y H2)->te (some (.int (0+(k:Int)))::rest) H' kk)
  (hQ:∀D H' ys,H1 D=none->Same H1 H'->H' D=some (.lst ys)->Paired (λx y=>R x y H') xs ys->Q (.ref D) H'):kY ix (gM 0) oh te σ Q (pL 0 xs.length) H1:=by
 constructor;intro D hD;refine{λi m σ' H'=>m=xs.length-i/\i<=xs.length/\(∃o,σ'=o::rest)/\Same H1 H'/\∃ys,H' D=some (.lst ys)/\Paired (λx y=>R x y H') (xs.take i) ys,{xs.length,by simp,dW _,{none,(hst)},Same.new hD _,[],aq,by rw[amF];exact .nil},?_};rintro i m σ' H' ⟨rfl,hi,⟨o,rfl⟩,g,ys,hl,hp⟩;have hle:=hp.length;rw[nK]at hle;by_cases hlt:i<xs.length
 .refine .inr {hlt,λx H2 y=>?_};intros e1 e2 y;subst e1 e2;have hx:xs[i]?=some xs[i]:=List.getElem?_eq_getElem hlt;change te (some _::rest) H2 _;refine he H2 i xs[i] g hx _ λy H3 g3 r3=>{ys,g3 _ _ hl,by have:=fZ hz;lia,xs.length-(i+1),⋯,rfl,hlt,{()},Same.upd (g.trans g3) hD _,ys++[y],aq,?_};have up:∀x z,R x z H3->R x z (upd H3 D (.lst (ys++[y]))):=λx z r=>hR x z H3 _ (λb ts e=>by
   rw[cI λq=>by rw[q,g3 _ _ hl]at e;cases e];exact e) r
  rw[Vt hlt];exact Paired.snoc (Paired.FQ hp λx z r=>up _ _ (hR _ _ _ _ (λb ts e=>g3 _ _ e) r)) (up _ _ r3)
 .have e:i=xs.length:=⋯;rw[e,zG]at hp;exact .inl {by show xs.length<=i;lia,hQ D H' ys hD g hl hp}
abbrev nB:Str:= "row"
abbrev ug:Str:= "NUMBER"
def at0:iJ (x::xs) 0=some x:=qO (j:=0) rfl
def at1:iJ (x::y::xs) 1=some y:=qO (j:=1) rfl
def at2{z:V}:iJ (x::y::z::xs) 2=some z:=qO (j:=2) rfl
def sAN:¬("A" : Str) = "NEW" := by decide +kernel
def sUN:¬("NUMBER" : Str) = "NEW" := by decide +kernel
def sUA:¬("NUMBER" : Str) = "A" := by decide +kernel
def sBN:¬("BY" : Str) = "NEW" := by decide +kernel
def sBA:¬("BY" : Str) = "A" := by decide +kernel
def sBU:¬("BY" : Str) = "NUMBER" := by decide +kernel
def sTN:¬("TEXT" : Str) = "NEW" := by decide +kernel
def sTA:¬("TEXT" : Str) = "A" := by decide +kernel
def sTU:¬("TEXT" : Str) = "NUMBER" := by decide +kernel
def sTB:¬("TEXT" : Str) = "BY" := by decide +kernel
def QG(xs:List V)(k:Nat):fY xs (some (k:Int)) none=xs.drop k:=aqh xs k
def V3(t:Str)(ws:List Str):Prop:=t.length<=100000/\((FT t (Tx.one 32)=ws/\∃w r,ws=w::r/\w≠nB)∨∃(n:Str) (r:Rw),T8 r/\ws=[nB,n,txt r]/\FT t (Tx.one 32)=nB::n::Tx.wordsOf r.b r.rule r.starts)
def arW(H:Hp)(Q:VK)(ws:List Str):Prop:=∀l H',Same H H'->H' l=some (.lst (ws.map V.str))->Q (.ref l) H'
inductive aFz(vs:List V)(H:Hp)(Q:VK)(E:XK):Prop|mk (t:Str) (ws:List Str) (bf:vs=[.str t]) (aY:V3 t ws) (bG:arW H Q ws)
def aD3:Sp:=aFz
def VX(w:Str)(k0:List Str)(n:Nat):Prop:=(w,k0)∈HZ/\(n=k0.length∨w = "ahead" /\ k0.length<n/\n<k0.length+12)
inductive azK(K:au)(vs:List V)(H:Hp)(Q:VK)(E:XK):Prop|mk (l:Addr) (w:Str) (ws k0:List Str) (bf:vs=[.ref l]) (aY:H l=some (.lst ((w::ws).map V.str))) (bG:VX w k0 ws.length) (cj:∀t H',Same H H'->ao K H' t ((k0++cO (ws.length-k0.length) ug).map V.str)->Q (.ref t) H')
def aKz(K:au):Sp:=azK K
def aoP:∀p∈HZ,p.2.length<=4/\p.2≠[]:=∅
inductive aO3(vs:List V)(H:Hp)(Q:VK)(E:XK):Prop|mk (z:Str) (bf:vs=[.str z]) (aY:fG z) (bG:∀H',Same H H'->Q (.str z) H')
def aPF:Sp:=aO3
inductive avL(CN:Addr)(vs:List V)(z:Hp)(Q:VK)(E:XK):Prop|mk (d:Addr) (s:Str) (M:cJ) (N:Nat) (bf:vs=[.ref d,.str s]) (aY:fG s) (bG:fM z d M N) (cj:(∀r,M s=some r->∀v u,Same z u->bQ u v r->Q v u)) (cN:(M s=none->∀u,Same z u->E (.ref CN) none u))
def aAR(CN:Addr):Sp:=avL CN
inductive aFs(CN:Addr)(vs:List V)(z:Hp)(Q:VK)(E:XK):Prop|mk (d:Addr) (p:Wa) (t:cJ) (N:Nat) (bf:vs=[.ref d,.str p.kind,.str p.word]) (aY:p.Ok) (bG:fM z d t N) (cj:(∀v u,Same z u->yS t p v u->Q v u)) (cN:((∃s,p = .a s/\t s=none)->∀u,Same z u->E (.ref CN) none u))
def aGv(CN:Addr):Sp:=aFs CN
inductive awB(C:Addr)(vs:List V)(H:Hp)(Q:VK)(E:XK):Prop|mk (p dx:Addr) (bf:vs=[.ref p]) (aY:H p=some (.ins C dx [])) (bG:∀d H',H d=none->dU C H' p d (λ_=>none) 0->(∀b z,H b=some z->b≠p->H' b=some z)->Q .non H')
def ayo(C:Addr):Sp:=awB C
abbrev akg(P w K mg base cM):=CG P w K mg base cM "__init__" 1 ["self"] (ayo cM)
def iw:∀{α β:Type} {F:α->β->Prop} {a:α} {l:List α} {ys:List β},Paired F (a::l) ys->∃y r,ys=y::r/\F a y/\Paired F l r:=λh=>by
 cases h with
 |cons z r=>exact{_,(),z,r}
def pr0:∀{α β:Type} {F:α->β->Prop} {ys:List β},Paired F [] ys->ys=[]:=λh=>by cases h;rfl
def aCV{l:List Int}(h:Paired (yK H) (l.map .int) ys):ys=l.map V.int:=by
 induction l generalizing ys with
 |nil=>exact pr0 h
 |cons i l ih=>
  obtain⟨y,r,rfl,e,h'⟩:=iw h;rw[ih h',show y=V.int i from e];rfl
inductive MH(C CB CL CF:Addr)(p d:Addr)(z:cJ)(N:Nat)(H:Hp)(Q:VK)(E:XK):Str->List Wa->Prop
 |aqC {u:Str} {v:Rw}:z u=some v->T8 v->(∀H',Same H H'->Q (.str (txt v)) H')->MH C CB CL CF p d z N H Q E "show" [.a u]
 |drop {u:Str} {v:Rw}:z u=some v->(∀H',iB d H H'->dU C H' p d (z.drop u) N->Q (.str "ok") H')->MH C CB CL CF p d z N H Q E "drop" [.a u]
 |make {k:Wd} {n:Str} {was:List Wa} {ds:List Dt} {o:Out}:Paired (λx d=>Wa.dt z x=some d) was ds->jV k ds o->(∀v,o = .inl v->Wf v->∀H',iB d H H'->dU C H' p d (z.put n v) (N+1)->Q (.str "ok") H')->(∀c,o = .inr c->∀H',Same H H'->E (.ref (adr CB CL CF c)) none H')->MH C CB CL CF p d z N H Q E k.word (.nw n::was)
inductive ayc(C CB CL CF CN:Addr)(vs:List V)(H:Hp)(Q:VK)(E:XK):Prop|mk (p d:Addr) (t w:Str) (was:List Wa) (k0:List Str) (M:cJ) (N:Nat) (bf:vs=[.ref p,.str t]) (aY:dU C H p d M N) (bG:N<=100) (cj:V3 t (w::was.map Wa.word)) (cN:VX w k0 was.length) (dZ:was.map Wa.kind=k0++cO (was.length-k0.length) ug) (iR:(∀x∈was,x.Ok)) (j7:((∃s,Wa.a s∈was/\M s=none)->∀H',Same H H'->E (.ref CN) none H')) (nU:((∀s,Wa.a s∈was->M s≠none)->MH C CB CL CF p d M N H Q E w was))
def QT(C CB CL CF CN:Addr):Sp:=ayc C CB CL CF CN
def aeO(k:Wd):k.word∈DP.map (·.1):=by cases k<;>decide +kernel
def axM(k:Wd):k.word∈ZW:=by cases k<;>decide +kernel
def aw4(h:Paired (λx y=>yS M x y H) was ys):∀s,Wa.a s∈was->M s≠none:=by
 induction h with
 |nil=>intro s hs;cases hs
 |cons z _ ih=>
  intro s hs hn;rcases cX.mp hs with e|hs
  .subst e;rcases z with⟨_,e,_⟩|⟨d,e,_⟩
   .cases e
   .rw[show Wa.dt M (.a s)=(M s).map Dt.row from rfl,hn]at e;cases e
  .exact ih s hs hn
theorem dU.put{C:Addr}{H:Hp}{p d:Addr}{M:cJ}{N:Nat}(h:dU C H p d M N)(hN:N<=100){n:Str}{v:V}{r:Rw}(hR:bQ H v r):∃H',xO H d (.str n) v H'/\iB d H H'/\dU C H' p d (M.put n r) (N+1):=by
 obtain⟨H',h1,h2,h3⟩:=h.kp.put hN (n:=n) hR;intros dx e h.ob;exact{H',h1,h2,{dx,h2 _ _ h.ne e},h3}
def iB.of{d:Addr}(g:Same H H1)(g':iB d H1 H'):iB d H H':=λb o hb e=>g' b o hb (g b o e)
abbrev aqI(P w K mg base cM aU bJ aR aX):=CG P w K mg base cM "say" 15 ["self","row"] (QT cM aU aX aR bJ)
inductive aMs(K:au)(vs:List V)(H:Hp)(Q:VK)(E:XK):Prop|mk (z ns v) (bf:vs=[.ref z,.int v]) (aY:ak K H z (ns.map V.int)) (bG:0<=v) (cj:Q (.int (cellAt ns v)) H)
def aI9(K:au):Sp:=aMs K
inductive aEv(vs:List V)(H:Hp)(Q:VK)(E:XK):Prop|mk (c z) (bf:vs=[.int c,.int z]) (aY:0<=z) (bG:z<=1000) (cj:Q (.int (ou c z)) H)
def aNj:Sp:=aEv
inductive aEM(vs:List V)(H:Hp)(Q:VK)(E:XK):Prop|mk (n:Int) (bf:vs=[.int n]) (aY:∀H',Same H H'->Q (.int (X6 n)) H')
def aCn:Sp:=aEM
inductive aPp(vs:List V)(H:Hp)(Q:VK)(E:XK):Prop|mk (z n:Int) (bf:vs=[.int z,.int n]) (aY:0<=n) (bG:n<MM) (cj:Q (.int (mY z n)) H)
def aLf:Sp:=aPp
inductive aJQ(vs:List V)(H:Hp)(Q:VK)(E:XK):Prop|mk (z c m:Int) (bf:vs=[.int z,.int c,.int m]) (aY:0<=c) (bG:c<MM) (cj:0<=m) (cN:m<=1000) (dZ:Told H Q ((qC z c m.toNat).map V.int))
def aF6:Sp:=aJQ
inductive aIX(vs:List V)(H:Hp)(Q:VK)(E:XK):Prop|mk (z n:Int) (bf:vs=[.int z,.int n]) (aY:0<=z) (bG:Q (.int (tk z n)) H)
def aLp:Sp:=aIX
def amZ{P:Str->Prop}(h:∀y∈ys,∃s,y = .str s/\P s):∃ws:List Str,ys=ws.map V.str/\∀s∈ws,P s:=by
 induction ys with
 |nil=>exact{[],rfl,λ_ z=>nomatch z}
 |cons y r ih=>
  obtain⟨ws,e,hw⟩:=ih λz hz=>h z (eN _ hz);obtain⟨s,e1,hs⟩:=h y fX;exact{s::ws,by rw[e,e1];rfl,λz hz=>(cX.mp hz).elim (λe=>e▸hs) (hw z)}
structure Sg(n:Nat)(s:Str):Prop where
 len:s.cps.toList.length=n
 all:∀c∈s.cps.toList,c∈wX
def Sg.nm{n:Nat}(h:Sg n s)(h1:1<=n)(h8:n<=8):fG s:=by
 have e:s.length=s.cps.toList.length:=by simp[vh]
 exact{by rw[e,h.len];exact h1,by rw[e,h.len];exact h8,h.all}
theorem ZL:∀ws:List Str,(mJ C7 ws).cps.toList=(ws.map λw=>w.cps.toList).flatten
 |[]=>rfl
 |[w]=>by show w.cps.toList=_;simp
 |w::v::r=>by
  show((w.cps++C7.cps)++(mJ C7 (v::r)).cps).toList=_;rw[Ep,Ep,ZL (v::r)];simp[C7]
def ajX:(jq "")=C7:=by decide +kernel
def anF(k:Int)(h0:0<=k)(h1:k<36):∃c,iJ (jq "abcdefghijklmnopqrstuvwxyz0123456789").cps.toList k=some c/\c∈wX:=by
 rw[akv];have hk:k.toNat<wX.length:=by show k.toNat<36;lia
 refine{wX[k.toNat],?_,Cy hk};have:=qO (List.getElem?_eq_getElem hk)
 rwa [(⋯:((k.toNat:Nat):Int)=k)]at this
def aoG:(jq "abcdefghijklmnopqrstuvwxyz0123456789").length<=sizeLine:=by decide +kernel
inductive aAL(vs:List V)(H:Hp)(Q:VK)(E:XK):Prop|mk (c t:Int) (bf:vs=[.int c,.int t]) (aY:∀(l:Addr) (H':Hp) (ns:List Str),Same H H'->H' l=some (.lst (ns.map V.str))->ns.length=8->(∀n∈ns,fG n)->Q (.ref l) H')
def auz:Sp:=aAL
theorem aeu(s:Str):∀(n:Nat) (a:Array Nat),((cO n s.cps).foldl (·++·) a).toList=a.toList++(cO n s.cps.toList).flatten
 |0,a=>by simp
 |n+1,a=>by
  rw[wV,abG,aeu s n,wV,AK];simp
inductive aNU(vs:List V)(H:Hp)(Q:VK)(E:XK):Prop|mk (b c:Int) (bf:vs=[.int b,.int c,.int 3]) (aY:gY b) (bG:∀v r H',Same H H'->bQ H' v r->Sm r->Q v H')
def atP:Sp:=aNU
def Fv{x:Int}(h0:-2000<x)(h1:x<2000):Bd 67 x:=Bd.of ⋯ ⋯
def mQ(r:Rw):Bool:=(r.rule++r.starts).all λx=>decide (x.natAbs<=10^20)
def aCv(h:Wf r)(hp:mQ r=true):Sm r:=by
 have k:∀x∈r.rule++r.starts,Bd 67 x:=λx hx=>A9 (of_decide_eq_true (jU.mp hp x hx)) ∅;exact{h,λx hx=>k x (BF _ hx),λx hx=>k x (mW _ hx)}
def aL9(ha:ao K H a xs)(hb:ao K H b ys)(hz:xs.length+ys.length<=sizeLine)(q:∀s H1,Same H H1->ao K H1 s (xs++ys)->Q (.ref s) H1):E5 K (.ref a) (.ref b) H Q:=
 .inr {xs,ys,ha,hb,hz,λe=>q b H (Same.refl _) (by rw[e];exact hb),λ_ e=>q a H (Same.refl _) (by rw[e,pG];exact ha),λ_ _ p hp=>q p _ (Same.new hp _) (ao.of aq)}
inductive aE3(vs:List V)(H:Hp)(Q:VK)(E:XK):Prop|mk (v:V) (z:Rw) (bf:vs=[v]) (aY:bQ H v z) (bG:Wf z) (cj:∀H',Same H H'->Q (.bl (mQ z)) H')
def aOG:Sp:=aE3
def wG{Dc:Addr}{b:Bool}{rest:St}{k:VK}(hA:Rd H a (ux a C))(hI:oE K C)(hk:aZ K (.ref C) (.ref Dc)=some b)(q:∀t H',Same H H'->H' t=some (.tup [.bl b,.str w])->k (.ref t) H'):
  ZK (m5 (Pk (XC K) (m5 (oJ 0) (m5 (tC (.ref Dc)) qz))) (m5 (tC (.str w)) qz)) (some (.ref a)::rest) H k:=
 {(),a,C,_,b,rfl,hA,hI,.inl {(),hk},(bN 2),λt ht=>q t _ (Same.new ht _) aq}
def V2(H:Hp)(p:Bool×Str)(v:V):Prop:=∃t,v = .ref t/\H t=some (.tup [.bl p.1,.str p.2])
def aHW{bw:List (Bool×Str)}{tc:TT}(hA:H1 a=some (.lst xs))(hp:Paired (V2 H1) bw xs)(hz:xs.length<=1000){rest:St}(hst:cst ix σ=none::none::rest)
  (ht:∀(H':Hp) (b:Bool) (w:Str) (kk:Bool->Hp->Prop),kk b H'->tc (some (.bl b)::some (.str w)::rest) H' kk) (he:∀(H':Hp) (b:Bool) (w:Str) (kk:VK),kk (.str w) H'->te (some (.bl b)::some (.str w)::rest) H' kk)
  (hQ:∀D H',Same H1 H'->H' D=some (.lst (((bw.filter (·.1)).map (·.2)).map V.str))->Q (.ref D) H'):kY ix (aq4 K 2 (RZ (gM 0) (RZ (gM 1) aln))) tc te σ Q (uo K a) H1:=by
 have I:=qj (K:=K) (ak.of hA);have lx:=hp.length;constructor;intro D hD;refine{λi m σ' H'=>m=xs.length-i/\i<=xs.length/\(∃o o2,σ'=o::o2::rest)/\Same H1 H'/\H' D=some (.lst ((((bw.take i).filter (·.1)).map (·.2)).map V.str)),{xs.length,by simp,dW _,{none,none,(hst)},Same.new hD _,aq},?_};rintro i m σ' H' ⟨rfl,hi,⟨o,o2,rfl⟩,g,hl⟩;by_cases hlt:i<xs.length
 .refine .inr {I.go i _ g hlt,λx H2 y=>?_};obtain⟨e1,hx⟩:=I.mK i _ x H2 g y;subst e1;have hib:i<bw.length:=⋯;have key:∀{bs:List (Bool×Str)} {vs:List V} {j:Nat} {v:V},Paired (V2 H1) bs vs->vs[j]?=some v->∃p,bs[j]?=some p/\V2 H1 p v:=λ{bs vs j v} h=>by
   induction h generalizing j with
   |nil=>intro z;cases z
   |cons z _ ih=>
    intro e;cases j with
    |zero=>cases e;exact{(),z}
    |succ j=>rw[List.getElem?_cons_succ]at e ⊢;exact ih e
  obtain⟨p,ep,t,rfl,htp⟩:=key hp (hx hlt);have et:bw.take (i+1)=bw.take i++[p]:=by
   rw[Vt hib];rw[List.getElem?_eq_getElem hib]at ep;cases ep;rfl
  exists t,(),ao.of (g _ _ htp),rfl,_,(),"";refine ht H2 p.1 p.2 _ ?_;cases hb:p.1 with
  |true=>
   refine d9 (he H2 true p.2 _ {_,hl,?_,xs.length-(i+1),⋯,rfl,hlt,{_,()},g.upd hD _,?_})
   .rw[aC,aC];have:=Lh (·.1) (bw.take i);rw[nK]at this;have:=fZ hz;lia
   .rw[aq,et,BZ,gR,gR,pZ,if_pos hb];rfl
  |false=>
   refine bK {xs.length-(i+1),⋯,rfl,hlt,{_,()},g,?_};rw[hl,et,BZ,pZ,if_neg (by rw[hb];decide),List.filter_nil,pG]
 .have e:i=bw.length:=⋯;rw[e,zG]at hl;exact .inl {I.stop _ _ g ⋯,hQ D H' g hl}
def uy:Option Cl->Str
 |some .by_=> "by" | some .long=> "long" | some .far=> "far" | none=> "name"
def jK(CB CL CF CN:Addr):Option Cl->Addr
 |some c=>adr CB CL CF c|none=>CN
inductive ayX(CB CL CF CN:Addr)(vs:List V)(H:Hp)(Q:VK)(E:XK):Prop|mk (a:Addr) (c:Option Cl) (bf:vs=[.ref a]) (aY:Rd H a (ux a (jK CB CL CF CN c))) (bG:∀H',Same H H'->Q (.str (uy c)) H')
def atr(CB CL CF CN:Addr):Sp:=ayX CB CL CF CN
def sU(g:Same H H')(h:Rd H a o):Rd H' a o:=h.imp (λe=>g _ _ e) λ⟨u,e⟩=>{u,g _ _ e}
def afB:Option Cl->List Bool
 |some .by_=>[false,true,false,false,false,false,false,false]
 |some .far=>[false,false,false,true,false,false,false,false]
 |some .long=>[false,false,false,false,true,false,false,false]
 |none=>[false,false,false,false,false,false,false,true]
def ah0:List Str:=["number","by","text","far","long","big","row","name"]
def avH(c:Option Cl):((((afB c).zip ah0).filter (·.1)).map (·.2))=[uy c]:=by
 rcases c with _|c
 .rfl
 .cases c<;>rfl
def Ca(H:Hp)(Q:VK)(a:Str)(v:V):Prop:=∀t H',Same H H'->H' t=some (.tup [.str a,v])->Q (.ref t) H'
inductive avK(z CB CL CF CN:Addr)(vs:List V)(H:Hp)(Q:VK)(E:XK):Prop|mk (p:Addr) (t:Str) (bf:vs=[.ref p,.str t]) (aY:(∃dx fs,H p=some (.ins z dx fs)/\fs.lookup ("say" : Str)=none)) (bG:∀(Q':VK) (E':XK),(∀v H',Ca H' Q "told" (.str v)->Q' (.str v) H')->(∀c H',Ca H' Q "refused" (.str (uy c))->E' (.ref (jK CB CL CF CN c)) none H')->QT z CB CL CF CN [.ref p,.str t] H Q' E')
def yM(C CB CL CF CN:Addr):Sp:=avK C CB CL CF CN
def Xw(c:Option Cl):¬uy c = "" := by
 rcases c with _|c
 .exact(by decide +kernel:¬("name" : Str) = "")
 .cases c
  .exact(by decide +kernel:¬("by" : Str) = "")
  .exact(by decide +kernel:¬("long" : Str) = "")
  .exact(by decide +kernel:¬("far" : Str) = "")
def aeQ{base:Heap}{CB CL CF CN R:Addr}(h1:pQ base CB R)(h2:pQ base CL R)(h3:pQ base CF R)(h4:pQ base CN R)(c:Option Cl):pQ base (jK CB CL CF CN c) R:=by
 rcases c with _|c
 .exact h4
 .cases c
  .exact h1
  .exact h2
  .exact h3
abbrev Oz(P w K mg base cM aU bJ aR aX):=jc P w K mg base "_law_told" 16 ["_law_desk","_law_text_here"] (yM cM aU aX aR bJ)
def CM(r s:Rw)(x y p:Int)(ns:List Int):Wd->List Dt
 |.row=>[.row r] | .short=>[.row r] | .sum=>[.row r]
 |.add=>[.row r,.row s] | .multiply=>[.row r,.row s] | .roll=>[.row r,.row s]
 |.scale=>[.row r,.int x] | .every=>[.row r,.int x,.int y] | .on=>[.row r,.int x] | .rest=>[.row r,.int p]
 |.ahead=> .row r::ns.map .int
def two:Wd->Bool
 |.add=>true | .multiply=>true | .roll=>true|_=>false
inductive aDT(CB CL CF:Addr)(vs:List V)(z:Hp)(Q:VK)(E:XK):Prop|mk (v:Wd) (l1 l2 l3:Addr) (v1 v2:V) (u t:Rw) (n m p:Int) (ns:List Int) (o:Out) (bf:vs=[.str v.word,.ref l1,.ref l2]) (aY:v≠ .row) (bG:z l1=some (.lst [v1,v2])) (cj:z l2=some (.lst [.int n,.int m,.int p,.ref l3])) (cN:z l3=some (.lst (ns.map V.int))) (dZ:ns.length<=12) (iR:bQ z v1 u) (j7:(two v=true->bQ z v2 t)) (nU:jV v (CM u t n m p ns v) o) (AJ:jA (adr CB CL CF) o z Q E)
def agp(CB CL CF:Addr):Sp:=aDT CB CL CF
def cQ(k':Wd){t:TS}{D:Ends}{σ:St}{H:Hp}(ne:k≠k')(hσ:σ[0]?=some (some (.str k.word)))(q:D.nx σ H):A8 (wU (mZ (oA K id) (oJ 0) (tC (.str k'.word)))) t Ay D σ H:=by
 exists _,hσ,();rw[show decide (k.word=k'.word)=false from decide_eq_false λe=>ne (nF e)];exact bK q
def rQ(k:Wd){t:TS}{D:Ends}{σ:St}{H:Hp}(hσ:σ[0]?=some (some (.str k.word)))(q:t D σ H):A8 (wU (mZ (oA K id) (oJ 0) (tC (.str k.word)))) t Ay D σ H:=by
 exists _,hσ,();rw[decide_eq_true rfl];exact d9 q
inductive asd(CB CL CF:Addr)(vs:List V)(H:Hp)(u:VK)(E:XK):Prop|mk (w:Str) (l1 l2:Addr) (bf:vs=[.str w,.ref l1,.ref l2]) (aY:∀(Q':VK) (E':XK),(∀v z,Ca z u "told" v->Q' v z)->(∀c z,Ca z u "refused" (.str (uy (some c)))->E' (.ref (adr CB CL CF c)) none z)->agp CB CL CF [.str w,.ref l1,.ref l2] H Q' E')
def ax3(CB CL CF:Addr):Sp:=asd CB CL CF
def awt:∀k<5,([2,3,7,31,997]:List Int).getD k 0∈([2,3,7,31,997]:List Int):=∅
structure aH8(x y p:Int)(ns:List Int):Prop where
 x1:x.natAbs<=1000
 y1:y.natAbs<=1000
 p1:p∈([2,3,7,31,997]:List Int)
 l1:1<=ns.length
 l4:ns.length<=4
 bd:∀z∈ns,z.natAbs<=100
inductive aEQ(vs:List V)(H:Hp)(Q:VK)(E:XK):Prop|mk (n:Int) (bf:vs=[.int n]) (aY:∀(l l':Addr) (H':Hp) (x y p:Int) (ns:List Int),Same H H'->H l=none->l≠l'->H' l=some (.lst [.int x,.int y,.int p,.ref l'])->H' l'=some (.lst (ns.map V.int))->aH8 x y p ns->Q (.ref l) H')
def awd:Sp:=aEQ
def qT(x y p:Int)(ns:List Int):Wd->List Wa
 |.scale=>[.num x] | .on=>[.num x] | .every=>[.num x,.num y] | .rest=>[.by_ p] | .ahead=>ns.map .num|_=>[]
def gF(k:Wd)(n a b:Str)(x y p:Int)(ns:List Int):List Wa:= .nw n :: .a a::if two k then[.a b]else qT x y p ns k
def scW:Wd->Bool
 |.scale=>true | .on=>true|_=>false
def aaL(k:Wd):inV (.str k.word) [.str "add",.str "multiply",.str "roll"]=two k:=by cases k<;>decide +kernel
def aLk(k:Wd):inV (.str k.word) [.str "scale",.str "on"]=scW k:=by cases k<;>decide +kernel
def UH(k':Wd){t:TS}{D:Ends}{σ:St}{H:Hp}(hσ:σ[0]?=some (some (.str k.word)))(h1:k=k'->t D σ H)(h2:k≠k'->D.nx σ H):A8 (wU (mZ (oA K id) (oJ 0) (tC (.str k'.word)))) t Ay D σ H:=by
 by_cases e:k=k'
 .subst e;exact rQ k hσ (h1 rfl)
 .exact cQ k' e hσ (h2 e)
def Wa.Nt(w:Wa):Prop:=w.Ok/\∀r,w≠ .txt r
def vM{p:Int}(h:(Wa.by_ p).Ok):p.natAbs<10^60:=by
 obtain⟨n,rfl,_,hn⟩:=(show ∃n:Nat,p=(n:Int)/\cF n/\n<1000 from h);exact gO (⋯:(n:Int).natAbs<1000) (by decide +kernel)
def Wa.Nt.len{w:Wa}(h:w.Nt):w.word.length<=61:=by
 cases w with
 |nw s=>exact cT (show fG s from h.1).hi ∅
 |a s=>exact cT (show fG s from h.1).hi ∅
 |num i=>exact CV h.1
 |by_ p=>exact CV (vM h.1)
 |txt r=>exact absurd rfl (h.2 r)
theorem Wa.Nt.clean{w:Wa}(h:w.Nt):32∉w.word.cps.toList:=by
 cases w with
 |nw s=>exact(show fG s from h.1).clean
 |a s=>exact(show fG s from h.1).clean
 |num i=>exact MR (b:=0) (rule:=[i]) (starts:=[]) _ (BF _ fX)
 |by_ p=>exact MR (b:=0) (rule:=[p]) (starts:=[]) _ (BF _ fX)
 |txt r=>exact absurd rfl (h.2 r)
def Xr(hw:w.length<=61)(hc:32∉w.cps.toList)(hl:was.length<=100)(h:∀x∈was,x.Nt):Az (Tx.one 32) (w::was.map Wa.word)=true/\(mJ (Tx.one 32) (w::was.map Wa.word)).length<=100000/\FT (mJ (Tx.one 32) (w::was.map Wa.word)) (Tx.one 32)=w::was.map Wa.word:=by
 have e:(Tx.one 32).length=1:=rfl;have k1:∀s∈w::was.map Wa.word,s.length<=61:=λs hs=>by
  rcases cX.mp hs with e|hs
  .rw[e];exact hw
  .obtain⟨x,hx,rfl⟩:=cA.mp hs;exact(h x hx).len
 have k2:∀s∈w::was.map Wa.word,32∉s.cps.toList:=λs hs=>by
  rcases cX.mp hs with e|hs
  .rw[e];exact hc
  .obtain⟨x,hx,rfl⟩:=cA.mp hs;exact(h x hx).clean
 have l1:(w::was.map Wa.word).length<=101:=by rw[kO,aC];lia
 refine{?_,?_,Ym (c:=32) ∅ (by simp) k2}
 .unfold Az;rw[Uu (B:=61) k1 (by rw[e];lia)];rfl
 .have h1:=am3 (Tx.one 32) (w::was.map Wa.word);have h2:=af6 (B:=61) _ k1;rw[e]at h1;lia
def LC(k:Wd):k.word.length<=61/\32∉k.word.cps.toList:=by cases k<;>decide +kernel
inductive aEK(vs:List V)(H:Hp)(Q:VK)(E:XK):Prop|mk (u:Wd) (l1 l2 l3:Addr) (n z v:Str) (t m p:Int) (ns:List Int) (bf:vs=[.str u.word,.ref l1,.ref l2]) (aY:H l1=some (.lst [.str n,.str z,.str v])) (bG:H l2=some (.lst [.int t,.int m,.int p,.ref l3])) (cj:H l3=some (.lst (ns.map V.int))) (cN:ns.length<=4) (dZ:(∀w∈gF u n z v t m p ns,w.Nt)) (iR:∀H',Same H H'->Q (.str (mJ (Tx.one 32) (u.word::(gF u n z v t m p ns).map Wa.word))) H')
def aFQ:Sp:=aEK
def arj{xs:List Int}(hA:H1 a=some (.lst (xs.map V.int)))(hz:xs.length<=1000){rest:St}(hst:cst ix σ=none::rest)
  (he:∀H' x,Same H1 H'->x∈xs->∀kk:VK,kk (.str (aJ x)) H'->te (some (.int x)::rest) H' kk)
  (hQ:∀D,H1 D=none->Q (.ref D) (upd H1 D (.lst ((xs.map aJ).map V.str)))):kY ix (gM 0) oh te σ Q (uo K a) H1:=by
 refine tH (qj (ak.of hA)) (by rw[aC];exact gW (fZ hz)) hst (λ_=>true) (λx=>match x with | .int k=> .str (aJ k)|_=> .non) ?_ ?_ ?_
 .intro H2 x g2 hx k hk;exact hk
 .intro H2 x g2 hx _ k hk;obtain⟨y,hy,rfl⟩:=cA.mp hx;exact he H2 y g2 hy k hk
 .intro D hD;have el:(((xs.map V.int).filter λ_=>true).map λx=>match x with | .int k=>V.str (aJ k)|_=>V.non)=(xs.map aJ).map V.str:=by
   rw[tX.mpr (by simp),gh,gh];rfl
  rw[el];exact hQ D hD
def rM{g:Bool->Bool}{t:Str}(os:nj s=true)(ot:nj t=true)(ha:H a=some (.tup [.str s,.str t]))(hb:H b=some (.tup [.str s,.str t]))(q:Q (.bl (g true)) H):oA K g (.ref a) (.ref b) H Q:=by
 refine .inl {_,_,.tup (ao.of ha) (.cons (.str _) (.cons (.str _) .nil)),.tup (ao.of hb) (.cons (.str _) (.cons (.str _) .nil)),by simp[SeqAt.shaped,NP,NQ,OX,Gn,os,ot],by simp[SeqAt.shaped,NP,NQ,OX,Gn,os,ot],?_};have:yq (.tuple [.str s,.str t]) (.tuple [.str s,.str t])=true:=by simp[yq,PyData.eqvAll]
 rw[this];exact q
def arE(h:∀c∈s.cps.toList,c<256):nj s=true:=by
 unfold nj;rw[<-Array.all_toList,jU];exactλc hc=>decide_eq_true (Bw (h c hc) ∅)
theorem aeM{c:Nat}:∀{ws:List Str},c∈(mJ (Tx.one 32) ws).cps.toList->c=32∨∃w∈ws,c∈w.cps.toList
 |[],h=>by cases h
 |[w],h=> .inr {w,fX,(h)}
 |w::v::r,h=>by
  have h:c∈((w.cps++(Tx.one 32).cps)++(mJ (Tx.one 32) (v::r)).cps).toList:=h;rw[Ep,Ep]at h;rcases gP.mp h with h|h
  .rcases gP.mp h with h|h
   .exact .inr {w,fX,(h)}
   .exact .inl (dX.mp h)
  .exact(aeM h).imp id λ⟨x,hx,hc⟩=>{x,eN _ hx,hc}
def Uc{n:Int}(h:n.natAbs<10^60):∀c∈(aJ n).cps.toList,c<256:=λc hc=>by
 obtain⟨s,cs,e,hd,_⟩:=yE h;rw[e]at hc;have key:∀c∈cs,c<256:=λc hc=>by have:=hd c hc;lia
 cases s with
 |false=>exact key c hc
 |true=>
  rcases cX.mp (show c∈45::cs from hc)with e|h'
  .rw[e];decide
  .exact key c h'
def T8.RM(t:T8 r):nj (txt r)=true:=arE λc hc=>by
 rcases aeM hc with e|⟨w,hw,hc⟩
 .rw[e];decide
 rcases gP.mp hw with h|h
 .obtain⟨n,hn,rfl⟩:=cA.mp h;exact Uc (t.j5 n hn) c hc
 .rcases cX.mp h with h|h
  .rw[h]at hc;rw[dX.mp (show c∈[124]from hc)];decide
  .rcases gP.mp h with h|h
   .obtain⟨n,hn,rfl⟩:=cA.mp h;exact Uc (t.lu n hn) c hc
   .rcases PY h with h|h
    .rw[h]at hc;rcases cX.mp (show c∈[98,121]from hc)with e|e
     .rw[e];decide
     .rw[dX.mp e];decide
    .rw[h]at hc;exact Uc t.vM c hc
def Kp:nj ("told" : Str)=true:=by decide +kernel
def JT:nj ("refused" : Str)=true:=by decide +kernel
def Pb:nj ("ok" : Str)=true:=by decide +kernel
def Hq(c:Option Cl):nj (uy c)=true:=by
 rcases c with _|c
 .exact(by decide +kernel:nj ("name" : Str)=true)
 .cases c
  .exact(by decide +kernel:nj ("by" : Str)=true)
  .exact(by decide +kernel:nj ("long" : Str)=true)
  .exact(by decide +kernel:nj ("far" : Str)=true)
end
section
variable {C CB CL CF CN:Addr} {H:Hp} {p d:Addr} {M:cJ} {N:Nat} {Q:VK} {E:XK} {s:Str}
def dU.said(hD:dU C H p d M N){t:Str}(h:∀(Q':VK) (E':XK),(∀s H',Ca H' Q "told" (.str s)->Q' (.str s) H')->(∀c H',Ca H' Q "refused" (.str (uy c))->E' (.ref (jK CB CL CF CN c)) none H')->QT C CB CL CF CN [.ref p,.str t] H Q' E'):yM C CB CL CF CN [.ref p,.str t] H Q E:=by
 intros dx hp hD.ob;exact{p,t,rfl,{dx,_,hp,aBU},h}
def aDC:("show " : Str) = "show" ++ Tx.one 32:=by decide +kernel
def ay7:("drop " : Str) = "drop" ++ Tx.one 32:=by decide +kernel
def aKg:("row " : Str) = "row" ++ Tx.one 32:=by decide +kernel
def ai3{w w':Str}(e:w'=w++Tx.one 32)(hw:w.length<=61)(hc:32∉w.cps.toList)(hr:w≠nB)(hs:fG s):V3 (w'++s) (w::[Wa.a s].map Wa.word):=by
 obtain⟨_,j2,j3⟩:=Xr (was:=[.a s]) hw hc (∅:1<=100) λx hx=>by rw[dX.mp hx];exact{hs,(nofun)}
 rw[e];exact{j2,.inl {j3,w,(),hr}}
def ad5(hD:dU C H p d M N)(hN:N<=100)(hs:fG s)(q1:∀r,M s=some r->T8 r/\∀t H',Same H H'->H' t=some (.tup [.str "told",.str (txt r)])->Q (.ref t) H')(q2:M s=none->∀t H',Same H H'->H' t=some (.tup [.str "refused",.str "name"])->Q (.ref t) H'):yM C CB CL CF CN [.ref p,.str ("show " ++ s)] H Q E:=by
 refine hD.said λQ' E' k1 k2=>{p,d,_,"show",[.a s],["A"],M,N,rfl,hD,hN,ai3 aDC (by decide +kernel) (by decide +kernel) (by decide +kernel) hs,{by decide +kernel,.inl rfl},rfl,λx hx=>by rw[dX.mp hx];exact hs,λ⟨s',hs',hm⟩ H' g=>?_,λht=>?_}
 .cases dX.mp hs';exact k2 none H' λt H2 g2 e=>q2 hm t H2 (g.trans g2) e
 .cases e:M s with
  |none=>exact absurd e (ht s fX)
  |some r=>
   obtain⟨t8,q⟩:=q1 r e;exact .aqC e t8 λH' g=>k1 _ H' λt H2 g2 e=>q t H2 (g.trans g2) e
def iB.then{H' H2:Hp}(g:iB d H H')(g2:Same H' H2):iB d H H2:=λb o hb e=>g2 _ _ (g b o hb e)
def axH(hD:dU C H p d M N)(hN:N<=100)(hs:fG s)(q1:∀r,M s=some r->∀t H',iB d H H'->dU C H' p d (M.drop s) N->H' t=some (.tup [.str "told",.str "ok"])->Q (.ref t) H')(q2:M s=none->∀t H',Same H H'->H' t=some (.tup [.str "refused",.str "name"])->Q (.ref t) H'):yM C CB CL CF CN [.ref p,.str ("drop " ++ s)] H Q E:=by
 refine hD.said λQ' E' k1 k2=>{p,d,_,"drop",[.a s],["A"],M,N,rfl,hD,hN,ai3 ay7 (by decide +kernel) (by decide +kernel) (by decide +kernel) hs,{by decide +kernel,.inl rfl},rfl,λx hx=>by rw[dX.mp hx];exact hs,λ⟨s',hs',hm⟩ H' g=>?_,λht=>?_}
 .cases dX.mp hs';exact k2 none H' λt H2 g2 e=>q2 hm t H2 (g.trans g2) e
 .cases e:M s with
  |none=>exact absurd e (ht s fX)
  |some r=>exact .drop e λH' g hD'=>k1 _ H' λt H2 g2 e'=>q1 r e t H2 (g.then g2) (hD'.same g2) e'
def adH{a:Str}{ws:List Str}(h:ws≠[]):mJ (Tx.one 32) (a::ws)=a++Tx.one 32++mJ (Tx.one 32) ws:=by
 cases ws with
 |nil=>exact absurd rfl h
 |cons w r=>rfl
def axk(a b c:Str):a++b++c=a++(b++c):=by
 show({(a.cps++b.cps++c.cps)}:Str)={(a.cps++(b.cps++c.cps))};rw[KH]
def u9(a b:Str):(a++b).length=a.length+b.length:=by
 show(a.cps++b.cps).size=_;rw[ahP];rfl
def told_row(hD:dU C H p d M N)(hN:N<=100)(hs:fG s){r:Rw}(t8:T8 r)(hw:Wf r)(q1:∀t H',iB d H H'->dU C H' p d (M.put s r) (N+1)->H' t=some (.tup [.str "told",.str "ok"])->Q (.ref t) H'):yM C CB CL CF CN [.ref p,.str ("row " ++ s++ " " ++ txt r)] H Q E:=by
 have ej:("row " : Str)++s++ " " ++ txt r=mJ (Tx.one 32) ("row" :: s::Tx.wordsOf r.b r.rule r.starts):=by
  rw[adH (by simp),adH Y7,aKg,nG];unfold txt Tx.textOf;simp only[axk]
 have hl:(("row " : Str)++s++ " " ++ txt r).length<=100000:=by
  rw[u9,u9,u9];have:=t8.OL;have:=hs.hi;have e1:("row " : Str).length=4:=by decide +kernel
  have e2:(" " : Str).length=1:=by decide +kernel
  rw[e1,e2];lia
 refine hD.said λQ' E' k1 k2=>{p,d,_,"row",[.nw s,.txt r],["NEW","TEXT"],M,N,rfl,hD,hN,{hl,.inr {s,r,t8,rfl,?_}},{by decide +kernel,.inl rfl},rfl,λx hx=>?_,λ⟨s',hs',hm⟩=>?_,λht=>?_}
 .rw[ej];refine Ym (c:=32) ∅ (by simp) λw hw=>?_;rcases cX.mp hw with e|hw
  .rw[e];decide +kernel
  .rcases cX.mp hw with e|hw
   .rw[e];exact hs.clean
   .exact MR w hw
 .rcases cX.mp hx with e|hx
  .rw[e];exact hs
  .rw[dX.mp hx];exact t8
 .rcases cX.mp hs' with e|hx
  .cases e
  .cases dX.mp hx
 .exact .make (k:= .row) (n:=s) (was:=[.txt r]) (ds:=[.row r]) (o:= .inl r) (.cons rfl .nil) (.row hw) (λr' e _ H' g hD'=>by cases e;exact k1 _ H' λt H2 g2 e'=>q1 t H2 (g.then g2) (hD'.same g2) e') (λc e=>by cases e)
end
inductive aJv(C:Addr)(vs:List V)(H:Hp)(Q:VK)(E:XK):Prop|mk (p d e l:Addr) (M:cJ) (N N2:Nat) (ns:List Str) (bf:vs=[.ref p,.ref e,.ref l]) (aY:dU C H p d M N) (bG:N<=100) (cj:fM H e M N2) (cN:H l=some (.lst (ns.map V.str))) (dZ:(∀s∈ns,fG s)) (iR:(∀s r,M s=some r->T8 r)) (j7:∀H',Same H H'->Q (.bl true) H')
def aFv(C:Addr):Sp:=aJv C
abbrev ajB(P w K mg base cM):=jc P w K mg base "_law_stands" 17 ["_law_desk","_law_kept","_law_names"] (aFv cM)
def Xb:∀b∈bys,0<=b/\b<1000/\tk b 1=1:=∅
def Zd{b:Int}(h:b∈bys):gY b:={(Xb b h).1,(Xb b h).2.1,(Xb b h).2.2,(awY b h).imp id λ⟨h0,h1⟩=>{b.toNat,h1,(Pu h0).symm}}
structure wO(x y p:Int)(ns:List Int):Prop where
 x1:x.natAbs<10^60
 y1:y.natAbs<10^60
 p1:p∈([2,3,7,31,997]:List Int)
 l1:1<=ns.length
 l4:ns.length<=4
 bd:∀z∈ns,z.natAbs<=100
def Xa:∀p∈([2,3,7,31,997]:List Int),p∈bys/\0<p:=∅
def wO.by_{x y p:Int}{ns:List Int}(h:wO x y p ns):gY p:=Zd (Xa p h.p1).1
def wO.nt{k:Wd}{n a b:Str}{x y p:Int}{ns:List Int}(h:wO x y p ns)(hn:fG n)(ha:fG a)(hb:fG b):∀w∈gF k n a b x y p ns,w.Nt:=by
 have kx:(Wa.num x).Nt:={h.x1,(nofun)};have ky:(Wa.num y).Nt:={h.y1,(nofun)};have kp:(Wa.by_ p).Nt:=by
  have hb:=h.by_;refine{{p.toNat,(Pu hb.lo).symm,hb.pr.resolve_left λz=>?_,?_},nofun}
  .have:=(Xa p h.p1).2;lia
  .have:=hb.hi;have:=hb.lo;lia
 have kn:∀w∈ns.map Wa.num,w.Nt:=λw hw=>by
  obtain⟨z,hz,rfl⟩:=cA.mp hw;exact{A9 (h.bd z hz) (by decide +kernel),nofun}
 intro w hw;unfold gF at hw;rcases cX.mp hw with e|hw
 .rw[e];exact{hn,(nofun)}
 rcases cX.mp hw with e|hw
 .rw[e];exact{ha,(nofun)}
 cases k with
 |row=>cases hw
 |short=>cases hw
 |sum=>cases hw
 |add=>rw[dX.mp hw];exact{hb,(nofun)}
 |multiply=>rw[dX.mp hw];exact{hb,(nofun)}
 |roll=>rw[dX.mp hw];exact{hb,(nofun)}
 |scale=>rw[dX.mp hw];exact kx
 |on=>rw[dX.mp hw];exact kx
 |rest=>rw[dX.mp hw];exact kp
 |every=>
  rcases cX.mp hw with e|hw
  .rw[e];exact kx
  .rw[dX.mp hw];exact ky
 |ahead=>exact kn w hw
def DF:Wd->List Str
 |.row=>["NEW","TEXT"] | .short=>["NEW","A"] | .sum=>["NEW","A"] | .add=>["NEW","A","A"] | .multiply=>["NEW","A","A"] | .roll=>["NEW","A","A"]
 |.scale=>["NEW","A","NUMBER"] | .on=>["NEW","A","NUMBER"] | .ahead=>["NEW","A","NUMBER"] | .every=>["NEW","A","NUMBER","NUMBER"] | .rest=>["NEW","A","BY"]
def arL{k:Wd}(hk:k≠ .row){n a b:Str}{x y p:Int}{ns:List Int}(l1:1<=ns.length)(l4:ns.length<=4):VX k.word (DF k) (gF k n a b x y p ns).length/\(gF k n a b x y p ns).map Wa.kind=DF k++cO ((gF k n a b x y p ns).length-(DF k).length) ug:=by
 have hm:(k.word,DF k)∈HZ:=by cases k<;>decide +kernel
 cases k with
 |row=>exact absurd rfl hk
 |ahead=>
  cases ns with
  |nil=>cases l1
  |cons z ns=>
   have e:(gF .ahead n a b x y p (z::ns)).length=3+ns.length:=by simp[gF,two,qT];lia
   have JX:ns.length+1<=4:=l4;refine{{hm,?_},?_}
   .rw[e];show 3+ns.length=3∨_/\3<3+ns.length/\3+ns.length<3+12;by_cases c:ns.length=0
    .exact .inl ⋯
    .exact .inr {rfl,⋯,⋯}
   .rw[e];show("NEW" : Str) :: "A" :: "NUMBER" :: (ns.map Wa.num).map Wa.kind=(("NEW" : Str) :: "A" :: "NUMBER" :: cO (3+ns.length-3) ug);rw[gh,show(Wa.kind∘Wa.num)=λ_=>ug from rfl,List.map_const',(⋯:3+ns.length-3=ns.length)]
 |_=>exact{{hm,.inl rfl},rfl}
def vW(r s:Rw)(x y p:Int)(ns:List Int):Wd->Out
 |.row=> .inl r | .short=> .inl (sh r) | .add=>wD AH r s | .multiply=>Dj r s | .roll=>wD Cp r s
 |.scale=> .inl (told r.b r.rule (r.starts.map λs=>tk r.b x*s)) | .sum=>HC r | .every=>Du r x y | .ahead=>CK r ns | .on=>MN r x | .rest=>Jm r p
def okd{k:Wd}(hk:k≠ .row){r s:Rw}{x y p:Int}{ns:List Int}(hr:Sm r)(hs:two k=true->Sm s)(dn:wO x y p ns):jV k (CM r s x y p ns k) (vW r s x y p ns k):=by
 cases k with
 |row=>exact absurd rfl hk
 |short=>exact .short hr
 |add=>exact .add hr (hs rfl)
 |multiply=>exact .multiply hr (hs rfl)
 |roll=>exact .roll hr (hs rfl)
 |scale=>exact .scale hr dn.x1
 |sum=>exact .sum hr
 |every=>exact .every hr
 |ahead=>exact .ahead hr (cT dn.l4 ∅) λz hz=>Fv (by have:=dn.bd z hz;lia) (by have:=dn.bd z hz;lia)
 |on=>exact .on hr dn.x1
 |rest=>exact .rest hr dn.by_ (Xa p dn.p1).2
def prd{M:cJ}{k:Wd}(hk:k≠ .row){a b:Str}{r s:Rw}{x y p:Int}{ns:List Int}(ha:M a=some r)(hb:two k=true->M b=some s):Paired (λx d=>Wa.dt M x=some d) (.a a::if two k then[.a b]else qT x y p ns k) (CM r s x y p ns k):=by
 have ka:Wa.dt M (.a a)=some (.row r):=by show(M a).map Dt.row=_;rw[ha];rfl
 have kb:two k=true->Wa.dt M (.a b)=some (.row s):=λe=>by show(M b).map Dt.row=_;rw[hb e];rfl
 have kn:∀l:List Int,Paired (λx d=>Wa.dt M x=some d) (l.map .num) (l.map .int):=λl=>by
  induction l with
  |nil=>exact .nil
  |cons z l ih=>exact .cons rfl ih
 cases k with
 |row=>exact absurd rfl hk
 |short=>exact .cons ka .nil
 |add=>exact .cons ka (.cons (kb rfl) .nil)
 |multiply=>exact .cons ka (.cons (kb rfl) .nil)
 |roll=>exact .cons ka (.cons (kb rfl) .nil)
 |scale=>exact .cons ka (.cons rfl .nil)
 |sum=>exact .cons ka .nil
 |every=>exact .cons ka (.cons rfl (.cons rfl .nil))
 |ahead=>exact .cons ka (kn ns)
 |on=>exact .cons ka (.cons rfl .nil)
 |rest=>exact .cons ka (.cons rfl .nil)
def avN{k:Wd}(hk:k≠ .row):k.word≠nB:=λe=>hk (nF (k':= .row) e)
section
variable {C CB CL CF CN:Addr} {H:Hp} {p d:Addr} {M:cJ} {N:Nat} {Q:VK} {E:XK}
def aIC(hD:dU C H p d M N)(hN:N<=100){k:Wd}(hk:k≠ .row){n a b:Str}(Wt:fG n)(oa:fG a)(ob:fG b){x y z:Int}{ns:List Int}(dn:wO x y z ns)
  (q0:(M a=none∨two k=true/\M b=none)->∀t H',Same H H'->H' t=some (.tup [.str "refused",.str "name"])->Q (.ref t) H')
  (q1:∀r,M a=some r->(two k=true->M b≠none)->∃s,(two k=true->M b=some s)/\jV k (CM r s x y z ns k) (vW r s x y z ns k)/\(∀r',vW r s x y z ns k = .inl r'->Wf r'->∀t H',iB d H H'->dU C H' p d (M.put n r') (N+1)->H' t=some (.tup [.str "told",.str "ok"])->Q (.ref t) H')/\
   ∀c,vW r s x y z ns k = .inr c->∀t H',Same H H'->H' t=some (.tup [.str "refused",.str (uy (some c))])->Q (.ref t) H'):
  yM C CB CL CF CN [.ref p,.str (mJ (Tx.one 32) (k.word::(gF k n a b x y z ns).map Wa.word))] H Q E:=by
 have nt:=dn.nt (k:=k) Wt oa ob;have lw:(gF k n a b x y z ns).length<=100:=by
  have:=dn.l4;unfold gF;split
  .show 3<=100;decide
  .cases k<;>simp[qT]<;>lia
 obtain⟨_,j2,j3⟩:=Xr (LC k).1 (LC k).2 lw nt;obtain⟨k1',k2'⟩:=arL hk (n:=n) (a:=a) (b:=b) (x:=x) (y:=y) (p:=z) dn.l1 dn.l4;have ma:Wa.a a∈gF k n a b x y z ns:=eN _ fX;have mb:two k=true->Wa.a b∈gF k n a b x y z ns:=λe=>by unfold gF;rw[if_pos e];exact eN _ (eN _ fX)
 refine hD.said λQ' E' k1 k2=>{p,d,_,k.word,gF k n a b x y z ns,DF k,M,N,rfl,hD,hN,{j2,.inl {j3,_,(),avN hk}},k1',k2',λw hw=>(nt w hw).1,λ⟨s',hs',hm⟩ H' g=>?_,λht=>?_}
 .refine k2 none H' λt H2 g2 e=>q0 ?_ t H2 (g.trans g2) e;unfold gF at hs';rcases cX.mp hs' with e|hs'
  .cases e
  rcases cX.mp hs' with e|hs'
  .cases e;exact .inl hm
  .cases e2:two k with
   |true=>
    rw[if_pos e2]at hs';cases dX.mp hs';exact .inr {rfl,(hm)}
   |false=>
    rw[e2]at hs';cases k<;>simp[qT]at hs'
 .cases e:M a with
  |none=>exact absurd e (ht a ma)
  |some r=>
   obtain⟨s,hs,ok,p1,p2⟩:=q1 r e λz=>ht b (mb z);exact .make (prd hk e hs) ok (λr' e' hw H' g hD'=>k1 _ H' λt H2 g2 e''=>p1 r' e' hw t H2 (g.then g2) (hD'.same g2) e'') (λc e' H' g=>k2 (some c) H' λt H2 g2 e''=>p2 c e' t H2 (g.trans g2) e'')
end
section
variable {C p d e:Addr}{H H':Hp}{M:cJ}{N:Nat}{Q:VK}{w:Str}{k:Key}{K:au}{t:TS}{D:Ends}{σ:St}{v:V}{xs:List V}{kvs:List (Key×V)}
theorem dU.up{C:Addr}{H:Hp}{p d:Addr}{M:cJ}{N N':Nat}(h:dU C H p d M N)(hN:N<=N'):dU C H p d M N':={h.ob,h.kp.up hN}
def Ans(C p d:Addr)(M:cJ)(N:Nat)(k:Wd)(n a b:Str)(x y z:Int)(ns:List Int)(f:List V)(H':Hp):Prop:=
 (f=[.str "refused",.str "name"]/\(M a=none∨two k=true/\M b=none)/\dU C H' p d M (N+1))∨
 ∃r s,M a=some r/\(two k=true->M b=some s)/\jV k (CM r s x y z ns k) (vW r s x y z ns k)/\
  ((∃r',vW r s x y z ns k = .inl r'/\f=[.str "told",.str "ok"]/\dU C H' p d (M.put n r') (N+1))∨∃c,vW r s x y z ns k = .inr c/\f=[.str "refused",.str (uy (some c))]/\dU C H' p d M (N+1))
def auH{CB CL CF CN:Addr}{E:XK}(hD:dU C H p d M N)(hN:N<=100){k:Wd}(hk:k≠ .row){n a b:Str}(Wt:fG n)(oa:fG a)(ob:fG b){x y z:Int}{ns:List Int}(dn:wO x y z ns)(hS:∀s r,M s=some r->Sm r)
  (q:∀f t H',iB d H H'->H' t=some (.tup f)->Ans C p d M N k n a b x y z ns f H'->Q (.ref t) H'):
  yM C CB CL CF CN [.ref p,.str (mJ (Tx.one 32) (k.word::(gF k n a b x y z ns).map Wa.word))] H Q E:=by
 refine aIC hD hN hk Wt oa ob dn (λhm t H' g h=>q _ t H' (Same.d g) h (.inl {rfl,hm,(hD.same g).up (uL _)})) λr hm hh=>?_;obtain⟨s,hs⟩:∃s,two k=true->M b=some s:=by
  cases e:M b with
  |none=>exact{r,λz=>absurd e (hh z)}
  |some s=>exact{s,λ_=>rfl}
 have ok:=okd hk (hS a r hm) (λe=>hS b s (hs e)) dn;exact{s,hs,ok,λr' e _ t H' g hD' h=>q _ t H' g h (.inr {r,s,hm,hs,ok,.inl {r',e,rfl,(hD')}}),λc e t H' g h=>q _ t H' (Same.d g) h (.inr {r,s,hm,hs,ok,.inr {c,e,rfl,(hD.same g).up (uL _)}})}
def agX(m:Int):(m%10^(60:Int).toNat).natAbs<10^60:=by
 have e:(10:Int)^(60:Int).toNat=((10^60:Nat):Int):=by decide +kernel
 have h:0<10^60:=by decide +kernel
 rw[e];generalize 10^60=P at h;have h0:=dM m (⋯:(0:Int)<(P:Int));have h1:=dJ m (⋯:(0:Int)<(P:Int));lia
def atY:¬("told" : Str) = "refused" := by decide +kernel
def dU.Nm(h:dU C H p d M N)(ne:d≠e)(g:iB e H H'){kvs:List (Key×V)}(he:H e=some (.dK kvs)):dU C H' p d M N:=by
 obtain⟨⟨dx,h1⟩,h2⟩:=h;exact{{dx,g _ _ (mj h1 he (by intro z;cases z)) h1},h2.DR ne g he}
def KY(d e:Addr)(H H':Hp):Prop:=∀b o,b≠d->b≠e->H b=some o->H' b=some o
def wl:List Str:=["short","add","multiply","roll","scale","sum","every","ahead","on","rest","row","drop"]
def aK4(h:w∈wl):w = "drop" ∨ ∃k:Wd,w=k.word:=by
 simp only[wl,cX,acj,or_false]at h;rcases h with e|e|e|e|e|e|e|e|e|e|e|e
 .exact .inr {.short,e}
 .exact .inr {.add,e}
 .exact .inr {.multiply,e}
 .exact .inr {.roll,e}
 .exact .inr {.scale,e}
 .exact .inr {.sum,e}
 .exact .inr {.every,e}
 .exact .inr {.ahead,e}
 .exact .inr {.on,e}
 .exact .inr {.rest,e}
 .exact .inr {.row,e}
 .exact .inl e
def Cq{ws:List Str}{k:Int}(h0:0<=k)(h1:k<(ws.length:Int)):∃w∈ws,iJ (ws.map V.str) k=some (.str w):=by
 have hk:k.toNat<ws.length:=⋯;exists ws[k.toNat],Cy hk;have:=qO (show(ws.map V.str)[k.toNat]?=some (.str ws[k.toNat])by rw[List.getElem?_map,List.getElem?_eq_getElem hk];rfl)
 rwa [(⋯:((k.toNat:Nat):Int)=k)]at this
inductive az5(C:Addr)(vs:List V)(H:Hp)(Q:VK)(E:XK):Prop|mk (p d e l:Addr) (M:cJ) (N N2:Nat) (ns:List Str) (n b:Int) (bf:vs=[.ref p,.ref e,.ref l,.int n,.int b]) (aY:dU C H p d M N) (bG:N<=100) (cj:fM H e M N2) (cN:N2<=100) (dZ:d≠e) (iR:H l=some (.lst (ns.map V.str))) (j7:ns.length=4) (nU:(∀s∈ns,fG s)) (AJ:(∀s r,M s=some r->Sm r)) (Vd:gY b) (ag0:0<=n) (aAy:n<2147483647) (aLo:∀H' M',KY d e H H'->dU C H' p d M' (N+1)->fM H' e M' (N2+1)->(∀s r,M' s=some r->Wf r)->Q (.bl true) H')
def avo(C:Addr):Sp:=az5 C
def aoX{w':Str}(hσ:σ[6]?=some (some (.str w)))(h1:w=w'->t D σ H)(h2:¬w=w'->D.nx σ H):A8 (wU (mZ (oA K id) (oJ 6) (tC (.str w')))) t Ay D σ H:=by
 exists _,hσ,();by_cases e:w=w'
 .rw[show decide (w=w')=true from decide_eq_true e];exact d9 (h1 e)
 .rw[show decide (w=w')=false from decide_eq_false e];exact bK (h2 e)
def alD{n:Str}{r:Rw}(h:∀s r,M s=some r->Sm r)(hr:Wf r):∀s r',M.put n r s=some r'->Wf r':=λs r' e=>by
 unfold cJ.put at e;split at e
 .cases e;exact hr
 .exact(h s r' e).wf
def aKb{k:Wd}{l7:Addr}{na nb nc:Str}(h1:σ[1]?=some (some (.ref e)))(h6:σ[6]?=some (some (.str k.word)))(h7:σ[7]?=some (some (.ref l7)))(hl:H l7=some (.lst [.str na,.str nb,.str nc]))(hg:jC H e (.str nb) (some v))(hE:fM H e M N)(h2:two k=true->M nc≠none)(q:∀H8,Same H H8->D.nx σ H8):
  A8 (tOr (tB (SQ (mZ (BX K) (oJ 7) (tC (.int 1))) (oJ 1))) (anz (wU (mZ (Qn K false) (oJ 6) (ZK (m5 (tC (.str "add")) (m5 (tC (.str "multiply")) (m5 (tC (.str "roll")) qz)))))) (tB (SQ (mZ (BX K) (oJ 7) (tC (.int 2))) (oJ 1))))) t Ay D σ H:=by
 refine{_,h7,_,_,.inl (ak.of hl),at1,_,h1,e,(),hg,(),bK ?_};refine{_,h6,(bN 3),λt1 ht1=>{t1,(),.inr (ao.of aq),rfl,rfl,(),?_}};change if inV (.str k.word) [.str "add",.str "multiply",.str "roll"]=true then _ else _;rw[aaL];have g8:=Same.new ht1 (.tup [.str "add",.str "multiply",.str "roll"]);cases e2:two k with
 |false=>exact bK (bK (q _ g8))
 |true=>
  rcases(hE.same g8).get nc with⟨v,r',hg,hm',hR⟩|⟨hg,hm'⟩
  .exact d9 {_,h7,_,_,.inl (ak.of (g8 _ _ hl)),at2,_,h1,e,(),hg,(),bK (q _ g8)}
  .exact absurd hm' (h2 e2)
abbrev aj0(P w K mg base cM):=jc P w K mg base "_law_done" 18 ["_law_desk","_law_kept","_law_names","_law_number_here","_law_by_here"] (avo cM)
def ak.de{a:Addr}(g:KY d e H H'){kd ke:List (Key×V)}(hd:H d=some (.dK kd))(he:H e=some (.dK ke))(h:ak K H a xs):ak K H' a xs:=by
 rcases h with(h|⟨u,h⟩)|h
 .exact .inl (.inl (g a _ (mj h hd (by intro z;cases z)) (mj h he (by intro z;cases z)) h))
 .exact .inl (.inr {u,g a _ (mj h hd (by intro z;cases z)) (mj h he (by intro z;cases z)) h})
 .exact .inr h
def azk{J:It}{ix:List (Option Nat)}{tc:TT}{te:TE}{H1:Hp}(I:qx J xs H1)(hz:xs.length<=1000){rest:St}(hst:cst ix σ=none::rest)(p:V->Bool)
  (ht:∀(H':Hp) (x:V),Same H1 H'->x∈xs->∀kk:Bool->Hp->Prop,(∀H2,Same H' H2->kk (p x) H2)->tc (some x::rest) H' kk) (he:∀(H':Hp) (x:V) (kk:VK),kk x H'->te (some x::rest) H' kk)
  (hQ:∀D H',Same H1 H'->H1 D=none->H' D=some (.lst (xs.filter p))->Q (.ref D) H'):kY ix (gM 0) tc te σ Q J H1:=by
 constructor;intro D hD;refine{λi m σ' H'=>m=xs.length-i/\i<=xs.length/\(∃o,σ'=o::rest)/\Same H1 H'/\H' D=some (.lst ((xs.take i).filter p)),{xs.length,by simp,dW _,{none,(hst)},Same.new hD _,aq},?_};rintro i m σ' H' ⟨rfl,hi,⟨o,rfl⟩,g,hl⟩;by_cases hlt:i<xs.length
 .refine .inr {I.go i _ g hlt,λx H2 y=>?_};obtain⟨e1,hx⟩:=I.mK i _ x H2 g y;subst e1;have hx:=hx hlt;have et:xs.take (i+1)=xs.take i++[x]:=by
   rw[Vt hlt];rw[List.getElem?_eq_getElem hlt]at hx;cases hx;rfl
  change tc (some x::rest) H2 _;refine ht H2 x g (List.mem_of_getElem? hx) _ λH3 g3=>?_;cases hb:p x with
  |true=>
   refine d9 (he H3 x _ {_,g3 _ _ hl,?_,xs.length-(i+1),⋯,rfl,hlt,{()},(g.trans g3).upd hD _,?_})
   .have:=Lh p (xs.take i);rw[nK]at this;have:=fZ hz;lia
   .rw[aq,et,BZ,pZ,if_pos hb];rfl
  |false=>
   refine bK {xs.length-(i+1),⋯,rfl,hlt,{()},g.trans g3,?_};rw[g3 _ _ hl,et,BZ,pZ,if_neg (by rw[hb];nofun)];simp
 .have e:i=xs.length:=⋯;rw[e,zG]at hl;exact .inl {I.stop i _ g ⋯,hQ D H' g hD hl}
structure LI(K:au)(C:Addr)(H:Hp)(a l1 p d e:Addr)(ns:List Int)(nm:List Str)(M:cJ)(N:Nat):Prop where
 hS:ak K H a (ns.map V.int)
 h1:H l1=some (.lst (nm.map V.str))
 D:dU C H p d M N
 E:fM H e M N
 ne:d≠e
theorem LI.same{K:au}{C:Addr}{H H':Hp}{a l1 p d e:Addr}{ns:List Int}{nm:List Str}{M:cJ}{N:Nat}(h:LI K C H a l1 p d e ns nm M N)(g:Same H H'):LI K C H' a l1 p d e ns nm M N:={g.seq h.hS,g _ _ h.h1,h.D.same g,h.E.same g,h.ne}
theorem LI.de{K:au}{C:Addr}{H H':Hp}{a l1 p d e:Addr}{ns:List Int}{nm:List Str}{M M':cJ}{N N':Nat}(h:LI K C H a l1 p d e ns nm M N)(g:KY d e H H')(D:dU C H' p d M' N')(E:fM H' e M' N'):LI K C H' a l1 p d e ns nm M' N':=by
 intros kd hd _ h.D.kp.ex;intros ke he _ h.E.ex;exact{ak.de g hd he h.hS,g _ _ (mj h.h1 hd (by intro z;cases z)) (mj h.h1 he (by intro z;cases z)) h.h1,D,E,h.ne}
def Oj(M:cJ):V->Bool
 |.str s=>match M s with|some r=>!mQ r|none=>false
 |_=>false
def aAl(h:dH kvs k=some v):k∈kvs.map (·.1):=by
 induction kvs with
 |nil=>cases h
 |cons x l ih=>
  by_cases e:x.1=k
  .rw[<-e];exact fX
  .rw[j9 e]at h;exact eN _ (ih h)
def asy(h:k∈kvs.map (·.1)):∃v,dH kvs k=some v:=by
 induction kvs with
 |nil=>cases h
 |cons x l ih=>
  by_cases e:x.1=k
  .exact{_,mR e}
  .rw[kI,cX]at h;obtain⟨v,hv⟩:=ih (h.resolve_left λz=>e z.symm);exact{v,by rw[j9 e];exact hv}
end
section
variable {P:Program} {w:World} {K:au} {mg:Str->Option Value} {base:Heap}
variable {aU bJ jr jt iQ iz jf aR aX pF nJ nQ cM:Addr} (B:Bt mg) (M:Ms P w K mg base aU bJ jr jt iQ iz jf aR aX) (D:Dk w K mg pF nJ nQ cM)
include B M D
abbrev jN:=aW M "taken" 1 ["by","number"] arp
abbrev aeH:=aW M "next_place" 2 ["by","rule","before"] (azY K)
abbrev Gp:=aW M "first_places" 3 ["row","count"] (aIu K)
abbrev W0:=aW M "is_prime" 1 ["number"] awf
abbrev ajV:=aW M "prime_above" 2 ["number"] au9
abbrev adY:=aW M "inverse" 2 ["prime","number"] asY
abbrev ab3:=aW M "over" 3 ["by","one","other"] aPE
abbrev G8:=aW M "trimmed" 1 ["numbers"] (aLE K)
abbrev akS:=aW M "number_at" 1 ["poly","k"] aCF
abbrev Nj:=aW M "times" 2 ["by","one","other"] aOA
abbrev GY:=aW M "divided" 2 ["by","one","other"] aKv
abbrev als:=aW M "monic" 4 ["prime","poly"] au3
abbrev YT:=aW M "greatest" 5 ["by","one","other"] aB6
abbrev abZ:=aW M "nearest" 1 ["modulus","number"] avY
abbrev agF:=aW M "joined" 4 ["modulus","number","prime","rest"] aKM
abbrev aeR:=aW M "taken_poly" 2 ["prime","poly"] aDS
abbrev aoN:=aW M "divides" 3 ["monic_one","poly"] aCE
abbrev agJ:=aW M "whole_greatest" 6 ["one","other"] azO
abbrev GJ:=aW M "of_rule" 2 ["by","rule"] asU
abbrev O9:=aW M "rule_of" 2 ["by","poly"] aEd
abbrev ajz:=aW M "top_of" 2 ["row","poly"] ayF
abbrev aqJ:=aW M "shared_divisor" 7 ["by","one","other"] aFW
abbrev ajE:=aW M "least_of" 8 ["row"] aFU
abbrev uG:=aW M "shortest" 9 ["row"] akC
abbrev Y9:=aW M "shared_by" 1 ["one","other"] (aDi aU)
abbrev Gk:=aW M "refuse_long" 1 ["length"] (aJE aX)
abbrev Cv:=aW M "told_row" 10 ["by","rule","starts"] atn
abbrev abI:=aW M "sum_place" 1 ["ours","theirs","n"] (Wl AH)
abbrev W7:=aW M "product_place" 1 ["ours","theirs","n"] (Wl Oq)
abbrev aaH:=aW M "rolled_place" 1 ["ours","theirs","n"] (Wl Cp)
abbrev abS:=aW M "pair_row" 11 ["one","other","rule","pair_place"] (azm mg)
abbrev Xf:=aW M "joint_row" 12 ["one","other","pair_place"] (ars aU aX aR mg)
abbrev R8:=aW M "added" 13 ["one","other"] (abK aU aX aR AH)
abbrev abk:=aW M "rolled" 13 ["one","other"] (abK aU aX aR Cp)
abbrev Rv:=aW M "behind_first" 1 ["rule","sums","k"] aPn
abbrev Y5:=aW M "power_sums" 2 ["rule","count"] aLJ
abbrev Yt:=aW M "rule_of_sums" 2 ["sums"] atu
abbrev Rf:=aW M "multiplied" 13 ["one","other"] (aps aU aX aR)
abbrev anH:=aW M "refuse_far_steps" 1 ["start","step"] (aHG aR)
abbrev RJ:=aW M "every" 11 ["row","start","step"] (afV aU aX aR)
abbrev Wi:=aW M "scaled" 11 ["row","number"] aqs
abbrev Ys:=aW M "summed" 11 ["row"] (apf aU aX aR)
abbrev aam:=aW M "put_ahead" 11 ["row","numbers"] (apQ aU aX aR)
abbrev agz:=aW M "refuse_far_jump" 1 ["by","n"] (axN aR)
abbrev aoa:=aW M "power_left" 3 ["by","poly","n"] aLZ
abbrev afJ:=aW M "jump" 4 ["row","n"] (aur aR)
abbrev ad2:=aW M "sum_at" 2 ["by","poly","found","n"] aCo
abbrev Ue:=aW M "onward" 5 ["row","n"] (alk aR)
abbrev adi:=aW M "refuse_prime" 1 ["row"] (aru aU)
abbrev adD:=aW M "rest_row" 2 ["row","divisor"] azc
abbrev Y8:=aW M "by_prime" 3 ["row","prime"] (aoE aU)
abbrev Wc:=aW M "is_whole" 1 ["thing"] aEC
abbrev ab4:=aW M "is_by" 2 ["thing"] aHa
abbrev ahJ:=aW M "is_number" 2 ["by","thing"] aJO
abbrev agt:=aW M "are_numbers" 3 ["by","thing"] awC
abbrev anI:=aW M "is_row" 4 ["thing"] aIL
abbrev aib:=aW M "above_all_shown" 1 [] azM
abbrev apv:=aW M "number_shown" 2 ["number"] ayZ
abbrev Fw:=aW M "shown" 3 ["row"] axS
abbrev ag7:=aW M "is_written" 1 ["word"] aAp
abbrev N7:=aW M "read_number" 2 ["word"] aA9
abbrev Uw:=aW M "read_prime" 3 ["word"] aGu
abbrev afg:=aW M "read_words" 6 ["rule_words","start_words","by"] aeC
abbrev aho:=aW M "read" 7 ["text"] aHZ
abbrev agn:=aW M "words_of" 1 ["text"] aD3
abbrev agl:=aW M "kinds_of" 1 ["words"] (aKz K)
abbrev Rt:=aW M "read_name" 1 ["word"] aPF
abbrev afK:=aW M "row_named" 2 ["kept","word"] (aAR bJ)
abbrev afZ:=aW M "read_word" 8 ["kept","kind","word"] (aGv bJ)
abbrev ah4:=aW M "tell_show" 4 ["said"] ap7
abbrev aqO:=aW M "make_row" 14 ["said"] (oU aU aX aR "row")
abbrev aed:=aW M "make_short" 14 ["said"] (oU aU aX aR "short")
abbrev ao1:=aW M "make_add" 14 ["said"] (oU aU aX aR "add")
abbrev adQ:=aW M "make_multiply" 14 ["said"] (oU aU aX aR "multiply")
abbrev aoo:=aW M "make_roll" 14 ["said"] (oU aU aX aR "roll")
abbrev agO:=aW M "make_scale" 14 ["said"] (oU aU aX aR "scale")
abbrev aoL:=aW M "make_sum" 14 ["said"] (oU aU aX aR "sum")
abbrev adV:=aW M "make_every" 14 ["said"] (oU aU aX aR "every")
abbrev aeF:=aW M "make_ahead" 14 ["said"] (oU aU aX aR "ahead")
abbrev afR:=aW M "make_on" 14 ["said"] (oU aU aX aR "on")
abbrev aiR:=aW M "make_rest" 14 ["said"] (oU aU aX aR "rest")
abbrev ado:=aW M "_law_cell_at" 1 ["_law_script","_law_k"] (aI9 K)
abbrev ZJ:=aW M "_law_mix" 1 ["_law_cell","_law_k"] aNj
abbrev alR:=aW M "_law_by" 1 ["_law_number_here"] aCn
abbrev ae7:=aW M "_law_number" 1 ["_law_by_here","_law_number_here"] aLf
abbrev adb:=aW M "_law_numbers" 2 ["_law_by_here","_law_cell","_law_many"] aF6
abbrev XU:=aW M "_law_rest" 1 ["_law_by_here","_law_number_here"] aLp
abbrev akx:=aW M "_law_pool" 1 ["_law_cell","_law_turn"] auz
abbrev U3:=aW M "_law_small_row" 3 ["_law_by_here","_law_cell","_law_most"] atP
abbrev an4:=aW M "_law_is_small" 1 ["_law_row"] aOG
abbrev Ry:=aCc M "_law_word" 1 ["_law_e"] (atr aU aX aR bJ)
abbrev apn:=aW M "_law_by_words" 15 ["_law_word_here","_law_rows","_law_numbers_here"] (agp aU aX aR)
abbrev af4:=aW M "_law_due" 16 ["_law_word_here","_law_rows","_law_numbers_here"] (ax3 aU aX aR)
abbrev apE:=aW M "_law_drawn_numbers" 1 ["_law_number_here"] awd
abbrev ahR:=aW M "_law_text" 1 ["_law_word_here","_law_names","_law_numbers_here"] aFQ
theorem aJj(F:Fn K mg "taken" QD ["by","number"]):jN M:=by
 delta aMV
 intros b n rfl h0 q h;exists _,#[(),(bB (0==_:) (aH (aD (1:))) bH),(aD (1%0:))];exists (),();refine cC (λc=>?_) (λc=>?_)
 .exists ();have c':b=0:=dec_true c;have e:tk b n=n:=by rw[c',eX]
  rw[e]at q;exact q
 .have c':¬b=0:=dec_false c;exists (),(),"",(⋯:(0:Int)<b);rw[oB c']at q;exact q
theorem asi(F:Fn K mg "next_place" acv ["by","rule","before"])(cH:jN M):aeH M:=by
 delta PD
 intros b r s' rule before rfl hb hR hS hl hl2 hl3 bR bS q h;exists _,#[(),(aG 3 PD.nd aN),(lU PassesOwn.never rfl (gH rfl B.eZ #[(bZ K B.bY #[1])]) (cu 4 PD.nd) (aH (aG 3 PD.nd (3+(aL K (1:) (4:))*(aL K (2:) ((bZ K B.bY #[2])-_-4:)):)))),(aD (aA cH hr #[0,3]))];have lR:(rule.map V.int).length=rule.length:=aC _;have lS:(before.map V.int).length=before.length:=aC _;exists (),.ref r,rule.length,rfl,.inr {_,hR,lR.symm};exists (rule.length:Int),rfl,(⋯:-(2^62)<=(rule.length:Int)),(⋯:(rule.length:Int)<2^62);refine pX (lo:=0) (n:=(rule.length:Int).toNat) (λi σ' H'=>∃o,σ'=[some (.int b),some (.ref r),some (.ref s'),some (.int (Rm.S rule (λi=>before.getD i 0) before.length i)),o]/\H'=H) {none,rfl,(rfl)} ?_ ?_
 .rintro i σ' H' hi ⟨o,rfl,rfl⟩;have hi':i<rule.length:=⋯;have e0:(0:Int)+(i:Int)=(i:Int):=⋯;have e1:(before.length:Int)-1-(0+(i:Int))=((before.length-1-i:Nat):Int):=⋯;exists ();exists (),(),_,_,.inr hR,fR (ns:=rule) (⋯:(0:Int)<=0+(i:Int)) ⋯;exists (),(),.ref s',before.length,rfl,.inl {_,hS,lS.symm},"",(),"";exists _,_,.inl hS,fR (ns:=before) (⋯:(0:Int)<=(before.length:Int)-1-(0+(i:Int))) ⋯;exists pY (Bd.getD bR _) (Bd.getD bS _) ∅;refine{some (.int (0+(i:Int))),?_,rfl};rw[e1,e0,d7,d7];rfl
 .rintro σ' H' ⟨o,rfl,rfl⟩;exists (),(),b,(),hb;rw[show(rule.length:Int).toNat=rule.length from d7 _];exact q
theorem aIm(F:Fn K mg "first_places" acw ["row","count"])(abv:aeH M):Gp M:=by
 delta J6
 obtain⟨v,r,c,rfl,⟨a,p,p2,rfl,hA,hR,hS⟩,ok,hc0,hc1,q⟩:=h;exists _,#[(),(aG 2 J6.nd (-0:)),(aG 3 J6.nd (-0:)),(aG 4 J6.nd (-0:)),(aG 5 J6.nd (YL (eV (xlist K) rfl B.Jb boot_list #[(jD (m6 K) (4:) jH (jQ (1:)))]))),(yI PassesOwn.never ((bZ K B.bY #[5])<1:) (aH (iK (sH K (5:) (aA abv hr #[2,3,5]))))),(aD (5:))];have hl:=ok.len;have hl2:=ok.short;have lS:(r.starts.map V.int).length=r.starts.length:=aC _;exists (),_,_,.inr (ao.of hA),rfl;exists (),_,_,.inr (ao.of hA),rfl;exists (),_,_,.inr (ao.of hA),rfl;have awK:fY (r.starts.map V.int) none (some c)=(r.row (min c.toNat r.starts.length)).map V.int:=by
  have e:r.row (min c.toNat r.starts.length)=r.starts.take (min c.toNat r.starts.length):=Yr (aoK _ _);rw[e];have e2:c=((c.toNat:Nat):Int):=⋯;unfold fY;rw[e2,HT.xP,HT.zH,Ae,vD,lS,vH,d7]
 refine Bar.by (λv H1=>∃l,v = .ref l/\Same H H1/\H l=none/\H1 l=some (.lst ((r.row (min c.toNat r.starts.length)).map V.int))) (λkk hkk=>?_) ?_
 .exists (),(),();by_cases hw:r.starts.length<=c.toNat
  ·-- the whole of it
   refine .inr (.inr {_,ao.of hS,?_,?_})
   .have e2:c=((c.toNat:Nat):Int):=⋯;rw[e2,HT.xP,HT.zH,lS];lia
   .refine{p2,(),.inr (ao.of hS),λl hl1=>hkk _ _ {l,rfl,Same.new hl1 _,hl1,?_}};rw[aq,WC hw];have e:r.row r.starts.length=r.starts:=(Yr (bO _)).trans (zG ..);rw[e]
  .refine .inr (.inl {_,ao.of hS,?_,λp3 hp3=>?_})
   .have e2:c=((c.toNat:Nat):Int):=⋯;rw[e2,HT.xP,HT.zH,lS];lia
   .refine{p3,(),.inr (ao.of aq),λl hl1=>?_};have g3:=Same.new hp3 (.tup (fY (r.starts.map V.int) none (some c)));refine hkk _ _ {l,rfl,g3.trans (Same.new hl1 _),g3.free hl1,?_};rw[aq,awK]
 rintro v H1 ⟨l,rfl,g1,hl1,hr1⟩;refine{λm σ' H'=>∃n:Nat,m=c.toNat-n/\min c.toNat r.starts.length<=n/\n<=c.toNat/\σ'=[some (.ref a),some (.int c),some (.int r.b),some (.ref p),some (.ref p2),some (.ref l)]/\Same H H'/\H' l=some (.lst ((r.row n).map V.int)),
  {_,min c.toNat r.starts.length,rfl,bO _,Nat.min_le_left _ _,rfl,g1,hr1},?_}
 rintro m σ' H' ⟨n,rfl,h1,h2,rfl,g,hL⟩;have lL:((r.row n).map V.int).length=n:=by rw[aC,Rw.su]
 exists (),.ref l,n,rfl,.inl {_,ak.of hL,lL.symm},(),"",();refine cC (λcc=>?_) (λcc=>?_)
 .have hn:n<c.toNat:=by have:=dec_true cc;lia
  refine{_,λ_ _ z=>z,?_};refine{(),.inl {rfl,_,ak.of hL},(),(),(),r.b,p,l,r.rule,r.row n,rfl,ok.jP,ao.of (g _ _ hR),ak.of hL,?_,hl2,?_,ok.j5,ok.amk n ⋯,?_}
  .rw[Rw.su];lia
  .rw[Rw.su];lia
  .refine{l,"",hL,?_,?_}
   .rw[lL];exact fZ ⋯
   .exists c.toNat-(n+1),⋯,n+1,rfl,⋯,⋯,rfl,g.upd hl1 _;rw[aq,Rw.su];have e:r.row (n+1)=r.row n++[tk r.b (Rm.S r.rule (λi=>(r.row n).getD i 0) n r.rule.length)]:=by
     show _++[if n<r.starts.length then r.starts.getD n 0 else _]=_;rw[if_neg ⋯];rfl
    rw[e,gR];rfl
 .have hn:n=c.toNat:=by have:=dec_false cc;lia
  subst hn;exists ();exact q l H' g hl1 hL
theorem azU(F:Fn K mg "is_prime" acq ["number"]):W0 M:=by
 delta YB
 intros n rfl hn q h;exists _,#[(),(bB (0<_:) (aH (aD jy)) bH),(aG 1 YB.nd aN),(yI PassesOwn.never (1*1<=0:) #[(),(bB (0%1==_:) (aH (aD jy)) bH),(aG 1 YB.nd (1+_:))]),(aD jy)];exists (),"",();refine cC (λc=>?_) (λc=>?_)
 .have c':(n:Int)<2:=dec_true c;exact q false {λz=>absurd z ∅,λz=>by have:=z.1;lia}
 .have c':¬(n:Int)<2:=dec_false c;refine{λm σ' H'=>∃d:Nat,σ'=[some (.int n),some (.int (d:Int))]/\H'=H/\2<=d/\d<=n+1/\m=n+2-d/\∀e:Nat,2<=e->e<d->¬e∣n,{_,2,rfl,rfl,⋯,⋯,rfl,λe h1 h2=>⋯},?_};rintro m σ' H' ⟨d,rfl,rfl,h2,hdn,rfl,hd⟩;exists (),(),mulL ⋯ ⋯,(),"",();refine cC (λc2=>?_) (λc2=>?_)
  .have c2':(d:Int)*d<=n:=dec_true c2;have c2n:d*d<=n:=by exact_mod_cast c2'
   have hdl:d*1<=d*d:=pU d ⋯;refine{_,λ_ _ z=>z,?_};exists (),(),"",(⋯:(0:Int)<(d:Int));exists ();refine cC (λc3=>?_) (λc3=>?_)
   .have Z8:(n:Int)%(d:Int)=0:=dec_true c3;have hdv:d∣n:=C6.mp (Mp Z8);exact q false {λz=>absurd z ∅,λz=>absurd z (awM h2 c2n hdv)}
   .have Z8:¬(n:Int)%(d:Int)=0:=dec_false c3;exists ();exact{n+2-(d+1),⋯,d+1,by simp,rfl,⋯,⋯,rfl,λe h1 h3=>by
     rcases Nat.lt_or_ge e d with z|z
     .exact hd e h1 z
     .have:e=d:=⋯;subst this;exactλz=>Z8 (Int.emod_eq_zero_of_dvd (C6.mpr z))}
  .have c2':¬(d:Int)*d<=n:=dec_false c2;have c2n:¬d*d<=n:=λz=>c2' (by exact_mod_cast z);exact q true {λ_=>Vb ⋯ λe h1 h3 hdv=>by
    by_cases c4:e<d
    .exact hd e h1 c4 hdv
    .have:d*d<=e*e:=tW ⋯ ⋯;lia,λ_=>rfl}
theorem asx(F:Fn K mg "prime_above" WM ["number"])(zY:W0 M):ajV M:=by
 delta Tv
 intros n q' rfl hq hnq hqb q h;exists _,#[(),(aG 1 Tv.nd (0+_:)),(yI PassesOwn.never (gU (gw (aA zY hr #[1]))) (aH (aG 1 Tv.nd (1+_:)))),(aD (1:))];exists ();exists λm σ' H'=>∃f:Nat,σ'=[some (.int n),some (.int (f:Int))]/\H'=H/\n<f/\f<=q'/\m=q'-f,{_,n+1,rfl,rfl,⋯,⋯,rfl};rintro m σ' H' ⟨f,rfl,rfl,h1,h2,rfl⟩;refine{(),f,rfl,⋯,λb hb=>?_};exists b,rfl;cases b with
 |false=>
  refine{_,λ_ _ z=>z,?_};exists ();have hne:f≠q':=λe=>absurd (hb.mpr (e▸hq)) ∅;exact{q'-(f+1),⋯,f+1,rfl,rfl,⋯,⋯,rfl}
 |true=>
  exists ();exact q f (hb.mp rfl) h1 h2
theorem ays(F:Fn K mg "inverse" Rz ["prime","number"])(cH:jN M):adY M:=by
 delta zy
 intros P' a rfl hP hPb h0 h1 q h;have hr2:2<=P'/\P'<4194304:={hP.1,(hPb)};exists _,#[(),(aG 2 zy.nd aN),(aG 3 zy.nd (1:)),(aG 4 zy.nd (0-_:)),(yI PassesOwn.never (4>_:) #[(),(oM (bB (4%_==_:) (aH (aG 2 zy.nd (aA cH hr #[0,(2*3:)]))) bH)),(aG 3 zy.nd (aA cH hr #[0,(3*3:)])),(aG 4 zy.nd (4/_:))]),(aD (2:))];exists ();exists (),"";have e0:((P':Int)-2).toNat=P'-2:=⋯;refine{λm σ' H'=>∃power square left:Int,σ'=[some (.int P'),some (.int a),some (.int power),some (.int square),some (.int left)]/\H'=H/\m=left.toNat/\0<=power/\power<4194304/\0<=square/\square<4194304/\0<=left/\Om.Keeps P' a (P'-2) power square left.toNat,
  {_,1,a,(P':Int)-2,rfl,rfl,rfl,∅,∅,⋯,⋯,⋯,by rw[e0];exact aLM _ _ _},?_}
 rintro m σ' H' ⟨power,square,left,rfl,rfl,rfl,p0,p1,s0,s1,l0,hk⟩;exists (),"",();refine cC (λc=>?_) (λc=>?_)
 .have c':0<left:=dec_true c;refine{_,λ_ _ z=>z,?_};have hpos:(0:Int)<(P':Int):=⋯;have pO:∀n,tk (P':Int) n=n%(P':Int):=λn=>oB ⋯ n;refine lW.by (λσ' H2=>∃power':Int,σ'=[some (.int P'),some (.int a),some (.int power'),some (.int square),some (.int left)]/\H2=H'/\((left%2=1/\power'=power*square%(P':Int))∨(¬left%2=1/\power'=power))) (λN hN=>?_) ?_
  .exists (),"",(∅:(0:Int)<2),();refine cC (λc2=>?_) (λc2=>?_)
   .exists (),(),(),mulL ⋯ ⋯,P',(),⋯;exact hN _ _ {(),rfl,.inl {dec_true c2,pO _}}
   .exact hN _ _ {(),rfl,.inr {dec_false c2,rfl}}
  rintro σ' H2 ⟨power',rfl,rfl,hp⟩;exists (),(),(),mulL ⋯ ⋯,P',(),⋯;exists (),"",{∅,∅};have b1:=dM (square*square) hpos;have b2:=dJ (square*square) hpos;have b3:=dM (power*square) hpos;have b4:=dJ (power*square) hpos;have el:=iv0 l0;refine{_,?_,power',square*square%(P':Int),left/2,by rw[pO];rfl,rfl,rfl,?_,?_,b1,⋯,⋯,?_}
  .lia
  .rcases hp with⟨_,rfl⟩|⟨_,rfl⟩
   .exact b3
   .exact p0
  .rcases hp with⟨_,rfl⟩|⟨_,rfl⟩
   .lia
   .exact p1
  .rw[el];rcases hp with⟨hodd,rfl⟩|⟨hodd,rfl⟩
   .exact atQ hk ((iv1 l0).1 hodd)
   .exact aN0 hk (λz=>hodd ((iv1 l0).2 z))
 .have c':left=0:=by have:=dec_false c;lia
  subst c';exists ();exact q power p0 p1 (aCK hk)
theorem auA(F:Fn K mg "over" Qv ["by","one","other"])(cH:jN M)(Us:adY M):ab3 M:=by
 delta aNE
 intros P' one other rfl hP hPb o0 o1 q h;exists _,#[(),(bB (0==_:) (aH zf) bH),(bB ((aA cH hr #[0,2])==_:) (aH zf) bH),(aD (aA cH hr #[0,(1*(aA Us hr #[0,2]):)]))];have hr2:2<=P'/\P'<4194304:={hP.1,(hPb)};exists (),();refine cC (λc=>absurd (dec_true c) ⋯) (λ_=>?_);have pO:∀n,tk (P':Int) n=n%(P':Int):=λn=>oB ⋯ n;exists (),(),P',other,rfl,⋯,();have et:tk (P':Int) other=other:=by rw[pO];exact Ss ⋯ o1
 rw[et];refine cC (λc2=>absurd (dec_true c2) ⋯) (λ_=>?_);refine{(),(),(),(),P',other,rfl,hP,hPb,o0,o1,λx x0 x1 hx=>?_};exists mulR ⋯ ⋯,P',(),⋯;rw[pO,Om.mod_mul (rfl:one%(P':Int)=one%(P':Int)) hx];exact q
theorem asw(F:Fn K mg "trimmed" Wz ["numbers"]):G8 M:=by
 delta Zn
 intros l xs rfl hL q h;exists _,#[(),(aG 1 Zn.nd (bZ K B.bY #[0])),(yI PassesOwn.never (PW.pt (rP (1>_:) (uc ((aL K (0:) (1-_:))==_:)))) (aH (aG 1 Zn.nd (1-_:)))),(aD (eV (jW K) rfl B.jl boot_tuple #[(jD (m6 K) (0:) jH (jQ (1:)))]))];have lL:(xs.map V.int).length=xs.length:=aC _;exists (),.ref l,xs.length,rfl,.inl {_,hL,lL.symm};refine{λm σ' H'=>∃n:Nat,m=n/\n<=xs.length/\σ'=[some (.ref l),some (.int (n:Int))]/\H'=H/\Pm.trim (xs.take n)=Pm.trim xs,{_,xs.length,rfl,bO _,rfl,rfl,by rw[zG]},?_};rintro m σ' H' ⟨n,e0,hn,rfl,rfl,ht⟩;exists (),"",();refine cC (λc=>?_) (λc=>bK ?_)
 .have h0:0<n:=by have:=dec_true c;lia
  have e1:((n:Int)-1).toNat=n-1:=⋯;exists (),(),"",_,_,.inl hL,fR (ns:=xs) (⋯:(0:Int)<=(n:Int)-1) ⋯,();refine cC (λc2=>?_) (λc2=>?_)
  .have hz:=dec_true c2;rw[e1]at hz;refine{_,λ_ _ z=>z,?_};exists (),"";refine{n-1,⋯,n-1,rfl,⋯,?_,rfl,aDj h0 hn ht hz};rw[(⋯:((n-1:Nat):Int)=(n:Int)-1)];rfl
  .have hz:=dec_false c2;rw[e1]at hz;refine{(),(),(),.inl {_,hL,λp hp=>?_}};refine{p,(),.inl {ak.of aq,λp2 hp2=>?_}};refine q p2 _ ((Same.new hp _).trans (Same.new hp2 _)) ?_;rw[aq,vU,<-vH,ad8 hn ht (.inr hz)]
 .have h0:n=0:=by have:=dec_false c;lia
  refine{(),(),(),.inl {_,hL,λp hp=>?_}};refine{p,(),.inl {ak.of aq,λp2 hp2=>?_}};refine q p2 _ ((Same.new hp _).trans (Same.new hp2 _)) ?_;rw[aq,vU,<-vH,ad8 hn ht (.inl h0)]
theorem aCl(F:Fn K mg "number_at" Xl ["poly","k"]):akS M:=by
 delta aOh
 intros a p k rfl hA h0 q h;exists _,(aH (aD (JL (1<(bZ K B.bY #[0]):) (aL K (0:) (1:)) aN)));have lP:(p.map V.int).length=p.length:=aC _;exists (),(),.ref a,p.length,rfl,.inr {_,ao.of hA,lP.symm},"",();refine cC (λc=>?_) (λc=>?_)
 .exact{(),(),_,_,.inr (ao.of hA),fR (ns:=p) h0 (dec_true c),q}
 .have c':=dec_false c;have e:Pm.co p k.toNat=0:=cB ⋯;rw[e]at q;exact q
theorem aB5(F:Fn K mg "times" abn ["by","one","other"])(cH:jN M)(nq:G8 M):Nj M:=by
 delta NS
 intros b a c p r rfl hb hA hC zA zC bA bC q h;exists _,#[(),(aG 3 NS.nd ((fK #[_])*((bZ K B.bY #[1])+(bZ K B.bY #[2])):)),(lU PassesOwn.never rfl (gH rfl B.eZ #[(bZ K B.bY #[1])]) (cu 4 NS.nd) (aH (lU PassesOwn.never rfl (gH rfl B.eZ #[(bZ K B.bY #[2])]) (cu 5 NS.nd) (aH (yO (aA cH hr #[0,((aL K (3:) (4+5:))+(aL K (1:) (4:))*(aL K (2:) (5:)):)]) (HS (3:) (4+5:) set_list)))))),(aD (aA nq hr #[3]))];have lP:(p.map V.int).length=p.length:=aC _;have lR:(r.map V.int).length=r.length:=aC _;refine{(bN 1),λl0 h0=>?_};have g0:=Same.new h0 (.lst [.int 0]);exists (),.ref a,p.length,rfl,.inr {_,ao.of (g0 _ _ hA),lP.symm},(),.ref c,r.length,rfl,.inr {_,ao.of (g0 _ _ hC),lR.symm};have en:((p.length:Int)+(r.length:Int)).toNat=p.length+r.length:=⋯;refine{_,aq,(⋯:-(2^63)<=(p.length:Int)+(r.length:Int)),(⋯:(p.length:Int)+(r.length:Int)<2^63),?_,λl hl=>?_}
 .rw[en];show 1*(p.length+r.length)<=sizeLine;rw[IG];exact gW (fZ ⋯)
 have g1:=g0.trans (Same.new hl (.lst (cO ((p.length:Int)+(r.length:Int)).toNat [V.int 0]).flatten));have hl0:H l=none:=g0.free hl;exists (),.ref a,p.length,rfl,.inr {_,ao.of (g1 _ _ hA),lP.symm};exists (p.length:Int),rfl,(⋯:-(2^62)<=(p.length:Int)),(⋯:(p.length:Int)<2^62);refine pX (lo:=0) (n:=(p.length:Int).toNat) (λi σ' H'=>∃o4 o5 L,σ'=[some (.int b),some (.ref a),some (.ref c),some (.ref l),o4,o5]/\Same H H'/\H' l=some (.lst (L.map V.int))/\L.length=p.length+r.length/\∀k,Pm.co L k=tk b (Pm.W (Pm.co p) (Pm.co r) i 0 k))
  {_,_,aV (p.length+r.length) (λ_=>0),rfl,g1,(by rw[aq,en,Wg]),eU _ _,λk=>by rw[kW,ax2,tk0];split<;>rfl} ?_ ?_
 .rintro i σ' H' hi ⟨o4,o5,L,rfl,g,hL,zL,hW⟩;have hi':i<p.length:=⋯;exists (),.ref c,r.length,rfl,.inr {_,ao.of (g _ _ hC),lR.symm};exists (r.length:Int),rfl,(⋯:-(2^62)<=(r.length:Int)),(⋯:(r.length:Int)<2^62);refine pX (lo:=0) (n:=(r.length:Int).toNat) (λk σ' H'=>∃o5 L,σ'=[some (.int b),some (.ref a),some (.ref c),some (.ref l),some (.int (0+(i:Int))),o5]/\Same H H'/\H' l=some (.lst (L.map V.int))/\L.length=p.length+r.length/\∀j,Pm.co L j=tk b (Pm.W (Pm.co p) (Pm.co r) i k j))
   {_,L,rfl,g,hL,zL,hW} ?_ ?_
  .rintro k σ' H2 hk ⟨o5,L,rfl,g,hL,zL,hW⟩;have hk':k<r.length:=⋯;have lL:(L.map V.int).length=L.length:=aC _;have e1:(0+(i:Int)+(0+(k:Int))).toNat=i+k:=⋯;have e2:(0+(i:Int)).toNat=i:=⋯;have e3:(0+(k:Int)).toNat=k:=⋯;exists (),(),(),(),_,_,.inl (ak.of hL),fR (ns:=L) (⋯:(0:Int)<=0+(i:Int)+(0+(k:Int))) ⋯;exists (),(),_,_,.inr (ao.of (g _ _ hA)),fR (ns:=p) (⋯:(0:Int)<=0+(i:Int)) ⋯;exists (),(),_,_,.inr (ao.of (g _ _ hC)),fR (ns:=r) (⋯:(0:Int)<=0+(k:Int)) ⋯;exists pY (Bd.getD bA _) (Bd.getD bC _) ∅;exists b,(),hb;refine{(),(),(),l,_,_,i+k,rfl,rfl,hL,Qw ⋯ (by rw[lL];lia),?_};refine{_,L.set (i+k) _,rfl,g.upd hl0 _,(by rw[aq,aaT]),(by rw[La];exact zL),λj=>?_};rw[KQ _ _ _ _ ⋯,asD,e1,e2,e3];by_cases ej:j=i+k
   .have hw:=hW j;rw[if_pos ej,if_pos ej];rw[ej]at hw⊢;rw[<-Lj b (Pm.W (Pm.co p) (Pm.co r) i k (i+k)),<-hw];rfl
   .rw[if_neg ej,if_neg ej,gj];exact hW j
  .rintro σ' H2 ⟨o5,L,rfl,g,hL,zL,hW⟩;refine{_,_,L,rfl,g,hL,zL,λk=>?_};rw[hW k,d7,aAB λk hk=>cB hk]
 .rintro σ' H' ⟨o4,o5,L,rfl,g,hL,zL,hW⟩;refine{(),l,L,rfl,ak.of hL,λt H2 g2 ht=>q t H2 (g.trans g2) ?_};have e:Pm.trim L=Pm.mul b p r:=by
   refine GV λk=>?_;rw[hW k,d7,aiq λk hk=>cB hk,kW];split
   .rfl
   .rw[<-aae,Pm.mul,rD,kW,if_neg (by assumption)]
  rw[<-e];exact ht
theorem aLF(F:Fn K mg "divided" QV ["by","one","other"])(cH:jN M)(nq:G8 M):GY M:=by
 delta zc
 intros b a c P M u v rfl hb hb1 hA hC zA zC hM nP bA bC u22 huv q h;exists _,#[(),(aG 3 zc.nd ((bZ K B.bY #[2])-_:)),(aG 4 zc.nd ((fK #[_])*(fH (alI rfl) rfl B.amd boot_max #[_,((bZ K B.bY #[1])-3:)]):)),(aG 5 zc.nd (eV (xlist K) rfl B.Jb boot_list #[1])),(lU PassesOwn.never rfl (anq rfl B.eZ #[((bZ K B.bY #[4])-_:),(GF Hj aN),(GF Hj aN)]) (cu 6 zc.nd) #[(),(aG 7 zc.nd (aL K (5:) (6+3:))),(yO (7:) (HS (4:) (6:) set_list)),(lU PassesOwn.never rfl (gH rfl B.eZ #[(bZ K B.bY #[2])]) (cu 8 zc.nd) (aH (yO (aA cH hr #[0,((aL K (5:) (6+8:))-7*(aL K (2:) (8:)):)]) (HS (5:) (6+8:) set_list))))]),(aD (dF #[(aA nq hr #[4]),(aA nq hr #[5])]))];have lP:(P.map V.int).length=P.length:=aC _;have lM:(M.map V.int).length=M.length:=aC _;have Y0:=hM.pos;exists (),.ref c,M.length,rfl,.inr {_,ao.of hC,lM.symm},"";refine{(bN 1),λl0 h0=>?_};have g0:=Same.new h0 (.lst [.int 0]);exists (),.ref a,P.length,rfl,.inr {_,ao.of (g0 _ _ hA),lP.symm},(),"",_,();have en:(if(P.length:Int)-((M.length:Int)-1)>0 then(P.length:Int)-((M.length:Int)-1)else 0).toNat=P.length-(M.length-1):=(max_zero P.length M.length).resolve_right ⋯;refine{_,aq,?_,?_,?_,λlo hlo=>?_}
 .split<;>lia
 .split<;>lia
 .rw[en];show 1*(P.length-(M.length-1))<=sizeLine;rw[IG];exact gW (fZ ⋯)
 rw[en,Wg];have aLX:H lo=none:=g0.free hlo;have g1:=g0.trans (Same.new hlo (.lst ((aV (P.length-(M.length-1)) λ_=>0).map V.int)));have hO0:(upd (upd H l0 (.lst [.int 0])) lo (.lst ((aV (P.length-(M.length-1)) λ_=>0).map V.int))) lo=some (.lst ((aV (P.length-(M.length-1)) λ_=>0).map V.int)):=aq;generalize upd (upd H l0 (.lst [.int 0])) lo (.lst ((aV (P.length-(M.length-1)) λ_=>0).map V.int))=H1 at g1 hO0;refine{(),a,(),.inr (ao.of (g1 _ _ hA)),λll hll=>?_};have aAo:H ll=none:=g1.free hll;have hne:lo≠ll:=jx hO0 hll;have gll:=Same.new hll (.lst (P.map V.int));have g2:=g1.trans gll;have Mf:=gll _ _ hO0;have hL2:(upd H1 ll (.lst (P.map V.int))) ll=some (.lst (P.map V.int)):=aq;generalize upd H1 ll (.lst (P.map V.int))=H2 at gll g2 Mf hL2;generalize hn:P.length-(M.length-1)=n at Mf;have n40:n<=40:=hn▸cT (Nat.sub_le ..) zA;exists (),.ref lo,n,rfl,.inl {_,ak.of Mf,by rw[aC,eU]},"",(),(),(n:Int)-1,-1,rfl,{⋯,⋯,⋯,⋯};refine agu (lo:=(n:Int)-1) (n:=((n:Int)-1-(-1)).toNat) (λi σ' H'=>∃o6 o7 o8 O L,σ'=[some (.int b),some (.ref a),some (.ref c),some (.int ((M.length:Int)-1)),some (.ref lo),some (.ref ll),o6,o7,o8]/\Same H H'/\H' lo=some (.lst (uw V.int O))/\H' ll=some (.lst (uw V.int L))/\qN b P M (n-i) O L/\∀k,Bd (u+i*(v+1)) (Pm.co L k))
  {_,_,_,_,P,rfl,g2,Mf,hL2,(by rw[vD,<-hn];exact qN.start nP),λk=>(jo bA k).mono ⋯} ?_ ?_
 .rintro i σ' H' hi ⟨o6,o7,o8,O,L,rfl,g,hO,hL,I,bL⟩;have hi':i<n:=⋯;have hs:n-i=n-(i+1)+1:=⋯;rw[hs]at I;generalize es:n-(i+1)=s at I;have esI:(n:Int)-1-(i:Int)=(s:Int):=dq4 es hi';rw[esI];have hlL:=I.ll;have hlO:=I.ol;have lO:(O.map V.int).length=O.length:=aC _;have sL:s+M.length<=L.length:=dq0 hn es hi' hlL Y0;have sO:s<O.length:=dq3 hn es hi' hlO;obtain⟨e1,e1a,e1b⟩:=dq1 Y0 sL;exists (),(),(),_,_,.inl (ak.of hL),fR (ns:=L) e1a e1b;rw[e1];have hF:Bd (u+i*(v+1)) (L.getD (s+(M.length-1)) 0):=bL _;have eF:L.getD (s+(M.length-1)) 0=Pm.co L (s+(M.length-1)):=rfl;rw[eF]at hF⊢;generalize hf:Pm.co L (s+(M.length-1))=f at hF;refine{(),(),(),lo,_,_,s,rfl,rfl,hO,Qw rfl (by rw[lO];exact sO),?_};have hO3:(upd H' lo (.lst ((O.map V.int).set s (.int f)))) lo=some (.lst ((O.set s f).map V.int)):=by rw[aq,aaT]
  have sZ:(upd H' lo (.lst ((O.map V.int).set s (.int f)))) ll=some (.lst (L.map V.int)):=by rw[cI hne.symm];exact hL
  have g3:=g.upd aLX (.lst ((O.map V.int).set s (.int f)));generalize upd H' lo (.lst ((O.map V.int).set s (.int f)))=H3 at hO3 sZ g3;exists (),.ref c,M.length,rfl,.inr {_,ao.of (g3 _ _ hC),lM.symm};exists (M.length:Int),rfl,(⋯:-(2^62)<=(M.length:Int)),(⋯:(M.length:Int)<2^62);refine pX (lo:=0) (n:=(M.length:Int).toNat) (λt σ' H'=>∃o8 L',σ'=[some (.int b),some (.ref a),some (.ref c),some (.int ((M.length:Int)-1)),some (.ref lo),some (.ref ll),some (.int (s:Int)),some (.int f),o8]/\Same H H'/\H' lo=some (.lst ((O.set s f).map V.int))/\H' ll=some (.lst (uw V.int L'))/\L'.length=L.length/\∀k,Pm.co L' k=Pm.lf b f s t L M k)
   {_,L,rfl,g3,hO3,sZ,rfl,λk=>(aG3 ..).symm} ?_ ?_
  .rintro t σ' H4 ht ⟨o8,L',rfl,g4,V0,LQ,Pa,Cm⟩;have ht':t<M.length:=⋯;have lL':(L'.map V.int).length=L'.length:=aC _;obtain⟨e2,f1,f2,f3,f4,f5,e3,f6⟩:=dq2 (l:=L'.length) ht' (by rw[Pa];exact sL);exists (),(),(),(),_,_,.inl (ak.of LQ),fR (ns:=L') f1 f2;exists (),(),(),_,_,.inr (ao.of (g4 _ _ hC)),fR (ns:=M) f3 f4;exists pY hF (Bd.getD bC _) (by have:i*(v+1)<=40*(v+1):=qp _ (cT (gW hi') n40);clear en es esI hn I;generalize i*(v+1)=z at this ⊢;lia),_,_,rfl,rfl;exists b,(),hb;refine{(),(),(),ll,_,_,s+t,rfl,rfl,LQ,Qw f6 (by rw[lL'];exact f5),?_};refine{_,L'.set (s+t) _,rfl,g4.upd aAo _,(by rw[cI hne];exact V0),(by rw[aq,aaT]),(by rw[La];exact Pa),λk=>?_};rw[KQ _ _ _ _ f5,aBO,e2,e3,<-Cm k];by_cases ek:k=s+t
   .rw[if_pos ek,if_pos ek,ek];rfl
   .rw[if_neg ek,if_neg ek]
  .rintro σ' H4 ⟨o8,L',rfl,g4,V0,LQ,Pa,Cm⟩;rw[d7]at Cm;refine{_,_,_,O.set s f,L',rfl,g4,V0,LQ,?_,λk=>?_}
   .rw[<-hf];rw[<-hf]at Cm;exact I.step hM ⋯ Pa Cm
   .rw[Cm k,oW];exact(aAw hb hb1 ⋯ hF bL bC k).mono ⋯
 .rintro σ' H' ⟨o6,o7,o8,O,L,rfl,g,hO,hL,I,bL⟩;have e9:((n:Int)-1-(-1)).toNat=n:=⋯;rw[e9]at I bL;rw[CY]at I;refine{(),lo,O,rfl,ak.of hO,λt1 H3 g3 h3=>?_};refine{(),ll,L,rfl,ak.of (g3 _ _ hL),λt2 H4 g4 h4=>?_};refine{(bN 2),λt ht=>?_};have gt:=Same.new ht (.tup [.ref t1,.ref t2]);exact q t t1 t2 (Pm.trim O) (Pm.trim L) _ (g.trans (g3.trans (g4.trans gt))) aq (gt _ _ (g4 _ _ h3)) (gt _ _ h4) (I.stop hM) λz hz'=>(ayB bL z hz').mono (aja (qp _ n40) _)
theorem atX(F:Fn K mg "monic" Rn ["prime","poly"])(Bj:ab3 M):als M:=by
 delta ahT
 intros P' a p rfl hP hPb hA zA pP q h;refine{_,#[(),(bB ((bZ K B.bY #[1])==_:) (aH (aD (dF jL))) bH),(fQ (i:=2) ahT.nd rfl (eG rfl) (aL K (1:) ((bZ K B.bY #[1])-_:))),(aD (eV (jW K) rfl B.jl boot_tuple #[(fD (sc:=auU) (N:=["number","last","prime"]) (ix:=[none,some 2,some 0]) cY rfl (iD K (1:)) (λ_ _ _ _ _=>{(cu 0 cV),dI,(aA Bj hr #[2,0,1])}))]))],?_};have hr2:2<=P'/\P'<4194304:={hP.1,(hPb)};have lP:(p.map V.int).length=p.length:=aC _;exists (),.ref a,p.length,rfl,.inr {_,ao.of hA,lP.symm},();refine cC (λc=>?_) (λc=>?_)
 .have c':(p.length:Int)=0:=dec_true c;have e:p=[]:=rY ⋯;subst e;exact{dW _,λt ht=>q t [] _ (Same.new ht _) aq (vX.nil _)}
 .have c':¬(p.length:Int)=0:=dec_false c;have hn:p≠[]:=λe=>c' (by rw[e];rfl);have hpos:0<p.length:=⋯;have e1:((p.length:Int)-1).toNat=p.length-1:=⋯;exists (),(),.ref a,p.length,rfl,.inr {_,ao.of hA,lP.symm},"",_,_,.inr (ao.of hA),fR (ns:=p) (⋯:(0:Int)<=(p.length:Int)-1) ⋯;rw[e1];have l0:=Mj hn pP.tr;have l1:=pP.co (p.length-1);rw[oB ⋯]at l1;have r0:0<=Pm.co p (p.length-1):=by rw[<-l1];exact qF _ ⋯
  have r1:Pm.co p (p.length-1)<(P':Int):=by rw[<-l1];exact qI _ ⋯
  refine{(),a,rfl,.inr {{_,ao.of hA},JC hA ⋯ rfl (λx=>x*(Pm.co p (p.length-1))^(P'-2)%(P':Int)) ?_ ?_}}
  .intro H2 x g2 hx k hk;exact{(),(),(),P',x,(),hP,hPb,by show 0<Pm.co p (p.length-1);lia,r1,hk}
  .intro D hD;refine{D,(),.inl {ak.of aq,λt ht=>?_}};exact q t (vo P' p) _ ((Same.new hD _).trans (Same.new ht _)) aq (aI5 hP pP hn)
theorem aEf(F:Fn K mg "greatest" ZR ["by","one","other"])(Di:als M)(nH:GY M):YT M:=by
 delta Bk
 intros P' a c p r rfl hP hPb hA hC zA zC pP pR hne q h;exists _,#[(),(aG 3 Bk.nd (aA Di hr #[0,1])),(aG 4 Bk.nd (aA Di hr #[0,2])),(yI PassesOwn.never ((bZ K B.bY #[4])>_:) #[(),(aG 5 Bk.nd (aL K (aA nH hr #[0,3,4]) aN)),(aG 3 Bk.nd (4:)),(aG 4 Bk.nd (aA Di hr #[0,5]))]),(aD (3:))];have hr2:2<=P'/\P'<4194304:={hP.1,(hPb)};refine{(),(),P',a,p,rfl,hP,hPb,hA,⋯,pP,λtg g0 H1 g1 hG mG=>?_};refine{(),(),P',c,r,rfl,hP,hPb,g1 _ _ hC,⋯,pR,λts s0 H2 g2 hS' mS=>?_};have lg0:=mG.len;have ls0:=mS.len;refine{λm σ' H'=>∃(o5:Option V) (tg ts:Addr) (g s:List Int),m=s.length/\σ'=[some (.int P'),some (.ref a),some (.ref c),some (.ref tg),some (.ref ts),o5]/\Same H H'/\H' tg=some (.tup (g.map V.int))/\H' ts=some (.tup (s.map V.int))/\vf P' p r g s/\g.length<=max p.length r.length/\s.length<=max p.length r.length,
  {_,_,tg,ts,g0,s0,rfl,rfl,g1.trans g2,g2 _ _ hG,hS',vf.start mG mS hne,⋯,⋯},?_}
 rintro m σ' H' ⟨o5,tg,ts,gg,ss,rfl,rfl,g,hG,hS',I,zg,zs⟩;have lS:(ss.map V.int).length=ss.length:=aC _;exists (),.ref ts,ss.length,rfl,.inr {_,ao.of hS',lS.symm},"",();refine cC (λcc=>?_) (λcc=>?_)
 .have hs:ss≠[]:=λe=>by have:=dec_true cc;rw[e]at this;simp at this
  have hMs:=I.sm_ hs;refine{_,λ_ _ z=>z,?_};refine{(),(),(),P',tg,ts,gg,ss,22,22,rfl,⋯,⋯,hG,hS',⋯,⋯,hMs,I.gy.co,aiw hr2.1 hr2.2 I.gy,aiw hr2.1 hr2.2 I.sy,∅,∅,λt x y o l H3 g3 hT hX hY D _=>?_};exists _,_,.inr (ao.of hT),rfl;exists ();have hsh:=D.short;refine{(),(),P',y,l,rfl,hP,hPb,hY,⋯,D.ry,λtm m H4 g4 hM mM=>?_};have lm:=mM.len;exact{m.length,⋯,_,ts,tm,ss,m,rfl,rfl,g.trans (g3.trans g4),(g3.trans g4) _ _ hS',hM,I.step hs D mM,zs,⋯}
 .have hs:ss=[]:=rY (by have:=dec_false cc;lia);exists ();exact q tg gg H' g hG (I.stop hs) zg
theorem auq(F:Fn K mg "nearest" aa7 ["modulus","number"]):abZ M:=by
 delta ap5
 intros M x rfl hM q h;exists _,#[(),(aG 2 ap5.nd (1%0:)),(aD (JL (_*2>0:) (2-0:) (2:)))];exists (),(),"",hM;exists (),mulL ∅ ∅,(),"",();refine cC (λc=>?_) (λc=>?_)
 .have c':2*(x%M)>M:=dec_true c;exists (),(),"";have e:Pm.nr M x=x%M-M:=if_pos c';rw[e]at q;exact q
 .have c':¬2*(x%M)>M:=dec_false c;exists ();have e:Pm.nr M x=x%M:=if_neg c';rw[e]at q;exact q
theorem asJ(F:Fn K mg "joined" Zy ["modulus","number","prime","rest"])(Bj:ab3 M)(cH:jN M)(Bq:abZ M):agF M:=by
 delta ac8
 intros M t p s' rfl hp hpb hM xM q h;exists _,#[(),(aG 4 ac8.nd (aA Bj hr #[2,(aA cH hr #[2,(3-1:)]),(aA cH hr #[2,0])])),(aD (aA Bq hr #[(0*2:),(1+0*4:)]))];have h2:=hp.1;have hp0:(p:Int)≠0:=⋯;have r0:=qF M hp0;have r1:=qI M (⋯:(0:Int)<p);have rn:M%(p:Int)≠0:=λz=>xM (Mp z);have et:tk (p:Int) M=M%(p:Int):=oB hp0 M;exists (),(),(),(),"",p,(),⋯;exists (),(),p,M,rfl,⋯;refine{p,_,(),hp,hpb,by rw[et];lia,by rw[et];exact r1,?_};have hw:=aAD (M:=M) (t:=t) (s:=s') hp;exists (),(),mulR ⋯ ⋯;refine{(),(),(),mulR (by show -(2^64)<jw M t p s';lia) (by show jw M t p s'<2^64;lia),?_};exact{_,(),Int.mul_pos hM ⋯,q}
theorem aua(F:Fn K mg "taken_poly" Rg ["prime","poly"])(nq:G8 M)(cH:jN M):aeR M:=by
 delta awq
 intros p a P' rfl hp hA zA q h;refine{_,(aH (aD (aA nq hr #[(fD (sc:=aPr) (N:=["number","prime"]) (ix:=[none,some 0]) cY rfl (iD K (1:)) (λ_ _ _ _ _=>{(cu 0 cV),dI,(aA cH hr #[1,0])}))]))),?_};refine{(),a,rfl,.inr {{_,ao.of hA},JC hA ⋯ rfl (λx=>tk p x) ?_ ?_}}
 .intro H2 x g2 hx k hk;exact{(),(),p,x,rfl,⋯,hk}
 .intro D hD;refine{D,(),ak.of aq,λt1 H3 g3 h3=>?_};exact q t1 H3 ((Same.new hD _).trans g3) h3
theorem avc(F:Fn K mg "divides" aaX ["monic_one","poly"])(nH:GY M):aoN M:=by
 delta aJg
 intros m a M P' rfl hMm hA zM zP hM bM bP q h;exists _,(aH (aD (jM (lV K hr) (aL K (aA nH hr #[_,1,0]) aN) (dF jL) (kE _))));refine{(),(),0,a,m,P',M,2700000,2640000,rfl,∅,∅,hA,hMm,zP,zM,hM,λk=>eX _,bP,bM,∅,∅,λt x y o l H3 g3 hT hX hY D _=>?_};exists _,_,.inr (ao.of hT),rfl;refine{dW _,λt0 ht0=>?_};have g4:=Same.new ht0 (.tup []);refine acX (ns:=l) (ms:=[]) (ao.of (g4 _ _ hY)) (ao.of aq) ?_;exact q _ _ (g3.trans g4) (by show decide (l=[])=true↔_;rw[decide_eq_true_iff];exact D.dv hM)
theorem aBJ(F:Fn K mg "whole_greatest" Qx ["one","other"])(Li:aoN M)(UU:ajV M)(Br:YT M)(Ls:aeR M)(Bq:abZ M)(TQ:agF M):agJ M:=by
 delta mL
 intros a c P' t rfl hA hC hP zP zt bP bt q h;obtain⟨g,N,G,hV,hU⟩:=aJG hP zP zt (jo bP) (jo bt);have q:=q g G.gc;refine{_,#[(),(aG 2 mL.nd (0:)),(fQ (i:=3) mL.nd rfl (eG rfl) aN),(fQ (i:=4) mL.nd rfl (eG rfl) (rB rfl B.Y6)),(aG 5 mL.nd jy),(yI PassesOwn.never (PW.pt (jX (gU (gw (5:))) (jX (gU (gw (aA Li hr #[2,0]))) (oH (gU (gw (aA Li hr #[2,1]))))))) #[(),(fQ (i:=4) mL.nd rfl (eG rfl) (aA UU hr #[4])),(fQ (i:=6) mL.nd rfl (eG rfl) (aA Br hr #[4,(aA Ls hr #[4,0]),(aA Ls hr #[4,1])])),(bB ((bZ K B.bY #[6])<(bZ K B.bY #[2]):) #[(),(aG 2 mL.nd (eV (jW K) rfl B.jl boot_tuple #[(fD (sc:=aAQ) (N:=["rest","prime"]) (ix:=[none,some 4]) cY rfl (iD K (6:)) (λ_ _ _ _ _=>{(cu 0 cV),dI,(aA Bq hr #[1,0])}))])),(fQ (i:=3) mL.nd rfl (eG rfl) (4:)),(aG 5 mL.nd jy)] (aH (oM (bB ((bZ K B.bY #[6])==(bZ K B.bY #[2]):) #[(),(fQ (i:=7) mL.nd rfl (eG rfl) (2:)),(aG 2 mL.nd (eV (jW K) rfl B.jl boot_tuple #[(fD (sc:=aBX) (N:=["k","before","modulus","prime","seen"]) (ix:=[none,some 7,some 3,some 4,some 6]) cY rfl (gH rfl B.eZ #[(bZ K B.bY #[6])]) (λ_ _ _ _ _=>{(cu 0 cV),dI,(aA TQ hr #[2,(aL K (1:) (0:)),3,(aL K (4:) (0:))])}))])),(fQ (i:=3) mL.nd rfl (eG rfl) (3*4:)),(aG 5 mL.nd (jM (lV K hr) (2:) (7:) (kE _)))] bH))))]),(aD (2:))],?_};have hgP:g.length<=P'.length:=G.one.len rfl G.mon hP;exists ();exists afp H a c P' g N,{_,_,_,a,P',1,1000000,true,0,0,rfl,rfl,Same.refl _,hA,kZ.start hP hgP _,Om.many,⋯,⋯};rintro m σ' H' ⟨o6,o7,tt,told,M,prime,ripe,bad,good,rfl,rfl,gg,hT,I,apL,hbig,az6⟩;have bT:=aOq I (λx hx=>(bP x hx).mono ∅) az6;have zT:=I.le;exists (),ripe,rfl;refine cC (λcr=>?b1) (λcr=>?n1)
 case' b1=>
  have hne:¬(ripe=true/\told=g):=λz=>by rw[z.1]at cr;exact absurd cr ∅
  have gx:=gg;have zN:=hT;generalize H'=Hx at gx zN⊢
 case' n1=>
  refine{(),(),tt,a,told,P',rfl,hT,gg _ _ hA,⋯,⋯,I.mon,bT,(λx hx=>(bP x hx).mono ∅),λb1 H1 g1 e1=>?_};exists b1,rfl;refine cC (λc1=>?b2) (λc1=>?n2)
 case' b2=>
  have hne:¬(ripe=true/\told=g):=λz=>by
   have:b1=true:=e1.mpr (by rw[z.2];exact G.one);rw[this]at c1;exact absurd c1 ∅
  have gx:=gg.trans g1;have zN:=g1 _ _ hT;generalize H1=Hx at gx zN⊢
 case' n2=>
  refine{(),(),tt,c,told,t,rfl,g1 _ _ hT,(gg.trans g1) _ _ hC,⋯,⋯,I.mon,bT,(λx hx=>(bt x hx).mono ∅),λb2 H2 g2 e2=>?_};exists b2,rfl;refine cC (λc2=>?b3) (λc2=>?n3)
 case n3=>
  have hb1:b1=true:=by cases b1<;>first|rfl|exact absurd rfl c1
  have hb2:b2=true:=by cases b2<;>first|rfl|exact absurd rfl c2
  have e:=G.told I.mon (e1.mp hb1) (e2.mp hb2) I.ge;subst e;exists ();exact q tt H2 (gg.trans (g1.trans g2)) ((g1.trans g2) _ _ hT)
 case' b3=>
  have hne:¬(ripe=true/\told=g):=λz=>by
   have:b2=true:=e2.mpr (by rw[z.2];exact G.two);rw[this]at c2;exact absurd c2 ∅
  have gx:=gg.trans (g1.trans g2);have zN:=(g1.trans g2) _ _ hT;generalize H2=Hx at gx zN⊢
 all_goals
  have hfew:=I.few G.ne hV hU hne;obtain⟨k,hk'⟩:∃k,120000-(bad+good)=k+1:={120000-(bad+good)-1,⋯};rw[hk']at apL;intros q0 hq0 aAr aQm hnext apL.next;refine{_,λ_ _ z=>z,?_};refine{(),prime,q0,rfl,hq0,aAr,⋯,λp hp hlt hle=>?_};have hN:=hnext p hle;refine{(),(),(),p,a,P',rfl,⋯,gx _ _ hA,⋯,λt1 H3 g3 h3=>?_};refine{(),(),p,c,t,rfl,⋯,(gx.trans g3) _ _ hC,⋯,λt2 H4 g4 h4=>?_};have l1:=akc p P';have l2:=akc p t;refine{p,t1,t2,_,(),hp,⋯,g4 _ _ h3,h4,⋯,⋯,apt p P',apt p t,λ_=>azL hp hP,λts s' H5 g5 hS hG hsl=>?_};have sn:=G.seen hp (QF p P') (QF p t) hG;have lS:(s'.map V.int).length=s'.length:=aC _;have lT:(told.map V.int).length=told.length:=aC _;have gy:=gx.trans (g3.trans (g4.trans g5));have hTy:=(g3.trans (g4.trans g5)) _ _ zN;exists (),.ref ts,s'.length,rfl,.inr {_,ao.of hS,lS.symm},(),.ref tt,told.length,rfl,.inr {_,ao.of hTy,lT.symm},"",();refine cC (λd1=>?_) (λd1=>?_)
  .have d1':(s'.length:Int)<told.length:=dec_true d1;refine{(),ts,rfl,.inr {{_,ao.of hS},JC hS ⋯ rfl (λx=>Pm.nr p x) ?_ ?_}}
   .intro H6 x g6 hx kk hk;exact{(),(),p,x,rfl,⋯,hk}
   .intro D hD;refine{D,(),.inl {ak.of aq,λtn ht=>?_}};obtain⟨qH,qQ,hbg,I'⟩:=I.anew hp hlt ⋯ ⋯ sn ⋯;exists ();exact{120000-(qH+qQ),⋯,_,_,tn,s'.map (Pm.nr p),p,p,true,qH,qQ,rfl,rfl,gy.trans ((Same.new hD _).trans (Same.new ht _)),aq,I',(by rw[hbg,(⋯:120000-(bad+good+1)=k)];exact hN),⋯,⋯}
  .have d1':¬(s'.length:Int)<told.length:=dec_false d1;refine lW.by (λσ' H2=>∃m',m'<120000-(bad+good)/\afp H a c P' g N m' σ' H2) (λN0 Oe=>?_) (λσ' H2 z=>z);exists (),.ref ts,s'.length,rfl,.inr {_,ao.of hS,lS.symm},(),.ref tt,told.length,rfl,.inr {_,ao.of hTy,lT.symm},();refine cC (λd2=>?_) (λd2=>?_)
   .have d2':(s'.length:Int)=told.length:=dec_true d2;have hl:s'.length=told.length:=⋯;have xM:¬(p:Int)∣M:=λz=>by have:=I.div p hp z;lia
    exists ();exists (),.ref ts,s'.length,rfl,.inr {_,ao.of hS,lS.symm};exists (s'.length:Int),rfl,(⋯:-(2^62)<=(s'.length:Int)),(⋯:(s'.length:Int)<2^62);rw[d7];refine JR (n:=s'.length) ⋯ rfl (λk=>Pm.jn M (told.getD k 0) p (s'.getD k 0)) ?_ ?_
    .intro H6 k6 g6 hk6 kk hk;have e1:(0+(k6:Int)).toNat=k6:=⋯;exists (),(),(),_,_,.inr (ao.of (g6 _ _ hTy)),fR (ns:=told) (⋯:(0:Int)<=0+(k6:Int)) ⋯;exists (),(),(),_,_,.inr (ao.of (g6 _ _ hS)),fR (ns:=s') (⋯:(0:Int)<=0+(k6:Int)) ⋯;rw[e1];exact{M,_,p,(),hp,⋯,I.pos,xM,hk}
    .intro D hD;refine{D,(),.inl {ak.of aq,λtn ht=>?_}};have gn:=(Same.new hD (.lst ((aV s'.length λk=>Pm.jn M (told.getD k 0) p (s'.getD k 0)).map V.int))).trans (Same.new ht (.tup ((aV s'.length λk=>Pm.jn M (told.getD k 0) p (s'.getD k 0)).map V.int)));exists (),(),mulR ⋯ ⋯;exists (),();refine acX (ns:=aV s'.length λk=>Pm.jn M (told.getD k 0) p (s'.getD k 0)) (ms:=told) (ao.of aq) (ao.of (gn _ _ hTy)) ?_;obtain⟨qH,qQ,hbg,I'⟩:=I.join (jz:=aV s'.length λk=>Pm.jn M (told.getD k 0) p (s'.getD k 0)) (Xc:=decide ((aV s'.length λk=>Pm.jn M (told.getD k 0) p (s'.getD k 0))=told)) hp hlt ⋯ ⋯ sn hl (by rw[eU];exact hl) (λk6 hk6=>{jw M (told.getD k6 0) p (s'.getD k6 0),aDE hp xM,by rw[kW,if_pos ⋯];rfl}) (decide_eq_true_iff);exact Oe _ _ {120000-(qH+qQ),⋯,_,_,tn,_,M*p,p,_,qH,qQ,rfl,rfl,gy.trans gn,aq,I',(by rw[hbg,(⋯:120000-(bad+good+1)=k)];exact hN),⋯,⋯}
   .have d2':¬(s'.length:Int)=told.length:=dec_false d2;have I':=I.stay hp hlt ⋯ sn ⋯;exact Oe _ _ {120000-(bad+1+good),⋯,_,_,tt,told,M,p,ripe,bad+1,good,rfl,rfl,gy,hTy,I',(by rw[(⋯:120000-(bad+1+good)=k)];exact hN),⋯,⋯}
theorem aOx(F:Fn K mg "of_rule" abo ["by","rule"])(cH:jN M):GJ M:=by
 delta QS
 intros b a c rfl hb hA zA q h;refine{_,#[(),(fQ (i:=2) QS.nd rfl (eG rfl) (bZ K B.bY #[1])),(xR (i:=3) (hN:=QS.nd) (hi':=rfl) (hx:=(lE rfl)) (sc:=arH) (N:=["k","by","length","rule"]) (ix:=[none,some 0,some 2,some 1]) cY rfl (gH rfl B.eZ #[2]) (λ_ _ _ _ _=>{(cu 0 cV),dI,(aA cH hr #[1,(_-(aL K (3:) (2-_-0:)):)])})),(aD (eV (jW K) rfl B.jl boot_tuple #[(3+(fK #[_]):)]))],?_};have lC:(c.map V.int).length=c.length:=aC _;exists (),.ref a,c.length,rfl,.inr {_,ao.of hA,lC.symm};exists (),(c.length:Int),rfl,(⋯:-(2^62)<=(c.length:Int)),(⋯:(c.length:Int)<2^62);rw[d7];refine JR (n:=c.length) ⋯ rfl (λk=>tk b (0-Pm.co c (c.length-1-k))) ?_ ?_
 .intro H2 k g2 hk kk hkk;have e1:((c.length:Int)-1-(0+(k:Int))).toNat=c.length-1-k:=⋯;exists (),(),(),"",(),"",_,_,.inr (ao.of (g2 _ _ hA)),fR (ns:=c) (⋯:(0:Int)<=(c.length:Int)-1-(0+(k:Int))) ⋯,"";exists b,(),hb;rw[e1];exact hkk
 .intro D hD;have g1:=Same.new hD (.lst ((aV c.length λk=>tk b (0-Pm.co c (c.length-1-k))).map V.int));refine{(),(bN 1),λl2 hl2=>?_};have g2:=Same.new hl2 (.lst [.int 1]);refine .inl {_,_,g2 _ _ aq,aq,?_,λl3 hl3=>?_}
  .rw[aC,eU];exact gW (fZ (by show _+1<=1000;lia))
  refine{l3,(),.inl {ak.of aq,λt ht=>?_}};refine q t _ (g1.trans (g2.trans ((Same.new hl3 _).trans (Same.new ht _)))) ?_;rw[aq,cR,ah8]
theorem aMK(F:Fn K mg "rule_of" UC ["by","poly"])(cH:jN M):O9 M:=by
 delta alL
 intros b a p rfl hb hA z0 zA q h;refine{_,#[(),(fQ (i:=2) alL.nd rfl (eG rfl) ((bZ K B.bY #[1])-_:)),(aD (eV (jW K) rfl B.jl boot_tuple #[(fD (sc:=awa) (N:=["k","by","length","poly"]) (ix:=[none,some 0,some 2,some 1]) cY rfl (gH rfl B.eZ #[2]) (λ_ _ _ _ _=>{(cu 0 cV),dI,(aA cH hr #[1,(_-(aL K (3:) (2-_-0:)):)])}))]))],?_};have lC:(p.map V.int).length=p.length:=aC _;exists (),.ref a,p.length,rfl,.inr {_,ao.of hA,lC.symm},"";exists (),(p.length:Int)-1,rfl,(⋯:-(2^62)<=(p.length:Int)-1),(⋯:(p.length:Int)-1<2^62);rw[(⋯:((p.length:Int)-1).toNat=p.length-1)];refine JR (n:=p.length-1) ⋯ rfl (λk=>tk b (0-Pm.co p (p.length-1-1-k))) ?_ ?_
 .intro H2 k g2 hk kk hkk;have e1:((p.length:Int)-1-1-(0+(k:Int))).toNat=p.length-1-1-k:=⋯;exists (),(),(),"",(),"",_,_,.inr (ao.of (g2 _ _ hA)),fR (ns:=p) (⋯:(0:Int)<=(p.length:Int)-1-1-(0+(k:Int))) ⋯,"";exists b,(),hb;rw[e1];exact hkk
 .intro D hD;refine{D,(),.inl {ak.of aq,λt ht=>?_}};exact q t _ ((Same.new hD _).trans (Same.new ht _)) aq
theorem aJV(F:Fn K mg "top_of" abt ["row","poly"])(cH:jN M)(nq:G8 M):ajz M:=by
 delta Aq
 obtain⟨v,r,a,rfl,⟨a0,p,p2,rfl,hA,hR,hS⟩,ok,hP,q⟩:=h;refine{_,#[(),(aG 2 Aq.nd (-0:)),(fQ (i:=3) Aq.nd rfl (eG rfl) (-0:)),(aG 4 Aq.nd (fK jL)),(lU PassesOwn.never rfl (gH rfl B.eZ #[(bZ K B.bY #[3])]) (TJ (i:=5) Aq.nd rfl (eG rfl)) #[(),(xR (i:=6) (hN:=Aq.nd) (hi':=rfl) (hx:=(lE rfl)) (sc:=auX) (N:=["j","k","poly","starts"]) (ix:=[none,some 5,some 1,some 3]) cY rfl (Jv rfl B.eZ #[(5+_:),(bZ K B.bY #[1])]) (λ_ _ _ _ _=>{(cu 0 cV),dI,((aL K (2:) (0:))*(aL K (3:) (0-_-1:)):)})),(iK (sH K (4:) (aA cH hr #[2,(fH (J7 K rfl) rfl B.Fy boot_sum #[6])])))]),(aD (aA nq hr #[4]))],?_};have hl:=ok.len;have hs:=ok.short;have lS:(r.starts.map V.int).length=r.starts.length:=aC _;have lP:((cR r.b r.rule).map V.int).length=r.rule.length+1:=by rw[aC,o9]
 exists (),_,_,.inr (ao.of hA),rfl;exists (),_,_,.inr (ao.of hA),rfl;refine{dW _,λl0 h0=>?_};have g0:=Same.new h0 (.lst []);exists (),.ref p2,r.starts.length,rfl,.inr {_,ao.of (g0 _ _ hS),lS.symm};exists (r.starts.length:Int),rfl,(⋯:-(2^62)<=(r.starts.length:Int)),(⋯:(r.starts.length:Int)<2^62);refine pX (lo:=0) (n:=(r.starts.length:Int).toNat) (λi σ' H'=>∃o5 o6,σ'=[some (.ref a0),some (.ref a),some (.int r.b),some (.ref p2),some (.ref l0),o5,o6]/\Same H H'/\H' l0=some (.lst ((aV i λk=>tk r.b (Pm.tp (cR r.b r.rule) r.at k)).map V.int)))
  {_,(),g0,aq} ?_ ?_
 .rintro i σ' H' hi ⟨o5,o6,rfl,g,hL⟩;have hi':i<r.starts.length:=⋯;exists (),(),.ref a,r.rule.length+1,rfl,.inr {_,ao.of (g _ _ hP),lP.symm};exists _,(),{⋯,⋯,⋯,⋯};rw[(⋯:(((r.rule.length+1:Nat):Int)-(0+(i:Int)+1)).toNat=r.rule.length-i)];refine ajT (lo:=0+(i:Int)+1) (n:=r.rule.length-i) ⋯ rfl (λk=>Pm.co (cR r.b r.rule) (i+1+k)*r.at k) ?_ ?_
  .intro H2 k g2 hk kk hkk;have e1:(0+(i:Int)+1+(k:Int)).toNat=i+1+k:=⋯;have e2:(0+(i:Int)+1+(k:Int)-1-(0+(i:Int))).toNat=k:=⋯;have lq:(cR r.b r.rule).length=r.rule.length+1:=o9 ..;exists (),(),_,_,.inr (ao.of (g2 _ _ (g _ _ hP))),fR (ns:=cR r.b r.rule) (⋯:(0:Int)<=0+(i:Int)+1+(k:Int)) ⋯;exists (),(),"",(),"",_,_,.inr (ao.of (g2 _ _ (g _ _ hS))),fR (ns:=r.starts) (⋯:(0:Int)<=0+(i:Int)+1+(k:Int)-1-(0+(i:Int))) ⋯;exists pY (Bd.getD ok.Rk _) (Bd.getD ok.lu _) ∅;rw[e1,e2];have e3:r.at k=r.starts.getD k 0:=Mz ⋯;rw[e3]at hkk;exact hkk
  .intro D hD;have g3:=Same.new hD (.lst ((aV (r.rule.length-i) λk=>Pm.co (cR r.b r.rule) (i+1+k)*r.at k).map V.int));have sZ:=g3 _ _ hL;have lL:((aV i λk=>tk r.b (Pm.tp (cR r.b r.rule) r.at k)).map V.int).length=i:=by rw[aC,eU]
   exists (),.inl {rfl,_,ak.of sZ},(),(),D,(),ak.of aq,r.b,(),ok.jP;refine{l0,"",sZ,?_,?_}
   .rw[lL];exact fZ ⋯
   .exists _,(),(g.trans g3).upd h0 _;rw[aq,acP,ah8];have e4:Pm.tp (cR r.b r.rule) r.at i=(aV (r.rule.length-i) λk=>Pm.co (cR r.b r.rule) (i+1+k)*r.at k).sum:=by
     unfold Pm.tp;rw[aV,Kh,o9,ji]
    rw[e4]
 .rintro σ' H' ⟨o5,o6,rfl,g,hL⟩;refine{(),l0,(),ak.of hL,λt1 H3 g3 h3=>?_};refine q t1 H3 (g.trans g3) ?_;rw[h3,Ai,hl,d7]
theorem aEz(F:Fn K mg "shared_divisor" Wo ["by","one","other"])(VH:agJ M)(Br:YT M):aqJ M:=by
 delta aIg
 intros b a c P' t rfl hA hC hB hP zP zt bP bt yP yt q h;exists _,(aH (aD (JL (0==_:) (aA VH hr #[1,2]) (aA Br hr #[0,1,2]))));exists (),();refine cC (λc0=>?_) (λc0=>?_)
 .have c0':b=0:=dec_true c0;subst c0';exact{(),(),a,c,P',t,rfl,hA,hC,hP,zP,zt,bP,bt,q}
 .obtain⟨p,hp,rfl⟩:=hB.resolve_left (dec_false c0);have hr:=afX p hp;exact{(),(),(),p,a,c,P',t,rfl,apc hp,⋯,hA,hC,⋯,⋯,yP,yt,λ_ z=>by have:=hP.pos;rw[z]at this;exact absurd this ∅,λt g H' g1 h1 hG _=>q g hG.gc t H' g1 h1}
theorem aAO(F:Fn K mg "least_of" U7 ["row"])(nC:GJ M)(Rr:ajz M)(nH:GY M)(Xh:aqJ M):ajE M:=by
 delta Kw
 obtain⟨v,r,rfl,⟨a0,p,p2,rfl,hA,hR,hS⟩,⟨ok,hB,cL⟩,q⟩:=h;exists _,#[(),(aG 1 Kw.nd (-0:)),(aG 2 Kw.nd (aA nC hr #[1,-0])),(aG 3 Kw.nd (aA Rr hr #[0,2])),(aD (aL K (aA nH hr #[1,2,(aA Xh hr #[1,2,3])]) aN))];have hb1:=ok.tu;have hm:=Ci r.b r.rule;have lq:(cR r.b r.rule).length=r.rule.length+1:=o9 ..;exists (),_,_,.inr (ao.of hA),rfl;refine{(),(),_,_,.inr (ao.of hA),rfl,r.b,p,r.rule,rfl,ok.jP,hR,⋯,λtP H1 g1 hP=>?_};refine{(),(),.ref a0,r,tP,rfl,{a0,p,p2,rfl,g1 _ _ hA,g1 _ _ hR,g1 _ _ hS},ok,hP,λtT H2 g2 hTp=>?_};have hP2:=g2 _ _ hP;have lt:=aKP r;have nP:=aHr r.b r.rule hB.one;have bP:∀x∈cR r.b r.rule,Bd 81400 x:=λx hx=>(ok.Rk x hx).mono ∅;refine{(),(),(),(),(),r.b,tP,tT,cR r.b r.rule,Ai r,rfl,hP2,hTp,hB.p,hm,⋯,⋯,bP,aEI ok,an3 hm nP,Py.aV ..,λg G tg H3 g3 hg=>?_};obtain⟨L,hL,nL,lL,eL,D'⟩:=akT hB hm G;have lp:=hL.pos;refine{r.b,tP,tg,cR r.b r.rule,g,81400,81569,rfl,ok.jP,⋯,g3 _ _ hP2,hg,⋯,⋯,G.mon,nP,bP,λx hx=>?_,∅,∅,λt x y o l H4 g4 ht hx hy D _=>?_}
 .obtain⟨k,hk,e⟩:=wk.mp hx;have:=ant hB ⋯ hL G.nu eL lL ∅ (jo bP) k
  rwa [uR hk,e]at this
 .obtain⟨rfl,_⟩:=D.uniq G.mon D';exact{_,_,.inr (ao.of ht),rfl,q o {g,G,(D')} x H4 (g1.trans (g2.trans (g3.trans g4))) hx}
theorem aH0(F:Fn K mg "shortest" TX ["row"])(Zm:ajE M)(vC:O9 M):uG M:=by
 delta V1
 obtain⟨v,r,rfl,⟨a0,p,p2,rfl,hA,hR,hS⟩,o,q⟩:=h;exists _,#[(),(aG 1 V1.nd (aA Zm hr #[0])),(aG 2 V1.nd (aA vC hr #[-0,1])),(aD (dF #[-0,2,(eV (jW K) rfl B.jl boot_tuple #[(jD (m6 K) (-0:) jH (jQ (bZ K B.bY #[2])))])]))];have hs:=o.cL;have lS:(r.starts.map V.int).length=r.starts.length:=aC _;refine{(),.ref a0,r,rfl,{a0,p,p2,rfl,hA,hR,(hS)},o,λL hSh tL H1 g1 hL=>?_};obtain⟨e,hLp,ll,RM⟩:=hSh.ok o;have q:∀v' H',Same H H'->bQ H' v' (Lz r L)->Q v' H':=λv' H' g h=>q v' H' g (e▸h) RM;refine{(),_,_,.inr (ao.of (g1 _ _ hA)),rfl,(),r.b,tL,L,rfl,o.ok.jP,hL,hLp,⋯,λtR H2 g2 fJ=>?_};have lR:((nM r.b L).map V.int).length=L.length-1:=by rw[aC,ZF]
 have qK:=(g1.trans g2) _ _ hA;have hS2:=(g1.trans g2) _ _ hS;exists (),_,_,.inr (ao.of qK),rfl,(),(),_,_,.inr (ao.of qK),rfl;exists (),.ref tR,L.length-1,rfl,.inr {_,ao.of fJ,lR.symm};exists ();by_cases hw:r.starts.length<=L.length-1
 .refine .inr (.inr {_,ao.of hS2,?_,?_})
  .rw[HT.xP,HT.zH,lS];lia
  .refine{p2,(),.inr {ao.of hS2,?_}};refine{(bN 3),λt ht=>?_};have g3:=Same.new ht (.tup [.int r.b,.ref tR,.ref p2]);refine q (.ref t) _ (g1.trans (g2.trans g3)) {t,tR,p2,rfl,aq,g3 _ _ fJ,?_};show _=some (HO.tup ((r.starts.take (L.length-1)).map V.int));rw[tM hw];exact g3 _ _ hS2
 .refine .inr (.inl {_,ao.of hS2,?_,λp3 hp3=>?_})
  .rw[HT.xP,HT.zH,lS];lia
  .refine{p3,(),.inr {ao.of aq,?_}};have g3:=Same.new hp3 (.tup (fY (r.starts.map V.int) none (some ((L.length-1:Nat):Int))));refine{(bN 3),λt ht=>?_};have g4:=Same.new ht (.tup [.int r.b,.ref tR,.ref p3]);refine q (.ref t) _ (g1.trans (g2.trans (g3.trans g4))) {t,tR,p3,rfl,aq,(g3.trans g4) _ _ fJ,?_};show _=some (HO.tup ((r.starts.take (L.length-1)).map V.int));rw[vH,<-vU];exact g4 _ _ aq
theorem ayH(F:Fn K mg "shared_by" ab0 ["one","other"]):Y9 M:=by
 delta aBA aBA
 obtain⟨v1,v2,r1,r2,rfl,⟨a1,p1,q1,rfl,xT,_,_⟩,⟨a2,p2,q2,rfl,qK,_,_⟩,q,qE⟩:=h;exists _,#[(),(bB (-0!=(-1):) (aH (qe M.amY rfl #[""])) bH),(aD (-0:))];exists (),_,_,.inr (ao.of xT),rfl,(),_,_,.inr (ao.of qK),rfl,();by_cases e:r1.b=r2.b
 .rw[decide_eq_true e];exact bK {(),_,_,.inr (ao.of xT),rfl,q e}
 .rw[decide_eq_false e];exact d9 {(bN 1),qE e}
theorem aO0(F:Fn K mg "refuse_long" Ye ["length"]):Gk M:=by
 delta aHj aHj
 intros n rfl q1 q2 h;exists _,(aH (bB (0>(rB rfl B.Np):) (aH (qe M.aGb rfl #[""])) bH));exists (),"",();exact cC (λc=>{(bN 1),q2 (dec_true c)}) (λc=>q1 (by have:=dec_false c;lia))
theorem aLe(F:Fn K mg "told_row" UG ["by","rule","starts"])(cH:jN M)(gb:uG M):Cv M:=by
 delta RX
 intros b a e ns ms rfl hA hC hB n12 lm bn bm q h;have hb0:=hB.lo;refine{_,#[(),(aG 3 RX.nd (eV (jW K) rfl B.jl boot_tuple #[(fD (sc:=atb) (N:=["number","by"]) (ix:=[none,some 0]) cY rfl (iD K (1:)) (λ_ _ _ _ _=>{(cu 0 cV),dI,(aA cH hr #[1,0])}))])),(aG 4 RX.nd (eV (jW K) rfl B.jl boot_tuple #[(fD (sc:=az7) (N:=["number","by"]) (ix:=[none,some 0]) cY rfl (iD K (2:)) (λ_ _ _ _ _=>{(cu 0 cV),dI,(aA cH hr #[1,0])}))])),(aD (aA gb hr #[(dF #[0,3,4])]))],?_};refine{(),amo hA ⋯ rfl (tk b) ?_ ?_}
 .intro H2 x g2 hx kk hkk;exact{(),(),b,x,rfl,hb0,hkk}
 intro D hD;have gD:=Same.new hD (.lst ((ns.map (tk b)).map V.int));refine{D,(),.inl {ak.of aq,λt1 ht1=>?_}};have g1:=Same.new ht1 (.tup ((ns.map (tk b)).map V.int));have h1:(upd (upd H D (.lst ((ns.map (tk b)).map V.int))) t1 (.tup ((ns.map (tk b)).map V.int))) t1=some (.tup ((ns.map (tk b)).map V.int)):=aq;have Ws:=gD.trans g1;generalize upd (upd H D (.lst ((ns.map (tk b)).map V.int))) t1 (.tup ((ns.map (tk b)).map V.int))=H1 at Ws h1;refine{(),amo (hC.same Ws) ⋯ rfl (tk b) ?_ ?_}
 .intro H2 x g2 hx kk hkk;exact{(),(),b,x,rfl,hb0,hkk}
 intro D2 hD2;have gD2:=Same.new hD2 (.lst ((ms.map (tk b)).map V.int));refine{D2,(),.inl {ak.of aq,λt2 jF=>?_}};have g2:=Same.new jF (.tup ((ms.map (tk b)).map V.int));have h2:(upd (upd H1 D2 (.lst ((ms.map (tk b)).map V.int))) t2 (.tup ((ms.map (tk b)).map V.int))) t2=some (.tup ((ms.map (tk b)).map V.int)):=aq;have Zo:=gD2.trans g2;have h12:=Zo _ _ h1;generalize upd (upd H1 D2 (.lst ((ms.map (tk b)).map V.int))) t2 (.tup ((ms.map (tk b)).map V.int))=H2 at Zo h2 h12;refine{(),(),(),(bN 3),λt3 zm=>?_};have g3:=Same.new zm (.tup [.int b,.ref t1,.ref t2]);have k1:=abU hB ∅ bn;have k2:=abU hB ∅ bm;have o:Bc {b,ns.map (tk b),ms.map (tk b)}:={{by simp[lm],by simpa using(⋯:ns.length<=24),hb0,hB.hi,k1.2,k2.2,k1.1,k2.1},hB,by simpa using n12};exact{.ref t3,{b,ns.map (tk b),ms.map (tk b)},rfl,{t3,t1,t2,rfl,aq,g3 _ _ h12,g3 _ _ h2},o,λv' H4 g4 hR k=>q v' H4 (Ws.trans (Zo.trans (g3.trans g4))) hR (k.wf o)}
theorem ayN(F:Fn K mg "sum_place" Qq ["ours","theirs","n"]):abI M:=by
 delta asM
 intros l1 l2 m a c n rfl h1 h2 hn hm b1 b2 q h;exists _,(aH (aD ((aL K (0:) (2:))+(aL K (1:) (2:)):)));exact{(),(),_,_,.inl (ak.of h1),Cr hn,(),(),_,_,.inl (ak.of h2),Cr hn,q _ (Same.refl _)}
theorem arA(F:Fn K mg "product_place" Q6 ["ours","theirs","n"]):W7 M:=by
 delta aI6
 intros l1 l2 m a c n rfl h1 h2 hn hm b1 b2 q h;exists _,(aH (aD ((aL K (0:) (2:))*(aL K (1:) (2:)):)));exact{(),(),_,V.int (a n),.inl (ak.of h1),Cr hn,(),(),_,V.int (c n),.inl (ak.of h2),Cr hn,pY (b1 n ⋯) (b2 n ⋯) ∅,q _ (Same.refl _)}
theorem axm(F:Fn K mg "rolled_place" Yp ["ours","theirs","n"]):aaH M:=by
 delta aPl
 intros l1 l2 m a c n rfl h1 h2 hn hm b1 b2 q h;refine{_,(aH (aD (fH (J7 K rfl) rfl B.Fy boot_sum #[(fD (sc:=avr) (N:=["i","n","ours","theirs"]) (ix:=[none,some 2,some 0,some 1]) cY rfl (gH rfl B.eZ #[(2+_:)]) (λ_ _ _ _ _=>{(cu 0 cV),dI,((aL K (2:) (0:))*(aL K (3:) (1-0:)):)}))]))),?_};exists (),(n:Int)+1,rfl,(⋯:-(2^62)<=(n:Int)+1),(⋯:(n:Int)+1<2^62);rw[(⋯:((n:Int)+1).toNat=n+1)];refine xH (n:=n+1) ⋯ rfl (λi=>a i*c (n-i)) ?_ ?_
 .intro H8 k g8 hk kk hkk;refine{(),(),_,V.int (a k),.inl (ak.of (g8 _ _ h1)),(by rw[ig];exact Cr ⋯),(),(),(),"",_,V.int (c (n-k)),.inl (ak.of (g8 _ _ h2)),(by rw[ig,(⋯:(n:Int)-(k:Int)=((n-k:Nat):Int))];exact Cr ⋯),pY (b1 k ⋯) (b2 (n-k) ⋯) ∅,hkk _ (Same.refl _)}
 .intro D H8 hD g8 h8;exists D,aV (n+1) λi=>a i*c (n-i),rfl,ak.of h8;rw[ahq];exact q _ g8
theorem aPw(F:Fn K mg "pair_row" Wv ["one","other","rule","pair_place"])(nA:Gp M)(mq:Cv M)(AF:abI M)(Bf:aaH M)(Ag:W7 M):abS M:=by
 delta Mw
 intros f0 v1 v2 t g r1 r2 ns rfl hg pA fJ k1 k2 hT n12 bn q h;have YF:∀i,i<=12->Bd 20000 (r1.at i):=λi hi=>(k1.few i hi).mono ∅;have WV:∀i,i<=12->Bd 20000 (r2.at i):=λi hi=>(k2.few i hi).mono ∅;refine{_,#[(),(aG 4 Mw.nd (bZ K B.bY #[2])),(fQ (i:=5) Mw.nd rfl (eG rfl) (aA nA hr #[0,4])),(fQ (i:=6) Mw.nd rfl (eG rfl) (aA nA hr #[1,4])),(aD (aA mq hr #[-0,2,(fD (sc:=aGn) (N:=["n","ours","pair_place","theirs"]) (ix:=[none,some 5,some 3,some 6]) cY rfl (gH rfl B.eZ #[4]) (λ_ _ _ _ _=>{(cu 0 cV),dI,(aDb AF Bf Ag hr (2:) #[1,3,0])}))]))],?_};have lT:(ns.map V.int).length=ns.length:=aC _;refine{(),.ref t,ns.length,rfl,hT.elim (λh=> .inl {_,ak.of h,lT.symm}) (λh=> .inr {_,ao.of h,lT.symm}),?_};refine{(),(),v1,r1,(ns.length:Int),rfl,pA,k1.ok,⋯,⋯,λl1 H1 g1 f1 h1=>?_};rw[d7,Mv]at h1;refine{(),(),v2,r2,(ns.length:Int),rfl,fJ.same g1,k2.ok,⋯,⋯,λl2 H2 g2 f2 h2=>?_};rw[d7,Mv]at h2;have eO:=g1.trans g2;obtain⟨a1,p1,q1,rfl,xT,uO,hS1⟩:=id (pA.same eO);have h12:=g2 _ _ h1;exists (),_,_,.inr (ao.of xT),rfl,(),(),(ns.length:Int),rfl,(⋯:-(2^62)<=(ns.length:Int)),(⋯:(ns.length:Int)<2^62);rw[d7];refine xH (n:=ns.length) ⋯ rfl (f0 r1.at r2.at) ?_ ?_
 .intro H8 k g8 hk kk hkk;rcases id hg with⟨hm,ef⟩|⟨hm,ef⟩|⟨hm,ef⟩
  .subst ef;exact{(),.inl {{g,hm,(rfl)},(),(),(),l1,l2,ns.length,r1.at,r2.at,k,by rw[ig],g8 _ _ h12,g8 _ _ h2,hk,n12,YF,WV,hkk}}
  .subst ef;exact{(),.inr (.inl {{g,hm,(rfl)},(),(),(),l1,l2,ns.length,r1.at,r2.at,k,by rw[ig],g8 _ _ h12,g8 _ _ h2,hk,n12,YF,WV,hkk})}
  .subst ef;exact{(),.inr (.inr {{g,hm,(rfl)},(),(),(),l1,l2,ns.length,r1.at,r2.at,k,by rw[ig],g8 _ _ h12,g8 _ _ h2,hk,n12,YF,WV,hkk})}
 .intro D H8 hD g8 h8;refine{r1.b,t,D,ns,aV ns.length (f0 r1.at r2.at),rfl,(hT.same eO).same g8,.inl h8,k1.hB,n12,eU ..,bn,λx hx=>?_,λv' H' g'=>q v' H' (eO.trans (g8.trans g'))};obtain⟨k,hk,rfl⟩:=mU hx;exact(hg.bd k1.few k2.few ⋯).mono ∅
theorem aBQ(F:Fn K mg "joint_row" Vq ["one","other","pair_place"])(AW:Y9 M)(gb:uG M)(pC:Gk M)(rO:Nj M)(nC:GJ M)(Bx:abS M)(vC:O9 M):Xf M:=by
 delta Dg Dg
 intros f0 v1 v2 g r s' rfl hg pA fJ h1 h2 q h;exists _,#[(),(aG 3 Dg.nd (dR AW hr rfl #[0,1])),(aG 4 Dg.nd (aA gb hr #[0])),(aG 5 Dg.nd (aA gb hr #[1])),(iK (dR pC hr rfl #[((bZ K B.bY #[-4])+(bZ K B.bY #[-5]):)])),(aG 6 Dg.nd (aA rO hr #[3,(aA nC hr #[3,-4]),(aA nC hr #[3,-5])])),(aD (aA Bx hr #[4,5,(aA vC hr #[3,6]),2]))];unfold wD at q;refine{(),(),v1,v2,r,s',rfl,pA,fJ,λe=>?_,λe=>by rw[if_neg e]at q;exact q H (Same.refl _)};rw[if_pos e]at q;refine{(),v1,r,rfl,pA,h1.jT,λx1 H1 g1 hS1 k1=>?_};refine{(),v2,s',rfl,fJ.same g1,h2.jT,λx2 H2 g2 hS2 k2=>?_};have n1:=h1.kn k1;have n2:=h2.kn k2;have e1:=k1.by_;have e2:(sh s').b=r.b:=k2.by_.trans e.symm;have hb0:=h1.wf.hB.lo;have Dm:=hS1.same g2;obtain⟨a1,p1,t1,rfl,oN,uO,hT1⟩:=id Dm;obtain⟨a2,p2,t2,rfl,Ju,hP2,hT2⟩:=id hS2;exists (),_,_,.inr (ao.of oN),rfl,.ref p1,(sh r).rule.length,rfl,.inr {_,ao.of uO,(aC _).symm},(),_,_,.inr (ao.of Ju),rfl,.ref p2,(sh s').rule.length,rfl,.inr {_,ao.of hP2,(aC _).symm};refine{((sh r).rule.length:Int)+((sh s').rule.length:Int),rfl,λhle=>?_,λhlt=>by rw[if_neg ⋯]at q;exact q _ (g1.trans g2)};rw[if_pos ⋯]at q;have b1:=n1.poly;have b2:=n2.poly;rw[e1]at b1;rw[e2]at b2;have l1:(cR r.b (sh r).rule).length=(sh r).rule.length+1:=o9 ..;have l2:(cR r.b (sh s').rule).length=(sh s').rule.length+1:=o9 ..;refine{(),(),(),_,_,.inr (ao.of oN),rfl,r.b,p1,(sh r).rule,rfl,hb0,uO,⋯,λt3 H3 g3 h3=>?_};refine{(),(),_,_,.inr (ao.of (g3 _ _ Ju)),rfl,r.b,p2,(sh s').rule,rfl,hb0,g3 _ _ hP2,⋯,λt4 H4 g4 h4=>?_};refine{r.b,t3,t4,_,(),hb0,g4 _ _ h3,h4,⋯,⋯,λx hx=>(b1 x hx).mono ∅,λx hx=>(b2 x hx).mono ∅,λt5 H5 g5 h5=>?_};obtain⟨lm,lr,br⟩:=aen h1.wf.hB (Ci ..) (Ci ..) b1 b2 ⋯;refine{(),(),(),(),r.b,t5,(),hb0,h5,⋯,⋯,λt6 H6 g6 h6=>?_};have rC:=g3.trans (g4.trans (g5.trans g6));exact{(),f0,.ref a1,.ref a2,t6,g,sh r,sh s',(),hg,Dm.same rC,hS2.same rC,n1,n2,.inr h6,⋯,br,λv' H' g'=>q v' H' (g1.trans (g2.trans (rC.trans g')))}
theorem aJy(F:Fn K mg "added" Za ["one","other"])(zX:Xf M)(AF:abI M):R8 M:=by
 delta as5 as5
 intros v1 v2 r s' rfl q1 q2 q3 q4 q h;exists _,(aH (aD (dR zX hr rfl #[0,1,(XY AF rfl)])));exact{(),(),λg hg=>{AH,v1,v2,g,r,s',rfl,.inl {hg,(rfl)},q1,q2,q3,q4,q}}
theorem aOe(F:Fn K mg "rolled" Ve ["one","other"])(zX:Xf M)(Bf:aaH M):abk M:=by
 delta avs avs
 intros v1 v2 r s' rfl q1 q2 q3 q4 q h;exists _,(aH (aD (dR zX hr rfl #[0,1,(XY Bf rfl)])));exact{(),(),λg hg=>{Cp,v1,v2,g,r,s',rfl,.inr (.inl {hg,(rfl)}),q1,q2,q3,q4,q}}
theorem aFD(F:Fn K mg "behind_first" abh ["rule","sums","k"]):Rv M:=by
 delta amK
 intros a c rule sums k rfl hA hC k1 k24 hl b1 b2 q h;refine{_,#[(),(aG 3 amK.nd (fH (awy rfl) rfl B.aCU boot_min #[(2-_:),(bZ K B.bY #[0])])),(aD (fH (J7 K rfl) rfl B.Fy boot_sum #[(fD (sc:=aHS) (N:=["i","k","rule","sums"]) (ix:=[none,some 2,some 0,some 1]) cY rfl (gH rfl B.eZ #[3]) (λ_ _ _ _ _=>{(cu 0 cV),dI,((aL K (2:) (0:))*(aL K (3:) (1-_-0:)):)}))]))],?_};have lR:(rule.map V.int).length=rule.length:=aC _;exists (),"",(),.ref a,rule.length,rfl,hA.elim (λh=> .inl {_,ak.of h,lR.symm}) (λh=> .inr {_,ao.of h,lR.symm}),(k:Int)-1,(rule.length:Int),rfl;have em:(if(rule.length:Int)<(k:Int)-1 then(rule.length:Int)else(k:Int)-1)=((min (k-1) rule.length:Nat):Int):=by split<;>lia
 rw[em];exists (),((min (k-1) rule.length:Nat):Int),rfl,(⋯:-(2^62)<=((min (k-1) rule.length:Nat):Int)),(⋯:((min (k-1) rule.length:Nat):Int)<2^62);rw[d7];refine xH (n:=min (k-1) rule.length) ⋯ rfl (λi=>Pm.co rule i*Pm.co sums (k-2-i)) ?_ ?_
 .intro H2 i g2 hi kk hkk;exact{(),(),_,V.int (Pm.co rule i),(hA.same g2).imp ak.of ao.of,(by rw[ig];exact vL ⋯),(),(),"",(),"",_,V.int (Pm.co sums (k-2-i)),(hC.same g2).imp ak.of ao.of,(by rw[ig,(⋯:(k:Int)-2-(i:Int)=((k-2-i:Nat):Int))];exact vL ⋯),pY (jo b1 i) (jo b2 (k-2-i)) ∅,hkk _ (Same.refl _)}
 .intro D H8 hD g8 h8;exists D,aV (min (k-1) rule.length) λi=>Pm.co rule i*Pm.co sums (k-2-i),rfl,ak.of h8;rw[ahq];exact q _ g8
theorem asv(F:Fn K mg "power_sums" TV ["rule","count"])(Ac:Rv M):Y5 M:=by
 delta NZ
 intros a rule n rfl hA n12 br q h;exists _,#[(),(aG 2 NZ.nd (fK jL)),(lU PassesOwn.never rfl (Jv rfl B.eZ #[_,(1+_:)]) (cu 3 NZ.nd) #[(),(aG 4 NZ.nd (YL (JL (3<=(bZ K B.bY #[0]):) (3*(aL K (0:) (3-_:)):) aN))),(iK (sH K (2:) (4+(aA Ac hr #[0,2,3]):)))]),(aD (2:))];have lR:(rule.map V.int).length=rule.length:=aC _;have b1:∀x∈rule,Bd 29000 x:=λx hx=>(br x hx).mono ∅;refine{(bN 0),λl hl=>?_};exists (),1,(n:Int)+1,rfl,{⋯,⋯,⋯,⋯};rw[(⋯:((n:Int)+1-1).toNat=n)];refine pX (lo:=1) (n:=n) (λi σ' H'=>∃(o3 o4:Option V),σ'=[some (.ref a),some (.int (n:Int)),some (.ref l),o3,o4]/\Same H H'/\H' l=some (.lst ((gQ rule i).map V.int))) {none,none,rfl,Same.new hl _,aq} ?_ ?_
 .rintro i σ' H' hi ⟨o3,o4,rfl,g,hL⟩;rw[(⋯:(1:Int)+(i:Int)=((i+1:Nat):Int))];have hA':=g _ _ hA;have ls:=wN rule i;refine Bar.by (λv H1=>v = .int (if i+1<=rule.length then((i+1:Nat):Int)*Pm.co rule i else 0)/\H1=H') (λkk hkk=>?_) ?_
  .exists (),(),.ref a,rule.length,rfl,.inr {_,ao.of hA',lR.symm},"",();refine cC (λc=>?_) (λc=>?_)
   .have c':i+1<=rule.length:=by have:=dec_true c;lia
    have hk:=hkk (.int (if i+1<=rule.length then((i+1:Nat):Int)*Pm.co rule i else 0)) H' {rfl,(rfl)};rw[if_pos c']at hk;exact{(),(),(),"",_,V.int (Pm.co rule i),.inr (ao.of hA'),(by rw[(⋯:((i+1:Nat):Int)-1=(i:Int))];exact vL ⋯),pY (m:=10) (Bd.of ⋯ ⋯) (jo b1 i) ∅,hk}
   .have c':¬i+1<=rule.length:=by have:=dec_false c;lia
    have hk:=hkk (.int (if i+1<=rule.length then((i+1:Nat):Int)*Pm.co rule i else 0)) H' {rfl,(rfl)};rw[if_neg c']at hk;exact hk
  rintro _ _ ⟨rfl,rfl⟩;refine{(),.inl {rfl,_,ak.of hL},(),(),(),(),a,l,rule,gQ rule i,i+1,rfl,.inr hA',.inl hL,⋯,⋯,⋯,b1,ach (λi=>gW (jo br i)) ⋯,λH2 g2=>?_};have hL2:=g2 _ _ hL;refine{l,"",hL2,?_,_,(),(g.trans g2).upd hl _,by rw[aq,gQ,gR];rfl};rw[aC,ls];exact fZ ⋯
 .rintro σ' H' ⟨o3,o4,rfl,g,hL⟩;exact{(),q l H' g hL}
theorem aLQ(F:Fn K mg "rule_of_sums" Wy ["sums"])(Ac:Rv M):Yt M:=by
 delta ZG
 intros c sums n rfl hC hn n12 bs q h;exists _,#[(),(aG 1 ZG.nd (fK jL)),(lU PassesOwn.never rfl (Jv rfl B.eZ #[_,((bZ K B.bY #[0])+_:)]) (cu 2 ZG.nd) (aH (iK (sH K (1:) (((aL K (0:) (2-_:))-(aA Ac hr #[1,0,2]))/2:))))),(aD (1:))];have lS:(sums.map V.int).length=n:=by rw[aC,hn]
 have b2:∀x∈sums,Bd 29000 x:=Le.list (w:=2390) ⋯ (λj hj=>bs j ⋯);refine{(bN 0),λl hl=>?_};have gl:=Same.new hl (.lst []);exists (),.ref c,n,rfl,.inl {_,ak.of (gl _ _ hC),lS.symm},1,(n:Int)+1,rfl,{⋯,⋯,⋯,⋯};rw[(⋯:((n:Int)+1-1).toNat=n)];refine pX (lo:=1) (n:=n) (λi σ' H'=>∃(o2:Option V),σ'=[some (.ref c),some (.ref l),o2]/\Same H H'/\H' l=some (.lst ((oO sums i).map V.int))) {none,rfl,gl,(aq)} ?_ ?_
 .rintro i σ' H' hi ⟨o2,rfl,g,hL⟩;rw[(⋯:(1:Int)+(i:Int)=((i+1:Nat):Int))];have hC':=g _ _ hC;have lr:=uF sums i;refine{(),.inl {rfl,_,ak.of hL},(),(),"",_,V.int (Pm.co sums i),.inl (ak.of hC'),(by rw[(⋯:((i+1:Nat):Int)-1=(i:Int))];exact vL ⋯),(),(),(),l,c,oO sums i,sums,i+1,rfl,.inl hL,.inl hC',⋯,⋯,⋯,WL bs ⋯ ⋯,b2,λH2 g2=>?_};have hL2:=g2 _ _ hL;refine{"",(),"",{⋯,by show((i+1:Nat):Int)<1073741824;lia},l,"",hL2,?_,(),(g.trans g2).upd hl _,by rw[aq,oO,gR];rfl};rw[aC,lr];exact fZ ⋯
 .rintro σ' H' ⟨o2,rfl,g,hL⟩;exact{(),q l H' g hL}
theorem aFT(F:Fn K mg "multiplied" Xd ["one","other"])(AW:Y9 M)(gb:uG M)(pC:Gk M)(yC:Y5 M)(Ab:Yt M)(Bx:abS M)(Ag:W7 M):Rf M:=by
 delta zE zE
 intros v1 v2 r s' rfl pA fJ h1 h2 q h;refine{_,#[(),(iK (dR AW hr rfl #[0,1])),(aG 2 zE.nd (aA gb hr #[0])),(aG 3 zE.nd (aA gb hr #[1])),(aG 4 zE.nd ((bZ K B.bY #[-2])*(bZ K B.bY #[-3]):)),(iK (dR pC hr rfl #[4])),(fQ (i:=5) zE.nd rfl (eG rfl) (aA yC hr #[-2,4])),(fQ (i:=6) zE.nd rfl (eG rfl) (aA yC hr #[-3,4])),(aG 7 zE.nd (aA Ab hr #[(fD (sc:=aMj) (N:=["k","our_sums","their_sums"]) (ix:=[none,some 5,some 6]) cY rfl (gH rfl B.eZ #[4]) (λ_ _ _ _ _=>{(cu 0 cV),dI,((aL K (1:) (0:))*(aL K (2:) (0:)):)}))])),(aD (aA Bx hr #[2,3,7,(XY Ag rfl)]))],?_};unfold Dj at q;refine{(),(),v1,v2,r,s',rfl,pA,fJ,λe=>?_,λe=>by rw[if_neg e]at q;exact q H (Same.refl _)};rw[if_pos e]at q;refine{(),v1,r,rfl,pA,h1.jT,λx1 H1 g1 hS1 k1=>?_};refine{(),v2,s',rfl,fJ.same g1,h2.jT,λx2 H2 g2 hS2 k2=>?_};have n1:=h1.kn k1;have n2:=h2.kn k2;have l1:=n1.cL;have l2:=n2.cL;have Dm:=hS1.same g2;obtain⟨a1,p1,t1,rfl,oN,uO,hT1⟩:=id Dm;obtain⟨a2,p2,t2,rfl,Ju,hP2,hT2⟩:=id hS2;exists (),_,_,.inr (ao.of oN),rfl,.ref p1,(sh r).rule.length,rfl,.inr {_,ao.of uO,(aC _).symm},(),_,_,.inr (ao.of Ju),rfl,.ref p2,(sh s').rule.length,rfl,.inr {_,ao.of hP2,(aC _).symm},mulL ⋯ ⋯;rw[<-sX];generalize hn:(sh r).rule.length*(sh s').rule.length=N at q;refine{(),(N:Int),rfl,λhle=>?_,λhlt=>by rw[if_neg ⋯]at q;exact q _ (g1.trans g2)};have tZ:N<=12:=⋯;rw[if_pos tZ]at q;refine{(),_,_,.inr (ao.of oN),rfl,(),p1,(sh r).rule,N,rfl,uO,⋯,n1.bd,λl5 H5 g5 h5=>?_};refine{(),_,_,.inr (ao.of (g5 _ _ Ju)),rfl,(),p2,(sh s').rule,N,rfl,g5 _ _ hP2,⋯,n2.bd,λl6 H6 g6 h6=>?_};have Ui:=g6 _ _ h5;have ls1:=wN (sh r).rule N;have ls2:=wN (sh s').rule N;have bu1:=ach n1.co (⋯:N<=120);have bu2:=ach n2.co (⋯:N<=120);exists (),(N:Int),rfl,(⋯:-(2^62)<=(N:Int)),(⋯:(N:Int)<2^62);rw[d7];refine xH (n:=N) ⋯ rfl (λk=>Pm.co (gQ (sh r).rule N) k*Pm.co (gQ (sh s').rule N) k) ?_ ?_
 .intro H7 k g7 hk kk hkk;exact{(),(),_,V.int (Pm.co (gQ (sh r).rule N) k),.inl (ak.of (g7 _ _ Ui)),(by rw[ig];exact vL ⋯),(),(),_,V.int (Pm.co (gQ (sh s').rule N) k),.inl (ak.of (g7 _ _ h6)),(by rw[ig];exact vL ⋯),pY (jo bu1 k) (jo bu2 k) ∅,hkk _ (Same.refl _)}
 .intro D H7 hD g7 h7;have bs:∀i,i<N->Le (Pm.co (aV N λk=>Pm.co (gQ (sh r).rule N) k*Pm.co (gQ (sh s').rule N) k) i) ((2^2390)^(i+1)):=λi hi=>by
   rw[kW,if_pos hi];refine cT ((B4 n1.co N i hi).mul (B4 n2.co N i hi)) ?_;rw[<-Nat.mul_pow,<-tO];exact acF (qW ∅ ∅) _
  refine{D,_,N,rfl,h7,eU ..,tZ,bs,λl8 H8 g8 h8=>?_};have WK:=g5.trans (g6.trans (g7.trans g8));exact{(),(),(),λg hg=>{Oq,.ref a1,.ref a2,l8,g,sh r,sh s',(),.inr (.inr {hg,(rfl)}),Dm.same WK,hS2.same WK,n1,n2,.inl h8,by rw[uF];exact tZ,WL bs (bO _) tZ,λv' H' g'=>q v' H' (g1.trans (g2.trans (WK.trans g')))}}
theorem aPC(F:Fn K mg "refuse_far_steps" aaZ ["start","step"]):anH M:=by
 delta avm avm
 intros s e rfl q qE h;exists _,(aH (bB (PW.pt (jX (0<_:) (jX (0>(rB rfl B.ZP):) (jX (1<_:) (oH (1>(rB rfl B.Yd):)))))) (aH (qe M.agm rfl #[""])) bH));refine{(),"",(),cC (λc=>{(bN 1),qE λz=>?_}) (λc1=>?_)}
 .have:=dec_true c;unfold yc at z;lia
 refine{(),"",(),cC (λc=>{(bN 1),qE λz=>?_}) (λc2=>?_)}
 .have:=dec_true c;unfold yc at z;lia
 refine{(),"",(),cC (λc=>{(bN 1),qE λz=>?_}) (λc3=>?_)}
 .have:=dec_true c;unfold yc at z;lia
 refine{(),"",(),cC (λc=>{(bN 1),qE λz=>?_}) (λc4=>q ?_)}
 .have:=dec_true c;unfold yc at z;lia
 have:=dec_false c1;have:=dec_false c2;have:=dec_false c3;have:=dec_false c4;exact{⋯,⋯,⋯,⋯}
theorem av9(F:Fn K mg "every" Vz ["row","start","step"])(VL:anH M)(gb:uG M)(yC:Y5 M)(nA:Gp M)(Ab:Yt M)(mq:Cv M):RJ M:=by
 delta BL BL
 intros v s e r rfl hR h1 q h;refine{_,#[(),(iK (dR VL hr rfl #[1,2])),(aG 3 BL.nd (aA gb hr #[0])),(aG 4 BL.nd (bZ K B.bY #[-3])),(fQ (i:=5) BL.nd rfl (eG rfl) (aA yC hr #[-3,(2*4:)])),(fQ (i:=6) BL.nd rfl (eG rfl) (aA nA hr #[3,(1+2*4:)])),(aG 7 BL.nd (aA Ab hr #[(fD (sc:=atl) (N:=["k","step","sums"]) (ix:=[none,some 2,some 5]) cY rfl (Jv rfl B.eZ #[_,(4+_:)]) (λ_ _ _ _ _=>{(cu 0 cV),dI,(aL K (2:) (1*0-_:))}))])),(aD (aA mq hr #[-0,7,(fD (sc:=aA3) (N:=["k","found","start","step"]) (ix:=[none,some 6,some 1,some 2]) cY rfl (gH rfl B.eZ #[4]) (λ_ _ _ _ _=>{(cu 0 cV),dI,(aL K (1:) (2+3*0:))}))]))],?_};unfold Du at q;refine{(),(),s,e,rfl,λhO=>?_,λz=>by rw[if_neg z]at q;exact q H (Same.refl _)};rw[if_pos hO]at q;intros s0 s1 e0 e1 hO;obtain⟨st,rfl⟩:∃st:Nat,s=(st:Int):={s.toNat,⋯};obtain⟨e,rfl⟩:∃k:Nat,e=(k:Int):={e.toNat,⋯};simp only[d7]at q;have e1:1<=e:=⋯;refine{(),v,r,rfl,hR,h1.jT,λx1 H1 g1 hS k1=>?_};have n1:=h1.kn k1;obtain⟨c1,p1,t1,rfl,oN,uO,hT1⟩:=id hS;have lS:((sh r).rule.map V.int).length=(sh r).rule.length:=aC _;generalize hN:(sh r).rule.length=N at q lS;have tZ:N<=12:=by have:=n1.cL;lia
 have eN2:e*N<=10*12:=tW ⋯ tZ;have NeN:N<=e*N:=Nat.le_mul_of_pos_left _ e1;exists (),_,_,.inr (ao.of oN),rfl,.ref p1,N,rfl,.inr {_,ao.of uO,lS.symm};refine{(),_,_,.inr (ao.of oN),rfl,(),(),mulL ⋯ ⋯,p1,(sh r).rule,e*N,by rw[sX];rfl,uO,⋯,n1.bd,λl5 H5 g5 h5=>?_};have ls:=wN (sh r).rule (e*N);have hS5:=hS.same g5;refine{(),(),(),(),mulL ⋯ ⋯,.ref c1,sh r,(st:Int)+(e:Int)*(N:Int),rfl,hS5,n1.ok,by rw[<-sX];lia,by rw[<-sX];lia,λl6 H6 g6 f6 h6=>?_};rw[show((st:Int)+(e:Int)*(N:Int)).toNat=st+e*N by rw[<-sX];lia,Mv]at h6;have Ui:=g6 _ _ h5;exists (),1,(N:Int)+1,rfl,{⋯,⋯,⋯,⋯};rw[(⋯:((N:Int)+1-1).toNat=N)];refine ajT (lo:=1) (n:=N) ⋯ rfl (λk=>Pm.co (gQ (sh r).rule (e*N)) (e*(k+1)-1)) ?_ ?_
 .intro H7 k g7 hk kk hkk;have t1:1<=e*(k+1):=Nat.mul_pos e1 ⋯;have t2:(e:Int)*(1+(k:Int))=((e*(k+1):Nat):Int):=by rw[sX,aoZ,FZ];rfl
  have t3:e*(k+1)<=e*N:=pU _ hk;refine{(),(),(),mulL ⋯ ⋯,"",_,V.int (Pm.co (gQ (sh r).rule (e*N)) (e*(k+1)-1)),.inl (ak.of (g7 _ _ Ui)),?_,hkk};rw[t2,(⋯:((e*(k+1):Nat):Int)-1=((e*(k+1)-1:Nat):Int))];exact vL ⋯
 intro D hD;have gD:=Same.new hD (.lst ((aV N λk=>Pm.co (gQ (sh r).rule (e*N)) (e*(k+1)-1)).map V.int));have bs:∀i,i<N->Le (Pm.co (aV N λk=>Pm.co (gQ (sh r).rule (e*N)) (e*(k+1)-1)) i) ((2^2390)^(i+1)):=λi hi=>by
  rw[kW,if_pos hi];have t1:1<=e*(i+1):=Nat.mul_pos e1 ⋯;have t3:e*(i+1)<=e*N:=pU _ hi;refine cT (B4 n1.co (e*N) (e*(i+1)-1) ⋯) ?_;rw[Nat.sub_add_cancel t1,<-YJ,<-YJ];refine qW ∅ ?_;rw[<-R9];exact qp _ ⋯
 refine{D,_,N,rfl,aq,eU ..,tZ,bs,λl7 H7 g7 h7=>?_};have g17:=g1.trans (g5.trans (g6.trans (gD.trans g7)));have QH:=g7 _ _ (gD _ _ h6);obtain⟨a0,q1,q2,rfl,hA0,_,_⟩:=id (hR.same g17);exists (),_,_,.inr (ao.of hA0),rfl,(),(),(N:Int),rfl,(⋯:-(2^62)<=(N:Int)),(⋯:(N:Int)<2^62);rw[d7];refine xH (n:=N) ⋯ rfl (λk=>(sh r).at (st+e*k)) ?_ ?_
 .intro H8 k g8 hk kk hkk;have t3:e*(k+1)<=e*N:=pU _ hk;rw[EY]at t3;refine{(),(),(),(),mulL ⋯ ⋯,_,V.int ((sh r).at (st+e*k)),.inl (ak.of (g8 _ _ QH)),?_,hkk _ (Same.refl _)};rw[show(st:Int)+(e:Int)*(0+(k:Int))=((st+e*k:Nat):Int)by rw[ig,aoZ,sX]];rw[vL (by rw[eU];lia),kW,if_pos ⋯]
 intro D2 H8 hD2 g8 h8;refine{r.b,l7,D2,_,(),.inl (g8 _ _ h7),.inl h8,h1.wf.hB,by rw[uF];exact tZ,by rw[eU,uF],WL bs (bO _) tZ,λx hx=>?_,λv' H9 g9=>q v' H9 (g17.trans (g8.trans g9))};obtain⟨k,hk,rfl⟩:=mU hx;have t3:e*k<=10*11:=tW ⋯ ⋯;exact(n1.at_ _).mono ⋯
theorem aDm(F:Fn K mg "scaled" ab8 ["row","number"])(mq:Cv M):Wi M:=by
 delta ayQ
 intros v r x rfl hR h1 hx q h;refine{_,(aH (aD (aA mq hr #[-0,-0,(fD (sc:=aMD) (N:=["start","number"]) (ix:=[none,some 1]) cY rfl (iD K (-0:)) (λ_ _ _ _ _=>{(cu 0 cV),dI,(1*0:)}))]))),?_};obtain⟨a,p,p2,rfl,hA,hP,hS⟩:=id hR;have hl:=h1.wf.len;have h12:=h1.wf.cL;refine{(),_,_,.inr (ao.of hA),rfl,(),_,_,.inr (ao.of hA),rfl,(),_,_,.inr (ao.of hA),rfl,p2,rfl,.inr {{_,ao.of hS},vp (Bl (ao.of hS)) ⋯ rfl (λs=>x*s) ?_ ?_}}
 .intro H2 y g2 hy kk hkk;exact{(),(),pY hx (h1.lu y hy) ∅,hkk}
 intro D hD;have gD:=Same.new hD (.lst ((r.starts.map λs=>x*s).map V.int));refine{r.b,p,D,r.rule,r.starts.map λs=>x*s,rfl,.inr (gD _ _ hP),.inl aq,h1.wf.hB,h12,by rw[aC];lia,λx hx=>(h1.j5 x hx).mono ∅,λy hy=>?_,λv' H' g'=>q v' H' (gD.trans g')};obtain⟨z,hz,rfl⟩:=cA.mp hy;exact(hx.mul (h1.lu z hz)).mono ∅
theorem aCu(F:Fn K mg "summed" XI ["row"])(gb:uG M)(pC:Gk M)(rO:Nj M)(cH:jN M)(nC:GJ M)(nA:Gp M)(mq:Cv M)(vC:O9 M):Ys M:=by
 delta CD CD
 intros v r rfl hR h1 q h;refine{_,#[(),(aG 1 CD.nd (-0:)),(aG 2 CD.nd (aA gb hr #[0])),(aG 3 CD.nd ((bZ K B.bY #[-2])+_:)),(iK (dR pC hr rfl #[3])),(aG 4 CD.nd (aA rO hr #[1,(aA nC hr #[1,-2]),(dF #[(aA cH hr #[1,(GF Hj aN)]),_])])),(fQ (i:=5) CD.nd rfl (eG rfl) (aA nA hr #[2,3])),(aD (aA mq hr #[1,(aA vC hr #[1,4]),(fD (sc:=aIn) (N:=["n","found"]) (ix:=[none,some 5]) cY rfl (gH rfl B.eZ #[3]) (λ_ _ _ _ _=>{(cu 0 cV),dI,(fH (J7 K rfl) rfl B.Fy boot_sum #[(jD (m6 K) (1:) jH (jQ (0+_:)))])}))]))],?_};obtain⟨a,p,p2,rfl,hA,hP,hS⟩:=id hR;have hb0:=h1.wf.hB.lo;unfold HC at q;exists (),_,_,.inr (ao.of hA),rfl;refine{(),.ref a,r,rfl,hR,h1.jT,λv2 H2 g2 fJ k1=>?_};have n1:=h1.kn k1;have n12:=n1.cL;obtain⟨a2,s1,s2,rfl,qK,hP2,hS2⟩:=id fJ;have lS:((sh r).rule.map V.int).length=(sh r).rule.length:=aC _;have lp:(cR r.b (sh r).rule).length=(sh r).rule.length+1:=o9 ..;generalize hN:(sh r).rule.length=N at q lS lp n12;exists (),_,_,.inr (ao.of qK),rfl,.ref s1,N,rfl,.inr {_,ao.of hP2,lS.symm};refine{(),(N:Int)+1,rfl,λhle=>?_,λhlt=>by rw[if_neg ⋯]at q;exact q _ g2};rw[if_pos ⋯]at q;refine{(),(),(),_,_,.inr (ao.of qK),rfl,r.b,s1,(sh r).rule,rfl,hb0,hP2,⋯,λt3 H3 g3 h3=>?_};refine{(),(),r.b,-1,rfl,hb0,(bN 2),λt4 ht4=>?_};have g4:=Same.new ht4 (.tup ([tk r.b (-1),1].map V.int));have b1:=n1.poly;rw[k1.by_]at b1;have b2:∀x∈[tk r.b (-1),1],Bd 236 x:=λx hx=>by
  rcases cX.mp hx with rfl|hx
  .exact vZ h1.wf.hB ∅ ((Bd.of (n:=1) ∅ ∅).mono ∅)
  .rw[dX.mp hx];exact(Bd.of (n:=1) ∅ ∅).mono ∅
 refine{r.b,t3,t4,_,[tk r.b (-1),1],rfl,hb0,g4 _ _ h3,aq,⋯,(by show 2<=400;decide),λx hx=>(b1 x hx).mono ∅,λx hx=>(b2 x hx).mono ∅,λt5 H5 g5 h5=>?_};have g25:=g3.trans (g4.trans g5);refine{(),(),.ref a2,sh r,(N:Int)+1,rfl,fJ.same g25,n1.ok,⋯,⋯,λl6 H6 g6 f6 h6=>?_};rw[(⋯:((N:Int)+1).toNat=N+1),Mv]at h6;obtain⟨lm,lr,br⟩:=aen h1.wf.hB (Ci r.b (sh r).rule) (show Pm.Mon [tk r.b (-1),1]from{(∅:0<2),rfl}) b1 b2 (by rw[lp];show N+1+2<=15;lia);rw[lp]at lm lr;refine{(),(),(),r.b,t5,(),hb0,g6 _ _ h5,by rw[lm];show 0<N+1+2-1;lia,by rw[lm];show N+1+2-1<=100;lia,λt7 H7 g7 h7=>?_};have QH:=g7 _ _ h6;exists (),(N:Int)+1,rfl,(⋯:-(2^62)<=(N:Int)+1),(⋯:(N:Int)+1<2^62);rw[(⋯:((N:Int)+1).toNat=N+1)];refine xH (n:=N+1) ⋯ rfl (λn=>Pm.sm (n+1) (sh r).at) ?_ ?_
 .intro H8 k g8 hk kk hkk;refine{(),(),(),.inl {_,ak.of (g8 _ _ QH),λl9 hl9=>?_}};have eC:fY ((aV (N+1) (sh r).at).map V.int) none (some (0+(k:Int)+1))=(aV (k+1) (sh r).at).map V.int:=by
   rw[(⋯:0+(k:Int)+1=((k+1:Nat):Int)),vU,<-vH,aBs _ ⋯]
  rw[eC];exists l9,aV (k+1) (sh r).at,rfl,ak.of aq;rw[aV,Kh];exact hkk _ (Same.new hl9 _)
 .intro D H8 hD g8 h8;have O1:(nM r.b (Pm.mul r.b (cR r.b (sh r).rule) [tk r.b (-1),1])).length=N+1:=by rw[lr];rfl
  refine{r.b,t7,D,_,(),.inr (g8 _ _ h7),.inl h8,h1.wf.hB,⋯,by rw[eU,O1],br,λx hx=>?_,λv' H' g'=>q v' H' (g2.trans (g25.trans (g6.trans (g7.trans (g8.trans g')))))};obtain⟨k,hk,rfl⟩:=mU hx;exact(zp (c:=3100) (k+1) λi hi=>n1.few i ⋯).mono ⋯
theorem avO(F:Fn K mg "put_ahead" aad ["row","numbers"])(gb:uG M)(pC:Gk M)(mq:Cv M):aam M:=by
 delta Vw Vw
 intros v r ln l rfl hR h1 hN cL bl q h;exists _,#[(),(aG 2 Vw.nd (aA gb hr #[0])),(iK (dR pC hr rfl #[((bZ K B.bY #[-2])+(bZ K B.bY #[1]):)])),(aG 3 Vw.nd ((eV (xlist K) rfl B.Jb boot_list #[-2])+(fK #[_])*(bZ K B.bY #[1]):)),(aD (aA mq hr #[-0,3,((eV (xlist K) rfl B.Jb boot_list #[1])+(eV (xlist K) rfl B.Jb boot_list #[-2]):)]))];obtain⟨a,p,p2,rfl,hA,hP,hS⟩:=id hR;unfold CK at q;have bl':=(abU h1.wf.hB ∅ bl).1;obtain⟨ns,hns⟩:∃ns,ns=l.map (tk r.b):={()};have ln':ns.length=l.length:=by rw[hns,aC]
 rw[<-hns]at hN q bl';rw[<-ln']at q cL;have lN:(ns.map V.int).length=ns.length:=aC _;refine{(),.ref a,r,rfl,hR,h1.jT,λv2 H2 g2 fJ k1=>?_};have n1:=h1.kn k1;have h12:=n1.cL;obtain⟨a2,s1,s2,rfl,qK,hP2,hS2⟩:=id fJ;have Bv:=g2 _ _ hN;exists (),_,_,.inr (ao.of qK),rfl,.ref s1,(sh r).rule.length,rfl,.inr {_,ao.of hP2,(aC _).symm},(),.ref ln,ns.length,rfl,.inl {_,ak.of Bv,lN.symm};refine{((sh r).rule.length:Int)+(ns.length:Int),rfl,λhle=>?_,λhlt=>by rw[if_neg ⋯]at q;exact q _ g2};rw[if_pos ⋯]at q;refine{(),_,_,.inr (ao.of qK),rfl,s1,(),.inr (ao.of hP2),λl3 hl3=>?_};have g3:=Same.new hl3 (.lst ((sh r).rule.map V.int));refine{(bN 1),λl4 EG=>?_};have g4:=Same.new EG (.lst [.int 0]);have h4:(upd (upd H2 l3 (.lst ((sh r).rule.map V.int))) l4 (.lst [.int 0])) l4=some (.lst [.int 0]):=aq;have h3:(upd (upd H2 l3 (.lst ((sh r).rule.map V.int))) l4 (.lst [.int 0])) l3=some (.lst ((sh r).rule.map V.int)):=g4 _ _ aq;have g34:=g3.trans g4;generalize upd (upd H2 l3 (.lst ((sh r).rule.map V.int))) l4 (.lst [.int 0])=H4 at g34 h3 h4;exists (),.ref ln,ns.length,rfl,.inl {_,ak.of (g34 _ _ Bv),lN.symm};refine{_,h4,⋯,⋯,?_,λl5 Fx=>?_}
 .show 1*(ns.length:Int).toNat<=sizeLine;rw[IG];exact gW (fZ ⋯)
 rw[show(ns.length:Int).toNat=ns.length from d7 _,Wg];have g5:=Same.new Fx (.lst ((uh ns.length).map V.int));have h5:(upd H4 l5 (.lst ((uh ns.length).map V.int))) l5=some (.lst ((uh ns.length).map V.int)):=aq;have h35:=g5 _ _ h3;have g35:=g34.trans g5;generalize upd H4 l5 (.lst ((uh ns.length).map V.int))=H5 at g35 h5 h35;refine .inl {_,_,h35,h5,?_,λl6 Ww=>?_}
 .rw[aC,aC,eU];exact gW (fZ ⋯)
 rw[<-gR];have g6:=Same.new Ww (.lst (((sh r).rule++uh ns.length).map V.int));have h6:(upd H5 l6 (.lst (((sh r).rule++uh ns.length).map V.int))) l6=some (.lst (((sh r).rule++uh ns.length).map V.int)):=aq;have rC:=g35.trans g6;generalize upd H5 l6 (.lst (((sh r).rule++uh ns.length).map V.int))=H6 at rC h6;exists (),_,_,.inr (ao.of ((g2.trans rC) _ _ hA)),rfl,();refine{(),ln,(),.inl (ak.of (rC _ _ Bv)),λl7 J5=>?_};have g7:=Same.new J5 (.lst (ns.map V.int));refine{(),_,_,.inr (ao.of (g7 _ _ (rC _ _ qK))),rfl,s2,(),.inr (ao.of (g7 _ _ (rC _ _ hS2))),λl8 YW=>?_};have g8:=Same.new YW (.lst ((sh r).starts.map V.int));refine .inl {_,_,g8 _ _ aq,aq,?_,λl9 hl9=>?_}
 .rw[aC,aC,<-k1.len];exact gW (fZ ⋯)
 rw[<-gR];have g9:=Same.new hl9 (.lst ((ns++(sh r).starts).map V.int));have yr:=g7.trans (g8.trans g9);refine{r.b,l6,l9,_,(),.inl (yr _ _ h6),.inl aq,h1.wf.hB,by rw[fP,eU];lia,by rw[fP,fP,eU,<-k1.len];lia,λx hx=>?_,λx hx=>?_,λv' H' g'=>q v' H' (g2.trans (rC.trans (yr.trans g')))}
 .rcases gP.mp hx with z|z
  .exact(n1.bd x z).mono ∅
  .obtain⟨k,_,rfl⟩:=mU z;exact Bd.zero _
 .rcases gP.mp hx with z|z
  .exact(bl' x z).mono ∅
  .exact(h1.lu x (k1.pN x z)).mono ∅
theorem aCi(F:Fn K mg "refuse_far_jump" abE ["by","n"]):agz M:=by
 delta aK8 aK8
 intros b n rfl q qE h;exists _,(aH (bB (PW.pt (jX (1<_:) (oH (PW.pt (rP (0==_:) (uc (1>(rB rfl B.UO):))))))) (aH (qe M.agm rfl #[""])) bH));refine{(),"",(),cC (λc=>{(bN 1),qE λz=>?_}) (λc1=>?_)}
 .have:=dec_true c;have:=z.1;lia
 have k1:=dec_false c1;refine{(),(),cC (λc=>?_) (λc=>?_)}
 .have k2:b=0:=dec_true c;refine{(),"",(),cC (λc3=>{(bN 1),qE λz=>?_}) (λc3=>q {⋯,λ_=>?_})}
  .have:=dec_true c3;have:=z.2 k2;lia
  .have:=dec_false c3;lia
 .exact bK (q {⋯,λz=>absurd z (dec_false c)})
theorem ar4(F:Fn K mg "power_left" Xj ["by","poly","n"])(nH:GY M)(rO:Nj M):aoa M:=by
 delta Cu
 intros b a rule n rfl hb hA hrl hR hn hN q h;exists _,#[(),(aG 3 Cu.nd (aL K (aA nH hr #[0,(dF #[_]),1]) aN)),(lU PassesOwn.never rfl (anq rfl B.eZ #[((aJh K (2:))-_:),(GF Hj aN),(GF Hj aN)]) (cu 4 Cu.nd) #[(),(aG 5 Cu.nd (aA rO hr #[0,3,3])),(oM (bB ((jB azX (2:) (4:))%_==_:) (aH (aG 5 Cu.nd (aA rO hr #[0,5,(dF #[_,_])]))) bH)),(aG 3 Cu.nd (aL K (aA nH hr #[0,5,1]) aN))]),(aD (3:))];have hM:=Ci b rule;have lM:=o9 b rule;have hi1:=hb.hi;have bM:∀x∈cR b rule,Bd 67 x:=O7 hb.lo hb.hi ∅ hR;refine{(),(bN 1),λt0 ht0=>?_};have g0:=Same.new ht0 (.tup [.int 1]);refine{(),b,t0,a,[1],cR b rule,22,67,rfl,hb.lo,⋯,aq,g0 _ _ hA,∅,⋯,hM,OB hb,λx hx=>by
  rw[dX.mp hx];exact(Bd.of (n:=1) ∅ ∅).mono ∅,bM,∅,∅,λt x y q1 r1 H1 g1 ht hx hy d1 br1=>?_}
 exists _,_,.inr (ao.of ht),rfl;exists (),rfl,(),rfl;have hB4:vJ (n:Int)<=400:=intBits_le_iff.mpr hN;have hB9:b=0->vJ (n:Int)<=9:=λz=>intBits_le_iff.mpr (show(n:Int).natAbs<2^9 by have:=hn z;lia);unfold Gw at q;generalize vJ (n:Int)=B at hB4 hB9 q;have small:∀{i:Nat} {l:List Int},i<=B->Py b l->(b=0->∀x∈l,Bd (6000*2^i-2800) x)->∃U,10<=U/\U<=6000*2^i/\U<=3072000/\(i<B->U<=1540000)/\(b=0->2*U+2800<=6000*2^(i+1)-2800)/\∀x∈l,Bd U x:=λ{i l} hi hy hl=>by
  have p1:1<=2^i:=Nat.one_le_two_pow;by_cases z:b=0
  .have h9:=hB9 z;have p9:2^i<=2^9:=qW ∅ ⋯;have p8:i<B->2^i<=2^8:=λh=>qW ∅ ⋯;exact{6000*2^i-2800,⋯,⋯,⋯,λh=>by have:=p8 h;lia,λ_=>by rw[lZ];lia,hl z}
  .refine{10,∅,⋯,∅,λ_=>∅,λh=>absurd h z,λx hx=>?_};have:=(vV hb.lo x).resolve_left z;rw[hy.nu x hx]at this;exact Bd.of ⋯ ⋯
 exists "",(),(),(B:Int)-1,-1,rfl,{⋯,⋯,⋯,⋯};refine agu (lo:=(B:Int)-1) (n:=((B:Int)-1-(-1)).toNat) (λi σ' H'=>∃(p:Addr) (l:List Int) (o4 o5:Option V),σ'=[some (.int b),some (.ref a),some (.int n),some (.ref p),o4,o5]/\Same H H'/\H' p=some (.tup (uw V.int l))/\l=yF b (cR b rule) n B i/\Py b l/\l.length<=rule.length/\(b=0->∀x∈l,Bd (6000*2^i-2800) x))
  {y,r1,_,(),g0.trans g1,hy,(amj hM d1).symm,d1.ry,by have:=d1.short;lia,λ_ x hx=>(br1 x hx).mono ∅} ?_ ?_
 .rintro i σ' H' hi ⟨p,l,o4,o5,rfl,g,hp,el,hy2,hl,hs⟩;have hi':i<B:=⋯;obtain⟨U,J8,_,_,u15,u0,bl⟩:=small (gW hi') hy2 hs;have u15:=u15 hi';obtain⟨k,hk⟩:∃k,B-(i+1)=k:={()};have ekI:(B:Int)-1-(i:Int)=(k:Int):=⋯;rw[ekI];have bl2:∀x∈l,Bd 4000000 x:=λx hx=>(bl x hx).mono ⋯;refine{(),(),(),b,p,p,l,l,rfl,hb.lo,hp,hp,⋯,⋯,bl2,bl2,λp2 H2 g2 hp2=>?_};have bD:∀x∈Pm.mul b l l,Bd (2*U+12) x:=λx hx=>(R3 hb.lo hb.hi J8 bl bl x hx).mono ⋯;have lD:=ajU b l l;refine lW.by (λσ' H'=>∃(p3:Addr) (l3:List Int),σ'=[some (.int b),some (.ref a),some (.int n),some (.ref p),some (.int (k:Int)),some (.ref p3)]/\Same H H'/\H' p3=some (.tup (uw V.int l3))/\l3=(if n/2^k%2=1 then Pm.mul b (Pm.mul b l l) [0,1]else Pm.mul b l l)/\(∀j,tk b (Pm.co l3 j)=Pm.co l3 j)/\l3.length<=40/\∀x∈l3,Bd (2*U+60) x) (λNN eE=>?_) ?_
  .exists (),(),"",(⋯:(0:Int)<=(k:Int)),"",(∅:(0:Int)<2),();have axw:((n:Int)/2^(k:Int).toNat)%2=((n/2^k%2:Nat):Int):=by
    rw[d7]
    norm_cast
   rw[axw];refine cC (λc=>?_) (λc=>?_)
   .have c':n/2^k%2=1:=by have:=dec_true c;lia
    refine{(),(),(bN 2),λt2 jF=>?_};have g3:=Same.new jF (.tup [.int 0,.int 1]);refine{b,p2,t2,Pm.mul b l l,[0,1],rfl,hb.lo,g3 _ _ hp2,aq,⋯,∅,λx hx=>(bD x hx).mono ⋯,λx hx=>(ahE x hx).mono ∅,λp4 H4 g4 hp4=>?_};refine eE _ _ {p4,(),g.trans (g2.trans (g3.trans g4)),hp4,(if_pos c').symm,λj=>(aiF b _ _).co j,?_,λx hx=>(R3 hb.lo hb.hi ⋯ bD ahE x hx).mono ⋯};have:=ajU b (Pm.mul b l l) [0,1];have e2:([0,1]:List Int).length=2:=rfl;lia
   .have c':¬n/2^k%2=1:=by have:=dec_false c;lia
    exact eE _ _ {p2,(),g.trans g2,hp2,(if_neg c').symm,λj=>(aiF b _ _).co j,⋯,λx hx=>(bD x hx).mono ⋯}
  .rintro σ' H3 ⟨p3,l3,rfl,g3,hp3,e3,zm,z3,b3⟩;refine{(),(),(),b,p3,a,l3,cR b rule,2*U+60,67,rfl,hb.lo,⋯,hp3,g3 _ _ hA,⋯,⋯,hM,zm,b3,bM,⋯,⋯,λt x y q4 r4 H4 g4 ht hx hy d4 br=>?_};exists _,_,.inr (ao.of ht),rfl;refine{y,r4,_,(),g3.trans g4,hy,?_,d4.ry,by have:=d4.short;lia,λz x hx=>(br x hx).mono (by have:=u0 z;lia)};rw[yF,hk,<-el,<-e3,amj hM d4]
 .rintro σ' H' ⟨p,l,o4,o5,rfl,g,hp,el,hy2,hl,hs⟩;rw[(⋯:((B:Int)-1-(-1)).toNat=B)]at el hs;obtain⟨U,_,_,u3,_,_,bl⟩:=small (bO B) hy2 hs;rw[<-el]at q;exact{(),q p H' g hp λx hx=>(bl x hx).mono ⋯}
theorem aCt(F:Fn K mg "jump" Sy ["row","n"])(X7:agz M)(Z6:aoa M)(nC:GJ M)(Ul:akS M):afJ M:=by
 delta Qe Qe
 obtain⟨v,r,n,rfl,⟨a,p,p2,rfl,hA,hR,hS⟩,h1,hN,qE,q⟩:=h;refine{_,#[(),(aG 2 Qe.nd (-0:)),(aG 3 Qe.nd (-0:)),(iK (dR X7 hr rfl #[2,1])),(fQ (i:=4) Qe.nd rfl (eG rfl) (aA Z6 hr #[2,(aA nC hr #[2,3]),1])),(aD (eV (jW K) rfl B.jl boot_tuple #[(fD (sc:=ata) (N:=["i","left"]) (ix:=[none,some 4]) cY rfl (gH rfl B.eZ #[(bZ K B.bY #[3])]) (λ_ _ _ _ _=>{(cu 0 cV),dI,(aA Ul hr #[1,0])}))]))],?_};have hb:=h1.wf.hB;have hl:=h1.wf.cL;exists (),_,_,.inr (ao.of hA),rfl;exists (),_,_,.inr (ao.of hA),rfl;refine{(),(),r.b,n,rfl,λhJ=>?_,qE};have q:=q hJ;obtain⟨n,rfl⟩:∃m:Nat,n=(m:Int):={n.toNat,by have:=hJ.1;lia};rw[d7]at q;refine{(),(),(),r.b,p,r.rule,rfl,hb.lo,hR,⋯,λt1 H1 g1 h1'=>?_};refine{(),r.b,t1,r.rule,n,rfl,hb,h1',hl,h1.j5,(λz=>by have:=hJ.2 z;lia),hN,λt2 H2 g2 h2 bl=>?_};have eO:=g1.trans g2;exists (),.ref p,r.rule.length,rfl,.inr {_,ao.of (eO _ _ hR),(aC _).symm};exists (r.rule.length:Int),rfl,(⋯:-(2^62)<=(r.rule.length:Int)),(⋯:(r.rule.length:Int)<2^62);rw[d7];refine JR (n:=r.rule.length) ⋯ rfl (Pm.co (Gw r.b r.rule n)) ?_ ?_
 .intro H3 k g3 hk kk hkk;exists (),(),t2,_,0+(k:Int),rfl,g3 _ _ h2,⋯;rw[(⋯:(0+(k:Int)).toNat=k)];exact hkk
 .intro D hD;refine{D,(),.inl {ak.of aq,λt ht=>?_}};refine q (λx hx=>?_) t _ (eO.trans ((Same.new hD _).trans (Same.new ht _))) aq;obtain⟨k,_,rfl⟩:=mU hx;exact jo bl k
theorem awb(F:Fn K mg "sum_at" aaq ["by","poly","found","n"])(cH:jN M):ad2 M:=by
 delta aBN
 intros b a l p fo n rfl hb hA hL hn zA bA bF q h;refine{_,(aH (aD (aA cH hr #[0,(fH (J7 K rfl) rfl B.Fy boot_sum #[(fD (sc:=aHd) (N:=["k","found","n","poly"]) (ix:=[none,some 2,some 3,some 1]) cY rfl (gH rfl B.eZ #[(bZ K B.bY #[1])]) (λ_ _ _ _ _=>{(cu 0 cV),dI,((aL K (3:) (0:))*(aL K (1:) (2+0:)):)}))])]))),?_};have lC:(p.map V.int).length=p.length:=aC _;exists (),(),.ref a,p.length,rfl,.inr {_,ao.of hA,lC.symm};exists (p.length:Int),rfl,(⋯:-(2^62)<=(p.length:Int)),(⋯:(p.length:Int)<2^62);rw[d7];refine JR (n:=p.length) zA rfl (λk=>Pm.co p k*Pm.co fo (n+k)) ?_ ?_
 .intro H2 k g2 hk kk hkk;have e1:(0+(k:Int)).toNat=k:=⋯;have e2:(0+(n:Int)+(0+(k:Int))).toNat=n+k:=⋯;exists (),(),_,_,.inr (ao.of (g2 _ _ hA)),fR (ns:=p) (⋯:(0:Int)<=0+(k:Int)) ⋯;exists (),(),(),_,_,hL.imp (λz=>ak.of (g2 _ _ z)) (λz=>ao.of (g2 _ _ z)),fR (ns:=fo) (⋯:(0:Int)<=0+(n:Int)+(0+(k:Int))) ⋯;exists pY (Bd.getD bA _) (Bd.getD bF _) ∅;rw[e1,e2];exact hkk
 .intro D hD;exists D,(),ak.of aq,b,(),hb;have:=q _ (Same.new hD (.lst ((aV p.length λk=>Pm.co p k*Pm.co fo (n+k)).map V.int)));unfold ks at this;rw[aV,Kh];exact this
theorem aJM(F:Fn K mg "onward" XJ ["row","n"])(U4:afJ M)(nA:Gp M)(Zg:ad2 M):Ue M:=by
 delta Hh Hh
 intros v r n rfl hR h1 hN qE q h;refine{_,#[(),(fQ (i:=2) Hh.nd rfl (eG rfl) (-0:)),(fQ (i:=3) Hh.nd rfl (eG rfl) (dR U4 hr rfl #[0,1])),(fQ (i:=4) Hh.nd rfl (eG rfl) (aA nA hr #[0,(_*(bZ K B.bY #[3]):)])),(xR (i:=5) (hN:=Hh.nd) (hi':=rfl) (hx:=(lE rfl)) (sc:=arN) (N:=["m","by","near","numbers"]) (ix:=[none,some 2,some 4,some 3]) cY rfl (gH rfl B.eZ #[(bZ K B.bY #[3])]) (λ_ _ _ _ _=>{(cu 0 cV),dI,(aA Zg hr #[1,3,2,0])})),(aD (dF #[2,-0,(eV (jW K) rfl B.jl boot_tuple #[5])]))],?_};obtain⟨a,p,p2,rfl,hA,hP,hS⟩:=id hR;have hl:=h1.wf.cL;exists (),_,_,.inr (ao.of hA),rfl;refine{(),(),.ref a,r,n,rfl,hR,h1,hN,qE,λhJ bl tj H1 g1 hj=>?_};have q:=q hJ;unfold Rw.on at q;have lR:(Ko r.b r.rule n.toNat).length=r.rule.length:=eU ..;generalize Ko r.b r.rule n.toNat=rs at q bl hj lR;have lJ:(rs.map V.int).length=r.rule.length:=by rw[aC,lR]
 exists (),(),.ref tj,r.rule.length,rfl,.inr {_,ao.of hj,lJ.symm};refine{mulL ∅ ∅,.ref a,r,2*(r.rule.length:Int),rfl,hR.same g1,h1.jT.ok,⋯,⋯,λln H2 g2 fn hn2=>?_};rw[(⋯:(2*(r.rule.length:Int)).toNat=2*r.rule.length)]at hn2;have hj2:=g2 _ _ hj;exists (),.ref tj,r.rule.length,rfl,.inr {_,ao.of hj2,lJ.symm};exists (r.rule.length:Int),rfl,(⋯:-(2^62)<=(r.rule.length:Int)),(⋯:(r.rule.length:Int)<2^62);rw[d7];refine xH (n:=r.rule.length) ⋯ rfl (λm=>tk r.b (ks rs (Pm.co (r.row (2*r.rule.length))) m)) ?_ ?_
 .intro H3 k g3 hk kk hkk;exact{(),(),(),(),r.b,tj,ln,rs,r.row (2*r.rule.length),k,rfl,h1.wf.hB.lo,g3 _ _ hj2,.inl (g3 _ _ hn2),by rw[lR,Rw.su];lia,⋯,λx hx=>(bl x hx).mono ∅,h1.jT.ok.amk _ ⋯,λH4 g4=>hkk _ g4}
 .intro D H3 hD g3 h3;have jh:=g1.trans (g2.trans g3);refine{(),(),_,_,.inr (ao.of (jh _ _ hA)),rfl,(),D,(),.inl {ak.of h3,λt ht=>{(bN 3),λpp hp=>?_}}};have g4:=Same.new ht (.tup ((aV r.rule.length λm=>tk r.b (ks rs (Pm.co (r.row (2*r.rule.length))) m)).map V.int));have g5:=Same.new hp (.tup [.int r.b,.ref p,.ref t]);exact q _ _ (jh.trans (g4.trans g5)) {pp,p,t,rfl,aq,g5 _ _ (g4 _ _ (jh _ _ hP)),g5 _ _ aq}
theorem aub(F:Fn K mg "refuse_prime" aaE ["row"]):adi M:=by
 delta auI auI
 obtain⟨v,r,rfl,⟨a,p,p2,rfl,hA,hR,hS⟩,q1,q2⟩:=h;exists _,(aH (bB (-0!=_:) (aH (qe M.amY rfl #[""])) bH));exists (),_,_,.inr (ao.of hA),rfl,();refine cC (λc=>{(bN 1),q2 λz=>?_}) (λc=>q1 ?_)
 .rw[z]at c;exact absurd c ∅
 .by_cases z:r.b=0
  .exact z
  .exact absurd (by rw[decide_eq_false z];rfl) c
theorem aGD(F:Fn K mg "rest_row" Yu ["row","divisor"])(cH:jN M):adD M:=by
 delta V4
 obtain⟨v,r,d,rfl,⟨a,p,p2,rfl,hA,hR,hS⟩,ok,hd,q⟩:=h;refine{_,#[(),(aG 2 V4.nd (eV (jW K) rfl B.jl boot_tuple #[(fD (sc:=aJ9) (N:=["number","divisor"]) (ix:=[none,some 1]) cY rfl (iD K (-0:)) (λ_ _ _ _ _=>{(cu 0 cV),dI,(aA cH hr #[1,0])}))])),(aG 3 V4.nd (eV (jW K) rfl B.jl boot_tuple #[(fD (sc:=ayG) (N:=["number","divisor"]) (ix:=[none,some 1]) cY rfl (iD K (-0:)) (λ_ _ _ _ _=>{(cu 0 cV),dI,(aA cH hr #[1,0])}))])),(aD (dF #[1,2,3]))],?_};have hl:=ok.len;have hl2:=ok.short;refine{(),_,_,.inr (ao.of hA),rfl,p,rfl,.inr {{_,ao.of hR},JC hR ⋯ rfl (λx=>tk d x) ?_ ?_}}
 .intro H4 x g4 hx kk hk;exact{(),(),d,x,rfl,⋯,hk}
 intro D1 hD1;refine{D1,(),.inl {ak.of aq,λt1 ht1=>?_}};have g1:=(Same.new hD1 (.lst ((r.rule.map λx=>tk d x).map V.int))).trans (Same.new ht1 (.tup ((r.rule.map λx=>tk d x).map V.int)));have h1:(upd (upd H D1 (.lst ((r.rule.map λx=>tk d x).map V.int))) t1 (.tup ((r.rule.map λx=>tk d x).map V.int))) t1=some (.tup ((r.rule.map λx=>tk d x).map V.int)):=aq;have xT:=g1 _ _ hA;have hS1:=g1 _ _ hS;generalize upd (upd H D1 (.lst ((r.rule.map λx=>tk d x).map V.int))) t1 (.tup ((r.rule.map λx=>tk d x).map V.int))=H1 at g1 h1 xT hS1;refine{(),_,_,.inr (ao.of xT),rfl,p2,rfl,.inr {{_,ao.of hS1},JC hS1 ⋯ rfl (λx=>tk d x) ?_ ?_}}
 .intro H4 x g4 hx kk hk;exact{(),(),d,x,rfl,⋯,hk}
 intro D2 hD2;refine{D2,(),.inl {ak.of aq,λt2 jF=>?_}};have g2:=(Same.new hD2 (.lst ((r.starts.map λx=>tk d x).map V.int))).trans (Same.new jF (.tup ((r.starts.map λx=>tk d x).map V.int)));have h2:(upd (upd H1 D2 (.lst ((r.starts.map λx=>tk d x).map V.int))) t2 (.tup ((r.starts.map λx=>tk d x).map V.int))) t2=some (.tup ((r.starts.map λx=>tk d x).map V.int)):=aq;have h1':=g2 _ _ h1;generalize upd (upd H1 D2 (.lst ((r.starts.map λx=>tk d x).map V.int))) t2 (.tup ((r.starts.map λx=>tk d x).map V.int))=H2 at g2 h2 h1';refine{(),(),(),(bN 3),λpz hpz=>?_};have gz:=Same.new hpz (.tup [.int d,.ref t1,.ref t2]);exact q _ _ (g1.trans (g2.trans gz)) {pz,t1,t2,rfl,aq,gz _ _ h1',gz _ _ h2}
theorem aGZ(F:Fn K mg "by_prime" Wk ["row","prime"])(Zz:adi M)(Uh:adD M):Y8 M:=by
 delta aEw aEw
 intros v r d rfl hR ok hd q1 q2 h;exists _,#[(),(iK (dR Zz hr rfl #[0])),(aD (aA Uh hr #[0,1]))];exact{(),v,r,rfl,hR,λz=>{(),(),v,r,d,rfl,hR,ok,hd,q2 z},q1}
theorem atM(F:Fn K mg "is_whole" aa3 ["thing"]):Wc M:=by
 delta aJF
 intros i rfl q h;exists _,(aH (aD (aIR (fH yj rfl B.lH boot_isinstance #[0,(v9 rfl B.V5 boot_int)]) (Qf (afi (fH yj rfl B.lH boot_isinstance #[0,(v9 rfl B.asb boot_bool)]))))));refine{(),.int i,"int","int",rfl,rfl,by simp,(),d9 ?_};exact{(),.int i,"bool","int",rfl,rfl,by simp,(),q}
theorem aNh(F:Fn K mg "is_by" Wm ["thing"])(Ar:Wc M)(zY:W0 M):ab4 M:=by
 delta aOE
 intros b rfl h0 h1 hp q h;exists _,#[(),(bB (PW.pt (jX (gU (gw (aA Ar hr #[0]))) (oH (0>=(rB rfl B.Zr):)))) (aH (aD jy)) bH),(aD (RT (jM (lV K hr) (0:) aN (kE _)) (Qf (aA zY hr #[0]))))];refine{(),b,rfl,(),bK ?_};exists (),"",();rw[decide_eq_false (⋯:¬b≥1000)];refine bK ?_;refine{(),(),cC (λc=>?_) (λc=>?_)}
 .exact q
 .have hb:b≠0:=dec_false c;obtain⟨n,rfl⟩:∃n:Nat,b=(n:Int):={b.toNat,⋯};refine{(),n,rfl,⋯,λz hz=>?_};rw[hz.mpr (by simpa using hp.resolve_left hb)];exact q
theorem aKh(F:Fn K mg "is_number" Vk ["by","thing"])(Ar:Wc M):ahJ M:=by
 delta aM4
 intros b x rfl hn q h;exists _,#[(),(bB (gU (gw (aA Ar hr #[1]))) (aH (aD jy)) bH),(aD (RT (jM (lV K hr) (0:) aN (kE _)) (Qf (ayu anP Qc aN (1:) (0:)))))];refine{(),x,rfl,(),bK ?_};refine{(),(),cC (λc=>q) (λc=>?_)};obtain⟨h0,h1⟩:=hn.cases.resolve_left (dec_false c);exists (),"",();rw[decide_eq_true h0];refine d9 {(),"",?_};rw[decide_eq_true h1];exact q
theorem aN1(F:Fn K mg "are_numbers" Ql ["by","thing"])(Qs:ahJ M):agt M:=by
 delta aJd
 intros b p xs rfl hp hl hn q h;refine{_,#[(),(bB (PW.pt (jX (gU (gw (fH yj rfl B.lH boot_isinstance #[1,(v9 rfl B.jl boot_tuple)]))) (oH ((bZ K B.bY #[1])>(rB rfl B.Np):)))) (aH (aD jy)) bH),(aD (fH (ab9 K rfl) rfl B.aaN boot_all #[(fD (sc:=aI2) (N:=["part","by"]) (ix:=[none,some 0]) cY rfl (iD K (1:)) (λ_ _ _ _ _=>{(cu 0 cV),dI,(aA Qs hr #[1,0])}))]))],?_};have lX:(xs.map V.int).length=xs.length:=aC _;refine{(),.ref p,"tuple","tuple",rfl,by simp only[Gs,hp],by simp,(),bK ?_};exists (),.ref p,xs.length,rfl,.inr {_,ao.of hp,lX.symm},"",();rw[decide_eq_false (⋯:¬(xs.length:Int)>12)];refine bK {(),p,rfl,.inr {{_,ao.of hp},tH (Bl (ao.of hp)) (by rw[lX];exact gW (fZ ⋯)) (rest:=[some (.int b)]) rfl (λ_=>true) (λ_=> .bl true) ?_ ?_ ?_}}
 .intro H2 y g2 hy k hk;exact hk
 .intro H2 y g2 hy _ k hk;obtain⟨x,hx,rfl⟩:=cA.mp hy;exact{(),(),b,x,rfl,hn x hx,hk}
 .intro D hD;refine{D,xs.map λ_=>true,rfl,ak.of (by rw[aq,tX.mpr (by simp),gh,gh];rfl),?_};rw[show(xs.map λ_=>true).all id=true by simp];exact q _ (Same.new hD _)
theorem aLD(F:Fn K mg "is_row" Yx ["thing"])(Ld:agt M)(B3:ab4 M):anI M:=by
 delta O8
 obtain⟨v,r,rfl,⟨a,p,p2,rfl,hA,hP,hS⟩,t,q⟩:=h;exists _,#[(),(bB (PW.pt (jX (gU (gw (fH yj rfl B.lH boot_isinstance #[0,(v9 rfl B.jl boot_tuple)]))) (oH ((bZ K B.bY #[0])!=_:)))) (aH (aD jy)) bH),(aG 1 O8.nd (-0:)),(aG 2 O8.nd (-0:)),(aG 3 O8.nd (-0:)),(bB (PW.pt (jX (gU (gw (aA B3 hr #[1]))) (jX (gU (gw (aA Ld hr #[1,2]))) (oH (gU (gw (aA Ld hr #[1,3]))))))) (aH (aD jy)) bH),(aD (jM (lV K hr) (bZ K B.bY #[2]) (bZ K B.bY #[3]) (kE _)))];have hl:=t.len;have hs:=t.short;refine{(),.ref a,"tuple","tuple",rfl,by simp only[Gs,hA],by simp,(),bK ?_};refine{(),.ref a,3,rfl,.inr {_,ao.of hA,rfl},(),bK ?_};exists (),_,_,.inr (ao.of hA),rfl,(),_,_,.inr (ao.of hA),rfl,(),_,_,.inr (ao.of hA),rfl;refine{(),r.b,rfl,t.jP,t.tu,t.byp,(),bK ?_};refine{(),(),r.b,p,r.rule,rfl,hP,hs,t.rE,λH1 g1=>{(),bK ?_}};refine{(),(),r.b,p2,r.starts,rfl,g1 _ _ hS,⋯,t.pN,λH2 g2=>{(),bK ?_}};have eO:=g1.trans g2;exists (),.ref p,r.rule.length,rfl,.inr {_,ao.of (eO _ _ hP),(aC _).symm},(),.ref p2,r.starts.length,rfl,.inr {_,ao.of (eO _ _ hS),(aC _).symm};show Q (.bl (id (decide ((r.rule.length:Int)=(r.starts.length:Int))))) H2;rw[hl,decide_eq_true rfl];exact q _ eO
theorem aMY(F:Fn K mg "above_all_shown" Wu []):aib M:=by
 delta aEo
 intros rfl q h;exists _,(aH (aD (jB ZD (jB ZD (jB ZD aN aN) aN) aN)));exists "",{∅,∅};exists "",{∅,aNq};exact{"",{∅,aFo},q}
theorem azF(F:Fn K mg "number_shown" Sx ["number"])(Va:aib M):apv M:=by
 delta arF
 intros n rfl hn q h;exists _,#[(),(bB ((fH ahi rfl B.alr boot_abs #[0])>=(aB2 Va hr rfl):) (aH zf) bH),(aD (eV xV rfl B.rT boot_str #[0]))];exists (),n,rfl,rfl,"",();have hlt:¬(((10^50)^8)^10:Int)<=(if n<0 then -n else n):=by
  have:=aBB;have e:(if n<0 then -n else n)=((n.natAbs:Nat):Int):=by split<;>lia
  have e2:((n.natAbs:Nat):Int)<((10^60:Nat):Int):=Int.ofNat_lt.mpr hn;rw[e];have e3:((10^60:Nat):Int)=(10:Int)^60:=by norm_cast
  rw[e3]at e2;lia
 refine cC (λc=>absurd (dec_true c) hlt) (λ_=>?_);exact{(),n,rfl,yR hn,q}
theorem aDB(F:Fn K mg "shown" ZM ["row"])(OG:apv M):Fw M:=by
 delta ape
 obtain⟨v,r,rfl,⟨a,p,p2,rfl,hA,hP,hQ⟩,t,q⟩:=h;refine{_,#[(),(xR (i:=1) (hN:=ape.nd) (hi':=rfl) (hx:=(lE rfl)) (sc:=aDc) (N:=["number"]) (ix:=[none]) cY rfl (iD K (-0:)) (λ_ _ _ _ _=>{(cu 0 cV),dI,(aA OG hr #[0])})),(iK (sH K (1:) iu)),(iK (aFE K (1:) (fD (sc:=aHC) (N:=["number"]) (ix:=[none]) cY rfl (iD K (-0:)) (λ_ _ _ _ _=>{(cu 0 cV),dI,(aA OG hr #[0])})))),(bB (-0!=_:) #[(),(iK (sH K (1:) iu)),(iK (sH K (1:) (eV xV rfl B.rT boot_str #[-0])))] bH),(aD (qP K uY Ea Gq Ef iu (1:)))],?_};have hl:=t.len;have hs:=t.short;have hb:=And.intro t.jP t.tu;refine{(),_,_,.inr (ao.of hA),rfl,p,rfl,.inr {{_,ao.of hP},akY hP ⋯ rfl ?_ ?_}}
 .intro H2 x g2 hx k hk;exact{(),x,rfl,t.j5 x hx,hk}
 intro D hD;have g1:=Same.new hD (.lst ((r.rule.map aJ).map V.str));have h1:(upd H D (.lst ((r.rule.map aJ).map V.str))) D=some (.lst ((r.rule.map aJ).map V.str)):=aq;generalize upd H D (.lst ((r.rule.map aJ).map V.str))=H1 at g1 h1;refine{(),.inl {rfl,_,ak.of h1},D,"",h1,by rw[aC,aC];exact fZ ⋯,?_};have g2:=g1.upd hD (.lst ((r.rule.map aJ).map V.str++[.str (jq "|")]));have h2:(upd H1 D (.lst ((r.rule.map aJ).map V.str++[.str (jq "|")]))) D=some (.lst ((r.rule.map aJ++[Tx.bar]).map V.str)):=by rw[aq,gR,adL];rfl
 generalize upd H1 D (.lst ((r.rule.map aJ).map V.str++[.str (jq "|")]))=H2 at g2 h2;refine{(),.inl {rfl,_,ak.of h2},(),_,_,.inr (ao.of (g2 _ _ hA)),rfl,p2,rfl,.inr {{_,ao.of (g2 _ _ hQ)},akY (g2 _ _ hQ) ⋯ rfl ?_ ?_}}
 .intro H3 x g3 hx k hk;exact{(),x,rfl,t.lu x hx,hk}
 intro D2 hD2;have g3:=Same.new hD2 (.lst ((r.starts.map aJ).map V.str));have h3:(upd H2 D2 (.lst ((r.starts.map aJ).map V.str))) D2=some (.lst ((r.starts.map aJ).map V.str)):=aq;have h2':=g3 _ _ h2;generalize upd H2 D2 (.lst ((r.starts.map aJ).map V.str))=H3 at g3 h3 h2';refine{D,D2,"",h2',h3,by rw[aC,aC,fP,aC,aC];exact gW (fZ (by show _+1+_<=1000;lia)),?_};have g4:=(g2.trans g3).upd hD (.lst ((r.rule.map aJ++[Tx.bar]).map V.str++(r.starts.map aJ).map V.str));have h4:(upd H3 D (.lst ((r.rule.map aJ++[Tx.bar]).map V.str++(r.starts.map aJ).map V.str))) D=some (.lst ((r.rule.map aJ++Tx.bar::r.starts.map aJ).map V.str)):=by rw[aq,<-gR,abD];rfl
 generalize upd H3 D (.lst ((r.rule.map aJ++[Tx.bar]).map V.str++(r.starts.map aJ).map V.str))=H4 at g4 h4;have l4:((r.rule.map aJ++Tx.bar::r.starts.map aJ).map V.str).length=r.rule.length+(r.starts.length+1):=by rw[aC,fP,aC,kO,aC]
 exists (),_,_,.inr (ao.of (g4 _ _ hA)),rfl,();refine cC (λc=>?_) (λc=>?_)
 .have hb0:r.b>0:=by
   by_cases z:r.b=0
   .rw[z]at c;exact absurd c ∅
   .lia
  refine{(),.inl {rfl,_,ak.of h4},D,"",h4,by rw[l4];exact fZ ⋯,?_};have g5:=g4.upd hD (.lst ((r.rule.map aJ++Tx.bar::r.starts.map aJ).map V.str++[.str (jq "by")]));have h5:(upd H4 D (.lst ((r.rule.map aJ++Tx.bar::r.starts.map aJ).map V.str++[.str (jq "by")]))) D=some (.lst ((r.rule.map aJ++Tx.bar::r.starts.map aJ).map V.str++[.str nO])):=by rw[aq,Q7]
  generalize upd H4 D (.lst ((r.rule.map aJ++Tx.bar::r.starts.map aJ).map V.str++[.str (jq "by")]))=H5 at g5 h5;refine{(),.inl {rfl,_,ak.of h5},(),_,_,.inr (ao.of (g5 _ _ hA)),rfl,r.b,rfl,yR t.vM,D,"",h5,by rw[fP,l4];exact fZ (by show _+1<=1000;lia),?_};refine{rfl,(),_,D,Tx.wordsOf r.b r.rule r.starts,rfl,rfl,?_,?_,?_}
  .rw[aq,Tx.wordsOf,j8,if_pos hb0,abD];simp[aJ]
  .rw[nG];exact t.join
  .rw[nG];exact q _ (g5.upd hD _)
 .have hb0:r.b=0:=by
   by_cases z:r.b=0
   .exact z
   .exact absurd (by rw[decide_eq_false z];rfl) c
  refine{rfl,(),_,D,Tx.wordsOf r.b r.rule r.starts,rfl,rfl,?_,?_,?_}
  .rw[h4,Tx.wordsOf,j8,if_neg ⋯,pG]
  .rw[nG];exact t.join
  .rw[nG];exact q _ g4
theorem aPL(F:Fn K mg "is_written" Vx ["word"]):ag7 M:=by
 delta agw
 intros w rfl hw q h;refine{_,#[(),(aG 1 agw.nd (YL (JL (gw (qP K uY akn adG aqp (0:) iu)) (jD Mt (0:) (jQ aN) jH) (0:)))),(bB (PW.pt (jX ((bZ K B.bY #[1])<_:) (oH ((bZ K B.bY #[1])>(rB rfl B.abl):)))) (aH (aD jy)) bH),(bB (gU (gw (fH (ab9 K rfl) rfl B.aaN boot_all #[(fD (sc:=auD) (N:=["figure"]) (ix:=[none]) cY rfl (anR (1:)) (λ_ _ _ _ _=>{(cu 0 cV),dI,(jM aiX (0:) (aql rfl B.QM) (by with_unfolding_all rfl))}))]))) (aH (aD jy)) bH),(aD (RT (jM (lV K hr) (0:) iu (kE _)) (Qf (afi (qP K uY akn adG aqp (1:) iu)))))],?_};have h100:(100000:Nat)<=sizeLine:=∅;have hwl:=Wr.len hw;obtain⟨c1,c2,hd,h0⟩:=(aEX w).mp hw;refine Bar.by (λv H1=>H1=H/\∃z:Str,v = .str z/\z.cps.toList=iI w) (λkk hkk=>?_) ?_
 .exists (),rfl,w,(),rfl,();rw[az4,agM];refine cC (λc=>?_) (λc=>?_)
  .refine{(),(),w,rfl,⋯,hkk _ _ {rfl,(),?_}};unfold iI;rw[if_pos (dec_true c)];exact adS w 1
  .refine{(),hkk _ _ {rfl,w,rfl,?_}};unfold iI;rw[if_neg (dec_false c)]
 rintro v H1 ⟨rfl,z,rfl,hz⟩;have zl:z.length=(iI w).length:=by rw[<-hz];simp[vh]
 exists (),.str z,z.length,rfl,{⋯,rfl},"",();rw[decide_eq_false (⋯:¬(z.length:Int)<1)];refine bK {(),.str z,z.length,rfl,{⋯,rfl},"",(),?_};rw[decide_eq_false (⋯:¬(z.length:Int)>60)];refine bK {(),z,rfl,?_};refine tH ai6 (by rw[aC,hz];lia) rfl (λ_=>true) (λ_=> .bl true) ?_ ?_ ?_
 .intro H2 x g2 hx k hk;exact hk
 .intro H2 x g2 hx _ k hk;obtain⟨ch,hch,rfl⟩:=cA.mp hx;exists (),"";rw[agx,aJD,decide_eq_true (hd ch (hz▸hch))];exact hk
 intro D hD;refine{D,z.cps.toList.map λ_=>true,rfl,ak.of (by rw[aq,tX.mpr (by simp),gh,gh];rfl),?_};have gD:=Same.new hD (.lst (((z.cps.toList.map λc=>V.str {{([c])}}).filter λ_=>true).map λ_=>V.bl true));rw[show(z.cps.toList.map λ_=>true).all id=true by simp];refine{(),bK ?_};refine{(),(),cC (λc=>q _ gD) (λc=>?_)};exists (),rfl,z,(),rfl;rw[hz]at gD⊢;rw[aqN,agM,hz,decide_eq_false (h0.resolve_left λy=>dec_false c (PySem.Str.ext' (KL.mp (by rw[y,aqN];rfl))))];exact{(),q _ gD}
theorem aB7(F:Fn K mg "read_number" X8 ["word"])(abO:ag7 M):N7 M:=by
 delta aFV aFV
 intros w rfl hw q h;exists _,#[(),(bB (gU (gw (aA abO hr #[0]))) (aH (qe M.Jg rfl #[""])) bH),(aD (eV axf rfl B.V5 boot_int #[0]))];refine{(),w,rfl,hw,λH1 g1=>{(),bK ?_}};have:=Wr.len hw;exact{(),w,(),hw.val.1,⋯,q H1 g1}
theorem aO1(F:Fn K mg "read_prime" X5 ["word"])(rJ:N7 M)(B3:ab4 M):Uw M:=by
 delta agr agr
 intros w p rfl hw e hp hp1 q h;exists _,#[(),(aG 1 agr.nd (dR rJ hr rfl #[0])),(bB (PW.pt (jX (1==_:) (oH (gU (gw (aA B3 hr #[1])))))) (aH (qe M.Jg rfl #[""])) bH),(aD (1:))];refine{(),w,rfl,hw,λH1 g1=>?_};have h2:=hp.1;rw[e];exists (),();rw[decide_eq_false (⋯:¬(p:Int)=0)];refine bK {(),(p:Int),rfl,⋯,⋯,.inr (by rw[d7];exact hp),(),bK ?_};exact{(),q H1 g1}
theorem az1(F:Fn K mg "read_words" aaV ["rule_words","start_words","by"])(rJ:N7 M)(aa6:anI M):afg M:=by
 delta PL PL
 intros a1 a2 r rfl hA hB t q h;refine{_,#[(),(aG 3 PL.nd (eV (jW K) rfl B.jl boot_tuple #[(ah7 Vo (sc:=aw9) (N:=["word"]) (ix:=[none]) cY rfl (iD K (0:)) (λ_ _ _ _ _=>{(cu 0 cV),dI,(XR rJ hr rfl #[0])}))])),(aG 4 PL.nd (eV (jW K) rfl B.jl boot_tuple #[(ah7 Vo (sc:=azh) (N:=["word"]) (ix:=[none]) cY rfl (iD K (1:)) (λ_ _ _ _ _=>{(cu 0 cV),dI,(XR rJ hr rfl #[0])}))])),(aG 5 PL.nd (dF #[2,3,4])),(bB (gU (gw (aA aa6 hr #[5]))) (aH (qe M.Jg rfl #[""])) bH),(aD (5:))],?_};have hl:=t.len;have hs:=t.short;refine{(),a1,rfl,.inl {{_,ak.of hA},ahK hA ⋯ t.j5 rfl (λH2 w hw k hk=>{(),w,rfl,hw,hk}) ?_}};intro D H1 hD g1 h1;refine{D,(),.inl {ak.of h1,λt1 ht1=>?_}};have g2:=Same.new ht1 (.tup (r.rule.map V.int));have h2:(upd H1 t1 (.tup (r.rule.map V.int))) t1=some (.tup (r.rule.map V.int)):=aq;generalize upd H1 t1 (.tup (r.rule.map V.int))=H2 at g2 h2;have eO:=g1.trans g2;refine{(),a2,rfl,.inl {{_,ak.of (eO _ _ hB)},ahK (eO _ _ hB) ⋯ t.lu rfl (λH3 w hw k hk=>{(),w,rfl,hw,hk}) ?_}};intro D2 H3 hD2 g3 h3;refine{D2,(),.inl {ak.of h3,λt2 jF=>?_}};have g4:=Same.new jF (.tup (r.starts.map V.int));refine{(),(),(),(bN 3),λt3 zm=>?_};have g5:=Same.new zm (.tup [.int r.b,.ref t1,.ref t2]);have hR:bQ (upd (upd H3 t2 (.tup (r.starts.map V.int))) t3 (.tup [.int r.b,.ref t1,.ref t2])) (.ref t3) r:={t3,t1,t2,rfl,aq,(g3.trans (g4.trans g5)) _ _ h2,g5 _ _ aq};have gA:=eO.trans (g3.trans (g4.trans g5));generalize upd (upd H3 t2 (.tup (r.starts.map V.int))) t3 (.tup [.int r.b,.ref t1,.ref t2])=H5 at hR gA;exact{(),_,r,rfl,hR,t,λH6 g6=>{(),bK {(),q _ H6 (gA.trans g6) (hR.same g6)}}}
theorem asT(F:Fn K mg "read" Rh ["text"])(Oi:afg M)(Cg:Uw M):aho M:=by
 delta Eh Eh
 intros r rfl t q h;exists _,#[(),(bB (gU (gw (fH yj rfl B.lH boot_isinstance #[0,(v9 rfl B.rT boot_str)]))) (aH (qe M.Jg rfl #[""])) bH),(aG 1 Eh.nd (qP K uY ajQ apx acJ (0:) iu)),(bB ((qP K Ph PySem.F.slot_list_count PySem.F.type_list_count aB9 (1:) iu)!=_:) (aH (qe M.Jg rfl #[""])) bH),(aG 2 Eh.nd (qP K Ph PySem.F.slot_list_index PySem.F.type_list_index aME (1:) iu)),(aG 3 Eh.nd (jD (m6 K) (1:) (jQ (2+_:)) jH)),(aG 4 Eh.nd ((bZ K B.bY #[3])-_:)),(bB (PW.pt (rP (4>=_:) (uc ((aL K (3:) (4:))=="":)))) (aH (aD (dR Oi hr rfl #[(jD (m6 K) (1:) jH (jQ (2:))),(jD (m6 K) (3:) jH (jQ (4:))),(dR Cg hr rfl #[(aL K (3:) (4+_:))])]))) bH),(aD (dR Oi hr rfl #[(jD (m6 K) (1:) jH (jQ (2:))),3,_]))];have hl:=t.len;have hs:=t.short;have b0:=t.jP;have tl:=t.OL;refine{(),.str (txt r),"str","str",rfl,rfl,by simp,(),bK ?_};refine{(),rfl,txt r,(),rfl,by rw[nG];rfl,⋯,λD hD=>?_};rw[nG,aIA];have g1:=Same.new hD (.lst ((Tx.wordsOf r.b r.rule r.starts).map V.str));have h1:(upd H D (.lst ((Tx.wordsOf r.b r.rule r.starts).map V.str))) D=some (.lst ((Tx.wordsOf r.b r.rule r.starts).map V.str)):=aq;generalize upd H D (.lst ((Tx.wordsOf r.b r.rule r.starts).map V.str))=H1 at g1 h1;have hc:=ari r.b r.rule r.starts;have ht:=aFr r.b r.rule r.starts;have hdp:=aKH r.b r.rule r.starts;obtain⟨j,hj,hno⟩:=aNT hc;have ej:=aCx hj;generalize Tx.wordsOf r.b r.rule r.starts=ws at h1 hc ht hdp hj hno;exists (),.inl {rfl,_,ak.of h1},D,ws,(),rfl,h1,();rw[adL,hc];refine bK ?_;exists (),.inl {rfl,_,ak.of h1},D,ws,_,j,rfl,rfl,h1,hj,hno;refine{(),(),(),.inl {_,ak.of h1,λD2 hD2=>?_}};have aFL:fY (ws.map V.str) (some ((j:Int)+1)) none=(r.starts.map aJ++j8 r.b).map V.str:=by rw[aud,ej,<-List.map_drop,hdp]
 have eA:fY (ws.map V.str) none (some (j:Int))=(r.rule.map aJ).map V.str:=by rw[vU,ej,<-vH,ht]
 rw[aFL];have g2:=Same.new hD2 (.lst ((r.starts.map aJ++j8 r.b).map V.str));have h2:(upd H1 D2 (.lst ((r.starts.map aJ++j8 r.b).map V.str))) D2=some (.lst ((r.starts.map aJ++j8 r.b).map V.str)):=aq;have h1':=g2 _ _ h1;generalize upd H1 D2 (.lst ((r.starts.map aJ++j8 r.b).map V.str))=H2 at g2 h2 h1';have eO:=g1.trans g2;generalize hbh:r.starts.map aJ++j8 r.b=bh at h2;have lb:(bh.map V.str).length=bh.length:=aC _;exists (),.ref D2,bh.length,rfl,.inl {_,ak.of h2,lb.symm},"";by_cases c0:r.b>0
 .have yU:bh=r.starts.map aJ++[nO,aJ r.b]:=by rw[<-hbh,j8,if_pos c0]
  have lbh:bh.length=r.starts.length+2:=by rw[yU,fP,aC];rfl
  have x1:bh[bh.length-2]?=some nO:=by rw[lbh,yU,List.getElem?_append_right (by rw[aC];lia),aC,ji,CY];rfl
  have x2:bh[bh.length-1]?=some (aJ r.b):=by rw[lbh,yU,List.getElem?_append_right (by rw[aC];lia),aC,(⋯:r.starts.length+2-1-r.starts.length=1)];rfl
  have eB:fY (bh.map V.str) none (some ((bh.length:Int)-2))=(r.starts.map aJ).map V.str:=by
   rw[(⋯:(bh.length:Int)-2=((r.starts.length:Nat):Int)),vU,yU,<-vH,aoh (by rw[aC];exact bO _),tM (by rw[aC];exact bO _)]
  exists (),"",();rw[decide_eq_true (⋯:(bh.length:Int)-2≥0)];refine d9 {(),(),_,.str nO,.inl (ak.of h2),Qm (bh.length-2) ⋯ (by rw[List.getElem?_map,x1];rfl),(),?_};rw[Q7,decide_eq_true rfl];refine d9 {(),(),(),.inl {_,ak.of h1',λD3 zx=>?_}};rw[eA];have g3:=Same.new zx (.lst ((r.rule.map aJ).map V.str));have h3:(upd H2 D3 (.lst ((r.rule.map aJ).map V.str))) D3=some (.lst ((r.rule.map aJ).map V.str)):=aq;have h2':=g3 _ _ h2;generalize upd H2 D3 (.lst ((r.rule.map aJ).map V.str))=H3 at g3 h3 h2';refine{(),(),(),.inl {_,ak.of h2',λD4 Ux=>?_}};rw[eB];have g4:=Same.new Ux (.lst ((r.starts.map aJ).map V.str));have h4:(upd H3 D4 (.lst ((r.starts.map aJ).map V.str))) D4=some (.lst ((r.starts.map aJ).map V.str)):=aq;have h3':=g4 _ _ h3;have alJ:=g4 _ _ h2';generalize upd H3 D4 (.lst ((r.starts.map aJ).map V.str))=H4 at g4 h4 h3' alJ;have Mx:=eO.trans (g3.trans g4);have hp:=t.byp.resolve_left ⋯;have b1:=t.tu;refine{(),(),_,.str (aJ r.b),.inl (ak.of alJ),Qm (bh.length-1) ⋯ (by rw[List.getElem?_map,x2];rfl),_,r.b.toNat,rfl,yE t.vM,by rw[K9 t.vM];lia,hp,⋯,λH5 g5=>?_};exact{D3,D4,r,by rw[Pu b0];rfl,g5 _ _ h3',g5 _ _ h4,t,λv H6 g6 hR=>q v H6 (Mx.trans (g5.trans g6)) hR}
 .have e0:r.b=0:=⋯;have yU:bh=r.starts.map aJ:=by rw[<-hbh,j8,if_neg c0,pG]
  have fin:∀H3 D3,Same H2 H3->H3 D3=some (.lst ((r.rule.map aJ).map V.str))->aeC [.ref D3,.ref D2,.int 0] H3 Q E:=λH3 D3 g3 h3=>
   {D3,D2,r,by rw[e0],h3,by rw[<-yU];exact g3 _ _ h2,t,λv H4 g4 hR=>q v H4 (eO.trans (g3.trans g4)) hR}
  refine{(),"",(),cC (λc=>?_) (λc=>?_)}
  .have h2l:2<=bh.length:=by have:=dec_true c;lia
   have hx:(bh.map V.str)[bh.length-2]?=some (.str bh[bh.length-2]):=by rw[List.getElem?_map,List.getElem?_eq_getElem ⋯];rfl
   exists (),(),_,_,.inl (ak.of h2),Qm (bh.length-2) ⋯ hx,();rw[Q7];refine cC (λc2=>?_) (λc2=>?_)
   .have:bh[bh.length-2]=nO:=dec_true c2;exact absurd (by rw[<-this,<-yU];exact Cy _) (atD (rule:=r.starts))
   .refine{(),(),(),.inl {_,ak.of h1',λD3 zx=>?_}};rw[eA];exact{(),fin _ D3 (Same.new zx _) aq}
  .refine{(),(),(),.inl {_,ak.of h1',λD3 zx=>?_}};rw[eA];exact{(),fin _ D3 (Same.new zx _) aq}
theorem aFO(F:Fn K mg "words_of" abF ["text"]):agn M:=by
 delta aqm
 obtain⟨t,ws,rfl,⟨hl,hs⟩,q⟩:=h;exists _,#[(),(bB (gU (gw (fH yj rfl B.lH boot_isinstance #[0,(v9 rfl B.rT boot_str)]))) (aH zf) bH),(aG 1 aqm.nd (qP K uY ajQ apx acJ (0:) iu)),(bB (PW.pt (rP (-1=="":) (uc ((bZ K B.bY #[1])>_:)))) (aH (aD ((jD (m6 K) (1:) jH (jQ aN))+(fK #[(qP K uY Ea Gq Ef iu (jD (m6 K) (1:) (jQ aN) jH))]):))) bH),(aD (1:))];refine{(),.str t,"str","str",rfl,rfl,by simp,(),bK ?_};refine{(),rfl,t,(),rfl,by rw[nG];rfl,⋯,λD hD=>?_};rw[nG];generalize eo:FT t (Tx.one 32)=os at hs;have g1:=Same.new hD (.lst (os.map V.str));have h1:(upd H D (.lst (os.map V.str))) D=some (.lst (os.map V.str)):=aq;generalize upd H D (.lst (os.map V.str))=H1 at g1 h1;rcases hs with⟨rfl,w,r,rfl,hw⟩|⟨n,r,hr8,rfl,rfl⟩
 .exists (),_,_,.inl (ak.of h1),at0,();rw[decide_eq_false hw];exact bK {(),q D H1 g1 h1}
 .exists (),_,_,.inl (ak.of h1),at0,();rw[decide_eq_true rfl];have hne:(Tx.wordsOf r.b r.rule r.starts).length≠0:=λz=>Y7 (amI.mp z);refine d9 {(),.ref D,(nB::n::Tx.wordsOf r.b r.rule r.starts).length,rfl,.inl {_,ak.of h1,(aC _).symm},"",(),?_};rw[decide_eq_true (by show(((Tx.wordsOf r.b r.rule r.starts).length+1+1:Nat):Int)>2;lia)];refine d9 ?_;refine{(),(),.inl {_,ak.of h1,λD2 hD2=>?_}};have e2:fY ((nB::n::Tx.wordsOf r.b r.rule r.starts).map V.str) none (some 2)=[nB,n].map V.str:=vU _ 2;rw[e2];have g2:=Same.new hD2 (.lst ([nB,n].map V.str));have h2:(upd H1 D2 (.lst ([nB,n].map V.str))) D2=some (.lst ([nB,n].map V.str)):=aq;have h1':=g2 _ _ h1;generalize upd H1 D2 (.lst ([nB,n].map V.str))=H2 at g2 h2 h1';refine{rfl,(),(),.inl {_,ak.of h1',λD3 zx=>?_}};have e3:fY ((nB::n::Tx.wordsOf r.b r.rule r.starts).map V.str) (some 2) none=(Tx.wordsOf r.b r.rule r.starts).map V.str:=QG _ 2;rw[e3];exists _,D3,Tx.wordsOf r.b r.rule r.starts,rfl,rfl,aq,hr8.join;have g3:=Same.new zx (.lst ((Tx.wordsOf r.b r.rule r.starts).map V.str));have h2':=g3 _ _ h2;generalize upd H2 D3 (.lst ((Tx.wordsOf r.b r.rule r.starts).map V.str))=H3 at g3 h2';refine{(bN 1),λD4 Ux=>?_};have g4:=Same.new Ux (.lst [.str (txt r)]);refine .inl {_,[.str (txt r)],g4 _ _ h2',aq,(bN 3),λD5 hD5=>?_};exact q D5 _ (g1.trans (g2.trans (g3.trans (g4.trans (Same.new hD5 _))))) aq
theorem aMn(F:Fn K mg "kinds_of" Vi ["words"]):agl M:=by
 delta Lg
 obtain⟨l,w,ws,k0,rfl,hl,⟨hm,hn⟩,q⟩:=h;refine{_,#[(),(bB (vQ (aAA D.akJ K rfl (-0:))) (aH zf) bH),(aG 1 Lg.nd (aNI D.akJ K rfl (-0:) (λ_ _=>rfl))),(aG 2 Lg.nd ((bZ K B.bY #[0])-_:)),(oM (bB (PW.pt (rP (-0=="":) (uc (aHf Qc Qc (bZ K B.bY #[1]) (2:) ((bZ K B.bY #[1])+(rB rfl B.ZC):))))) (aH (aG 1 Lg.nd (1+(jB (aN9 K) (dF #[""]) (2-(bZ K B.bY #[1]):)):))) bH)),(bB (2!=(bZ K B.bY #[1]):) (aH zf) bH),(aD (1:))],?_};obtain⟨t,et,ht⟩:=D.aHy.at_ _ hm;obtain⟨f4,Xx⟩:=aoP _ hm;replace f4:k0.length<=4:=f4;replace Xx:k0≠[]:=Xx;have lw:((w::ws).map V.str).length=ws.length+1:=aC _;have lk:(k0.map V.str).length=k0.length:=aC _;refine{(),_,_,.inl (ak.of hl),at0,_,(),et,(),bK ?_};exists (),_,_,.inl (ak.of hl),at0,_,(),et;exists (),.ref l,ws.length+1,rfl,.inl {_,ak.of hl,lw.symm},"";have ec:((ws.length+1:Nat):Int)-1=(ws.length:Int):=⋯;rw[ec];refine lW.by (λσ' H'=>∃t',σ'=[some (.ref l),some (.ref t'),some (.int ws.length)]/\Same H H'/\ao K H' t' ((k0++cO (ws.length-k0.length) ug).map V.str)) (λNN eE=>?_) ?_
 .have same:ws.length<=k0.length->NN [some (.ref l),some (.ref t),some (.int ws.length)] H:=λz=>eE _ _ {t,rfl,Same.refl _,by
   rw[(⋯:ws.length-k0.length=0),List.replicate_zero,pG];exact ht H}
  refine{(),_,_,.inl (ak.of hl),at0,(),cC (λc=>?_) (λc=>?_)}
  .exists (),.ref t,k0.length,rfl,.inr {_,ht H,lk.symm},(),"",();refine cC (λc1=>?_) (λc1=>?_)
   .have c1':=dec_true c1;have hn':ws.length<k0.length+12:=by rcases hn with z|⟨_,_,z⟩<;>lia
    exists (),.ref t,k0.length,rfl,.inr {_,ht H,lk.symm},"",();rw[decide_eq_true (⋯:(ws.length:Int)<(k0.length:Int)+12)];refine d9 {(),(bN 1),λp hp=>?_};have gp:=Same.new hp (.tup [.str "NUMBER"]);exists (),(),.ref t,k0.length,rfl,.inr {_,ht _,lk.symm},"";refine axy (ao.of aq) ⋯ ⋯ (by show 1*_<=_;lia) λs H1 g1 hs1=>?_;have er:(cO ((ws.length:Int)-(k0.length:Int)).toNat [V.str "NUMBER"]).flatten=(cO (ws.length-k0.length) ug).map V.str:=by
     rw[(⋯:((ws.length:Int)-(k0.length:Int)).toNat=ws.length-k0.length),List.flatten_replicate_singleton,adf]
    rw[er]at hs1;have lr:((cO (ws.length-k0.length) ug).map V.str).length=ws.length-k0.length:=by rw[aC,acf]
    refine .inr {_,_,ht H1,hs1,by rw[lk,lr];exact cT (⋯:k0.length+(ws.length-k0.length)<=1000) ∅,λz=>absurd (List.map_eq_nil_iff.mp z) Xx,λ_ z=>?_,λ_ _ p2 hp2=>?_}
    .have:(0:Nat)=ws.length-k0.length:=by rw[<-lr,z];rfl
     lia
    .exact eE _ _ {p2,rfl,gp.trans (g1.trans (Same.new hp2 _)),by rw[gR];exact ao.of aq}
   .refine{(),bK (same ?_)};have:=dec_false c1;lia
  .refine bK (same ?_);rcases hn with z|⟨z,_⟩
   .lia
   .exact absurd z (dec_false c)
 .rintro σ' H' ⟨t',rfl,g',ht'⟩;have lq:((k0++cO (ws.length-k0.length) ug).map V.str).length=ws.length:=by
   rw[aC,fP,acf];rcases hn with z|⟨_,z,_⟩<;>lia
  exists (),(),.ref t',ws.length,rfl,.inr {_,ht',lq.symm},();rw[decide_eq_true rfl];exact bK {(),q t' H' g' ht'}
theorem axC(F:Fn K mg "read_name" Yi ["word"]):Rt M:=by
 delta azp
 obtain⟨s,rfl,⟨lo,hi,hd⟩,q⟩:=h;refine{_,#[(),(bB (PW.pt (jX ((bZ K B.bY #[0])<_:) (jX ((bZ K B.bY #[0])>(rB rfl B.acu):) (oH (gU (gw (fH (ab9 K rfl) rfl B.aaN boot_all #[(fD (sc:=aG0) (N:=["sign"]) (ix:=[none]) cY rfl (anR (0:)) (λ_ _ _ _ _=>{(cu 0 cV),dI,(jM aiX (0:) (aql rfl B.Wb) (by with_unfolding_all rfl))}))]))))))) (aH zf) bH),(aD (0:))],?_};have h100:(100000:Nat)<=sizeLine:=∅;exists (),.str s,s.length,rfl,{⋯,rfl},"",();rw[decide_eq_false (⋯:¬(s.length:Int)<1)];refine bK {(),.str s,s.length,rfl,{⋯,rfl},"",(),?_};rw[decide_eq_false (⋯:¬(s.length:Int)>8)];have zl:s.cps.toList.length=s.length:=by simp[vh]
 refine bK {(),s,rfl,?_};refine tH ai6 (by rw[aC];lia) rfl (λ_=>true) (λ_=> .bl true) ?_ ?_ ?_
 .intro H2 x g2 hx k hk;exact hk
 .intro H2 x g2 hx _ k hk;obtain⟨ch,hch,rfl⟩:=cA.mp hx;exists (),"";rw[agx,akv,decide_eq_true (hd ch hch)];exact hk
 intro D' hD;refine{D',s.cps.toList.map λ_=>true,rfl,ak.of (by rw[aq,tX.mpr (by simp),gh,gh];rfl),?_};have gD:=Same.new hD (.lst (((s.cps.toList.map λc=>V.str {{([c])}}).filter λ_=>true).map λ_=>V.bl true));rw[show(s.cps.toList.map λ_=>true).all id=true by simp];exact{(),bK {(),q _ gD}}
theorem axY(F:Fn K mg "row_named" VB ["kept","word"])(Ak:Rt M):afK M:=by
 delta apA apA
 intros d s M' N rfl hs hk q1 q2 h;refine{_,#[(),(aG 2 apA.nd (aA Ak hr #[1])),(bB (vQ (Ox hr.hu (2:) (0:))) (aH (qe M.aF0 rfl #[""])) bH),(aD (Bu hr.hu (0:) (2:) (λ_ _=>rfl)))],?_};refine{(),s,rfl,hs,λH1 g1=>?_};rcases(hk.same g1).get s with⟨v,r,hg,hm,hR⟩|⟨hg,hm⟩
 .refine{(),(),d,(),hg,(),bK ?_};exact{(),(),d,v,rfl,hg,q1 r hm v H1 g1 hR}
 .refine{(),(),d,(),hg,(),d9 ?_};exact{(bN 1),q2 hm H1 g1}
theorem aJZ(F:Fn K mg "read_word" XE ["kept","kind","word"])(Ak:Rt M)(TY:afK M)(rJ:N7 M)(Cg:Uw M)(UY:aho M):afZ M:=by
 delta aLu aLu
 intros d x M' N rfl ok hk q1 q2 h;exists _,#[(),(bB (1=="":) (aH (aD (aA Ak hr #[2]))) bH),(bB (1=="":) (aH (aD (dR TY hr rfl #[0,2]))) bH),(bB (1=="":) (aH (aD (dR rJ hr rfl #[2]))) bH),(bB (1=="":) (aH (aD (dR Cg hr rfl #[2]))) bH),(aD (dR UY hr rfl #[2]))];exists (),();cases x with
 |nw s=>
  rw[show decide (Wa.kind (.nw s) = "NEW")=true from decide_eq_true rfl];exact d9 {(),s,rfl,ok,λH1 g1=>q1 _ H1 g1 (.inl {s,rfl,(rfl)})}
 |a s=>
  rw[show decide (Wa.kind (.a s) = "NEW")=false from decide_eq_false sAN];refine bK {(),(),?_};rw[show decide (Wa.kind (.a s) = "A")=true from decide_eq_true rfl];exact d9 {(),(),d,s,M',N,rfl,ok,hk,λr hr v H1 g1 hR=>q1 v H1 g1 (.inr {.row r,by show(M' s).map Dt.row=_;rw[hr];rfl,hR}),λhn=>q2 {s,rfl,(hn)}}
 |num i=>
  rw[show decide (Wa.kind (.num i) = "NEW")=false from decide_eq_false sUN];refine bK {(),(),?_};rw[show decide (Wa.kind (.num i) = "A")=false from decide_eq_false sUA];refine bK {(),(),?_};rw[show decide (Wa.kind (.num i) = "NUMBER")=true from decide_eq_true rfl];refine d9 {(),(),yE ok,λH1 g1=>?_};rw[show m9 (Wa.num i).word=i from K9 ok];exact q1 _ H1 g1 (.inr {.int i,rfl,rfl})
 |by_ p=>
  rw[show decide (Wa.kind (.by_ p) = "NEW")=false from decide_eq_false sBN];refine bK {(),(),?_};rw[show decide (Wa.kind (.by_ p) = "A")=false from decide_eq_false sBA];refine bK {(),(),?_};rw[show decide (Wa.kind (.by_ p) = "NUMBER")=false from decide_eq_false sBU];refine bK {(),(),?_};rw[show decide (Wa.kind (.by_ p) = "BY")=true from decide_eq_true rfl];intros n rfl hn h1 ok;have h60:((n:Int)).natAbs<10^60:=Bw (⋯:(n:Int).natAbs<1000) ∅;exact d9 {(),_,n,rfl,yE h60,K9 h60,hn,h1,λH1 g1=>q1 _ H1 g1 (.inr {.int n,rfl,rfl})}
 |txt r=>
  rw[show decide (Wa.kind (.txt r) = "NEW")=false from decide_eq_false sTN];refine bK {(),(),?_};rw[show decide (Wa.kind (.txt r) = "A")=false from decide_eq_false sTA];refine bK {(),(),?_};rw[show decide (Wa.kind (.txt r) = "NUMBER")=false from decide_eq_false sTU];refine bK {(),(),?_};rw[show decide (Wa.kind (.txt r) = "BY")=false from decide_eq_false sTB];exact bK {(),r,rfl,ok,λv H1 g1 hR=>q1 v H1 g1 (.inr {.row r,rfl,hR})}
theorem avS(F:Fn K mg "tell_show" aa0 ["said"])(oV:Fw M):ah4 M:=by
 delta awU
 intros r v l xs rfl hl hR ht q h;exists _,(aH (aD (aA oV hr #[-0])));exact{(),_,v,.inl (ak.of hl),at0,v,r,rfl,hR,ht,q}
theorem aEY(F:uz K cM "__init__" "Desk.__init__" ab2 ["self"]):akg P w K mg base cM:=by
 refine F.cal awZ (λvs H Q E h=>?_) (λ_ _ _ _ _ H _ Q E hr h=>?_)
 .intros p dx rfl _ h;rfl
 .intros p dx rfl hp q h;exists _,(aH (aPK (0:) al4 rfl));intro d hd;have npd:p≠d:=jx hp hd;refine{(),p,cM,dx,[],rfl,by rw[cI npd];exact hp,D.yp.cl,D.Nx,(by show 0<1000;decide),?_};refine q d _ hd {{dx,(aq)},fM.none_ (by rw[cI npd.symm,aq])} λb o e hb=>?_;rw[cI hb,cI (jx e hd)];exact e
theorem aCf(F:Fn K mg "make_row" VG ["said"]):aqO M:=by
 delta at9 at9
 intros k ds o l xs rfl hw hl hp ok q h;obtain rfl:=nF (k':= .row) hw;exists _,(aH (aD (-0:)));cases ok with
 |row h1=>
  obtain⟨v,_,rfl,hR,hp⟩:=iw hp;exact{(),_,_,.inl (ak.of hl),at0,q v H (Same.refl _) hR h1}
theorem aHK(F:Fn K mg "make_short" aaY ["said"])(gb:uG M):aed M:=by
 delta aBq aBq
 intros k ds o l xs rfl hw hl hp ok q h;obtain rfl:=nF (k':= .short) hw;exists _,(aH (aD (aA gb hr #[-0])));cases ok with
 |short h1=>
  obtain⟨v,_,rfl,hR,hp⟩:=iw hp;exact{(),_,_,.inl (ak.of hl),at0,alj h1 hR q}
theorem aIz(F:Fn K mg "make_add" R6 ["said"])(zV:R8 M):ao1 M:=by
 delta aDa aDa
 intros k ds o l xs rfl hw hl hp ok q h;obtain rfl:=nF (k':= .add) hw;exists _,(aH (aD (dR zV hr rfl #[-0,-0])));cases ok with
 |add h1 h2=>
  obtain⟨v,_,rfl,hR,hp⟩:=iw hp;obtain⟨v2,_,rfl,fJ,hp⟩:=iw hp;exact{(),_,_,.inl (ak.of hl),at0,(),_,_,.inl (ak.of hl),at1,Nh h1 h2 hR fJ q}
theorem aDL(F:Fn K mg "make_multiply" Xo ["said"])(Bp:Rf M):adQ M:=by
 delta auu auu
 intros k ds o l xs rfl hw hl hp ok q h;obtain rfl:=nF (k':= .multiply) hw;exists _,(aH (aD (dR Bp hr rfl #[-0,-0])));cases ok with
 |multiply h1 h2=>
  obtain⟨v,_,rfl,hR,hp⟩:=iw hp;obtain⟨v2,_,rfl,fJ,hp⟩:=iw hp;exact{(),_,_,.inl (ak.of hl),at0,(),_,_,.inl (ak.of hl),at1,afa h1 h2 hR fJ q}
theorem azt(F:Fn K mg "make_roll" acz ["said"])(Ce:abk M):aoo M:=by
 delta awr awr
 intros k ds o l xs rfl hw hl hp ok q h;obtain rfl:=nF (k':= .roll) hw;exists _,(aH (aD (dR Ce hr rfl #[-0,-0])));cases ok with
 |roll h1 h2=>
  obtain⟨v,_,rfl,hR,hp⟩:=iw hp;obtain⟨v2,_,rfl,fJ,hp⟩:=iw hp;exact{(),_,_,.inl (ak.of hl),at0,(),_,_,.inl (ak.of hl),at1,Nh h1 h2 hR fJ q}
theorem aNw(F:Fn K mg "make_scale" QJ ["said"])(BR:Wi M)(cH:jN M):agO M:=by
 delta aDX aDX
 intros k ds o l xs rfl hw hl hp ok q h;obtain rfl:=nF (k':= .scale) hw;exists _,(aH (aD (aA BR hr #[-0,(aA cH hr #[(aL K (-0:) aN),-0])])));cases ok with
 |scale h1 h2=>
  obtain⟨v,_,rfl,hR,hp⟩:=iw hp;obtain⟨v2,_,rfl,rfl,hp⟩:=iw hp;obtain⟨a,p1,p2,rfl,hA,_⟩:=id hR;exact{(),_,_,.inl (ak.of hl),at0,(),_,_,.inl (ak.of hl),at0,_,_,.inr (ao.of hA),rfl,(),_,_,.inl (ak.of hl),at1,_,(),h1.wf.hB.lo,aoR h1 hR h2 q}
theorem aC7(F:Fn K mg "make_sum" Zi ["said"])(zJ:Ys M):aoL M:=by
 delta aAu aAu
 intros k ds o l xs rfl hw hl hp ok q h;obtain rfl:=nF (k':= .sum) hw;exists _,(aH (aD (dR zJ hr rfl #[-0])));cases ok with
 |sum h1=>
  obtain⟨v,_,rfl,hR,hp⟩:=iw hp;exact{(),_,_,.inl (ak.of hl),at0,aiC h1 hR q}
theorem aLv(F:Fn K mg "make_every" aa5 ["said"])(Av:RJ M):adV M:=by
 delta aFk aFk
 intros k ds o l xs rfl hw hl hp ok q h;obtain rfl:=nF (k':= .every) hw;exists _,(aH (aD (dR Av hr rfl #[-0,-0,-0])));cases ok with
 |every h1=>
  obtain⟨v,_,rfl,hR,hp⟩:=iw hp;obtain⟨v2,_,rfl,rfl,hp2⟩:=iw hp;obtain⟨v3,_,rfl,rfl,hp3⟩:=iw hp2;exact{(),_,_,.inl (ak.of hl),at0,(),_,_,.inl (ak.of hl),at1,(),_,_,.inl (ak.of hl),at2,afk h1 hR q}
theorem ayn(F:Fn K mg "make_ahead" abb ["said"])(B5:aam M)(cH:jN M):aeF M:=by
 delta avE avE
 intros k ds o l xs rfl hw hl hp ok q h;obtain rfl:=nF (k':= .ahead) hw;refine{_,(aH (aD (dR B5 hr rfl #[-0,(fD (sc:=aD4) (N:=["number","said"]) (ix:=[none,some 0]) cY rfl (iD K (jD (m6 K) (0:) (jQ aN) jH)) (λ_ _ _ _ _=>{(cu 0 cV),dI,(aA cH hr #[(aL K (-1:) aN),0])}))]))),?_};cases ok with
 |@ahead r ns h1 h2 h3=>
  obtain⟨v,_,rfl,hR,hp⟩:=iw hp;obtain rfl:=aCV hp;refine{(),_,_,.inl (ak.of hl),at0,(),(),.inl {_,ak.of hl,λD1 hD1=>?_}};rw[show fY (v::ns.map V.int) (some 1) none=ns.map V.int from QG _ 1];have g1:=Same.new hD1 (.lst (ns.map V.int));have k1:(upd H D1 (.lst (ns.map V.int))) D1=some (.lst (ns.map V.int)):=aq;generalize upd H D1 (.lst (ns.map V.int))=H1 at g1 k1;refine{D1,rfl,.inl {{_,ak.of k1},vp (qj (ak.of k1)) ⋯ rfl (tk r.b) ?_ ?_}}
  .intro H2 y g2 hy kk hkk;obtain⟨a,p1,p2,rfl,hA,_⟩:=id hR;exact{(),_,_,.inl (ak.of (g2 _ _ (g1 _ _ hl))),at0,_,_,.inr (ao.of (g2 _ _ (g1 _ _ hA))),rfl,(),_,(),h1.wf.hB.lo,hkk}
  .intro D2 hD2;have g2:=g1.trans (Same.new hD2 (.lst ((ns.map (tk r.b)).map V.int)));exact adq h1 (hR.same g2) aq h2 h3 (q.from g2)
theorem aBD(F:Fn K mg "make_on" UN ["said"])(BW:Ue M):afR M:=by
 delta aLU aLU
 intros k ds o l xs rfl hw hl hp ok q h;obtain rfl:=nF (k':= .on) hw;exists _,(aH (aD (dR BW hr rfl #[-0,-0])));cases ok with
 |on h1 h2=>
  obtain⟨v,_,rfl,hR,hp⟩:=iw hp;obtain⟨v2,_,rfl,rfl,hp⟩:=iw hp;exact{(),_,_,.inl (ak.of hl),at0,(),_,_,.inl (ak.of hl),at1,acL h1 hR h2 q}
theorem aMQ(F:Fn K mg "make_rest" VD ["said"])(Bb:Y8 M):aiR M:=by
 delta asC asC
 intros k ds o l xs rfl hw hl hp ok q h;obtain rfl:=nF (k':= .rest) hw;exists _,(aH (aD (dR Bb hr rfl #[-0,-0])));cases ok with
 |rest h1 h2 h3=>
  obtain⟨v,_,rfl,hR,hp⟩:=iw hp;obtain⟨v2,_,rfl,rfl,hp⟩:=iw hp;exact{(),_,_,.inl (ak.of hl),at0,(),_,_,.inl (ak.of hl),at1,aqM h1 hR h2 h3 q}
theorem aFe(F:uz K cM "say" "Desk.say" Tr ["self","row"])(Vn:agn M)(Q5:agl M)(Vf:afZ M)(Ut:ah4 M)(VR:aiR M)(Zb:afR M)(abR:aeF M)(abH:adV M)(aaS:aoL M)(YX:agO M)(XQ:aoo M)(aan:adQ M)(aa8:ao1 M)(abQ:aed M)(QY:aqO M):aqI P w K mg base cM aU bJ aR aX:=by
 refine F.dN Pn (λvs H Q E h=>?_) (λ_ _ _ _ _ H _ Q E hr h=>?_)
 .intros p d t w' was k0 M' N rfl _ h;rfl
 .intros p d t w' was k0 M' N rfl hD hN hS hK hkd hok qE qS h;refine{_,#[(),(fQ (i:=2) Pn.nd rfl (eG rfl) (aA Vn hr #[1])),(fQ (i:=3) Pn.nd rfl (eG rfl) (aA Q5 hr #[2])),(aPJ Vo (i:=4) (hN:=Pn.nd) (hi':=rfl) (hx:=(lE rfl)) (sc:=arG) (N:=["k","kinds","self","words"]) (ix:=[none,some 3,some 0,some 2]) cY rfl (gH rfl B.eZ #[(bZ K B.bY #[3])]) (λ_ _ _ _ _=>{(cu 0 cV),dI,(XR Vf hr rfl #[(WG K (2:) rfl),(aL K (1:) (0:)),(aL K (3:) (0+_:))])})),(bB (vQ (alN D.afO K rfl (-2:))) (aH (aD (aqY D.afO (gZ.of (sp:=(λ_=>ap7)) D.acA (gZ.cons Ut gZ.nil)) hr rfl (-2:) (λ_ _=>rfl) #[4]))) bH),(bB (vQ (alN D.afe K rfl (-2:))) (aH (Lx hr.hu (WG K (0:) rfl) (-2:) (aqY D.afe (gZ.of (sp:=(oU aU aX aR)) D.aqw (gZ.cons QY (gZ.cons abQ (gZ.cons aa8 (gZ.cons aan (gZ.cons XQ (gZ.cons YX (gZ.cons aaS (gZ.cons abH (gZ.cons abR (gZ.cons Zb (gZ.cons VR gZ.nil)))))))))))) hr rfl (-2:) (λ_ _=>rfl) #[(jD (m6 K) (4:) (jQ aN) jH)]) rfl)) (aH (iK (adO (WG K (0:) rfl) (-2:) {rfl,rfl,rfl,(rfl)})))),(aD iu)],?_};have h15:was.length<=100:=by
   intros hm hn hK;have:k0.length<=4:=(aoP _ hm).1;rcases hn with z|⟨_,_,z⟩<;>lia
  refine{(),t,(),hS,λl1 H1 g1 h1=>?_};refine{(),l1,w',was.map Wa.word,k0,rfl,h1,by rw[aC];exact hK,λt2 H2 g2 h2=>?_};rw[aC,<-hkd]at h2;have lk:((was.map Wa.kind).map V.str).length=was.length:=by rw[aC,aC]
  have eO:=g1.trans g2;have h12:=g2 _ _ h1;exists (),.ref t2,was.length,rfl,.inr {_,h2,lk.symm},(was.length:Int),rfl,⋯,⋯;rw[d7];refine avF (xs:=was) ⋯ rfl (λx v H=>yS M' x v H) (λx y H' H2 g h=>h.tup g) ?_ ?_
  .intro H3 k x g3 hx kk hkk;have D3:=hD.same (eO.trans g3);intros dx hp3 D3.ob;have e1:iJ ((was.map Wa.kind).map V.str) (0+(k:Int))=some (.str x.kind):=by
    rw[ig];exact qO (by rw[List.getElem?_map,List.getElem?_map,hx];rfl)
   have e2:iJ ((w'::was.map Wa.word).map V.str) (0+(k:Int)+1)=some (.str x.word):=by
    rw[(⋯:(0+(k:Int)+1)=((k+1:Nat):Int))];exact qO (by rw[List.getElem?_map,List.getElem?_cons_succ,List.getElem?_map,hx];rfl)
   exists (),p,cM,dx,_,(),hp3,D.yp.cl,D.Nx,Uj,(),(),_,_,.inr (g3.NV h2),e1,(),(),_,_,.inl (ak.of (g3 _ _ h12)),e2;exact{d,x,M',N,rfl,hok x (List.mem_of_getElem? hx),D3.kp,hkk,λ⟨s,e,hn⟩ H4 g4=>qE {s,e▸List.mem_of_getElem? hx,hn} H4 (eO.trans (g3.trans g4))}
  .intro l3 H3 ys hl3 g3 h3 hp;have jh:=eO.trans g3;have h13:=g3 _ _ h12;have D3:=hD.same jh;intros dx hp3 D3.ob;cases qS (aw4 hp)with
   |@aqC s r hm ht8 q=>
    obtain⟨v,_,rfl,hv,_⟩:=iw hp;have hR:bQ H3 v r:=by
     rcases hv with⟨_,e,_⟩|⟨d',e,z⟩
     .cases e
     .rw[show Wa.dt M' (.a s)=(M' s).map Dt.row from rfl,hm]at e;cases e;exact z
    obtain⟨u,hu⟩:=D.acA.is_ "show" (by simp);refine{(),_,_,.inl (ak.of h13),at0,_,(),hu,(),d9 ?_};exact{(),_,_,.inl (ak.of h13),at0,(),by simp,(),r,v,l3,(),h3,hR,ht8,λH4 g4=>q H4 (jh.trans g4)}
   |@drop s r hm q=>
    refine{(),_,_,.inl (ak.of h13),at0,_,(),D.Qk.at_ "drop" (by simp),(),bK ?_};refine{(),_,_,.inl (ak.of h13),at0,_,(),D.Z5.at_ "drop" (by simp),(),bK ?_};obtain⟨kvs,v,hd,hv,sd,kp⟩:=D3.kp.drop hm;exists (),p,cM,dx,_,(),hp3,D.yp.cl,D.Nx,Uj,d,rfl,.inl {kvs,.inl hd},(),_,_,.inl (ak.of h13),at1,kvs,.inr s,v,hd,rfl,hv;exact q _ (sd.of jh) {{dx,sd _ _ D3.ne hp3},kp}
   |@make k n aQa ds o hdt ok q1 q2=>
    obtain⟨v0,ys',rfl,_,hp'⟩:=iw hp;refine{(),_,_,.inl (ak.of h13),at0,_,(),D.Qk.at_ _ (axM k),(),bK ?_};obtain⟨u,hu⟩:=D.aqw.is_ _ (aeO k);refine{(),_,_,.inl (ak.of h13),at0,_,(),hu,(),d9 ?_};refine{(),_,_,.inl (ak.of h13),at0,(),aeO k,(),(),.inl {_,ak.of h3,λl4 EG=>?_}};rw[show fY (v0::ys') (some 1) none=ys' from QG _ 1];have g4:=Same.new EG (.lst ys');exists k,ds,o,l4,ys',rfl,rfl,aq,Paired.FQ (azP hdt hp') λx y z=>z.tup λb ts e=>g4 _ _ e,ok;generalize upd H3 l4 (.lst ys')=H4 at g4;have Mx:=jh.trans g4;cases o with
    |inl r=>
     intro v5 H5 g5 hR hW;have g15:=Mx.trans g5;have D5:=hD.same g15;intros dx5 hp5 D5.ob;obtain⟨H6,xq,sd,D6⟩:=D5.put hN (n:=n) hR;exists (),p,cM,dx5,_,(),hp5,D.yp.cl,D.Nx,Uj,(),_,_,.inl (ak.of (g5 _ _ (g4 _ _ h13))),at1,d,H6,rfl,xq;exact q1 r rfl hW H6 (sd.of g15) D6
    |inr c=>exactλH5 g5=>q2 c rfl H5 (Mx.trans g5)
theorem aAW(F:Fn K mg "_law_cell_at" abw ["_law_script","_law_k"]):ado M:=by
 delta aBT
 intros a ns k rfl hS h0 q h;exists _,#[(),(bB (1<(bZ K B.bY #[0]):) (aH (aD (aL K (0:) (1:)))) bH),(aD aN)];have hl:(ns.map V.int).length=ns.length:=aC _;exists (),(),.ref a,ns.length,rfl,.inl {_,hS,hl.symm},"",();refine cC (λc=>?_) (λc=>?_)
 .have c':k<(ns.length:Int):=dec_true c;exists (),(),ns.map V.int,.int (ns.getD k.toNat 0),.inl hS,fR h0 c';have e:cellAt ns k=ns.getD k.toNat 0:=if_pos c';rw[e]at q;exact q
 .have c':¬k<(ns.length:Int):=dec_false c;have e:cellAt ns k=0:=if_neg c';rw[e]at q;exact q
theorem aOZ(F:Fn K mg "_law_mix" Wn ["_law_cell","_law_k"]):ZJ M:=by
 delta aGF
 intros c k rfl h0 h1 q h;exists _,(aH (aD ((0%_+_)*(_+_*1)%_:)));have b1:0<=c%MM:=qF _ ∅;have b2:c%MM<MM:=qI _ ∅;exists (),"",(∅:(0:Int)<2147483647);exists (),mulL ∅ ∅;exists mulL (by show -(2^64)<c%2147483647+1;lia) (by show c%2147483647+1<2^64;lia),_,_,rfl,rfl,(∅:(0:Int)<2147483647);exact q
theorem axT(F:Fn K mg "_law_by" Tp ["_law_number_here"]):alR M:=by
 delta aj8
 intros n rfl q h;exists _,#[(),(aG 1 aj8.nd (aL K (fK #[_,_,_,_,_,_,_,_]) (0/_%_:))),(aD (aL K (fK #[_,_,_,_,_,_,_,_,1,_]) (0%_:)))];refine{(bN 8),λp hp=>?_};exists (),"",{∅,∅},"",(∅:(0:Int)<8);exists _,_,.inl (ak.of aq),fR (ns:=Mi) (dM _ ∅) (dJ _ ∅);refine{(),(bN 10),λp2 hp2=>?_};exists (),"",(∅:(0:Int)<10);exists _,_,.inl (ak.of aq),fR (ns:=Ti (Mi.getD (n/10%8).toNat 0)) (dM _ ∅) (dJ _ ∅);exact q _ ((Same.new hp _).trans (Same.new hp2 _))
theorem aFp(F:Fn K mg "_law_number" VJ ["_law_by_here","_law_number_here"]):ae7 M:=by
 delta afF
 intros b n rfl h0 h1 q h;have h1':n<2147483647:=h1;exists _,#[(),(bB (0>_:) (aH (aD (1%0:))) bH),(aG 2 afF.nd (1%_:)),(bB (2<_:) (aH (aD aN)) bH),(bB (2<_:) (aH (aD (1/_%_-_:))) bH),(bB (2<_:) (aH (aD (1/_%_-_:))) bH),(aD ((jB zu (1/_:) aN)%(jB zu aN aN)*(_-_*(1/_%_)):))];exists (),"",();refine cC (λc=>?_) (λc=>?_)
 .have c':0<b:=dec_true c;exists (),(),"",c';have e:mY b n=n%b:=if_pos c';rw[e]at q;exact q
 .have c':¬b>0:=dec_false c;exists (),"",(∅:(0:Int)<8);exists (),"",();refine cC (λc1=>?_) (λc1=>?_)
  .have e:mY b n=0:=by rw[mY,if_neg c',if_pos (dec_true c1)]
   rw[e]at q;exact q
  .exists (),"",();refine cC (λc2=>?_) (λc2=>?_)
   .exists (),"",{∅,∅},"",(∅:(0:Int)<5),"";have e:mY b n=n/8%5-2:=by rw[mY,if_neg c',if_neg (dec_false c1),if_pos (dec_true c2)]
    rw[e]at q;exact q
   .exists (),"",();refine cC (λc3=>?_) (λc3=>?_)
    .exists (),"",{∅,∅},"",(∅:(0:Int)<41),"";have e:mY b n=n/8%41-20:=by rw[mY,if_neg c',if_neg (dec_false c1),if_neg (dec_false c2),if_pos (dec_true c3)]
     rw[e]at q;exact q
    .exists (),"",{∅,∅},"",{∅,∅,⋯};exists "",{∅,∅,∅},"",(∅:(0:Int)<10^(20:Int).toNat);exists (),"",{∅,∅},"",(∅:(0:Int)<2);have b2:0<=n/16%2:=dM _ ∅;have b3:n/16%2<2:=dJ _ ∅;refine{mulL ∅ ∅,"",mulR (by show -(2^64)<1-2*(n/16%2);lia) (by show 1-2*(n/16%2)<2^64;lia),?_};have e:mY b n=(n/8)^3%10^20*(1-2*(n/16%2)):=by rw[mY,if_neg c',if_neg (dec_false c1),if_neg (dec_false c2),if_neg (dec_false c3)]
     rw[e]at q;exact q
theorem arh(F:Fn K mg "_law_numbers" SN ["_law_by_here","_law_cell","_law_many"])(Rx:ae7 M):adb M:=by
 delta J3
 intros b c m rfl hc0 hc1 hm0 hm1 q h;exists _,#[(),(aG 3 J3.nd (fK jL)),(aG 4 J3.nd (1:)),(lU PassesOwn.never rfl (gH rfl B.eZ #[2]) (cu 5 J3.nd) #[(),(aG 4 J3.nd (4*_%_:)),(iK (sH K (3:) (aA Rx hr #[0,4])))]),(aD (3:))];refine{dW _,λl hl=>?_};exists ();exists (),m,rfl,(⋯:-(2^62)<=m),(⋯:m<2^62);refine pX (lo:=0) (n:=m.toNat) (λi σ' H'=>∃o,σ'=[some (.int b),some (.int c),some (.int m),some (.ref l),some (.int (v8 c i)),o]/\H' l=some (.lst ((qC b c i).map V.int))/\Same H H') {none,rfl,aq,Same.new hl _} ?_ ?_
 .rintro i σ' H' hi ⟨o,rfl,hL,g⟩;have hr:0<=v8 c i/\v8 c i<2147483647:=afA hc0 hc1 i;have hr1:=afA hc0 hc1 (i+1);exists (),mulL ⋯ ⋯,"",(∅:(0:Int)<2147483647);exists (),.inl {rfl,_,ak.of hL},(),(),b,(),hr1.1,hr1.2;refine{l,"",hL,?_,?_}
  .rw[aC,Oo];exact gO (⋯:i<1001) ∅
  .refine{(),?_,g.upd hl _};rw[aq];show _=some (HO.lst ((qC b c i++[mY b (v8 c (i+1))]).map V.int));rw[gR];rfl
 .rintro σ' H' ⟨o,rfl,hL,g⟩;exists ();exact q l H' g hl hL
theorem aKY(F:Fn K mg "_law_rest" Yj ["_law_by_here","_law_number_here"]):XU M:=by
 delta aEF
 intros b n rfl h0 q h;exists _,#[(),(bB (0>_:) (aH (aD (1%0:))) bH),(aD (1:))];exists (),"",();refine cC (λc=>?_) (λc=>?_)
 .have c':0<b:=dec_true c;exists (),(),"",c';rw[oB ⋯]at q;exact q
 .have c':b=0:=by have:=dec_false c;lia
  exists ();rw[c',eX]at q;exact q
theorem av1(F:Fn K mg "_law_pool" RW ["_law_cell","_law_turn"]):akx M:=by
 delta pJ
 intros c t rfl q h;refine{_,#[(),(fQ (i:=2) pJ.nd rfl (eG rfl) iu),(aG 3 pJ.nd (_+0%_:)),(aG 0 pJ.nd (0/_:)),(aG 4 pJ.nd (fK jL)),(lU PassesOwn.never rfl (gH rfl B.eZ #[3]) (cu 5 pJ.nd) #[(),(iK (sH K (4:) (0%_:))),(aG 0 pJ.nd (0/_:))]),(fQ (i:=6) pJ.nd rfl (eG rfl) (qP K uY Ea Gq Ef iu (fD (sc:=aN5) (N:=["_law_k","_law_signs"]) (ix:=[none,some 2]) cY rfl (iD K (4:)) (λ_ _ _ _ _=>{(cu 0 cV),dI,(aL K (1:) (0:))})))),(bB (1/_%_==_:) (aH (aD (fD (sc:=aDp) (N:=["_law_k","_law_word_here"]) (ix:=[none,some 6]) cY rfl (Jv rfl B.eZ #[_,_]) (λ_ _ _ _ _=>{(cu 0 cV),dI,(jD Mt (jB aum aN (1:)) jH (jQ (0:)))})))) bH),(aG 7 pJ.nd (1%3:)),(aG 8 pJ.nd (fK jL)),(lU PassesOwn.never rfl (gH rfl B.eZ #[_]) (cu 5 pJ.nd) #[(),(aG 9 pJ.nd (aL K (2:) (((aL K (4:) (7:))+_*5)%_:))),(iK (sH K (8:) ((jD Mt (6:) jH (jQ (7:)))+9+(jD Mt (6:) (jQ (7+_:)) jH):)))]),(aD (8:))],?_};have h100:(100000:Nat)<=sizeLine:=∅;exists (),"",(∅:(0:Int)<8);have z0:=dM c (∅:(0:Int)<8);have z1:=dJ c (∅:(0:Int)<8);obtain⟨n,hn⟩:∃n:Nat,1+c%8=(n:Int):={(1+c%8).toNat,⋯};have n1:1<=n:=⋯;have n8:n<=8:=⋯;exists (),"",{∅,∅};refine{dW _,λl hl=>?_};exists (),1+c%8,rfl,(⋯:-(2^62)<=1+c%8),(⋯:1+c%8<2^62);rw[hn,d7];have g0:=Same.new hl (.lst []);refine pX (lo:=0) (n:=n) (λi σ' H'=>∃(c':Int) (o:Option V) (xs:List Int),σ'=[some (.int c'),some (.int t),some (.str "abcdefghijklmnopqrstuvwxyz0123456789"),some (.int n),some (.ref l),o,none,none,none,none]/\H' l=some (.lst (xs.map V.int))/\xs.length=i/\(∀x∈xs,0<=x/\x<36)/\Same H H') {_,none,[],rfl,aq,rfl,(λ_ z=>nomatch z),g0} ?_ ?_
 .rintro i σ' H' hi ⟨c',o,xs,rfl,hL,hx,ha,g⟩;refine{(),.inl {rfl,_,ak.of hL},(),"",(∅:(0:Int)<36),l,"",hL,by rw[aC];lia,?_};exists (),"",{∅,∅};refine{_,_,xs++[c'%36],rfl,by rw[aq,gR];rfl,by rw[fP,hx];rfl,λx hx'=>?_,g.upd hl _};rcases gP.mp hx' with h'|h'
  .exact ha x h'
  .rw[dX.mp h'];exact{dM _ ∅,dJ _ ∅}
 .rintro σ' H1 ⟨c',o,xs,rfl,hL,hx,ha,g1⟩;refine{rfl,(),l,rfl,.inl {{_,ak.of hL},agi (qj (ak.of hL)) (by rw[aC];lia) rfl (λ_ y _=>∃s,y = .str s/\Sg 1 s) (λ_ _ _ _ _ h=>h) ?_ ?_}}
  .intro H2 x g2 hx' k hk;obtain⟨i,hi,rfl⟩:=cA.mp hx';obtain⟨a0,a1⟩:=ha i hi;obtain⟨ch,e1,e2⟩:=anF i a0 a1;exact{(),(),ch,aoG,e1,hk _ _ (Same.refl _) {(),rfl,λz hz=>by rw[dX.mp (show z∈[ch]from hz)];exact e2}}
  intro D1 H2 ys hD1 g2 hD hy1 hy2;obtain⟨ws,rfl,hws⟩:=amZ λy hy=>by obtain⟨_,_,z⟩:=hy2 y hy;exact z
  rw[aC,aC,hx]at hy1;have hW:Sg n (mJ (jq "") ws):=by
   rw[ajX];have key:∀vs:List Str,(∀s∈vs,Sg 1 s)->((vs.map λw=>w.cps.toList).flatten).length=vs.length/\∀c∈(vs.map λw=>w.cps.toList).flatten,c∈wX:=λvs=>by
    induction vs with
    |nil=>intro _;exact{rfl,λ_ z=>nomatch z}
    |cons v r ih=>
     intro h;obtain⟨i1,i2⟩:=ih λs hs=>h s (eN _ hs);have hv:=h v fX;rw[kI,AK];refine{by rw[fP,i1,hv.len,kO];lia,λc hc=>?_};rcases gP.mp hc with z|z
     .exact hv.all c z
     .exact i2 c z
   obtain⟨k1,k2⟩:=key ws hws;exact{by rw[ZL,k1,hy1],by rw[ZL];exact k2}
  have hJ:Az (jq "") ws=true:=by
   unfold Az;rw[Uu (B:=1) (λs hs=>by rw[show s.length=s.cps.toList.length by simp[vh],(hws s hs).len];exact bO _) (by rw[ajX,hy1];show n*(1+0)<=_;lia)];rfl
  exists _,D1,ws,rfl,rfl,hD,hJ;generalize mJ (jq "") ws=w at hW;have eO:=g1.trans g2;have hL2:=g2 _ _ hL;have wl:w.length=n:=by rw[<-hW.len];simp[vh]
  refine{(),"",{∅,∅},"",(∅:(0:Int)<3),(),cC (λ_=>?_) (λ_=>?_)}
  .exists 1,9,rfl,{∅,∅,∅,∅};refine agi Gu (by rw[aC,wA];exact cT ∅ h100) rfl (λ_ y _=>∃s,y = .str s/\fG s) (λ_ _ _ _ _ h=>h) ?_ ?_
   .intro H3 x g3 hx' k hk;obtain⟨j,hj,rfl⟩:=cA.mp hx';have hj8:j<8:=qd.mp hj;have er:=aeu w 8 #[];have el:((cO 8 w.cps.toList).flatten).length=8*n:=by rw[List.length_flatten,adf,hW.len];show n+(n+(n+(n+(n+(n+(n+(n+0)))))))=_;lia
    refine{(),w,8,rfl,rfl,∅,∅,⋯,⋯,(),(),(),?_,?_}
    .show((cO 8 w.cps).foldl (·++·) #[]).size<=_;rw[<-K1,er,fP,el];show 0+_<=_;lia
    .refine hk _ _ (Same.refl _) {(),?_};have e2:=aiU ({(cO 8 w.cps).foldl (·++·) #[]}:Str) (j+1);rw[(⋯:((j+1:Nat):Int)=1+(j:Int))]at e2;rw[show({(cO 8 w.cps).foldl (·++·) #[]}:Str).cps.toList=(cO 8 w.cps.toList).flatten by rw[er];rfl]at e2;refine Sg.nm (n:=j+1) {by rw[e2,nK,el];lia,λc hc=>?_} ⋯ ⋯;rw[e2]at hc;obtain⟨l',hl',hc'⟩:=List.mem_flatten.mp (Ma hc);rw[(List.mem_replicate.mp hl').2]at hc';exact hW.all c hc'
   .intro D2 H3 ys hD2 g3 hD' hz1 hz2;obtain⟨vs,rfl,hvs⟩:=amZ λy hy=>by obtain⟨_,_,z⟩:=hz2 y hy;exact z
    rw[aC,aC,wA]at hz1;exact q D2 H3 vs (eO.trans g3) hD' hz1 hvs
  .exists (),(),"",(⋯:(0:Int)<n);have t0:=dM t (⋯:(0:Int)<n);have t1:=dJ t (⋯:(0:Int)<n);obtain⟨m,hm⟩:∃m:Nat,t%(n:Int)=(m:Int):={(t%n).toNat,⋯};have mn:m<n:=⋯;rw[hm];refine{dW _,λl2 hl2=>?_};have g3:=Same.new hl2 (.lst []);exists 8,rfl,∅,∅;refine pX (lo:=0) (n:=8) (λi σ' H'=>∃(o o2:Option V) (vs:List Str),σ'=[some (.int c'),some (.int t),some (.str "abcdefghijklmnopqrstuvwxyz0123456789"),some (.int n),some (.ref l),o,some (.str w),some (.int m),some (.ref l2),o2]/\H' l2=some (.lst (vs.map V.str))/\vs.length=i/\(∀s∈vs,fG s)/\Same H2 H') {_,none,[],rfl,aq,rfl,(λ_ z=>nomatch z),g3} ?_ ?_
   .rintro i σ' H3 hi ⟨o,o2,vs,rfl,sZ,hv1,hv2,g4⟩;have hmx:m<xs.length:=⋯;have ex:iJ (xs.map V.int) (m:Int)=some (.int xs[m]):=qO (by rw[List.getElem?_map,List.getElem?_eq_getElem hmx];rfl);exists (),(),(),_,_,.inl (ak.of (g4 _ _ hL2)),ex;obtain⟨ch,e1,e2⟩:=anF ((xs[m]+4*(0+(i:Int)))%36) (dM _ ∅) (dJ _ ∅);exists (),mulL ∅ ∅,"",(∅:(0:Int)<36),ch,aoG,e1;exists (),.inl {rfl,_,ak.of sZ};have wle:w.length<=sizeLine:=⋯;have s1:=aiU w m;have s2:=adS w (m+1);rw[(⋯:((m+1:Nat):Int)=(m:Int)+1)]at s2;have e3:∀a b:Str,(a++b).cps.toList=a.cps.toList++b.cps.toList:=λa b=>Ep;have l3:∀a:Str,a.length=a.cps.toList.length:=λa=>by simp[vh]
    have k1:(w.cps.toList.take m).length=m:=by rw[nK,hW.len];lia
    have k2:(w.cps.toList.drop (m+1)).length=n-(m+1):=by rw[yL,hW.len]
    have hS:Sg n (ak6 w none (some (m:Int))++{{([ch])}}++ak6 w (some ((m:Int)+1)) none):=by
     refine{?_,λc hc=>?_}
     .rw[e3,e3,s1,s2,fP,fP,k1,k2];show m+1+_=n;lia
     .rw[e3,e3,s1,s2]at hc;rcases gP.mp hc with hc|hc
      .rcases gP.mp hc with hc|hc
       .exact hW.all c (Ma hc)
       .rw[dX.mp (show c∈[ch]from hc)];exact e2
      .exact hW.all c (List.mem_of_mem_drop hc)
    refine{(),(),(),w,rfl,wle,(),?_,(),(),(),w,rfl,wle,?_,l2,"",sZ,?_,?_}
    .rw[l3,s1,k1];show m+1<=_;lia
    .rw[l3,e3,s1,l3,s2,fP,k1,k2];show m+1+_<=_;lia
    .rw[aC,hv1];lia
    .refine{_,_,vs++[_],rfl,by rw[aq,gR];rfl,by rw[fP,hv1];rfl,λs hs=>?_,g4.upd hl2 _};rcases gP.mp hs with h'|h'
     .exact hv2 s h'
     .rw[dX.mp h'];exact hS.nm n1 n8
   .rintro σ' H3 ⟨o,o2,vs,rfl,sZ,hv1,hv2,g4⟩;exact{(),q l2 H3 vs (eO.trans g4) sZ hv1 hv2}
theorem auN(F:Fn K mg "_law_small_row" aaj ["_law_by_here","_law_cell","_law_most"])(wK:ZJ M)(OD:adb M)(yX:XU M):U3 M:=by
 delta BD
 intros b c rfl hb q h;refine{_,#[(),(aG 3 BD.nd ((aA wK hr #[1,_])%(2+_):)),(aG 4 BD.nd (aA OD hr #[((fH (alI rfl) rfl B.amd boot_max #[0,_])*(eV arC rfl B.V5 boot_int #[(jM al8 (0:) aN (kE _))]):),(aA wK hr #[1,_]),3])),(aG 5 BD.nd (aA OD hr #[0,(aA wK hr #[1,_]),3])),(oM (bB (0==_:) #[(),(xR (i:=4) (hN:=BD.nd) (hi':=rfl) (hx:=(lE rfl)) (sc:=aGR) (N:=["_law_number_here"]) (ix:=[none]) cY rfl (iD K (4:)) (λ_ _ _ _ _=>{(cu 0 cV),dI,(0%_-_:)})),(xR (i:=5) (hN:=BD.nd) (hi':=rfl) (hx:=(lE rfl)) (sc:=aMu) (N:=["_law_number_here"]) (ix:=[none]) cY rfl (iD K (5:)) (λ_ _ _ _ _=>{(cu 0 cV),dI,(0%_-_:)}))] bH)),(aD (dF #[0,(eV (jW K) rfl B.jl boot_tuple #[(fD (sc:=axP) (N:=["_law_number_here","_law_by_here"]) (ix:=[none,some 0]) cY rfl (iD K (4:)) (λ_ _ _ _ _=>{(cu 0 cV),dI,(aA yX hr #[1,0])}))]),(eV (jW K) rfl B.jl boot_tuple #[5])]))],?_};have b0:=hb.lo;have b1:=hb.hi;have k0:=dM (ou c 11) (∅:(0:Int)<3+1);have k1:=dJ (ou c 11) (∅:(0:Int)<3+1);exists (),c,11,rfl,∅,∅,(),"",(∅:(0:Int)<3+1);generalize ou c 11%(3+1)=m at k0 k1;refine{(),b,5,rfl,(),"",.inr {(),?_}};refine{mulR (by split<;>decide) (by split<;>decide),(),c,12,rfl,∅,∅,(),_,_,m,rfl,Ur _ _,Tw _ _,k0,⋯,λl4 H4 g4 _ h4=>?_};generalize eb':(if 5>b then 5 else b)*(if decide (b>0)=true then(1:Int)else 0)=b' at h4;have aBP:0<=b':=by
  rw[<-eb'];split<;>split<;>lia
 have aQb:b'<1000:=by
  rw[<-eb'];split<;>split<;>lia
 have aFJ:b'=0->b=0:=λz=>by
  rw[<-eb']at z;by_cases c0:0<b
  .rw[decide_eq_true c0,if_pos rfl]at z;split at z<;>lia
  .lia
 refine{(),(),c,13,rfl,∅,∅,(),_,_,m,rfl,Ur _ _,Tw _ _,k0,⋯,λl5 H5 g5 _ h5=>?_};have Mh:=g5 _ _ h4;have lr:(qC b' (ou c 12) m.toNat).length=m.toNat:=Oo ..;have ls:(qC b (ou c 13) m.toNat).length=m.toNat:=Oo ..;have nr:=Vl aBP (ou c 12) m.toNat;have ns:=Vl hb.lo (ou c 13) m.toNat;generalize qC b' (ou c 12) m.toNat=rl at Mh lr nr;generalize qC b (ou c 13) m.toNat=st at h5 ls ns;refine lW.by (λσ' H'=>∃(JX KC:Addr) (rl' st':List Int),σ'=[some (.int b),some (.int c),some (.int 3),some (.int m),some (.ref JX),some (.ref KC)]/\Same H H'/\H' JX=some (.lst (rl'.map V.int))/\H' KC=some (.lst (st'.map V.int))/\rl'.length=m.toNat/\st'.length=m.toNat/\(∀x∈rl',Bd 67 x)/\∀x∈st',j6 b x/\Bd 67 x) (λNN eE=>?_) ?_
 .refine{(),(),cC (λz=>?_) (λz=>?_)}
  .have z':b=0:=dec_true z;refine{(),l4,rfl,.inl {{_,ak.of Mh},vp (qj (ak.of Mh)) ⋯ rfl (λx=>x%7-3) ?_ ?_}}
   .intro H6 x g6 hx kk hkk;exact{(),"",(∅:(0:Int)<7),"",hkk}
   intro D1 hD1;have g6:=Same.new hD1 (.lst ((rl.map λx=>x%7-3).map V.int));have Yw:=g6 _ _ h5;have h61:(upd H5 D1 (.lst ((rl.map λx=>x%7-3).map V.int))) D1=some (.lst ((rl.map λx=>x%7-3).map V.int)):=aq;generalize upd H5 D1 (.lst ((rl.map λx=>x%7-3).map V.int))=H6 at g6 Yw h61;refine{(),l5,rfl,.inl {{_,ak.of Yw},vp (qj (ak.of Yw)) ⋯ rfl (λx=>x%15-5) ?_ ?_}}
   .intro H7 x g7 hx kk hkk;exact{(),"",(∅:(0:Int)<15),"",hkk}
   intro D2 hD2;have g7:=Same.new hD2 (.lst ((st.map λx=>x%15-5).map V.int));refine eE _ _ {D1,D2,_,(),g4.trans (g5.trans (g6.trans g7)),g7 _ _ h61,aq,by rw[aC,lr],by rw[aC,ls],λx hx=>?_,λx hx=>?_}
   .obtain⟨y,_,rfl⟩:=cA.mp hx;have:=dM y (∅:(0:Int)<7);have:=dJ y (∅:(0:Int)<7);exact Fv ⋯ ⋯
   .obtain⟨y,_,rfl⟩:=cA.mp hx;have:=dM y (∅:(0:Int)<15);have:=dJ y (∅:(0:Int)<15);exact{.inl z',Fv ⋯ ⋯}
  .have z':b≠0:=dec_false z;refine eE _ _ {l4,l5,rl,st,rfl,g4.trans g5,Mh,h5,lr,ls,λx hx=>?_,λx hx=>?_}
   .rcases nr x hx with e|⟨e1,e2⟩
    .exact absurd (aFJ e) z'
    .exact Fv ⋯ ⋯
   .rcases ns x hx with e|⟨e1,e2⟩
    .exact absurd e z'
    .exact{.inr {e1,(e2)},Fv ⋯ ⋯}
 .rintro σ' H6 ⟨JX,KC,rl',st',rfl,g6,h6,h6',O1,ls',br,bs⟩;refine{(),(),JX,rfl,.inl {{_,ak.of h6},vp (qj (ak.of h6)) ⋯ rfl (tk b) ?_ ?_}}
  .intro H7 x g7 hx kk hkk;exact{(),(),b,x,rfl,b0,hkk}
  intro D1 hD1;have g7:=Same.new hD1 (.lst ((rl'.map (tk b)).map V.int));have h71:=g7 _ _ h6';have h72:(upd H6 D1 (.lst ((rl'.map (tk b)).map V.int))) D1=some (.lst ((rl'.map (tk b)).map V.int)):=aq;generalize upd H6 D1 (.lst ((rl'.map (tk b)).map V.int))=H7 at g7 h71 h72;refine{D1,(),.inl {ak.of h72,λt1 ht1=>?_}};have g8:=Same.new ht1 (.tup ((rl'.map (tk b)).map V.int));have h81:=g8 _ _ h71;have Gm:(upd H7 t1 (.tup ((rl'.map (tk b)).map V.int))) t1=some (.tup ((rl'.map (tk b)).map V.int)):=aq;generalize upd H7 t1 (.tup ((rl'.map (tk b)).map V.int))=H8 at g8 h81 Gm;refine{(),KC,(),.inl {ak.of h81,λt2 jF=>?_}};have g9:=Same.new jF (.tup (st'.map V.int));have h92:(upd H8 t2 (.tup (st'.map V.int))) t2=some (.tup (st'.map V.int)):=aq;replace Gm:=g9 _ _ Gm;generalize upd H8 t2 (.tup (st'.map V.int))=H9 at g9 Gm h92;refine{(bN 3),λt3 zm=>?_};have jj:=Same.new zm (.tup [.int b,.ref t1,.ref t2]);refine q (.ref t3) {b,rl'.map (tk b),st'} _ (g6.trans (g7.trans (g8.trans (g9.trans jj)))) {t3,t1,t2,rfl,aq,jj _ _ Gm,jj _ _ h92} ?_;refine{{hb,by show(rl'.map _).length=st'.length;rw[aC,O1,ls'],by show(rl'.map _).length<=12;rw[aC,O1];lia,λx hx=>?_,λx hx=>(bs x hx).1},λx hx=>?_,λx hx=>(bs x hx).2}
  .obtain⟨y,_,rfl⟩:=cA.mp hx;exact vV b0 _
  .obtain⟨y,hy,rfl⟩:=cA.mp hx;exact vZ hb ∅ (br y hy)
theorem aEH(F:Fn K mg "_law_is_small" Yc ["_law_row"]):an4 M:=by
 delta arY
 intros v r rfl hR hW q h;refine{_,(aH (aD (jM (lV K hr) (bZ K B.bY #[(fD (sc:=aFY) (N:=["_law_number_here"]) (ix:=[none]) cY rfl (iD K (-0+(-0):)) (λ_ _ _ _ _=>{(cu 0 cV),(Um ((fH ahi rfl B.alr boot_abs #[0])>(jB zu aN aN):)),(0:)}))]) aN (kE _)))),?_};intros a p1 p2 rfl hA hP hS hR;have l1:=hW.cL;have l2:=hW.len;have h100:(1000:Nat)<=sizeLine:=∅;refine{(),_,_,.inr (ao.of hA),rfl,(),_,_,.inr (ao.of hA),rfl,aL9 (ao.of hP) (ao.of hS) (by rw[aC,aC];lia) λs H1 g1 hs=>?_};rw[<-gR]at hs;refine{s,rfl,.inr {{_,hs},tH (Bl hs) (by rw[aC,fP];lia) rfl (λx=>match x with | .int i=>decide (10^20<i.natAbs)|_=>false) id ?_ ?_ ?_}}
 .intro H2 x g2 hx kk hkk;obtain⟨i,_,rfl⟩:=cA.mp hx;exists (),i,rfl,"",{∅,∅,∅},"",();have e:decide ((if i<0 then -i else i)>10^(20:Int).toNat)=decide (10^20<i.natAbs):=decide_eq_decide.mpr (by
   show(10:Int)^20<_↔_;split<;>lia)
  rw[e];exact hkk
 .intro H2 x g2 hx _ kk hkk;exact{(),hkk}
 intro D1 hD1;exists .ref D1,(),.inl {_,ak.of aq,rfl};have e:decide ((((((r.rule++r.starts).map V.int).filter λx=>match x with | .int i=>decide (10^20<i.natAbs)|_=>false).map id).length:Int)=0)=mQ r:=by
  unfold mQ;rw[aC];generalize r.rule++r.starts=xs;by_cases c:∀x∈xs,x.natAbs<=10^20
  .rw[jU.mpr λx hx=>decide_eq_true (c x hx),aik.mpr λv hv=>by obtain⟨i,hi,rfl⟩:=cA.mp hv;have:=c i hi;simp;lia];rfl
  .have c1:(xs.all λx=>decide (x.natAbs<=10^20))=false:=by
    rw[SR];exactλz=>c λx hx=>of_decide_eq_true (jU.mp z x hx)
   rw[c1];refine decide_eq_false λz=>c λx hx=>?_;have z':=aik.mp (amI.mp (Int.ofNat_eq_zero.mp z)) (.int x) (LD hx);simp at z';lia
 have qq:∀o,Q (.bl (mQ r)) (upd H1 D1 o):=λo=>q _ (g1.trans (Same.new hD1 o));rw[<-e]at qq;exact qq _
theorem aGJ(F:Fn K mg "_law_word" Ri ["_law_e"]):Ry M:=by
 refine F.aFu Dd (λvs H Q E h=>?_) (λ_ _ _ _ _ H _ Q hq h=>?_)
 .intros a c rfl _ h;rfl
 .intros a c rfl hA q h;refine{_,#[(),(aG 1 Dd.nd (fK #[(dF #[(fH (uZ K) rfl B.lH boot_isinstance #[0,(wg rfl M.aIM)]),""]),(dF #[(fH (uZ K) rfl B.lH boot_isinstance #[0,(wg rfl M.aFC)]),""]),(dF #[(fH (uZ K) rfl B.lH boot_isinstance #[0,(wg rfl M.aMW)]),""])])),(aG 1 Dd.nd (1+(fK #[(dF #[(fH (uZ K) rfl B.lH boot_isinstance #[0,(wg rfl M.ax0)]),""]),(dF #[(fH (uZ K) rfl B.lH boot_isinstance #[0,(wg rfl M.aLb)]),""]),(dF #[(fH (uZ K) rfl B.lH boot_isinstance #[0,(wg rfl M.ayh)]),""])]):)),(aG 1 Dd.nd (1+(fK #[(dF #[(fH (uZ K) rfl B.lH boot_isinstance #[0,(wg rfl M.aGX)]),""]),(dF #[(fH (uZ K) rfl B.lH boot_isinstance #[0,(wg rfl M.avy)]),""])]):)),(aso (i:=2) (hN:=Dd.nd) (hi':=rfl) (hx:=(lE rfl)) (sc:=axK) (N:=["_law_said","_law_word_here"]) (ix:=[none,none]) cY hq (avi K (1:)) (λcl C s₀ H₀ ex hq=>{(as4 K (n:=2) hq (yV (cu 0 cV) (yV (cu 1 cV) Uo))),(Um (gw (0:))),(1:)})),(bB (PW.pt (jX (w6 aoD (bZ K B.bY #[2]) aN) (oH (gU (gw (fH (uZ K) rfl B.lH boot_isinstance #[0,(v9 rfl B.aC5 aCy)])))))) (aH (aD iu)) bH),(aD (-2:))],?_};obtain⟨hI,hV,b1,b2,b3,b4,b5,b6,b7,b8,eb,k1,k2,k3,k4,k5,k6,k7,k8⟩:oE K (jK aU aX aR bJ c)/\aZ K (.ref (jK aU aX aR bJ c)) (.type "ValueError")=some true/\∃b1 b2 b3 b4 b5 b6 b7 b8,afB c=[b1,b2,b3,b4,b5,b6,b7,b8]/\
    aZ K (.ref (jK aU aX aR bJ c)) (.ref jr)=some b1/\aZ K (.ref (jK aU aX aR bJ c)) (.ref aU)=some b2/\aZ K (.ref (jK aU aX aR bJ c)) (.ref iQ)=some b3/\aZ K (.ref (jK aU aX aR bJ c)) (.ref aR)=some b4/\
    aZ K (.ref (jK aU aX aR bJ c)) (.ref aX)=some b5/\aZ K (.ref (jK aU aX aR bJ c)) (.ref jf)=some b6/\aZ K (.ref (jK aU aX aR bJ c)) (.ref jt)=some b7/\aZ K (.ref (jK aU aX aR bJ c)) (.ref bJ)=some b8:=by
   rcases c with _|c
   .exact{M.aHc,M.Qy,_,_,_,_,_,_,_,(),M.V8,M.Ra,M.R4,M.U5,M.Z2,M.acp,M.SV,M.SG}
   .cases c
    .exact{M.awW,M.Qt,_,_,_,_,_,_,_,(),M.Sv,M.W6,M.Yz,M.W8,M.abe,M.ab7,M.Tn,M.XF}
    .exact{M.arM,M.ab6,_,_,_,_,_,_,_,(),M.aau,M.RV,M.ZY,M.Ro,M.abM,M.Zf,M.aaK,M.QN}
    .exact{M.aFX,M.WD,_,_,_,_,_,_,_,(),M.Vc,M.V7,M.Qo,M.Tt,M.YD,M.RQ,M.ace,M.Yn}
  have ew:=avH c;rw[eb]at ew;generalize jK aU aX aR bJ c=C at hA hI hV k1 k2 k3 k4 k5 k6 k7 k8;refine wG hA hI k1 λt1 H1 g1 h1=>wG (sU g1 hA) hI k2 λt2 H2 g2 h2=>wG (sU g2 (sU g1 hA)) hI k3 λt3 H3 g3 h3=>?_;have jh:=g1.trans (g2.trans g3);replace h1:=g3 _ _ (g2 _ _ h1);replace h2:=g3 _ _ h2;refine{(bN 3),λl1 hl1=>?_};have g4:=jh.trans (Same.new hl1 (.lst [.ref t1,.ref t2,.ref t3]));have f1:=Same.new hl1 (.lst [.ref t1,.ref t2,.ref t3]);have hl:(upd H3 l1 (.lst [.ref t1,.ref t2,.ref t3])) l1=some (.lst [.ref t1,.ref t2,.ref t3]):=aq;replace h1:=f1 _ _ h1;replace h2:=f1 _ _ h2;replace h3:=f1 _ _ h3;generalize upd H3 l1 (.lst [.ref t1,.ref t2,.ref t3])=H4 at g4 hl h1 h2 h3;have Zq:=sU g4 hA;refine{(),wG Zq hI k4 λt4 H5 g5 h4=>wG (sU g5 Zq) hI k5 λt5 H6 g6 h5=>wG (sU g6 (sU g5 Zq)) hI k6 λt6 H7 g7 h6=>?_};refine{(bN 3),λl2 hl2=>?_};have f2:=g5.trans (g6.trans (g7.trans (Same.new hl2 (.lst [.ref t4,.ref t5,.ref t6]))));have f3:=Same.new hl2 (.lst [.ref t4,.ref t5,.ref t6]);refine .inl {_,_,f2 _ _ hl,aq,(bN 6),λl3 hl3=>?_};have f4:=Same.new hl3 (.lst ([V.ref t1,.ref t2,.ref t3]++[.ref t4,.ref t5,.ref t6]));have f5:=f2.trans f4;replace h1:=f5 _ _ h1;replace h2:=f5 _ _ h2;replace h3:=f5 _ _ h3;replace h4:=f4 _ _ (f3 _ _ (g7 _ _ (g6 _ _ h4)));replace h5:=f4 _ _ (f3 _ _ (g7 _ _ h5));replace h6:=f4 _ _ (f3 _ _ h6);replace hl:(upd (upd H7 l2 (.lst [.ref t4,.ref t5,.ref t6])) l3 (.lst ([V.ref t1,.ref t2,.ref t3]++[.ref t4,.ref t5,.ref t6]))) l3=some (.lst ([V.ref t1,.ref t2,.ref t3]++[.ref t4,.ref t5,.ref t6])):=aq;have g8:=g4.trans f5;generalize upd (upd H7 l2 (.lst [.ref t4,.ref t5,.ref t6])) l3 (.lst ([V.ref t1,.ref t2,.ref t3]++[.ref t4,.ref t5,.ref t6]))=H8 at g8 hl h1 h2 h3 h4 h5 h6;have hA8:=sU g8 hA;refine{(),wG hA8 hI k7 λt7 H9 g9 h7=>wG (sU g9 hA8) hI k8 λt8 pD jj h8=>?_};refine{(bN 2),λl4 EG=>?_};have f6:=Same.new EG (.lst [.ref t7,.ref t8]);have f7:=g9.trans (jj.trans f6);refine .inl {_,_,f7 _ _ hl,aq,(bN 8),λl5 Fx=>?_};have f8:=Same.new Fx (.lst ([V.ref t1,.ref t2,.ref t3]++[.ref t4,.ref t5,.ref t6]++[.ref t7,.ref t8]));have f9:=f7.trans f8;replace h1:=f9 _ _ h1;replace h2:=f9 _ _ h2;replace h3:=f9 _ _ h3;replace h4:=f9 _ _ h4;replace h5:=f9 _ _ h5;replace h6:=f9 _ _ h6;replace h7:=f8 _ _ (f6 _ _ (jj _ _ h7));replace h8:=f8 _ _ (f6 _ _ h8);replace hl:(upd (upd pD l4 (.lst [.ref t7,.ref t8])) l5 (.lst ([V.ref t1,.ref t2,.ref t3]++[.ref t4,.ref t5,.ref t6]++[.ref t7,.ref t8]))) l5=some (.lst [V.ref t1,.ref t2,.ref t3,.ref t4,.ref t5,.ref t6,.ref t7,.ref t8]):=aq;have rR:=g8.trans f9;generalize upd (upd pD l4 (.lst [.ref t7,.ref t8])) l5 (.lst ([V.ref t1,.ref t2,.ref t3]++[.ref t4,.ref t5,.ref t6]++[.ref t7,.ref t8]))=Kq at rR hl h1 h2 h3 h4 h5 h6 h7 h8;refine{(),l5,rfl,{_,ak.of hl},aHW (bw:=[b1,b2,b3,b4,b5,b6,b7,b8].zip ah0) hl (.cons {(),h1} (.cons {(),h2} (.cons {(),h3} (.cons {(),h4} (.cons {(),h5} (.cons {(),h6} (.cons {(),h7} (.cons {(),h8} .nil)))))))) (by show 8<=1000;decide) rfl (λH' b w kk hk=>{(),(),hk}) (λH' b w kk hk=>{(),hk}) λD Yh eO hD=>?_};rw[ew]at hD;have gz:=rR.trans eO;refine{(),.ref D,1,rfl,.inl {_,ak.of hD,rfl},rfl,(),bK ?_};refine{(),a,C,_,true,rfl,sU gz hA,hI,.inr (.inl {(),hV}),(),bK ?_};exact{(),_,_,.inl (ak.of hD),rfl,q Yh gz}
theorem aCr(F:Fn K mg "_law_told" abq ["_law_desk","_law_text_here"])(SM:aqI P w K mg base cM aU bJ aR aX)(AX:Ry M):Oz P w K mg base cM aU bJ aR aX:=by
 delta Gd
 obtain⟨p,t,rfl,⟨dx,fs,hp,hf⟩,q⟩:=h;refine{_,#[(),(aG 2 Gd.nd MJ),(aG 3 Gd.nd iu),(ac3 (i:=2) (j:=4) (axJ D.yp.cl SM hr (0:) #[1]) rfl rfl rfl Gd.nd rfl (lE rfl) rfl rfl rfl M.ago (λa=>(aH (aG 3 Gd.nd (anV AX hr rfl #[4]))))),(bB (PW.pt (rP (3=="":) (uc (gU (gw (fH yj rfl B.lH boot_isinstance #[2,(v9 rfl B.rT boot_str)])))))) (aH (aD (dF #["",MJ]))) bH),(bB (3=="":) (aH (aD (dF #["",2]))) bH),(aD (dF #["",3]))],?_};refine{(),p,dx,fs,rfl,hp,hf,(),q _ _ (λs H1 q1=>?_) (λc H1 q1=>?_)}
 .exists (),();rw[decide_eq_true rfl];refine d9 {(),.str s,"str","str",rfl,rfl,by simp,(),bK ?_};exists (),();rw[decide_eq_true rfl];exact d9 {(),(bN 2),λt1 ht1=>q1 t1 _ (Same.new ht1 _) aq}
 .refine{(),aeQ M.apP M.alh M.ahn M.ae8 c,λa ob ha hcm=>?_};have g1:=Same.new ha (.cP ob (ux a (jK aU aX aR bJ c)));refine{(),ob,_,aq,hcm,a,c,rfl,.inr {ob,(aq)},λH2 g2=>?_};exists (),();rw[decide_eq_false (Xw c)];refine bK {(),(),?_};rw[decide_eq_false (Xw c)];exact bK {(),(bN 2),λt1 ht1=>q1 t1 _ (g1.trans (g2.trans (Same.new ht1 _))) aq}
theorem aC2(F:Fn K mg "_law_by_words" aa4 ["_law_word_here","_law_rows","_law_numbers_here"])(gb:uG M)(zV:R8 M)(Bp:Rf M)(Ce:abk M)(BR:Wi M)(yX:XU M)(zJ:Ys M)(Av:RJ M)(BW:Ue M)(Bb:Y8 M)(B5:aam M):apn M:=by
 delta aal aal
 intros k l1 l2 l3 v1 v2 r s x y p ns o rfl hk h1 h2 h3 h12 hR fJ ok q h;refine{_,#[(),(yO (1:) (ad1 K (n:=2) rfl (yV (TJ (i:=3) aal.nd rfl (eG rfl)) (yV (cu 4 aal.nd) Uo)))),(bB (0=="":) (aH (aD (aA gb hr #[3]))) bH),(bB (0=="":) (aH (aD (dR zV hr rfl #[3,4]))) bH),(bB (0=="":) (aH (aD (dR Bp hr rfl #[3,4]))) bH),(bB (0=="":) (aH (aD (dR Ce hr rfl #[3,4]))) bH),(bB (0=="":) (aH (aD (aA BR hr #[3,(aA yX hr #[-3,-2])]))) bH),(bB (0=="":) (aH (aD (dR zJ hr rfl #[3]))) bH),(bB (0=="":) (aH (aD (dR Av hr rfl #[3,-2,-2]))) bH),(bB (0=="":) (aH (aD (dR BW hr rfl #[3,-2]))) bH),(bB (0=="":) (aH (aD (dR Bb hr rfl #[3,-2]))) bH),(aD (dR B5 hr rfl #[3,(fD (sc:=avv) (N:=["_law_number_here","_law_one"]) (ix:=[none,some 3]) cY rfl (iD K (-2:)) (λ_ _ _ _ _=>{(cu 0 cV),dI,(aA yX hr #[-1,0])}))]))],?_};exists (),l1,(),ak.of h1,rfl,_,(),"";obtain⟨ra,p1,p2,rv,hA,_⟩:=id hR;subst rv;cases k with
 |row=>exact absurd rfl hk
 |short=>
  refine rQ .short rfl ?_;cases ok with|short a1=>exact{(),alj a1 hR q}
 |add=>
  refine cQ (k:= .add) .short nofun rfl (rQ .add rfl ?_);cases ok with|add a1 a2=>exact{(),(),Nh a1 a2 hR (fJ rfl) q}
 |multiply=>
  refine cQ (k:= .multiply) .short nofun rfl (cQ (k:= .multiply) .add nofun rfl (rQ .multiply rfl ?_));cases ok with|multiply a1 a2=>exact{(),(),afa a1 a2 hR (fJ rfl) q}
 |roll=>
  refine cQ (k:= .roll) .short nofun rfl (cQ (k:= .roll) .add nofun rfl (cQ (k:= .roll) .multiply nofun rfl (rQ .roll rfl ?_)));cases ok with|roll a1 a2=>exact{(),(),Nh a1 a2 hR (fJ rfl) q}
 |scale=>
  refine cQ (k:= .scale) .short nofun rfl (cQ (k:= .scale) .add nofun rfl (cQ (k:= .scale) .multiply nofun rfl (cQ (k:= .scale) .roll nofun rfl (rQ .scale rfl ?_))));cases ok with|scale a1 a2=>exact{(),(),_,_,.inr (ao.of hA),rfl,(),_,_,.inl (ak.of h2),rfl,_,(),a1.wf.hB.lo,aoR a1 hR a2 q}
 |sum=>
  refine cQ (k:= .sum) .short nofun rfl (cQ (k:= .sum) .add nofun rfl (cQ (k:= .sum) .multiply nofun rfl (cQ (k:= .sum) .roll nofun rfl (cQ (k:= .sum) .scale nofun rfl (rQ .sum rfl ?_)))));cases ok with|sum a1=>exact{(),aiC a1 hR q}
 |every=>
  refine cQ (k:= .every) .short nofun rfl (cQ (k:= .every) .add nofun rfl (cQ (k:= .every) .multiply nofun rfl (cQ (k:= .every) .roll nofun rfl (cQ (k:= .every) .scale nofun rfl (cQ (k:= .every) .sum nofun rfl (rQ .every rfl ?_))))));cases ok with|every a1=>exact{(),(),_,_,.inl (ak.of h2),rfl,(),_,_,.inl (ak.of h2),rfl,afk a1 hR q}
 |on=>
  refine cQ (k:= .on) .short nofun rfl (cQ (k:= .on) .add nofun rfl (cQ (k:= .on) .multiply nofun rfl (cQ (k:= .on) .roll nofun rfl (cQ (k:= .on) .scale nofun rfl (cQ (k:= .on) .sum nofun rfl (cQ (k:= .on) .every nofun rfl (rQ .on rfl ?_)))))));cases ok with|on a1 a2=>exact{(),(),_,_,.inl (ak.of h2),rfl,acL a1 hR a2 q}
 |rest=>
  refine cQ (k:= .rest) .short nofun rfl (cQ (k:= .rest) .add nofun rfl (cQ (k:= .rest) .multiply nofun rfl (cQ (k:= .rest) .roll nofun rfl (cQ (k:= .rest) .scale nofun rfl (cQ (k:= .rest) .sum nofun rfl (cQ (k:= .rest) .every nofun rfl (cQ (k:= .rest) .on nofun rfl (rQ .rest rfl ?_))))))));cases ok with|rest a1 a2 a3=>exact{(),(),_,_,.inl (ak.of h2),rfl,aqM a1 hR a2 a3 q}
 |ahead=>
  refine cQ (k:= .ahead) .short nofun rfl (cQ (k:= .ahead) .add nofun rfl (cQ (k:= .ahead) .multiply nofun rfl (cQ (k:= .ahead) .roll nofun rfl (cQ (k:= .ahead) .scale nofun rfl (cQ (k:= .ahead) .sum nofun rfl (cQ (k:= .ahead) .every nofun rfl (cQ (k:= .ahead) .on nofun rfl (cQ (k:= .ahead) .rest nofun rfl ?_))))))));obtain⟨a1,a3,e⟩:Sm r/\(∀z∈ns,Bd 67 z)/\o=CK r ns:=by
   generalize ed:CM r s x y p ns .ahead=ds at ok;cases ok with
   |@ahead r' l a1 a2 a3=>
    injection ed with e1 e2;cases e1;have:ns=l:=by
     have inj:∀{a b:List Int},a.map Dt.int=b.map Dt.int->a=b:=λ{a}=>by
      induction a with
      |nil=>intro b e;cases b with|nil=>rfl|cons _ _=>cases e
      |cons i a ih=>
       intro b e;cases b with
       |nil=>cases e
       |cons j b=>injection e with e1 e2;cases e1;rw[ih e2]
     exact inj e2
    subst this;exact{a1,a3,(rfl)}
  subst e;refine{(),(),_,_,.inl (ak.of h2),rfl,l3,rfl,.inl {{_,ak.of h3},vp (qj (ak.of h3)) ⋯ rfl (tk r.b) ?_ ?_}}
  .intro H2 z g2 hz kk hkk;exact{(),_,_,.inr (ao.of (g2 _ _ hA)),rfl,(),_,(),a1.wf.hB.lo,hkk}
  .intro D2 hD2;have g2:=Same.new hD2 (.lst ((ns.map (tk r.b)).map V.int));exact adq a1 (hR.same g2) aq h12 a3 (q.from g2)
theorem avR(F:Fn K mg "_law_due" Rp ["_law_word_here","_law_rows","_law_numbers_here"])(RH:apn M)(AX:Ry M):af4 M:=by
 delta Jh
 intros w' l1 l2 rfl q h;refine{_,#[(),(aG 3 Jh.nd MJ),(aG 4 Jh.nd iu),(asF (i:=3) (j:=5) RH hr rfl rfl rfl rfl #[0,1,2] Jh.nd rfl (lE rfl) rfl rfl rfl M.ago (λa=>(aH (aG 4 Jh.nd (anV AX hr rfl #[5]))))),(bB (4!="":) (aH (aD (dF #["",4]))) bH),(aD (dF #["",3]))],?_};refine{(),(),(),q _ _ (λv H1 q1=>?_) (λc H1 q1=>?_)}
 .exists (),();rw[decide_eq_true rfl];exact bK {(),(bN 2),λt1 ht1=>q1 t1 _ (Same.new ht1 _) aq}
 .refine{(),aeQ M.apP M.alh M.ahn M.ae8 (some c),λa ob ha hcm=>?_};have g1:=Same.new ha (.cP ob (ux a (jK aU aX aR bJ (some c))));refine{(),ob,_,aq,hcm,a,some c,rfl,.inr {ob,(aq)},λH2 g2=>?_};exists (),();rw[decide_eq_false (Xw (some c))];exact d9 {(),(bN 2),λt1 ht1=>q1 t1 _ (g1.trans (g2.trans (Same.new ht1 _))) aq}
theorem aJJ(F:Fn K mg "_law_drawn_numbers" Sq ["_law_number_here"]):apE M:=by
 delta Lr
 intros n rfl q h;refine{_,#[(),(aG 1 Lr.nd (aL K (fK #[(0%_:),(0%_-_:),(_-0%_:),(0%_:)]) (0/_%_:))),(aG 2 Lr.nd (aL K (fK #[(_+0/_%_:),(0/_%_-_:)]) (0/_%_:))),(aG 3 Lr.nd (aL K (fK #[_,_,_,_,_]) (0/_%_:))),(aD (fK #[1,2,3,(fD (sc:=aKx) (N:=["_law_k","_law_number_here"]) (ix:=[none,some 0]) cY rfl (gH rfl B.eZ #[(_+0/_%_:)]) (λ_ _ _ _ _=>{(cu 0 cV),dI,(1/(0+_)%_-_:)}))]))],?_};have e9:=dM n (∅:(0:Int)<9);have f9:=dJ n (∅:(0:Int)<9);have aP6:=dM n (∅:(0:Int)<121);have aQs:=dJ n (∅:(0:Int)<121);have e5:=dM n (∅:(0:Int)<5);have f5:=dJ n (∅:(0:Int)<5);have aPM:=dM n (∅:(0:Int)<500);have aPT:=dJ n (∅:(0:Int)<500);refine{(),"",(∅:(0:Int)<9),(),"",(∅:(0:Int)<121),"",(),"",(∅:(0:Int)<5),"",(),"",(∅:(0:Int)<500),(bN 4),λa1 ha1=>?_};exists (),"",{∅,∅},"",(∅:(0:Int)<4);exists _,_,.inl (ak.of aq),fR (ns:=[n%9,n%121-10,0-n%5,n%500]) (dM _ ∅) (dJ _ ∅);have g1:=Same.new ha1 (.lst (([n%9,n%121-10,0-n%5,n%500]:List Int).map V.int));generalize ex:([n%9,n%121-10,0-n%5,n%500]:List Int).getD (n/500%4).toNat 0=x;have hx:x.natAbs<=1000:=by
  have:=dM (n/500) (∅:(0:Int)<4);have:=dJ (n/500) (∅:(0:Int)<4);obtain h|h|h|h:(n/500%4).toNat=0∨(n/500%4).toNat=1∨(n/500%4).toNat=2∨(n/500%4).toNat=3:=⋯
  .rw[h]at ex;change n%9=x at ex;lia
  .rw[h]at ex;change n%121-10=x at ex;lia
  .rw[h]at ex;change 0-n%5=x at ex;lia
  .rw[h]at ex;change n%500=x at ex;lia
 refine{(),"",{∅,∅},"",(∅:(0:Int)<10),(),"",{∅,∅},"",(∅:(0:Int)<14),"",(bN 2),λa2 ha2=>?_};exists (),"",{∅,∅},"",(∅:(0:Int)<2),_,_,.inl (ak.of aq),fR (ns:=[1+n/7%10,n/7%14-1]) (dM _ ∅) (dJ _ ∅);have g2:=g1.trans (Same.new ha2 (.lst (([1+n/7%10,n/7%14-1]:List Int).map V.int)));generalize ey:([1+n/7%10,n/7%14-1]:List Int).getD (n/3000%2).toNat 0=y;have hy:y.natAbs<=1000:=by
  have:=dM (n/7) (∅:(0:Int)<10);have:=dJ (n/7) (∅:(0:Int)<10);have:=dM (n/7) (∅:(0:Int)<14);have:=dJ (n/7) (∅:(0:Int)<14);have:=dM (n/3000) (∅:(0:Int)<2);have:=dJ (n/3000) (∅:(0:Int)<2);obtain h|h:(n/3000%2).toNat=0∨(n/3000%2).toNat=1:=⋯
  .rw[h]at ey;change 1+n/7%10=y at ey;lia
  .rw[h]at ey;change n/7%14-1=y at ey;lia
 refine{(bN 5),λa3 ha3=>?_};have g3:=g2.trans (Same.new ha3 (.lst (([2,3,7,31,997]:List Int).map V.int)));exists (),"",{∅,∅},"",(∅:(0:Int)<5),_,_,.inl (ak.of aq),fR (ns:=[2,3,7,31,997]) (dM _ ∅) (dJ _ ∅);have hp:=awt (n/11%5).toNat (by have:=dJ (n/11) (∅:(0:Int)<5);lia);generalize ([2,3,7,31,997]:List Int).getD (n/11%5).toNat 0=p at hp;have m0:=dM (n/17) (∅:(0:Int)<4);have m1:=dJ (n/17) (∅:(0:Int)<4);exists (),(),(),(),"",{∅,∅},"",(∅:(0:Int)<4),(),(⋯:-(2^62)<=1+n/17%4),(⋯:1+n/17%4<2^62);refine vp (xs:=(kj (1+n/17%4).toNat).map λi=>(0:Int)+(i:Nat)) (by rw[gh];exact Gu) (by rw[aC,wA];lia) rfl (λk=>n/(k+13)%23-11) ?_ ?_
 .intro H4 k g4 hk kk hkk;obtain⟨j,hj,rfl⟩:=cA.mp hk;exact{(),(),"",{⋯,by have:=qd.mp hj;lia},"",(∅:(0:Int)<23),"",hkk}
 intro l' hl';generalize ens:(((kj (1+n/17%4).toNat).map λi=>(0:Int)+(i:Nat)).map λk=>n/(k+13)%23-11)=ns;have ln:ns.length=(1+n/17%4).toNat:=by rw[<-ens,aC,aC,wA]
 have g4:=Same.new hl' (.lst (ns.map V.int));refine{(bN 4),λl hl=>?_};have g5:=Same.new hl (.lst [.int x,.int y,.int p,.ref l']);have h4:=g5 l' _ aq;refine q l l' _ x y p ns (g3.trans (g4.trans g5)) ?_ (λe=>by rw[e,aq]at hl;cases hl) aq h4 {hx,hy,hp,⋯,⋯,λz hz=>?_}
 .cases e:H l with
  |none=>rfl
  |some o=>rw[(g3.trans g4) _ _ e]at hl;cases hl
 .rw[<-ens]at hz;obtain⟨k,_,rfl⟩:=cA.mp hz;have:=dM (n/(k+13)) (∅:(0:Int)<23);have:=dJ (n/(k+13)) (∅:(0:Int)<23);lia
theorem aLS(F:Fn K mg "_law_text" Zh ["_law_word_here","_law_names","_law_numbers_here"]):ahR M:=by
 delta vg
 intros k l1 l2 l3 n a b x y p ns rfl h1 h2 h3 h4 hok q h;refine{_,#[(),(yO (1:) (ad1 K (n:=3) rfl (yV (cu 3 vg.nd) (yV (cu 4 vg.nd) (yV (cu 5 vg.nd) Uo))))),(bB (LK (ab5 K) (0:) (dF #["","",""]) (by with_unfolding_all rfl)) (aH (aD (qP K uY Ea Gq Ef iu (fK #[0,3,4,5])))) bH),(aG 6 vg.nd (fK jL)),(oM (bB (LK (ab5 K) (0:) (dF #["",""]) (by with_unfolding_all rfl)) (aH (aG 6 vg.nd (fK #[(eV xV rfl B.rT boot_str #[-2])]))) bH)),(oM (bB (0=="":) (aH (aG 6 vg.nd (fK #[(eV xV rfl B.rT boot_str #[-2]),(eV xV rfl B.rT boot_str #[-2])]))) bH)),(oM (bB (0=="":) (aH (aG 6 vg.nd (fK #[(eV xV rfl B.rT boot_str #[-2])]))) bH)),(oM (bB (0=="":) (aH (xR (i:=6) (hN:=vg.nd) (hi':=rfl) (hx:=(lE rfl)) (sc:=aEp) (N:=["_law_number_here"]) (ix:=[none]) cY rfl (iD K (-2:)) (λ_ _ _ _ _=>{(cu 0 cV),dI,(eV xV rfl B.rT boot_str #[0])}))) bH)),(aD (qP K uY Ea Gq Ef iu ((fK #[0,3,4])+6:)))],?_};have lw:(gF k n a b x y p ns).length<=100:=by
  unfold gF;split
  .show 3<=100;decide
  .cases k<;>simp[qT]<;>lia
 obtain⟨hJ,_,_⟩:=Xr (LC k).1 (LC k).2 lw hok;exists (),l1,(),ak.of h1,rfl,_,(),_,(),"";refine{(),(bN 3),λt1 ht1=>{t1,(),.inr (ao.of aq),rfl,rfl,?_}};have g1:=Same.new ht1 (.tup [.str "add",.str "multiply",.str "roll"]);have h21:=g1 _ _ h2;have h31:=g1 _ _ h3;exists ();change if inV (.str k.word) [.str "add",.str "multiply",.str "roll"]=true then _ else _;rw[aaL];cases e2:two k with
 |true=>
  have ew:(gF k n a b x y p ns).map Wa.word=[n,a,b]:=by unfold gF;rw[if_pos e2];rfl
  rw[ew]at hJ q;refine d9 {rfl,(),(),(),(),(bN 4),λl hl=>{_,l,[k.word,n,a,b],rfl,rfl,aq,by rw[nG];exact hJ,?_}};rw[nG];exact q _ (g1.trans (Same.new hl _))
 |false=>
  have ew:gF k n a b x y p ns = .nw n :: .a a::qT x y p ns k:=by unfold gF;rw[e2];rfl
  rw[ew]at hok hJ q;have ok2:∀w∈qT x y p ns k,w.Nt:=λw hw=>hok w (eN _ (eN _ hw));refine bK {dW _,λl6 Ww=>?_};have g2:=g1.trans (Same.new Ww (.lst []));have h6:(upd (upd H t1 (.tup [.str "add",.str "multiply",.str "roll"])) l6 (.lst [])) l6=some (.lst (([]:List Str).map V.str)):=aq;generalize upd (upd H t1 (.tup [.str "add",.str "multiply",.str "roll"])) l6 (.lst [])=H2 at g2 h6;refine lW.by (λσ' H'=>∃l' tl,σ'=[some (.str k.word),some (.ref l1),some (.ref l2),some (.str n),some (.str a),some (.str b),some (.ref l')]/\Same H H'/\H' l'=some (.lst (tl.map V.str))/\tl=match k with | .scale=>[aJ x] | .on=>[aJ x]|_=>[]) (λNN eE=>?_) ?_
  .refine{(),(bN 2),λt2 jF=>{t2,(),.inr (ao.of aq),rfl,rfl,?_}};have g3:=Same.new jF (.tup [.str "scale",.str "on"]);exists ();change if inV (.str k.word) [.str "scale",.str "on"]=true then _ else _;rw[aLk];have jh:=g2.trans g3;cases e3:scW k with
   |true=>
    have hx:x.natAbs<10^60:=by
     cases k with
     |scale=>exact(ok2 (.num x) fX).1
     |on=>exact(ok2 (.num x) fX).1
     |_=>cases e3
    refine d9 {(),_,_,.inl (ak.of (jh _ _ h2)),at0,x,rfl,yR hx,(bN 1),λl7 J5=>?_};refine eE _ _ {l7,[aJ x],rfl,jh.trans (Same.new J5 _),aq,?_};cases k<;>first|rfl|cases e3
   |false=>
    refine bK (eE _ _ {l6,[],rfl,jh,g3 _ _ h6,?_});cases k<;>first|rfl|cases e3
  rintro σ3 H3 ⟨l7,tl3,rfl,g3,h7,e3⟩;refine lW.by (λσ' H'=>∃l' tl,σ'=[some (.str k.word),some (.ref l1),some (.ref l2),some (.str n),some (.str a),some (.str b),some (.ref l')]/\Same H H'/\H' l'=some (.lst (tl.map V.str))/\tl=match k with | .scale=>[aJ x] | .on=>[aJ x] | .every=>[aJ x,aJ y]|_=>[]) (λNN eE=>?_) ?_
  .refine UH .every rfl (λe=>?_) (λe=>?_)
   .subst e;have hx:x.natAbs<10^60:=(ok2 (.num x) fX).1;have hy:y.natAbs<10^60:=(ok2 (.num y) (eN _ fX)).1;refine{(),_,_,.inl (ak.of (g3 _ _ h2)),at0,x,rfl,yR hx,(),_,_,.inl (ak.of (g3 _ _ h2)),at1,y,rfl,yR hy,(bN 2),λl8 YW=>?_};exact eE _ _ {l8,[aJ x,aJ y],rfl,g3.trans (Same.new YW _),aq,rfl}
   .refine eE _ _ {l7,tl3,rfl,g3,h7,?_};rw[e3];cases k<;>first|rfl|exact absurd rfl e
  rintro σ4 H4 ⟨l8,tl4,rfl,g4,h8,e4⟩;refine lW.by (λσ' H'=>∃l' tl,σ'=[some (.str k.word),some (.ref l1),some (.ref l2),some (.str n),some (.str a),some (.str b),some (.ref l')]/\Same H H'/\H' l'=some (.lst (tl.map V.str))/\tl=match k with | .scale=>[aJ x] | .on=>[aJ x] | .every=>[aJ x,aJ y] | .rest=>[aJ p]|_=>[]) (λNN eE=>?_) ?_
  .refine UH .rest rfl (λe=>?_) (λe=>?_)
   .subst e;have hp:=vM (ok2 (.by_ p) fX).1;refine{(),_,_,.inl (ak.of (g4 _ _ h2)),at2,p,rfl,yR hp,(bN 1),λl9 hl9=>?_};exact eE _ _ {l9,[aJ p],rfl,g4.trans (Same.new hl9 _),aq,rfl}
   .refine eE _ _ {l8,tl4,rfl,g4,h8,?_};rw[e4];cases k<;>first|rfl|exact absurd rfl e
  rintro σ5 H5 ⟨l9,tl5,rfl,g5,h9,e5⟩;refine lW.by (λσ' H'=>∃l' tl,σ'=[some (.str k.word),some (.ref l1),some (.ref l2),some (.str n),some (.str a),some (.str b),some (.ref l')]/\Same H H'/\H' l'=some (.lst (tl.map V.str))/\tl=(qT x y p ns k).map Wa.word) (λNN eE=>?_) ?_
  .refine UH .ahead rfl (λe=>?_) (λe=>?_)
   .subst e;refine{(),_,_,.inl (ak.of (g5 _ _ h2)),qO (j:=3) rfl,l3,rfl,.inl {{_,ak.of (g5 _ _ h3)},arj (g5 _ _ h3) ⋯ rfl ?_ ?_}}
    .intro H6 z g6 hz kk hkk;exact{(),z,rfl,yR (ok2 (.num z) (LD hz)).1,hkk}
    .intro D hD;exact eE _ _ {D,ns.map aJ,rfl,g5.trans (Same.new hD _),aq,by unfold qT;rw[gh];rfl}
   .refine eE _ _ {l9,tl5,rfl,g5,h9,?_};rw[e5];cases k<;>first|rfl|exact absurd rfl e|cases e2
  rintro σ6 H6 ⟨l10,tl6,rfl,g6,h10,e6⟩;refine{rfl,(),(),(),(bN 3),λl hl=>?_};have g7:=Same.new hl (.lst [.str k.word,.str n,.str a]);have l4:tl6.length<=4:=by
   rw[e6];cases k<;>simp[qT]<;>lia
  refine{(),.inl {_,_,aq,g7 _ _ h10,by rw[aC];show 3+tl6.length<=sizeLine;exact cT ⋯ (∅:7<=sizeLine),λl' hl'=>{_,l',k.word::n::a::tl6,rfl,rfl,aq,by rw[nG,e6];exact hJ,?_}}};rw[nG,e6];exact q _ (g6.trans (g7.trans (Same.new hl' _)))
theorem aFd(F:Fn K mg "_law_stands" aaG ["_law_desk","_law_kept","_law_names"])(oV:Fw M)(pq:Oz P w K mg base cM aU bJ aR aX):ajB P w K mg base cM:=by
 delta LZ
 intros p d e l M' N N2 ns rfl hD hN hE hl hn h8 q h;refine{_,#[(),(lU PassesOwn.never rfl (iD K (2:)) (cu 3 LZ.nd) #[(),(aG 4 LZ.nd (dF #["",""])),(oM (bB (vQ (aHl hr.hu (3:) (1:))) (aH (aG 4 LZ.nd (dF #["",(aA oV hr #[(Bu hr.hu (1:) (3:) (λ_ _=>rfl))])]))) bH)),(bB ((aA pq hr #[0,(""+3:)])!=4:) (aH (aD jy)) bH)]),(aD jy)],?_};refine{(),l,rfl,.inl {{_,ak.of hl},?_}};refine auM (qj (ak.of hl)) (λi σ' H'=>∃o3 o4,σ'=[some (.ref p),some (.ref e),some (.ref l),o3,o4]/\Same H H') {none,none,rfl,Same.refl _} (λ_ _ _ ⟨_,_,_,g⟩=>g) ?_ ?_
 .rintro i x σ' H1 hx ⟨o3,o4,rfl,g1⟩;obtain⟨s,hs,rfl⟩:=cA.mp (List.mem_of_getElem? hx);have ok:=hn s hs;refine{(bN 2),λt1 ht1=>?_};have g2:=g1.trans (Same.new ht1 (.tup [.str "refused",.str "name"]));have h1:(upd H1 t1 (.tup [.str "refused",.str "name"])) t1=some (.tup [.str "refused",.str "name"]):=aq;generalize upd H1 t1 (.tup [.str "refused",.str "name"])=H2 at g2 h1;refine lW.by (λσ' H'=>∃t2,σ'=[some (.ref p),some (.ref e),some (.ref l),some (.str s),some (.ref t2)]/\Same H H'/\H' t2=some (match M' s with|some r=> .tup [.str "told",.str (txt r)]|none=> .tup [.str "refused",.str "name"])) (λNN eE=>?_) ?_
  .rcases(hE.same g2).get s with⟨v,r,hg,hm,hR⟩|⟨hg,hm⟩
   .refine{(),(),e,(),hg,(),d9 ?_};refine{(),(),e,v,rfl,hg,v,r,rfl,hR,h8 s r hm,λH3 g3=>{(bN 2),λt2 jF=>?_}};exact eE _ _ {t2,rfl,g2.trans (g3.trans (Same.new jF _)),by rw[hm];exact aq}
   .refine{(),(),e,(),hg,(),bK ?_};exact eE _ _ {t1,rfl,g2,by rw[hm];exact h1}
  rintro σ3 H3 ⟨t2,rfl,g3,h2⟩;have l5:("show " : Str).length+s.length<=sizeLine:=by
   have e1:("show " : Str).length=5:=by decide +kernel
   have:=ok.hi;rw[e1];exact cT ⋯ (∅:13<=sizeLine)
  refine{(),(),l5,ad5 (hD.same g3) hN ok (λr hm=>{h8 s r hm,λt4 H4 g4 h4=>?_}) (λhm t4 H4 g4 h4=>?_)}
  .rw[hm]at h2;exact{(),rM Kp (h8 s r hm).RM h4 (g4 _ _ h2) {(),bK {_,(),g3.trans g4}}}
  .rw[hm]at h2;exact{(),rM JT (Hq none) h4 (g4 _ _ h2) {(),bK {_,(),g3.trans g4}}}
 .rintro σ' H1 ⟨o3,o4,rfl,g1⟩;exact q H1 g1
theorem auV(F:Fn K mg "_law_done" WB ["_law_desk","_law_kept","_law_names","_law_number_here","_law_by_here"])(Cd:U3 M)(pq:Oz P w K mg base cM aU bJ aR aX)(oV:Fw M)(aax:apE M)(acg:ahR M)(Wx:af4 M):aj0 P w K mg base cM:=by
 delta wB
 intros p d e l M' N N2 ns n b rfl hD hN hE Bv ne hl h4 hn qU hb n0 n1 q h;refine{_,#[(),(aG 5 wB.nd (fK #["","","","","","","","","","","",""])),(aG 6 wB.nd (aL K (5:) (3%_:))),(aG 7 wB.nd (fK #[(aL K (2:) (3/_%_:)),(aL K (2:) (3/_%_:)),(aL K (2:) (3/_%_:))])),(bB (6=="":) #[(),(Lx hr.hu (1:) (-7:) (aA Cd hr #[4,(3/_:),_]) rfl),(aD (jM (lV K hr) (aA pq hr #[0,(""+(-7)+""+(aA oV hr #[(Bu hr.hu (1:) (-7:) (λ_ _=>rfl))]):)]) (dF #["",""]) (kE _)))] bH),(bB (6=="":) #[(),(aG 8 wB.nd (aA pq hr #[0,(""+(-7):)])),(bB (vQ (Ox hr.hu (-7:) (1:))) (aH (aD (jM (lV K hr) (8:) (dF #["",""]) (kE _)))) bH),(iK (adO (1:) (-7:) {rfl,rfl,rfl,(rfl)})),(aD (jM (lV K hr) (8:) (dF #["",""]) (kE _)))] bH),(aG 9 wB.nd (aA aax hr #[(3/_:)])),(oM (bB (PW.pt (rP (6=="":) (rP ((aL K (ahI hr.hu (1:) (-7:) (dF #[_]) {rfl,rfl,rfl,(rfl)}) aN)>_:) (uc (3/_%_==_:))))) (aH (yO ((jB zu (3+_:) aN)%(jB zu aN aN):) (HS (9:) aN set_list))) bH)),(oM (bB (PW.pt (rP (6=="":) (uc (3/_%_==_:)))) (aH (yO ((jB zu (3+_:) aN)%(jB zu aN aN)*(_-_*(3/_%_)):) (HS (9:) aN set_list))) bH)),(aG 8 wB.nd (aA pq hr #[0,(aA acg hr #[6,7,9])])),(bB (PW.pt (jX (vQ (Ox hr.hu (-7:) (1:))) (oH (PW.pt (rP (LK (ab5 K) (6:) (dF #["","",""]) (by with_unfolding_all rfl)) (uc (vQ (Ox hr.hu (-7:) (1:))))))))) (aH (aD (jM (lV K hr) (8:) (dF #["",""]) (kE _)))) bH),(aG 10 wB.nd (aA Wx hr #[6,(fK #[(Bu hr.hu (1:) (-7:) (λ_ _=>rfl)),(ahI hr.hu (1:) (-7:) MJ {rfl,rfl,rfl,(rfl)})]),9])),(bB (-10=="":) (aH (aD (jM (lV K hr) (8:) (10:) (kE _)))) bH),(Lx hr.hu (1:) (-7:) (-10:) rfl),(aD (jM (lV K hr) (8:) (dF #["",""]) (kE _)))],?_};obtain⟨w',hw',ew⟩:=Cq (ws:=wl) (k:=n%12) (dM _ ∅) (dJ _ ∅);have l4:((ns.length:Nat):Int)=4:=⋯;obtain⟨na,ha,ea⟩:=Cq (ws:=ns) (k:=n/12%4) (dM _ ∅) (by rw[l4];exact dJ _ ∅);obtain⟨nb,hb',eb⟩:=Cq (ws:=ns) (k:=n/48%4) (dM _ ∅) (by rw[l4];exact dJ _ ∅);obtain⟨nc,hc',ec⟩:=Cq (ws:=ns) (k:=n/192%4) (dM _ ∅) (by rw[l4];exact dJ _ ∅);have oa:=hn na ha;have ob:=hn nb hb';have oc:=hn nc hc';refine{(bN 12),λl5 Fx=>?_};generalize eH:upd H l5 _=H1;have g1:Same H H1:=eH▸Same.new Fx _;have h5:H1 l5=some (.lst (wl.map V.str)):=by rw[<-eH];exact aq
 have hl1:=g1 _ _ hl;clear eH;exists (),(),"",(∅:(0:Int)<12),_,_,.inl (ak.of h5),ew;refine{(),(),"",{∅,∅},"",(∅:(0:Int)<4),_,_,.inl (ak.of hl1),ea,(),(),"",{∅,∅},"",(∅:(0:Int)<4),_,_,.inl (ak.of hl1),eb,(),(),"",{∅,∅},"",(∅:(0:Int)<4),_,_,.inl (ak.of hl1),ec,(bN 3),λl7 J5=>?_};have g2:=g1.trans (Same.new J5 (.lst [.str na,.str nb,.str nc]));have h7:(upd H1 l7 (.lst [.str na,.str nb,.str nc])) l7=some (.lst [.str na,.str nb,.str nc]):=aq;generalize upd H1 l7 (.lst [.str na,.str nb,.str nc])=H2 at g2 h7⊢;have D2:=hD.same g2;have E2:=hE.same g2;have s4:("row " : Str).length=4:=by decide +kernel
 have s5:("drop " : Str).length=5:=by decide +kernel
 have s1:(" " : Str).length=1:=by decide +kernel
 have big:10000<=sizeLine:=∅;have la:=oa.hi;refine aoX rfl (λe6=>?_) (λe6=>?_)
 .refine{(),(),"",{∅,∅},b,n/5,rfl,hb,λv r H3 g3 hR hS=>?_};obtain⟨H4,xq,sd,E4⟩:=(E2.same g3).put Bv (n:=na) hR;obtain⟨kvs,he,_⟩:=(E2.same g3).ex;have D4:=(D2.same g3).Nm ne sd he;have e7:l7≠e:=mj (g3 _ _ h7) he (by intro z;cases z);have h74:=sd _ _ e7 (g3 _ _ h7);exists (),(),_,_,.inl (ak.of (g3 _ _ h7)),at0,e,H4,rfl,xq;have t8:=hS.t8;have tl:=t8.OL;rcases E4.get na with⟨v',r',hg,hm,hR'⟩|⟨_,hm⟩
  .have er:r'=r:=by unfold cJ.put at hm;rw[if_pos rfl]at hm;cases hm;rfl
   subst er;refine{(),(),_,_,.inl (ak.of h74),at0,by rw[s4];lia,by rw[u9,s4,s1];lia,(),(),_,_,.inl (ak.of h74),at0,e,v',rfl,hg,v',r',rfl,hR',t8,λH5 g5=>?_};refine{by rw[u9,u9,s4,s1];lia,told_row (D4.same g5) hN oa t8 hS.wf λt6 H6 g6 D6 h6=>?_};refine{(bN 2),λt7 Dr=>?_};have g7:=Same.new Dr (.tup [.str "told",.str "ok"]);obtain⟨kd,hd,_⟩:=(D4.same g5).kp.ex;have E6:=(E4.same g5).DR ne.symm g6 hd;refine rM Kp Pb (g7 _ _ h6) aq ?_;refine q _ (M'.put na r') (λb' o hb1 hb2 e0=>g7 _ _ (g6 _ _ hb1 (g5 _ _ (sd _ _ hb2 (g3 _ _ (g2 _ _ e0)))))) (D6.same g7) (E6.same g7) (alD qU hS.wf)
  .unfold cJ.put at hm;rw[if_pos rfl]at hm;cases hm
 refine aoX rfl (λe7=>?_) (λe7=>?_)
 .refine{(),(),_,_,.inl (ak.of h7),at0,by rw[s5];lia,axH D2 hN oa (λr hm t3 H3 g3 D3 h3=>?_) (λhm t3 H3 g3 h3=>?_)}
  .intros kd hd _ D2.kp.ex;have E3:=E2.DR ne.symm g3 hd;have h73:=g3 _ _ (mj h7 hd (by intro z;cases z)) h7;rcases E3.get na with⟨v,r',hg,hm',hR⟩|⟨_,hm'⟩
   .refine{(),_,_,.inl (ak.of h73),at0,(),e,(),hg,(),bK ?_};obtain⟨kvs,v,he,hv,sd,E4⟩:=E3.drop hm;exists (),e,rfl,.inl {kvs,.inl he},(),_,_,.inl (ak.of h73),at0,kvs,.inr na,v,he,rfl,hv;have t3e:t3≠e:=mj h3 he (by intro z;cases z);refine{(),(bN 2),λt7 Dr=>?_};have g7:=Same.new Dr (.tup [.str "told",.str "ok"]);refine rM Kp Pb (g7 _ _ (sd _ _ t3e h3)) aq ?_;refine q _ (M'.drop na) (λb' o hb1 hb2 e0=>g7 _ _ (sd _ _ hb2 (g3 _ _ hb1 (g2 _ _ e0)))) (((D3.Nm ne sd he).same g7).up (uL _)) ((E4.same g7).up (uL _)) λs r e0=>?_;unfold cJ.drop at e0;split at e0
    .cases e0
    .exact(qU s r e0).wf
   .rw[hm]at hm';cases hm'
  .have E3:=E2.same g3;rcases E3.get na with⟨v,r',hg,hm',hR⟩|⟨hg,hm'⟩
   .rw[hm]at hm';cases hm'
   .refine{(),_,_,.inl (ak.of (g3 _ _ h7)),at0,(),e,(),hg,(),d9 ?_};refine{(),(bN 2),λt7 Dr=>?_};have g7:=Same.new Dr (.tup [.str "refused",.str "name"]);refine rM JT (Hq none) (g7 _ _ h3) aq ?_;exact q _ M' (λb' o hb1 hb2 e0=>g7 _ _ (g3 _ _ (g2 _ _ e0))) ((D2.same (g3.trans g7)).up (uL _)) ((E3.same g7).up (uL _)) λs r e0=>(qU s r e0).wf
 obtain⟨k,rfl⟩:∃k:Wd,w'=k.word:=(aK4 hw').resolve_left e7;have hk:k≠ .row:=λz=>e6 (by rw[z];rfl);refine{(),"",{∅,∅},n/768,rfl,λl9 l3 H3 x y z ns' g3 h9n hne h9 h3 dn=>?_};have x60:x.natAbs<10^60:=A9 dn.x1 (by decide +kernel);refine lW.by (λσ' H'=>∃x',σ'=[some (.ref p),some (.ref e),some (.ref l),some (.int n),some (.int b),some (.ref l5),some (.str k.word),some (.ref l7),none,some (.ref l9),none]/\Same H2 H'/\H' l9=some (.lst [.int x',.int y,.int z,.ref l3])/\H' l3=some (.lst (ns'.map V.int))/\x'.natAbs<10^60) (λNN eE=>?_) ?_
 .refine{(),(),cC (λc1=>?_) (λ_=>bK (eE _ _ {x,rfl,g3,h9,h3,(x60)}))};have E3:=E2.same g3;intros kvs he _ E3.ex;refine{(),e,rfl,.inl {kvs,.inl he},(),_,_,.inl (ak.of (g3 _ _ h7)),at1,(bN 1),λt0 ht0=>?_};have g4:=Same.new ht0 (.tup [.int 0]);have h40:(upd H3 t0 (.tup [.int 0])) t0=some (.tup [.int 0]):=aq;generalize upd H3 t0 (.tup [.int 0])=H4 at g4 h40⊢;obtain⟨o,b',aa,xs,hg,Px,hA⟩:∃(o:Option V) (b':Int) (aa:Addr) (xs:List V),jC H4 e (.str nb) o/\o.getD (.ref t0) = .ref aa/\H4 aa=some (.tup (.int b'::xs)):=by
   rcases(E3.same g4).get nb with⟨v,r,hg,hm,aa,p1,p2,rfl,hA,_⟩|⟨hg,hm⟩
   .exact{_,r.b,aa,_,hg,rfl,hA}
   .exact{none,0,t0,[],hg,rfl,(h40)}
  exists o,hg;rw[Px];refine{_,_,.inr (ao.of hA),at0,"",(),cC (λ_=>?_) (λ_=>bK (eE _ _ {x,rfl,g3.trans g4,g4 _ _ h9,g4 _ _ h3,x60}))};refine{(),"",{∅,∅},"",(∅:(0:Int)<3),(),cC (λ_=>?_) (λ_=>eE _ _ {x,rfl,g3.trans g4,g4 _ _ h9,g4 _ _ h3,x60})};exists (),"",{∅,∅,⋯},"",{∅,∅,∅},"",(∅:(0:Int)<10^(60:Int).toNat);exists (),l9,_,0,0,rfl,rfl,g4 _ _ h9,rfl;exact eE _ _ {(),(g3.trans g4).upd h9n _,aq,by rw[cI hne.symm];exact g4 _ _ h3,agX _}
 clear h9 h3 x60;rintro σ4 H4 ⟨x2,rfl,g4,h9,h3,x60⟩;refine lW.by (λσ' H'=>∃x',σ'=[some (.ref p),some (.ref e),some (.ref l),some (.int n),some (.int b),some (.ref l5),some (.str k.word),some (.ref l7),none,some (.ref l9),none]/\Same H2 H'/\H' l9=some (.lst [.int x',.int y,.int z,.ref l3])/\H' l3=some (.lst (ns'.map V.int))/\x'.natAbs<10^60) (λNN eE=>?_) ?_
 .refine{(),(),cC (λc1=>?_) (λ_=>bK (eE _ _ {x2,rfl,g4,h9,h3,(x60)}))};refine{(),"",{∅,∅},"",(∅:(0:Int)<8),(),cC (λ_=>?_) (λ_=>eE _ _ {x2,rfl,g4,h9,h3,(x60)})};exists (),"",{∅,∅,⋯},"",{∅,∅,∅},"",(∅:(0:Int)<10^(60:Int).toNat);have b2:0<=n/56%2:=dM _ ∅;have b3:n/56%2<2:=dJ _ ∅;refine{(),"",{∅,∅},"",(∅:(0:Int)<2),mulL ∅ ∅,"",mulR (by show -(2^64)<1-2*(n/56%2);lia) (by show 1-2*(n/56%2)<2^64;lia),?_};exists (),l9,_,0,0,rfl,rfl,h9,rfl;refine eE _ _ {(),g4.upd h9n _,aq,by rw[cI hne.symm];exact h3,?_};have hm:=agX ((n+982451653)^(7:Int).toNat);generalize (n+982451653)^(7:Int).toNat%10^(60:Int).toNat=m at hm;generalize 10^60=P at hm;obtain e1|e1:n/56%2=0∨n/56%2=1:=⋯
  .rw[e1];show(m*(1-2*0)).natAbs<P;lia
  .rw[e1];show(m*(1-2*1)).natAbs<P;lia
 clear h9 h3 x60;rintro σ5 H5 ⟨x3,rfl,g5,h9,h3,x60⟩;have dnK:wO x3 y z ns':={x60,A9 dn.y1 (by decide +kernel),dn.p1,dn.l1,dn.l4,dn.bd};refine{(),(),(),(),k,l7,l9,l3,na,nb,nc,x3,y,z,ns',rfl,g5 _ _ h7,h9,h3,dn.l4,dnK.nt oa ob oc,λH6 g6=>?_};have D6:=D2.same (g5.trans g6);have E6:=E2.same (g5.trans g6);refine auH D6 hN hk oa ob oc dnK qU λf t H7 g7 hf an=>?_;intros kd hd _ D6.kp.ex;have nd:∀{a:Addr} {xs:List V},H6 a=some (.lst xs)->H7 a=some (.lst xs):=λ{a xs} ha=>g7 _ _ (mj ha hd (by intro z;cases z)) ha;have E7:=E6.DR ne.symm g7 hd;have Cj:=nd (g6 _ _ (g5 _ _ h7));have h97:=nd (g6 _ _ h9);have h37:=nd (g6 _ _ h3);have XG:KY d e H H7:=λb' o hb1 hb2 e0=>g7 _ _ hb1 (g6 _ _ (g5 _ _ (g2 _ _ e0)));rcases an with⟨rfl,hm,D7⟩|⟨r,s,hm,hs,ok,an⟩
 .have fin:∀H8:Hp,Same H7 H8->∀t8,H8 t8=some (.tup [.str "refused",.str "name"])->oA K id (.ref t) (.ref t8) H8 Q:=λH8 g8 t8 h8=>by
   refine rM JT (Hq none) (g8 _ _ hf) h8 ?_;exact q H8 M' (λb' o hb1 hb2 e0=>g8 _ _ (XG b' o hb1 hb2 e0)) (D7.same g8) ((E7.same g8).up (uL _)) λs r e0=>(qU s r e0).wf
  rcases E7.get nb with⟨v,r',hg,hm',hR⟩|⟨hg,hm'⟩
  .have hm2:=hm.resolve_left (by rw[hm'];intro z;cases z);refine{(),_,_,.inl (ak.of Cj),at1,(),e,(),hg,(),bK ?_};refine{(),(bN 3),λt1 ht1=>{t1,(),.inr (ao.of aq),rfl,rfl,(),?_}};change if inV (.str k.word) [.str "add",.str "multiply",.str "roll"]=true then _ else _;rw[aaL,hm2.1];have g8:=Same.new ht1 (.tup [.str "add",.str "multiply",.str "roll"]);rcases(E7.same g8).get nc with⟨v,r',hg,hm',hR⟩|⟨hg,hm'⟩
   .rw[hm2.2]at hm';cases hm'
   refine d9 {(),_,_,.inl (ak.of (g8 _ _ Cj)),at2,(),e,(),hg,(),d9 ?_};exact{(),(bN 2),λt2 jF=>fin _ (g8.trans (Same.new jF _)) t2 aq}
  .refine{(),_,_,.inl (ak.of Cj),at1,(),e,(),hg,(),d9 (d9 ?_)};exact{(),(bN 2),λt2 jF=>fin _ (Same.new jF _) t2 aq}
 .rcases E7.get nb with⟨v1,r',hg1,hm',pA⟩|⟨hg,hm'⟩;case inr=>rw[hm]at hm';cases hm'
  rw[hm]at hm';cases hm';refine aKb (σ:=[some (.ref p),some (.ref e),some (.ref l),some (.int n),some (.int b),some (.ref l5),some (.str k.word),some (.ref l7),some (.ref t),some (.ref l9),none]) rfl rfl rfl Cj hg1 E7 (λe2=>by rw[hs e2];nofun) λH8 g8=>?_;have E8:=E7.same g8;have h78:=g8 _ _ Cj;have hR8:=pA.same g8;rcases E8.get nb with⟨v1,r',hg1,hm',pA⟩|⟨hg,hm'⟩;case inr=>rw[hm]at hm';cases hm'
  rw[hm]at hm';cases hm';obtain⟨o2,hg2,hv2⟩:∃o2,jC H8 e (.str nc) o2/\(two k=true->bQ H8 (o2.getD .non) s):=by
   rcases E8.get nc with⟨v,r',hg,hm',hR⟩|⟨hg,hm'⟩
   .exact{_,hg,λe2=>by rw[hs e2]at hm';cases hm';exact hR}
   .exact{_,hg,λe2=>by rw[hs e2]at hm';cases hm'}
  intros kvs he _ E8.ex;refine{(),(),(),_,_,.inl (ak.of h78),at1,e,v1,rfl,hg1,(),e,rfl,.inl {kvs,.inl he},(),_,_,.inl (ak.of h78),at2,o2,hg2,(bN 2),λla hla=>?_};have g9:=Same.new hla (.lst [v1,o2.getD .non]);have hL:(upd H8 la (.lst [v1,o2.getD .non])) la=some (.lst [v1,o2.getD .non]):=aq;generalize upd H8 la (.lst [v1,o2.getD .non])=H9 at g9 hL⊢;have yr:=g8.trans g9;refine{(),k.word,la,l9,rfl,λQ' E' k1 k2=>{k,la,l9,l3,v1,o2.getD .non,r,s,x3,y,z,ns',vW r s x3 y z ns' k,rfl,hk,hL,yr _ _ h97,yr _ _ h37,cT dn.l4 ∅,pA.same g9,λe2=>(hv2 e2).same g9,ok,?_}};rcases an with⟨r',eo,rfl,D7⟩|⟨c,eo,rfl,D7⟩
  .rw[eo];intro v' pD jj hR' hW';refine k1 v' pD λt2 Kq rR h11=>?_;have oR:=yr.trans (jj.trans rR);have h7z:=oR _ _ Cj;exists (),_,_,.inr (ao.of h11),at0,();rw[decide_eq_false atY];refine bK ?_;obtain⟨Yh,xq,sd,E12⟩:=(E7.same oR).put Bv (n:=na) (hR'.same rR);obtain⟨aQh,he2,_⟩:=(E7.same oR).ex;exists (),_,_,.inr (ao.of h11),at1,(),(),_,_,.inl (ak.of h7z),at0,e,Yh,rfl,xq;have hf2:=sd _ _ (mj (oR _ _ hf) he2 (by intro z;cases z)) (oR _ _ hf);refine{(),(bN 2),λOJ aNB=>?_};have jh:=Same.new aNB (.tup [.str "told",.str "ok"]);refine rM Kp Pb (jh _ _ hf2) aq ?_;exact q _ (M'.put na r') (λb' o hb1 hb2 e0=>jh _ _ (sd _ _ hb2 (oR _ _ (XG b' o hb1 hb2 e0)))) (((D7.same oR).Nm ne sd he2).same jh) (E12.same jh) (alD qU hW')
  .rw[eo];intro pD jj;refine k2 c pD λt2 Kq rR h11=>?_;have oR:=yr.trans (jj.trans rR);exists (),_,_,.inr (ao.of h11),at0,();rw[decide_eq_true rfl];refine d9 {(),(),rM JT (Hq (some c)) (oR _ _ hf) h11 ?_};exact q _ M' (λb' o hb1 hb2 e0=>oR _ _ (XG b' o hb1 hb2 e0)) (D7.same oR) ((E7.same oR).up (uL _)) λs r e0=>(qU s r e0).wf
theorem aOY{f:Addr}{fd:FuncData}(F:rN K "law" "law" xZ f fd)(Xy:akx M)(wF:ado M)(W5:alR M)(Qg:akg P w K mg base cM)(Cd:U3 M)(pq:Oz P w K mg base cM aU bJ aR aX)(oV:Fw M)(wK:ZJ M)(Qu:aj0 P w K mg base cM)(abm:an4 M)(XM:ajB P w K mg base cM):jg P w K mg base (iC P w) W4 f fd ["_law_script"] (WX K):=by
 refine F.okN (k:=23) uQ (λvs H Q E h=>?_) (λcdv A outer s H vs Q E hr h=>?_)
 .intros a ns rfl _ h;rfl
 .intros a ns rfl hS hlen hbt q h;refine{_,#[(),(aG 1 uQ.nd (jD (m6 K) (aA Xy hr #[(aA wF hr #[0,_]),(aA wF hr #[0,_])]) jH (jQ aN))),(aG 2 uQ.nd (aA W5 hr #[(aA wF hr #[0,_])])),(aG 3 uQ.nd (ajb D.yp Qg hr rfl)),(fQ (i:=4) uQ.nd rfl (eG rfl) al4),(lU PassesOwn.never rfl (gH rfl B.eZ #[_]) (cu 5 uQ.nd) #[(),(aG 6 uQ.nd (aL K (fK #[2,2,2,_]) ((aA wF hr #[0,(_+5:)])%_:))),(Lx hr.hu (4:) (aL K (1:) (5:)) (aA Cd hr #[6,((aA wF hr #[0,(_+5:)])+5:),_]) rfl),(bB ((aA pq hr #[3,(""+(aL K (1:) (5:))+""+(aA oV hr #[(Bu hr.hu (4:) (aL K (1:) (5:)) (λ_ _=>rfl))]):)])!=(dF #["",""]):) (aH (aD jy)) bH)]),(lU PassesOwn.never rfl (gH rfl B.eZ #[_]) (cu 5 uQ.nd) #[(),(aG 7 uQ.nd (aA wK hr #[((aA wF hr #[0,(_+5:)])+5*5:),5])),(bB (gU (gw (aA Qu hr #[3,4,1,7,2]))) (aH (aD jy)) bH),(bB ((bZ K B.bY #[(aDe (fD (sc:=aCR) (N:=["_law_name","_law_kept"]) (ix:=[none,some 4]) cY rfl (aLd (4:)) (λ_ _ _ _ _=>{(cu 0 cV),(Um (gU (gw (aA abm hr #[(Bu hr.hu (1:) (0:) (λ_ _=>rfl))])))),(0:)})))])>_:) (aH (aD jy)) bH),(bB (gU (gw (aA XM hr #[3,4,1]))) (aH (aD jy)) bH)]),(aD (jM (lV K hr) (aA pq hr #[(ajb D.yp Qg hr rfl),(""+(-1):)]) (dF #["",""]) (kE _)))],?_};refine{(),a,ns,0,rfl,hS,∅,(),a,ns,1,rfl,hS,∅,_,(),λl0 H1 nm8 g1 hl0 l8 ok8=>?_};refine{(),.inl {_,ak.of hl0,λl1 hl1=>?_}};rw[show fY (nm8.map V.str) none (some 4)=(nm8.map V.str).take 4 from vU _ 4,<-vH];obtain⟨nm,enm⟩:∃nm,nm8.take 4=nm:={()};have l4:nm.length=4:=by rw[<-enm,nK];lia
  have okn:∀s∈nm,fG s:=λs hs=>ok8 s (Ma (enm▸hs));rw[enm];have g2:=g1.trans (Same.new hl1 (.lst (nm.map V.str)));have h1:(upd H1 l1 (.lst (nm.map V.str))) l1=some (.lst (nm.map V.str)):=aq;generalize upd H1 l1 (.lst (nm.map V.str))=H2 at g2 h1⊢;have hS2:=g2.seq hS;refine{(),a,ns,2,rfl,hS2,∅,(),λH3 g3=>?_};have hb:=Zd (aKc (cellAt ns 2));generalize X6 (cellAt ns 2)=b at hb;have hS3:=g3.seq hS2;have h13:=g3 _ _ h1;intro p dx hp hdx hne;refine{p,dx,rfl,aq,λd H4 hd D4 same=>{rfl,?_}};have g4:Same H3 H4:=λb' o e0=>same b' o (by rw[cI (jx e0 hp),cI (jx e0 hdx)];exact e0) (jx e0 hp);intro e he;have g5:=g4.trans (Same.new he (.dK []));have L5:LI K cM (upd H4 e (.dK [])) a l1 p d e ns nm (λ_=>none) 0:=by
   intros kd hd4 _ D4.kp.ex;exact{g5.seq hS3,g5 _ _ h13,D4.same (Same.new he _),fM.none_ aq,jx hd4 he}
  generalize upd H4 e (.dK [])=H5 at L5⊢;clear g5 hS h1 hS2 hS3 h13 g1 g2 g3 g4 D4 same;have s4:("row " : Str).length=4:=by decide +kernel
  have s5:("show " : Str).length=5:=by decide +kernel
  have s1:(" " : Str).length=1:=by decide +kernel
  have big:10000<=sizeLine:=∅;exists 3,rfl,∅,∅;refine pX (lo:=0) (n:=3) (λi σ' H'=>∃o5 o6 M,σ'=[some (.ref a),some (.ref l1),some (.int b),some (.ref p),some (.ref e),o5,o6,none]/\LI K cM H' a l1 p d e ns nm M i/\∀s r,M s=some r->Sm r) {none,none,(),L5,nofun} ?_ ?_
  .rintro i σ' H6 hi ⟨o5,o6,M',rfl,L6,sm⟩;refine{(),(),(),(bN 4),λlo hlo=>?_};generalize eH:upd H6 lo _=H7;have g7:Same H6 H7:=eH▸Same.new hlo _;have h7:H7 lo=some (.lst (([b,b,b,0]:List Int).map V.int)):=by rw[<-eH];exact aq
   clear eH;have L7:=L6.same g7;exists (),(),a,ns,(),L7.hS,(⋯:(0:Int)<=3+(0+(i:Int)));have e0:=dM (cellAt ns (3+(0+(i:Int)))) (∅:(0:Int)<4);have e1:=dJ (cellAt ns (3+(0+(i:Int)))) (∅:(0:Int)<4);exists "",(∅:(0:Int)<4),_,_,.inl (ak.of h7),fR (ns:=[b,b,b,0]) e0 e1;have hown:gY (([b,b,b,0]:List Int).getD (cellAt ns (3+(0+(i:Int)))%4).toNat 0):=by
    have b0:gY 0:=Zd ∅;obtain z|z|z|z:(cellAt ns (3+(0+(i:Int)))%4).toNat=0∨(cellAt ns (3+(0+(i:Int)))%4).toNat=1∨(cellAt ns (3+(0+(i:Int)))%4).toNat=2∨(cellAt ns (3+(0+(i:Int)))%4).toNat=3:=⋯
    .rw[z];exact hb
    .rw[z];exact hb
    .rw[z];exact hb
    .rw[z];exact b0
   generalize ([b,b,b,0]:List Int).getD (cellAt ns (3+(0+(i:Int)))%4).toNat 0=own at hown;obtain⟨s,hs,es⟩:=Cq (ws:=nm) (k:=0+(i:Int)) ⋯ ⋯;have os:=okn s hs;have ls:=os.hi;refine{(),(),(),a,ns,(),L7.hS,(⋯:(0:Int)<=3+(0+(i:Int))),(),own,(),hown,λv r H8 g8 hR qU=>?_};have L8:=L7.same g8;obtain⟨H9,xq,sd,E9⟩:=L8.E.put ⋯ (n:=s) hR;intros kvs he8 _ L8.E.ex;have D9:=L8.D.Nm L8.ne sd he8;exists (),(),(),_,_,.inl (ak.of L8.h1),es,e,H9,rfl,xq;have h19:=sd _ _ (mj L8.h1 he8 (by intro z;cases z)) L8.h1;have t8:=qU.t8;have tl:=t8.OL;rcases E9.get s with⟨v',r',hg,hm,hR'⟩|⟨_,hm⟩;case inr=>unfold cJ.put at hm;rw[if_pos rfl]at hm;cases hm
   have er:r'=r:=by unfold cJ.put at hm;rw[if_pos rfl]at hm;cases hm;rfl
   subst er;refine{(),(),(),_,_,.inl (ak.of h19),es,by rw[s4];lia,by rw[u9,s4,s1];lia,(),(),(),_,_,.inl (ak.of h19),es,e,v',rfl,hg,v',r',rfl,hR',t8,λpD jj=>?_};refine{by rw[u9,u9,s4,s1];lia,told_row (D9.same jj) ⋯ os t8 qU.wf λt11 Kq rR D11 h11=>?_};refine{(bN 2),λiZ axq=>?_};have eO:=Same.new axq (.tup [.str "told",.str "ok"]);refine rM Kp Pb (eO _ _ h11) aq {(),bK ?_};obtain⟨kd,axU,_⟩:=(D9.same jj).kp.ex;have E11:=(E9.same jj).DR L8.ne.symm rR axU;refine{_,_,M'.put s r',rfl,L8.de (λb' o hb1 hb2 e0=>eO _ _ (rR _ _ hb1 (jj _ _ (sd _ _ hb2 e0)))) (D11.same eO) (E11.same eO),λs' r'' e0=>?_};unfold cJ.put at e0;split at e0
   .cases e0;exact qU
   .exact sm s' r'' e0
  .rintro σ' H6 ⟨o5,o6,M6,rfl,L6,sm6⟩;exists 14,rfl,∅,∅;refine pX (lo:=0) (n:=14) (λi σ' H'=>∃o5 o7 M,σ'=[some (.ref a),some (.ref l1),some (.int b),some (.ref p),some (.ref e),o5,o6,o7]/\LI K cM H' a l1 p d e ns nm M (3+i)/\∀s r,M s=some r->Sm r) {_,none,(),L6,sm6} ?_ ?_
   .rintro i σ' H7 hi ⟨o5,o7,M7,rfl,L7,sm7⟩;exists (),(),a,ns,(),L7.hS,(⋯:(0:Int)<=6+(0+(i:Int))),(),(),mulL ⋯ ⋯,(),_,(),(⋯:(0:Int)<=0+(i:Int)),(⋯:(0+(i:Int))<=1000);have m0:=Ur (cellAt ns (6+(0+(i:Int)))+(0+(i:Int))*(0+(i:Int))) (0+(i:Int));have m1:=Tw (cellAt ns (6+(0+(i:Int)))+(0+(i:Int))*(0+(i:Int))) (0+(i:Int));generalize ou (cellAt ns (6+(0+(i:Int)))+(0+(i:Int))*(0+(i:Int))) (0+(i:Int))=n at m0 m1;refine{(),(),(),(),(),p,d,e,l1,M7,3+i,3+i,nm,n,b,rfl,L7.D,⋯,L7.E,⋯,L7.ne,L7.h1,l4,okn,sm7,hb,m0,m1,λH8 M8 g8 D8 E8 wf8=>?_};have L8:=L7.de g8 D8 E8;refine{(),bK ?_};intros kvs Q8 lk keys hmatch E8.ex;refine{e,kvs,Q8,λo=>?_};have hz:(upd H8 e (.cP o (.dK kvs))) e=some (.cP o (.dK kvs)):=aq;have gz:iB e H8 (upd H8 e (.cP o (.dK kvs))):=BK;generalize upd H8 e (.cP o (.dK kvs))=Hz at hz gz⊢;refine{(),e,o,kvs,rfl,hz,azk (arR hz) (by rw[aC];lia) rfl (Oj M8) ?_ ?_ ?_}
    .intro H9 x g9 hx kk hkk;obtain⟨kv,hkv,rfl⟩:=cA.mp hx;obtain⟨s,es⟩:=keys kv hkv;obtain⟨v,hv⟩:=asy (LD (f:=(·.1)) hkv);rw[es]at hv hkk⊢;have hm:=hmatch s;rw[hv]at hm;cases e2:M8 s with
     |none=>rw[e2]at hm;exact hm.elim
     |some r=>
      rw[e2]at hm;have hR9:bQ H9 v r:=(gz.row Q8 hm).same g9;refine{(),(),e,v,rfl,.inl {kvs,.inr s,.inr {o,g9 _ _ hz},rfl,hv.symm},v,r,rfl,hR9,wf8 s r e2,λpD jj=>{mQ r,rfl,?_}};have h2:=hkk pD jj;rw[show Oj M8 (kV (.inr s))=!mQ r by show(match M8 s with|some r=>!mQ r|none=>false)=_;rw[e2]]at h2
      exact h2
    .intro H9 x kk hkk;exact{(),hkk}
    .intro D9 H9 g9 hD9 hl9;have gg:Same H8 (upd H9 e (.dK kvs)):=λb' o' e0=>by
      by_cases c:b'=e
      .rw[c,aq,<-Q8,<-c,e0]
      .rw[cI c];exact g9 _ _ (gz b' o' c e0)
     have ne9:D9≠e:=(jx hz hD9).symm;have hl9':(upd H9 e (.dK kvs)) D9=some (.lst ((kvs.map λkv=>kV kv.1).filter (Oj M8))):=by rw[cI ne9];exact hl9
     refine{g9 _ _ hz,.ref D9,(),.inl {_,ak.of hl9',rfl},"",(),cC (λ_=>q _) (λc=>?_)};have c':=dec_false c;have L9:=L8.same gg;have sm8:∀s r,M8 s=some r->Sm r:=λs r e2=>by
      have hm:=hmatch s;rw[e2]at hm;cases hv:dH kvs (.inr s)with
      |none=>rw[hv]at hm;exact hm.elim
      |some v=>
       obtain⟨kv,hkv,ek⟩:=cA.mp (aAl hv);have z:¬Oj M8 (kV kv.1)=true:=λz=>by
        have:=List.length_pos_of_mem (wj.mpr {LD (f:=λkv=>kV kv.1) hkv,z});lia
       rw[ek]at z;have z2:(match M8 s with|some r=>!mQ r|none=>false)≠true:=z
       rw[e2]at z2;have z3:(!mQ r)≠true:=z2;refine aCv (wf8 s r e2) ?_;cases h:mQ r with
       |true=>rfl
       |false=>rw[h]at z3;exact absurd rfl z3
     refine{(),(),(),p,d,e,l1,M8,3+i+1,3+i+1,nm,rfl,L9.D,⋯,L9.E,L9.h1,okn,λs r e2=>(sm8 s r e2).t8,λpD jj=>{(),bK ?_}};exact{_,_,M8,rfl,L9.same jj,sm8}
   .rintro σ' H7 ⟨o5,o7,M7,rfl,L7,sm7⟩;intro p2 dx2 hp2 aKQ aP5;refine{p2,dx2,rfl,aq,λd2 H8 hd2 D8 same=>{rfl,?_}};have g8:Same H7 H8:=λb' o e0=>same b' o (by rw[cI (jx e0 hp2),cI (jx e0 aKQ)];exact e0) (jx e0 hp2);obtain⟨s,hs,es⟩:=Cq (ws:=nm) (k:=0) ⋯ ⋯;have os:=okn s hs;have ls:=os.hi;refine{(),_,_,.inl (ak.of (g8 _ _ L7.h1)),es,by rw[s5];lia,ad5 D8 ⋯ os nofun λ_ t9 H9 g9 h9=>?_};refine{(bN 2),λt10 aAV=>?_};exact rM JT (Hq none) (Same.new aAV (.tup [.str "refused",.str "name"]) _ _ h9) aq (q _)
end
def all_mk{P:Program}{w:World}{K:au}{h:Heap}{mg:Str->Option Value}{fa:Addr}(X:K.In h)(G:h.Ns mainGlobals mg)(hfa:mg "law" = some (.ref fa)){pF nJ nQ cM:Addr}{aU:Addr}(anj:bI K mainGlobals "NoBy" = some (some (.ref aU))){bJ:Addr}(amB:bI K mainGlobals "NoName" = some (some (.ref bJ))){jr:Addr}(aN7:bI K mainGlobals "NoNumber" = some (some (.ref jr))){jt:Addr}(ar6:bI K mainGlobals "NoRow" = some (some (.ref jt))){iQ:Addr}(agN:bI K mainGlobals "NoText" = some (some (.ref iQ))){iz:Addr}(aHi:bI K mainGlobals "RuleError" = some (some (.ref iz))){jf:Addr}(av2:bI K mainGlobals "TooBig" = some (some (.ref jf))){aR:Addr}(agK:bI K mainGlobals "TooFar" = some (some (.ref aR))){aX:Addr}(aes:bI K mainGlobals "TooLong" = some (some (.ref aX)))(axb:za K aU [.type "ValueError",.type "Exception",.type "BaseException",.type "object"] "ValueError.__new__" = true)(avq:BP K aU iz=true)(aAT:IL K iz "BaseException" = true)(aBu:fW K (.ref aU) "__getattribute__" = some (some (.builtin "BaseException.__getattribute__")))(aHH:fW K (.ref aU) "__getattr__" = some none)(aKV:fW K (.ref aU) "__class__" = some (some (.builtin "object.__class__")))(aKo:qR K aU (.type "BaseException")=some true)(aMp:qR K aU (.type "object")=some true)(aNS:(xX K aU).isSome=true)(W6:aZ K (.ref aU) (.ref aU)=some true)(XF:aZ K (.ref aU) (.ref bJ)=some false)(Sv:aZ K (.ref aU) (.ref jr)=some false)(Tn:aZ K (.ref aU) (.ref jt)=some false)(Yz:aZ K (.ref aU) (.ref iQ)=some false)(ab7:aZ K (.ref aU) (.ref jf)=some false)(W8:aZ K (.ref aU) (.ref aR)=some false)(abe:aZ K (.ref aU) (.ref aX)=some false)(Qt:aZ K (.ref aU) (.type "ValueError")=some true)(ayp:za K bJ [.type "ValueError",.type "Exception",.type "BaseException",.type "object"] "ValueError.__new__" = true)(aAZ:BP K bJ iz=true)(aJa:IL K iz "BaseException" = true)(awP:fW K (.ref bJ) "__getattribute__" = some (some (.builtin "BaseException.__getattribute__")))(aLR:fW K (.ref bJ) "__getattr__" = some none)(au0:fW K (.ref bJ) "__class__" = some (some (.builtin "object.__class__")))(asA:qR K bJ (.type "BaseException")=some true)(aOC:qR K bJ (.type "object")=some true)(aD9:(xX K bJ).isSome=true)(Ra:aZ K (.ref bJ) (.ref aU)=some false)(SG:aZ K (.ref bJ) (.ref bJ)=some true)(V8:aZ K (.ref bJ) (.ref jr)=some false)(SV:aZ K (.ref bJ) (.ref jt)=some false)(R4:aZ K (.ref bJ) (.ref iQ)=some false)(acp:aZ K (.ref bJ) (.ref jf)=some false)(U5:aZ K (.ref bJ) (.ref aR)=some false)(Z2:aZ K (.ref bJ) (.ref aX)=some false)(Qy:aZ K (.ref bJ) (.type "ValueError")=some true)(aHv:za K iQ [.type "ValueError",.type "Exception",.type "BaseException",.type "object"] "ValueError.__new__" = true)(aPy:za K aR [.type "ValueError",.type "Exception",.type "BaseException",.type "object"] "ValueError.__new__" = true)(aNM:BP K aR iz=true)(az8:IL K iz "BaseException" = true)(aEN:fW K (.ref aR) "__getattribute__" = some (some (.builtin "BaseException.__getattribute__")))(aFG:fW K (.ref aR) "__getattr__" = some none)(aGS:fW K (.ref aR) "__class__" = some (some (.builtin "object.__class__")))(aCQ:qR K aR (.type "BaseException")=some true)(atG:qR K aR (.type "object")=some true)(aOJ:(xX K aR).isSome=true)(V7:aZ K (.ref aR) (.ref aU)=some false)(Yn:aZ K (.ref aR) (.ref bJ)=some false)(Vc:aZ K (.ref aR) (.ref jr)=some false)(ace:aZ K (.ref aR) (.ref jt)=some false)(Qo:aZ K (.ref aR) (.ref iQ)=some false)(RQ:aZ K (.ref aR) (.ref jf)=some false)(Tt:aZ K (.ref aR) (.ref aR)=some true)(YD:aZ K (.ref aR) (.ref aX)=some false)(WD:aZ K (.ref aR) (.type "ValueError")=some true)(aF2:za K aX [.type "ValueError",.type "Exception",.type "BaseException",.type "object"] "ValueError.__new__" = true)(aA0:BP K aX iz=true)(aOn:IL K iz "BaseException" = true)(aDR:fW K (.ref aX) "__getattribute__" = some (some (.builtin "BaseException.__getattribute__")))(arT:fW K (.ref aX) "__getattr__" = some none)(aKw:fW K (.ref aX) "__class__" = some (some (.builtin "object.__class__")))(aL6:qR K aX (.type "BaseException")=some true)(aLB:qR K aX (.type "object")=some true)(aD1:(xX K aX).isSome=true)(RV:aZ K (.ref aX) (.ref aU)=some false)(QN:aZ K (.ref aX) (.ref bJ)=some false)(aau:aZ K (.ref aX) (.ref jr)=some false)(aaK:aZ K (.ref aX) (.ref jt)=some false)(ZY:aZ K (.ref aX) (.ref iQ)=some false)(Zf:aZ K (.ref aX) (.ref jf)=some false)(Ro:aZ K (.ref aX) (.ref aR)=some false)(abM:aZ K (.ref aX) (.ref aX)=some true)(ab6:aZ K (.ref aX) (.type "ValueError")=some true)(aGh:bI K mainGlobals "FORMS" = some (some (.ref pF))){Vh:List DictEntry}{aKr:Nat}(asq:K.lookup pF=some {.type "dict",none,.dict {(Vh)} aKr,#[]})(aIY:Vh.map (λe=>({Ht w.params (uD e.key),.str (uD e.key) (Ft e.key),e.val}:DictEntry))=Vh)(aM8:(pF==sysModules)=false)(aMk:HZ.all (aby K pF)=true)(aqg:(aiS.all λs=>match bI K pF s with|some none=>true|_=>false)=true)(aA4:bI K mainGlobals "MAKERS" = some (some (.ref nJ))){RG:List DictEntry}{aGA:Nat}(aA1:K.lookup nJ=some {.type "dict",none,.dict {(RG)} aGA,#[]})(aGl:RG.map (λe=>({Ht w.params (uD e.key),.str (uD e.key) (Ft e.key),e.val}:DictEntry))=RG)(aNO:(nJ==sysModules)=false)(au4:DP.map (λp=>bI K nJ p.1)=DP.map λp=>bI K mainGlobals p.2)(aJR:(DP.all λp=>match bI K nJ p.1 with|some (some _)=>true|_=>false)=true)(Z5:(ac9.all λs=>match bI K nJ s with|some none=>true|_=>false)=true)(ay4:bI K mainGlobals "TELLERS" = some (some (.ref nQ))){aco:List DictEntry}{aGg:Nat}(aPm:K.lookup nQ=some {.type "dict",none,.dict {(aco)} aGg,#[]})(aNR:aco.map (λe=>({Ht w.params (uD e.key),.str (uD e.key) (Ft e.key),e.val}:DictEntry))=aco)(aER:(nQ==sysModules)=false)(aGU:MD.map (λp=>bI K nQ p.1)=MD.map λp=>bI K mainGlobals p.2)(aEP:(MD.all λp=>match bI K nQ p.1 with|some (some _)=>true|_=>false)=true)(Qk:(ZW.all λs=>match bI K nQ s with|some none=>true|_=>false)=true)(avV:bI K mainGlobals "Desk" = some (some (.ref cM)))(aCs:JB K cM Str.empty=true)(avQ:KZ K cM=true)(avl:SJ K cM=true)(asI:fW K (.ref cM) "__setattr__" = some (some (.builtin "object.__setattr__")))(aOr:N6 K cM=true)(aPb:mV K (.ref cM)=true)(aCq:fW K (.ref cM) "kept" = some none)(F0:aM K "is_whole" aa3)(F1:aM K "is_prime" acq)(F2:aM K "is_by" Wm)(F3:aM K "is_number" Vk)(F4:aM K "taken" QD)(F5:aM K "inverse" Rz)(F6:aM K "over" Qv)(F7:aM K "are_numbers" Ql)(F8:aM K "is_row" Yx)(F9:aM K "shared_by" ab0)(F10:aM K "refuse_prime" aaE)(F11:aM K "next_place" acv)(F12:aM K "first_places" acw)(F13:aM K "trimmed" Wz)(F14:aM K "number_at" Xl)(F15:aM K "times" abn)(F16:aM K "divided" QV)(F17:aM K "monic" Rn)(F18:aM K "greatest" ZR)(F19:aM K "of_rule" abo)(F20:aM K "rule_of" UC)(F21:aM K "sum_at" aaq)(F22:aM K "prime_above" WM)(F23:aM K "divides" aaX)(F24:aM K "taken_poly" Rg)(F25:aM K "nearest" aa7)(F26:aM K "joined" Zy)(F27:aM K "whole_greatest" Qx)(F28:aM K "shared_divisor" Wo)(F29:aM K "top_of" abt)(F30:aM K "least_of" U7)(F31:aM K "shortest" TX)(F32:aM K "behind_first" abh)(F33:aM K "power_sums" TV)(F34:aM K "rule_of_sums" Wy)(F35:aM K "refuse_long" Ye)(F36:aM K "refuse_far_steps" aaZ)(F37:aM K "told_row" UG)(F38:aM K "sum_place" Qq)(F39:aM K "product_place" Q6)(F40:aM K "rolled_place" Yp)(F41:aM K "pair_row" Wv)(F42:aM K "joint_row" Vq)(F43:aM K "added" Za)(F44:aM K "rolled" Ve)(F45:aM K "multiplied" Xd)(F46:aM K "scaled" ab8)(F47:aM K "summed" XI)(F48:aM K "every" Vz)(F49:aM K "put_ahead" aad)(F50:aM K "rest_row" Yu)(F51:aM K "by_prime" Wk)(F52:aM K "refuse_far_jump" abE)(F53:aM K "power_left" Xj)(F54:aM K "jump" Sy)(F55:aM K "onward" XJ)(F56:aM K "above_all_shown" Wu)(F57:aM K "number_shown" Sx)(F58:aM K "shown" ZM)(F59:aM K "is_written" Vx)(F60:aM K "read_number" X8)(F61:aM K "read_prime" X5)(F62:aM K "read_words" aaV)(F63:aM K "read" Rh)(F64:aM K "words_of" abF)(F65:aM K "kinds_of" Vi)(F66:aM K "read_name" Yi)(F67:aM K "row_named" VB)(F68:aM K "read_word" XE)(F69:aM K "make_row" VG)(F70:aM K "make_short" aaY)(F71:aM K "make_add" R6)(F72:aM K "make_multiply" Xo)(F73:aM K "make_roll" acz)(F74:aM K "make_scale" QJ)(F75:aM K "make_sum" Zi)(F76:aM K "make_every" aa5)(F77:aM K "make_ahead" abb)(F78:aM K "make_on" UN)(F79:aM K "make_rest" VD)(F80:aM K "tell_show" aa0)(F81:uz K cM "__init__" "Desk.__init__" ab2 ["self"])(F82:uz K cM "say" "Desk.say" Tr ["self","row"])(F83:aM K "_law_cell_at" abw)(F84:aM K "_law_pool" RW)(F85:aM K "_law_mix" Wn)(F86:aM K "_law_by" Tp)(F87:aM K "_law_number" VJ)(F88:aM K "_law_numbers" SN)(F89:aM K "_law_rest" Yj)(F90:aM K "_law_small_row" aaj)(F91:aM K "_law_word" Ri)(F92:aM K "_law_told" abq)(F93:aM K "_law_by_words" aa4)(F94:aM K "_law_due" Rp)(F95:aM K "_law_drawn_numbers" Sq)(F96:aM K "_law_text" Zh)(F97:aM K "_law_is_small" Yc)(F98:aM K "_law_stands" aaG)(F99:aM K "_law_done" WB)(FL:aM K "law" xZ)(aPo:bI K mainGlobals "ValueError" = some none)(axr:bI K mainGlobals "abs" = some none)(avb:bI K mainGlobals "all" = some none)(avz:bI K mainGlobals "any" = some none)(aJs:bI K mainGlobals "bool" = some none)(aAs:bI K mainGlobals "int" = some none)(aC1:bI K mainGlobals "isinstance" = some none)(aOo:bI K mainGlobals "len" = some none)(aOb:bI K mainGlobals "list" = some none)(aFA:bI K mainGlobals "max" = some none)(aOk:bI K mainGlobals "min" = some none)(aBv:bI K mainGlobals "range" = some none)(aM7:bI K mainGlobals "reversed" = some none)(aOy:bI K mainGlobals "str" = some none)(aCj:bI K mainGlobals "sum" = some none)(aI3:bI K mainGlobals "tuple" = some none)(Zr:∃t,bI K mainGlobals "ABOVE_ALL_BYS" = some (some (.int 1000 t)))(ahV:∃t,bI K mainGlobals "ABOVE_ALL_NUMBERS" = some (some (.int 1000000 t)))(Y6:∃t,bI K mainGlobals "BELOW_THE_PRIMES" = some (some (.int 1000000 t)))(ahU:∃t,bI K mainGlobals "FARTHEST" = some (some (.int 300 t)))(UO:∃t,bI K mainGlobals "FARTHEST_BY_0" = some (some (.int 400 t)))(ZP:∃t,bI K mainGlobals "FARTHEST_START" = some (some (.int 100 t)))(QM:∃t,bI K mainGlobals "FIGURES" = some (some (.str "0123456789" t)))(Np:∃t,bI K mainGlobals "LONGEST" = some (some (.int 12 t)))(acu:∃t,bI K mainGlobals "LONGEST_NAME" = some (some (.int 8 t)))(ZC:∃t,bI K mainGlobals "MOST_AHEAD" = some (some (.int 12 t)))(abl:∃t,bI K mainGlobals "MOST_FIGURES_READ" = some (some (.int 60 t)))(ah2:∃t,bI K mainGlobals "MOST_WINDOWS" = some (some (.int 4096 t)))(Wb:∃t,bI K mainGlobals "NAME_SIGNS" = some (some (.str "abcdefghijklmnopqrstuvwxyz0123456789" t)))(Yd:∃t,bI K mainGlobals "WIDEST_STEP" = some (some (.int 10 t))):
  ∃fd:FuncData,(∀(s:Shared) (v:Value),BindsTo s fd {[v],([])} [("_law_script",v)])/\∀base:Heap,K.In base->base.Ns mainGlobals mg->jg P w K mg base (iC P w) W4 fa fd ["_law_script"] (WX K):=by
 intros f oc od kV doc pm an cdv ct sl e1 e2 e3 e4 FL.ex;have e:=hfa.symm.trans (eY X G e1);cases e;have FF:=YH (st:=xZ) e2 e3 e4;have B:Bt mg:={lQ X G aPo,lQ X G axr,lQ X G avb,lQ X G avz,lQ X G aJs,lQ X G aAs,lQ X G aC1,lQ X G aOo,lQ X G aOb,lQ X G aFA,lQ X G aOk,lQ X G aBv,lQ X G aM7,lQ X G aOy,lQ X G aCj,lQ X G aI3,(let⟨t,q⟩:=Zr;{t,eY X G q}),(let⟨t,q⟩:=ahV;{t,eY X G q}),(let⟨t,q⟩:=Y6;{t,eY X G q}),(let⟨t,q⟩:=ahU;{t,eY X G q}),(let⟨t,q⟩:=UO;{t,eY X G q}),(let⟨t,q⟩:=ZP;{t,eY X G q}),(let⟨t,q⟩:=QM;{t,eY X G q}),(let⟨t,q⟩:=Np;{t,eY X G q}),(let⟨t,q⟩:=acu;{t,eY X G q}),(let⟨t,q⟩:=ZC;{t,eY X G q}),(let⟨t,q⟩:=abl;{t,eY X G q}),(let⟨t,q⟩:=ah2;{t,eY X G q}),(let⟨t,q⟩:=Wb;{t,eY X G q}),(let⟨t,q⟩:=Yd;{t,eY X G q})};refine{nD "law" "law" (j4 xZ) (gK xZ) (aF xZ) .none kV doc pm an cdv ct,λs v=> .of_eq rfl,λbase kB gB=>?_};have M:Ms P w K mg base aU bJ jr jt iQ iz jf aR aX:={eY X G anj,eY X G amB,eY X G aN7,eY X G ar6,eY X G agN,eY X G aHi,eY X G av2,eY X G agK,eY X G aes,Gh kB gB anj axb B6 ∅,M4 kB avq aAT,{aBu,aHH,aKV,aKo,aMp,(aNS)},W6,XF,Sv,Tn,Yz,ab7,W8,abe,Qt,Gh kB gB amB ayp B6 ∅,M4 kB aAZ aJa,{awP,aLR,au0,asA,aOC,(aD9)},Ra,SG,V8,SV,R4,acp,U5,Z2,Qy,Gh kB gB agN aHv B6 ∅,Gh kB gB agK aPy B6 ∅,M4 kB aNM az8,{aEN,aFG,aGS,aCQ,atG,(aOJ)},V7,Yn,Vc,ace,Qo,RQ,Tt,YD,WD,Gh kB gB aes aF2 B6 ∅,M4 kB aA0 aOn,{aDR,arT,aKw,aL6,aLB,(aD1)},RV,QN,aau,aaK,ZY,Zf,Ro,abM,ab6};have D:Dk w K mg pF nJ nQ cM:={{{_,_,asq,aIY},aM8,eY X G aGh},asu aMk,Ua aqg,{{_,_,aA1,aGl},aNO,eY X G aA4},am9 X G au4 aJR,Ua Z5,{{_,_,aPm,aNR},aER,eY X G ay4},am9 X G aGU aEP,Ua Qk,{{aCs,avQ,avl,(asI)},aOr,aPb,eY X G avV},aCq};have Ar:=atM B M D (F0.aQ X G);have zY:=azU B M D (F1.aQ X G);have B3:=aNh B M D (F2.aQ X G) Ar zY;have Qs:=aKh B M D (F3.aQ X G) Ar;have cH:=aJj B M D (F4.aQ X G);have Us:=ays B M D (F5.aQ X G) cH;have Bj:=auA B M D (F6.aQ X G) cH Us;have Ld:=aN1 B M D (F7.aQ X G) Qs;have aa6:=aLD B M D (F8.aQ X G) Ld B3;have AW:=ayH B M D (F9.aQ X G);have Zz:=aub B M D (F10.aQ X G);have abv:=asi B M D (F11.aQ X G) cH;have nA:=aIm B M D (F12.aQ X G) abv;have nq:=asw B M D (F13.aQ X G);have Ul:=aCl B M D (F14.aQ X G);have rO:=aB5 B M D (F15.aQ X G) cH nq;have nH:=aLF B M D (F16.aQ X G) cH nq;have Di:=atX B M D (F17.aQ X G) Bj;have Br:=aEf B M D (F18.aQ X G) Di nH;have nC:=aOx B M D (F19.aQ X G) cH;have vC:=aMK B M D (F20.aQ X G) cH;have Zg:=awb B M D (F21.aQ X G) cH;have UU:=asx B M D (F22.aQ X G) zY;have Li:=avc B M D (F23.aQ X G) nH;have Ls:=aua B M D (F24.aQ X G) nq cH
 have Bq:=auq B M D (F25.aQ X G);have TQ:=asJ B M D (F26.aQ X G) Bj cH Bq;have VH:=aBJ B M D (F27.aQ X G) Li UU Br Ls Bq TQ;have Xh:=aEz B M D (F28.aQ X G) VH Br;have Rr:=aJV B M D (F29.aQ X G) cH nq;have Zm:=aAO B M D (F30.aQ X G) nC Rr nH Xh;have gb:=aH0 B M D (F31.aQ X G) Zm vC;have Ac:=aFD B M D (F32.aQ X G);have yC:=asv B M D (F33.aQ X G) Ac;have Ab:=aLQ B M D (F34.aQ X G) Ac;have pC:=aO0 B M D (F35.aQ X G);have VL:=aPC B M D (F36.aQ X G);have mq:=aLe B M D (F37.aQ X G) cH gb;have AF:=ayN B M D (F38.aQ X G);have Ag:=arA B M D (F39.aQ X G);have Bf:=axm B M D (F40.aQ X G);have Bx:=aPw B M D (F41.aQ X G) nA mq AF Bf Ag;have zX:=aBQ B M D (F42.aQ X G) AW gb pC rO nC Bx vC;have zV:=aJy B M D (F43.aQ X G) zX AF;have Ce:=aOe B M D (F44.aQ X G) zX Bf;have Bp:=aFT B M D (F45.aQ X G) AW gb pC yC Ab Bx Ag;have BR:=aDm B M D (F46.aQ X G) mq;have zJ:=aCu B M D (F47.aQ X G) gb pC rO cH nC nA mq vC;have Av:=av9 B M D (F48.aQ X G) VL gb yC nA Ab mq;have B5:=avO B M D (F49.aQ X G) gb pC mq;have Uh:=aGD B M D (F50.aQ X G) cH;have Bb:=aGZ B M D (F51.aQ X G) Zz Uh;have X7:=aCi B M D (F52.aQ X G);have Z6:=ar4 B M D (F53.aQ X G) nH rO;have U4:=aCt B M D (F54.aQ X G) X7 Z6 nC Ul;have BW:=aJM B M D (F55.aQ X G) U4 nA Zg;have Va:=aMY B M D (F56.aQ X G);have OG:=azF B M D (F57.aQ X G) Va;have oV:=aDB B M D (F58.aQ X G) OG;have abO:=aPL B M D (F59.aQ X G);have rJ:=aB7 B M D (F60.aQ X G) abO;have Cg:=aO1 B M D (F61.aQ X G) rJ B3;have Oi:=az1 B M D (F62.aQ X G) rJ aa6;have UY:=asT B M D (F63.aQ X G) Oi Cg;have Vn:=aFO B M D (F64.aQ X G);have Q5:=aMn B M D (F65.aQ X G);have Ak:=axC B M D (F66.aQ X G);have TY:=axY B M D (F67.aQ X G) Ak;have Vf:=aJZ B M D (F68.aQ X G) Ak TY rJ Cg UY;have QY:=aCf B M D (F69.aQ X G);have abQ:=aHK B M D (F70.aQ X G) gb;have aa8:=aIz B M D (F71.aQ X G) zV;have aan:=aDL B M D (F72.aQ X G) Bp;have XQ:=azt B M D (F73.aQ X G) Ce;have YX:=aNw B M D (F74.aQ X G) BR cH;have aaS:=aC7 B M D (F75.aQ X G) zJ;have abH:=aLv B M D (F76.aQ X G) Av;have abR:=ayn B M D (F77.aQ X G) B5 cH;have Zb:=aBD B M D (F78.aQ X G) BW;have VR:=aMQ B M D (F79.aQ X G) Bb;have Ut:=avS B M D (F80.aQ X G) oV;have Qg:=aEY B M D F81;have SM:=aFe B M D F82 Vn Q5 Vf Ut VR Zb abR abH aaS YX XQ aan aa8 abQ QY;have wF:=aAW B M D (F83.aQ X G);have Xy:=av1 B M D (F84.aQ X G);have wK:=aOZ B M D (F85.aQ X G);have W5:=axT B M D (F86.aQ X G);have Rx:=aFp B M D (F87.aQ X G);have OD:=arh B M D (F88.aQ X G) Rx;have yX:=aKY B M D (F89.aQ X G);have Cd:=auN B M D (F90.aQ X G) wK OD yX;have AX:=aGJ B M D (F91.aQ X G);have pq:=aCr B M D (F92.aQ X G) SM AX;have RH:=aC2 B M D (F93.aQ X G) gb zV Bp Ce BR yX zJ Av BW Bb B5
 have Wx:=avR B M D (F94.aQ X G) RH AX;have aax:=aJJ B M D (F95.aQ X G);have acg:=aLS B M D (F96.aQ X G);have abm:=aEH B M D (F97.aQ X G);have XM:=aFd B M D (F98.aQ X G) oV pq;have Qu:=auV B M D (F99.aQ X G) Cd pq oV aax acg Wx;exact aOY B M D FF Xy wF W5 Qg Cd pq oV wK Qu abm XM
end K52
namespace L2
open PySem PySem.W W.X
def avj{q:Program}{loose:List Str}{XP:(Str->Option Value)->Heap->Prop}{K:Params->Frag}{as:List Addr}{n t:Nat}{r:RowW}{d:DefRec}{kwd:List (Str×PySem.Expr)}{run:Value->List Value->Sem Value}(keys:∀P,as=(K P).map (·.1))
  (W:WalkO q loose XP (λw h=>(K w.params).In h) r d kwd run):WalkX q loose XP (obsZ as) (valZ K n t) r d kwd run:=
 λw s0 s1 mg mb G y a o pm cd doc dV kV h1 h2 h3 h4 h5 h6 args vals as' L p1 p2 p3 p4 p5=>W w s0 s1 mg mb G (InK.keeps w _ _ (z_facts keys y).2.1 L.keeps) a o pm cd doc dV kV h1 h2 h3 h4 h5 h6 args vals as' p1 p2 p3 p4 p5
end L2
open PySem PySem.W PyProof.Rows
set_option maxRecDepth 100000 in
set_option maxHeartbeats 0 in
theorem PySem.Challenge.cw_nextbyrule_k52_desk_makes_rows_holds : PySem.Challenge.rw_nextbyrule_k52_desk_makes_rows.Holds := by
 change K52.rwL.Holds
 w_on;o_law;rename_i said
 refine holds_openX (d:=?d) (kwd:=?kwd) K52.H.left (λs h=>xl_of s (al1.mp h).1) XL.keeps (by rfl) (by rfl) (by rfl) (λs h=>recFacts_of (al1.mp h).2) (by rfl) said (by decide +kernel) ⟨rfl,rfl,rfl,rfl,rfl,by decide +kernel⟩ ?hw ?hc;case hw=>w_witness2
 k_fill
 refine L2.avj (λ_=>by kernel_rfl) ?_;refine L2.auy (l:=K52.rwL) (n:=63) (k:=K52.W4) (x:= "_law_script") (CX:=λw=>L2.iC K52.rwL.prog w) (sp:=λ_=>K52.WX _) rfl (by decide) rfl ⟨rfl,by decide,by decide⟩ (by kernel_rfl) rfl (λw h Y=>Y) ?F (λw H a ns hl hb _ hS=>⟨a,ns,rfl,hS,hl,hb,λ_=>rfl⟩) (λ_ _ _ _ _ z=>L2.Qp z);case F=>
  intro w mg fa h KX G hmg;apply K52.all_mk KX G hmg;all_goals first|(refine' L2.auS ?a ?l ?c ?k;(case a|l|c|k=>k_is))|(refine' L2.aB3 ?a ?i ?l ?c ?k;(case a|i|l|c|k=>k_is))|k_is|exact⟨_,by k_is⟩|k_exc|kernel_rfl|kit_is
