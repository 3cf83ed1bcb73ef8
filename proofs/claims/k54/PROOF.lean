import PyProof.Rows.All
import Wide.All
import OpenK.AllK
import Wide.FinOn
import Lean
import PyProof.EqAt
import PyProof.EqKinds
import PyProof.TupleCall
import PySem.Challenge.RW_nextbyrule_k54_desk_refuses
local macro_rules | `(tactic| lia)=>`(tactic| first|lia -trace|omega)
local macro_rules | `(⋯)=>`(by lia)
local macro_rules | `(∅)=>`(by decide)
local macro_rules | `({$x:term,*}) => do
  let mut a:=#[]
  for e in x.getElems do
    if e matches `(()) then a:=(a.push (<-`(_))).push (<-`(rfl))
    else if e matches `("") then a:=(((a.push (<-`(_))).push (<-`(_))).push (<-`(rfl))).push (<-`(rfl))
    else a:=a.push e
  `(⟨$a,*⟩)
local macro_rules | `(tactic|exists $x,*) => do
  let mut a:=#[]
  for e in x.getElems do
    if e matches `(()) then a:=(a.push (<-`(_))).push (<-`(rfl))
    else if e matches `("") then a:=(((a.push (<-`(_))).push (<-`(_))).push (<-`(rfl))).push (<-`(rfl))
    else a:=a.push e
  `(tactic|refine ⟨$a,*, ?_⟩)
local macro_rules | `(tactic|intros $x*) => do
  let a:=x.raw
  let mut p:=#[]
  for e in a.pop do
    p:=p.push (<-if e.isIdent then `(Lean.Parser.Tactic.rcasesPatLo|$(⟨e⟩):ident) else `(Lean.Parser.Tactic.rcasesPatLo|_))
  `(tactic|obtain ⟨$p,*⟩:=$(⟨a.back!⟩):ident)
set_option hygiene false
local macro_rules | `(tactic|delta $x) => `(tactic|refine F.cH $x λH Q E hr h=>?_)
local macro_rules | `(tactic|delta $x $_) => `(tactic|refine F.cal $x λH Q E hr h=>?_)
local macro_rules | `(($i:num :)) => `(pv $i)
local macro_rules | `((-$i:num :)) => `(aQ K (pv $i) aU)
set_option hygiene true
set_option Elab.async false
set_option linter.all false
set_option compiler.extract_closed false
set_option maxRecDepth 100000
noncomputable section
def PySem.W.Fast.tw335594945455549731:PySem.Program:=PySem.Challenge.pw_nextbyrule_k54_desk_refuses
theorem PySem.W.Fast.te335594945455549731:PySem.Challenge.pw_nextbyrule_k54_desk_refuses=PySem.W.Fast.tw335594945455549731:=rfl
open List renaming replicate->aX,length_map->bG,size_toArray->fD,mem_cons->dz,length_append->gF,map_cons->fB,all_eq_true->gK,mem_cons_of_mem->jt,map_append->gC,mem_map->fM,not_mem_nil->iY,mem_append_right->mC,mem_singleton->kO,range->fK,mem_range->jj,replicate_succ->mU,map_map->iz,length_replicate->rY,length_take->nO,eq_of_mem_replicate->wX,mem_append->oF,eq_nil_of_length_eq_zero->Dg,map_congr_left->vK,filter_eq_self->u6,append_assoc->tK,append_nil->qC,length_cons->um,length_drop->tW,filter_cons->uc,getElem_mem->uh,take_of_length_le->yP,mem_cons_self->wN,flatten_cons->xK,foldl_cons->vo,foldl->nP,length_range->Bf,filterMap_cons->DN,length_reverse->HD,take_length->yF,drop_eq_nil_of_le->Nb,nodup_cons->yL,map_take->xV,mem_of_mem_take->Lp,drop_zero->Br,map_nil->xO,nil_append->Fq,forIn_cons->HZ,filter_append->Kf,flatten_replicate_singleton->ajk,take_succ_eq_append_getElem->aqL,lookup->xY,take_add_one->J7,length_filter_le->V9,cons_append->KZ,mem_append_left->aaF,mem_iff_getElem->abq,any_cons->ED,of_mem_zip->K7,length_set->LV,range_succ->JL,length_pos_iff->Rz,mem_filterMap->VB,map_replicate->Vf,map_drop->J5,any_eq_true->aaO,mem_filter->V8,length_singleton->ah9,take_eq_take_iff->ajP,map->yw,mem_of_mem_drop->agW,take_succ_cons->agK,range'->JC,map_id->JD,map_eq_nil_iff->amo,all_cons->acw,reverse_cons->ag2,all_map->Uk,zipIdx_cons->aed,range'_succ->aj5,length_nil->alo,zipIdx_nil->al2,filter->Xg,forIn_nil->apo,take_nil->ahU
open PySem.W renaming kitOne->aG,Frag->aD,nsIn->bI,findIn->dF,mg_none_of->jC,mg_of->fG,kia_one->mD,mroIn->ji,hideAll->nZ,emptyDict->qR,keepIn->lU,callWith_K->Ar,instObj->uY,looks_findIn->Lw,clsIn->oV,excIn->qP,cellsFrom_some->Zy,fnOf->mO,ktsIn->sE,plainGet->Hx,hasDictIn->J3,hideAll_get->Uz,plainGet_of->abK,codeIn->Ak,of_hideAll->Qy,methodObj->Zm,plainOver->aaC,makesIn->K9,byRow2->afG,lookIn->Ls,takerIn->XR
open Bool renaming and_eq_true->cW,false_ne_true->fu,eq_false_iff->pG,or_eq_true->qD,false_eq_true->Gz,eq_iff_iff->Ad,not_eq_true'->aar,true_and->Nx,or_eq_false_iff->aot,and_eq_true_iff->ahE,false_and->ao2
open Nat renaming le_refl->bK,lt_of_lt_of_le->ig,le_trans->eV,zero_le->fJ,ne_of_lt->gw,lt_irrefl->j4,le_of_lt->jE,le_of_ble_eq_true->uH,lt_succ_self->vN,le_add_right->CB,le_of_eq->Dd,mul_comm->Ho,mul_le_mul->Jp,min_eq_right->acL,ne_of_gt->Lh,lt_trans->NP,sub_zero->Ky,pow_le_pow_right->amN,succ_mul->QH,min_le_right->aoY,not_lt_zero->aoZ,toList_repr->aox,min_eq_left->anl,one_mul->ab4,not_lt->ab0,pow_succ->afi
open PySem.Heap renaming lt_size->cP,SameBut->uN,size_push->BD,ExtBut->wM,FlyingW->IY,IsTuple->Jo,IsList->Mz,MadeExcOf->alO
open Int renaming toNat_natCast->gR,fdiv_eq_ediv_of_nonneg->ae9,fmod_eq_emod_of_nonneg->aew,ediv_one->GP,le_ediv_iff_mul_le->af9,emod_nonneg->RZ,emod_lt_of_pos->afU,ofNat_le->aaJ
open PySem.Str renaming ofString->jl,length->tE,empty->C4,join->Jt
open PySem.F renaming plainAttrs_str->m6,excBase_ValueError->rC,slot_str_join->yd,type_str_join->xR,slot_tuple_iterator_next->Nk,plainAttrs_list->MX,slot_tuple_mul->Bw,slot_dict_getitem->UW,args_tuple_add_2->Ud,entry_tuple_add->WZ,args_tuple_mul_2->MQ,slot_tuple_add->abd,slot_str_split->abP,type_str_split->abg,entry_tuple_mul->Mx,slot_dict_get->Zk,typeOf_object_class->aaS,args_tuple_iterator_next_1->ahr,slot_int_rmul->Jl,entry_tuple_iterator_next->aqw,slot_zip_next->Lz,slot_str_startswith->adQ,type_str_startswith->ahV,args_str_split_2->UZ,entry_str_split->YL,args_dict_get_3->agX,plainAttrs_dict->an5,slot_int_index->Qn,slot_str_split->ab9,entry_dict_get->anG,fills_int_mul->Zf,slot_dict_pop->aiU,excAttr_ValueError->aqc,slot_gs_get->Ra,args_int_rmul_2->adP,slot_tuple_rmul->aoC,args_zip_next_1->aey,entry_int_rmul->ak6,entry_zip_next->akU,slot_int_mul->akg
open Option.some renaming inj->jT
open PyProof.Rows renaming callWith_type1->uR,slot_tuple_getitem->BK,isStrOf->aft,callWith_builtin1->aGw,signs_ofString->aMh
open Ne renaming symm->dw
open PySem.Txt renaming split->mj,slice->A9,replace->ap4
open PySem.Builtin.Int renaming intBits->zM
open PySem renaming mem_of_lookup->uX,JoinOk->nB,Within->aaT,passOn->acE,seqSlot_of->aqh,Ctx->Ti,call->ael
open Or renaming inr->dZ,inl->ju
open PySem.Calls renaming spliced_cons->wQ,callWith_builtin->GD,evalArgs_plain->Jg,spliced_nil->Hg,Name_function_global->aqp,Constant_str->YZ
open PySem.Obj renaming data_mapFields->xM,isFreed_of_fields->DM,mapFields->uU,mapSeq->wA,cls_mapFields->abl
open PySem.PyData renaming strOk->oM,depthAll->vC,canLayAll0->Aw,eqv->qp,canLay0->zG,keyHash->Cq,depth->Bl,eqvAll->GC,int->Wt
open Array renaming length_toList->FD,toList_append->Ht,size_append->Dj,toList_inj->Ni,append_assoc->abW,toList->anA
open PySem.Shared renaming heap->vM
open Option renaming isSome_iff_exists->ZL,getD_none->LK,map_some->M4,isSome_none->alv,isSome_map->apH,getD_some->akV,none->Yh
open List.cons renaming inj->Ij
open Sum renaming inr->oN,inl->wg
open PySem.Builtin.Str renaming tooLong->ajQ
open PySem.StrLaws renaming join_split->aoa,found_one->aou,joinFits->apE,join_length_le->aBW,sumLen_le->aGi
open PyProof renaming noPylong_small->an8
open Sum.inr renaming inj->Nq
open PySem.Heap.SameBut renaming update->aha,refl->avf
open PySem.Around renaming under->Ry
open PySem.NumText renaming digitsVal_snoc->aLE,digitsVal->aDy
open PySem.EqNone renaming eq_none_none->aCp,eq_none_bool->azQ,eq_bool_none->aEz,ne_none_none->aBQ,ne_none_bool->aFu,ne_bool_none->avK,eq_none_int->arV,eq_none_str->aA1,eq_int_none->aDW,eq_str_none->aBb,ne_none_int->aBV,ne_none_str->aFG,ne_int_none->aBS,ne_str_none->aR3
open PySem.EqMixed renaming eq_bool_str->aCu,eq_str_bool->awl,ne_bool_str->aEK,ne_str_bool->aB7,eq_int_str->aE5,eq_str_int->aKt,ne_int_str->aN3,ne_str_int->aAe
open PySem.W.X renaming obsZ->alp,valZ->adZ
open PySem.Heap.UpToSlots renaming refl->aBe
open PySem.Heap.IsSliceOf renaming new->aFE
open Eq renaming trans->Qj
open PySem.Within renaming cons->aNH
open List.Pairwise renaming nil->aLV
namespace L2
open PySem PySem.Spec PyProof.Rows
def inClass(s:Stmt)(j:Nat):Stmt:=match s with
 |.ClassDef _ _ _ body _ _ _ _ _ _ _=>body.getD j (.Pass {0,0,0,(0)})
 |_=> .Pass {0,0,0,(0)}
def jH(s:Stmt):Arguments:=match s with
 |.FunctionDef _ a _ _ _ _ _ _ _ _=>a
 |_=>{ posonlyargs:=[],args:=[],vararg:=none,kwonlyargs:=[],kw_defaults:=[],kwarg:=none,defaults:=[] }
def gG(s:Stmt):List Stmt:=match s with
 |.FunctionDef _ _ b _ _ _ _ _ _ _=>b
 |_=>[]
def aC(s:Stmt):Scope:=match s with
 |.FunctionDef _ _ _ _ _ _ sc _ _ _=>sc
 |_=>{ kind:= .function,names:=[],isGenerator:=false,isCoroutine:=false }
end L2
namespace K54
def topF(i:Nat):PySem.Stmt:=PySem.Challenge.pw_nextbyrule_k54_desk_refuses.main.body.getD i (.Pass {0,0,0,(0)})
def pwL:PySem.Program:={ PySem.Challenge.pw_nextbyrule_k54_desk_refuses with main:={ PySem.Challenge.pw_nextbyrule_k54_desk_refuses.main with body:=[topF 0,topF 1,topF 2,topF 3,topF 4,topF 5,topF 6,topF 7,topF 8,topF 9,topF 10,topF 11,topF 12,topF 13,topF 14,topF 15,topF 16,topF 17,topF 18,topF 19,topF 20,topF 21,topF 22,topF 23,topF 24,topF 25,topF 26,topF 27,topF 28,topF 29,topF 30,topF 31,topF 32,topF 33,topF 34,topF 35,topF 36,topF 37,topF 38,topF 39,topF 40,topF 41,topF 42,topF 43,topF 44,topF 45,topF 46,topF 47,topF 48,topF 49,topF 50,topF 51,topF 52,topF 53,topF 54,topF 55,topF 56,topF 57,topF 58,topF 59,topF 60,topF 61,topF 62,topF 63,topF 64,topF 65,topF 66,topF 67,topF 68,topF 69,topF 70,topF 71,topF 72,topF 73,topF 74,topF 75,topF 76,topF 77,topF 78,topF 79,topF 80,topF 81,topF 82,topF 83,topF 84,topF 85,topF 86,topF 87,topF 88,topF 89,topF 90,topF 91,topF 92,topF 93,topF 94,topF 95,topF 96,topF 97,topF 98,topF 99,topF 100,topF 101,topF 102,topF 103,topF 104,topF 105,topF 106,topF 107,topF 108,topF 109,topF 110,topF 111,topF 112,topF 113,topF 114,topF 115,topF 116,topF 117,topF 118,topF 119,topF 120,topF 121,topF 122,topF 123,topF 124,topF 125,topF 126,topF 127,topF 128,topF 129,topF 130,topF 131,topF 132,topF 133,topF 134,topF 135,topF 136,topF 137,topF 138,topF 139,topF 140,topF 141,topF 142,topF 143,topF 144,topF 145,topF 146,topF 147,topF 148,topF 149,topF 150,topF 151,topF 152,topF 153,topF 154,topF 155,topF 156,topF 157,topF 158,topF 159,topF 160,topF 161,topF 162,topF 163,topF 164,topF 165,topF 166,topF 167,topF 168,topF 169,topF 170,topF 171,topF 172,topF 173,topF 174,topF 175,topF 176,topF 177,topF 178,topF 179] } }
def rwL:PySem.W.OpenLaw:={ PySem.Challenge.rw_nextbyrule_k54_desk_refuses with prog:=pwL }
end K54
namespace K54
namespace H
noncomputable section
open PySem PySem.W PySem.Calls PyProof.Rows
abbrev kh:=Cq
abbrev tt(i:Nat):Stmt:=topF i
def zs(n:Nat):Str:={{Nat.rec (motive:=λ_=>Nat->List Nat) (λ_=>[]) (λ_ f n=>cond (Nat.beq n 0) [] (Nat.mod n 128::f (Nat.div n 128))) 64 n}}
def z0:=zs 0xbf7f2edc3bafdf
def z1:=zs 0x1cf2f3eb9b2f2bfaf9e5c97da35d77f2ecebcbce2e9e32eebfdf0ec
def z2:=zs 421105403244511
def z3:=zs 0x17efe5cf875e3c3c2fdf
def z4:=zs 0x2fdfe597261dfb2fdf
def z5:=zs 0xbf7f1e5e1cefdf
def z6:=zs 0x17eff3ddbf4f4c3d37eedd86fdf
def z7:=zs 0xbf7f9eed3d3669eb8afdf
def z8:=zs 0xbf7f2ecd39afdf
def z9:=zs 0x79e0bba75c6bf6e9c3b31af
def Kv:=zs 0x2fdfc997463c38efdf
def dg:=zs 0x72dfcb945cbb3ad2
def sG:=zs 0xe59716deb3b7ce
def qX:=zs 254851022
def rQ:=zs 4018155108302
def sU:=zs 3943197046740
def uf:=zs 456808319416276
def qY:=zs 3567379019732
def rH:=zs 32177960910
def uo:=zs 3499797755854
def Y9:=zs 0x53b30afcc9906fc5ad3e141
def Du:=zs 0xcbb37e8ef7f9e9
def Fx:=zs 0xcbb74f2e17f9e9
def CW:=zs 32687782377
def B4:=zs 0x72cb8b6f5dd7f9e9
def Fd:=zs 29741478132
def Dp:=zs 448184882935657
def CY:=zs 240745327
def VQ:=zs 372306437449676
def TN:=zs 0xa94e2c8a94a0c6
def Iz:=zs 0x1cf965c5b7aeebf97961
def HJ:=zs 4118845848041
def B6:=zs 0x79c57f265e587473
def Iu:=zs 0xcbb74f2e17f2f3eb9b2f2
def IB:=zs 0x32e3c3b385fe9e32ee
def Cu:=zs 0xe7971e1d9c2ff4e7cb4e6
def BX:=zs 0x3961cd7f2f3eb9b2f2
def rR:=zs 3978691114608
def Fp:=zs 443304474474868
def GZ:=zs 0x74c37f965c5b7aee
def Bg:=zs 31083689204
def Ef:=zs 443302050378980
def FT:=zs 26797127661
def E6:=zs 0xe9cf2f4c397967
def Ga:=zs 447945196958575
def E5:=zs 452440390056690
def Gp:=zs 4011968920307
def z47:=zs 0xa7166c9a542fc59152fd79f322c2
def Gy:=zs 0x197b6fc586fe5dba7970
def oW:=zs 509272748045540
def IV:=zs 0x3cecdfc2feecbaf0f4
def HS:=zs 514152117859054
def Ec:=zs 3463318239210
def Eu:=zs 0x3a73cbd30e5e59efe5d9bf477
def Hz:=zs 0x396fe7a7b69c97f265e587473
def CD:=zs 3534690727924
def Eh:=zs 0xcdbeff4e7872ec
def IW:=zs 0xe9cf2f4e5bf473
def Dv:=zs 456806792737008
def Ja:=zs 0xe9cf969cd7f26ed3a32e2
def CV:=zs 0x39edebceff2cbdf7f0
def Dn:=zs 0xe7b7af3bf9b7dfcbb3af2
def Zc:=zs 0x2a5283529dfa94e2c8a94a0c6
def YV:=zs 0x1422d4a77ea538b124d7
def C8:=zs 0x19f76fd97f2f3eb9b2f2
def FY:=zs 0xe7c32f4e77f961cd7f2f3eb9b2f2
def E4:=zs 0xefbf95fc9b37f4
def Hy:=zs 0x65c787670bfb7af3
def DC:=zs 0x65c787670bfd31f5c9bf970
def HB:=zs 0xcb8f0ece17f265d9b37f2
def CG:=zs 0xefbf95fe5a70f0
def EG:=zs 0x77dfcaff4dda77ea
def Cz:=zs 27057009249
def GK:=zs 3463314094066
def C2:=zs 0x3265d3b3869e9b3aed
def Ik:=zs 3463313912307
def GF:=zs 3463316208371
def rN:=zs 32721435493
def E9:=zs 0x64c397461bfd3af0
def Fb:=zs 0x3765d787a5fcbbb4ec
def Dr:=zs 0x65dda765fc9872e8
def Hi:=zs 0xe1d6fe7dda7962
def GX:=zs 27057027430
def EV:=zs 30806734435
def DW:=zs 0x396fe7a7b69c97f76fdbb77e3
def Fv:=zs 4016813504492
def EY:=zs 0xe7cb2e2dbd775fcb97966
def Fz:=zs 0xddbf4f4ebb37f3
def GY:=zs 0x66df7f76debb37e3
def CT:=zs 0x74e7bb4e1cf86ff2cbc30f0
def Gh:=zs 3463335065587
def Iw:=zs 0xefbf95fe9cf2f2
def Hf:=zs 0x336fbfcb7f3d3db4e4
def Ck:=zs 0x64cb934f6d393775
def Ii:=zs 0xcbb74f2e17fce2
def z95:=zs 0x30bf6615fa94e2c8a94a0c6
def HC:=zs 0x1c36f5d57f961cd7f2f3eb9b2f2
def Di:=zs 0x3a66cbb2ff2cbdf7f0
def GR:=zs 236681962
def Jc:=zs 0xe986fe5c787670
def Gk:=zs 3466780866415
def Uv:=zs 0x53a51614dab3afcc9906fc5ad3e141
def Er:=zs 0x33e9c57f2f3eb9b2f2
def C6:=zs 0x39f2dfcf4f6d392fe5d9bf477
def EW:=zs 0x73e9bf7f2bfcf861d1cb2f0
def Cp:=zs 0x1d3aefbf932e4d3db4e4
def Fo:=zs 0x1cfa6fdfcafe5d9bf477
def yM:=zs 30815418352
def Fw:=zs 0x65dda765fdbcb7e6
def FW:=zs 0xcdbeff3e9cb0f0
def oK:=zs 3463328822883
def VF:=zs 0xa75e7c49d26bdfa94e7cd
def Fl:=zs 0x197269ef7f2f3eb9b2f2
def Ca:=zs 0x77dfcafe4ddd77f2
def FP:=zs 0x326eebbf95fcbb70e3
def Hj:=zs 0xcdbefe4ddd77f2
def pq:=zs 27352724599
def abw:=zs 367430873507014
def aNc:=zs 0x1cb86ed9ab466c98b0
def ace:=zs 0x44831695fa7169558f2635fa94e7cd
def Ci:=zs 0x1bbbefd1cefecd986fe5edbf161
def Cw:=zs 0xdddf7e8e77f965c5b7aee
def FZ:=zs 29779293299
def DQ:=zs 0x3765e9d34f2ef7f9e9
def Im:=zs 0x1cb2e2dbd775fc9872f2
def Cv:=zs 0x32edd3cb85fc9872f2
def Df:=zs 0x39e4e5bfbdfc9872f2
def Ie:=zs 211317490
def acN:=zs 0x29ce8f269df8b360ce
def aAc:=zs 0x72e1bb66ad19b262c3d79f1dfb75e9cf971e1bf76dd9af569d19f365c98f161
def PD:=zs 0x8b360cebf529c58f3a7cc
def Yk:=zs 0x22418b220dfa94e7cd
def alW:=zs 22442977222
def Gx:=zs 0xcdbeff3c9cb7f7
def Hv:=zs 0xcdbeff3c9bb4eb
def Dz:=zs 0x65db8775fc9872f2
def E3:=zs 0x64cbb70eebfdf7f2
def Io:=zs 0x64e5bfbdfc9872f2
def IL:=zs 0xefbf95fcbaf0ed
def FJ:=zs 0x3a72dfa39dfcbaf0ed
def Dl:=zs 0xc9930dfcbaf0ed
def E1:=zs 0x79d9c34f4d9d76dfcbaf0ed
def GQ:=zs 0x6cd9bf95fcbaf0ed
def CQ:=zs 0x32ecc38f9dfcbaf0ed
def Gj:=zs 0xdbd79dfcbaf0ed
def Hw:=zs 0x3cf2cbdb2dfcbaf0ed
def DL:=zs 0x3261cba30dfcbaf0ed
def Il:=zs 487624762126573
def C7:=zs 0x74e79795fcbaf0ed
def EB:=zs 0x6eefbf473bfcf965c5b7aee
def CN:=zs 0x77dfa39dfd9b32f4
def HW:=zs 0x1cf2e3c3b385fd9b32f4
def GV:=zs 513532019553012
def Ea:=zs 0x74e58785fd9b32f4
def Ez:=zs 0x326eebbf95fd9b32f4
def HN:=zs 0x32f2cba3bdfd9b32f4
def Fj:=zs 0x1932f3dfb31dfd9b32f4
def Ib:=zs 0xe5bf9e9eda725fd9b32f4
def EJ:=zs 0xe797269eda725fd9b32f4
def aiY:=zs 2874015932621
def aoy:=zs 367874041651924
def tO:=zs 226292420
def DY:=zs 0xe986fecd9971dfef8765f
def Gr:=zs 0x6cdfbf85fef8765f
def Dy:=zs 0xf1a76dfef8765f
def Es:=zs 0x64e5bfbdfef8765f
def C5:=zs 0x64d9bfa5fef8765f
def CZ:=zs 0x1932ecd9a735fef8765f
def Hl:=zs 0xe7df7f2bfbf75fef8765f
def CK:=zs 0x73cbb70eebfbf75fef8765f
def Fg:=zs 0x73e9e32f4bfbf75fef8765f
def Gf:=zs 0x39e5cf87a73bfe715fef8765f
def Jf:=zs 0xc98715fef8765f
def GB:=zs 0x3a61cbcb3dfef8765f
def Gn:=zs 0x1cfa72c3d39dfef8765f
def LQ:=zs 1962220
def akD:=zs 0x7d97675c9bf6bc
def aOJ:=zs 0xbf7f769c3b6fdf
def dG:=zs 0x2fdfcbb3ae4dfb6fdf
def eN:=zs 0x73e5bf972cabb2ecebcbce2e9e32ee
def iZ:=zs 0xbf7f2edc3bb661ebc6fdf
def dO:=zs 0x17efefdd97769d9d39f2d39afdf
def dD:=zs 0x5fbfcf2f4eb8b4f2e9d30dfc7a7a61e9cefdf
def zc:=zs 0x17efe6cbcb5e1cbdefdf
def NV:=zs 27881272436
def uP:=zs 0x39f2cb8b6f5dcbb2ecebcbce2e9e32ee
def rP:=zs 3944329476846
def rM:=zs 505222325449956
def jP:=zs 15586
def Hh:=zs 27342305648
def aJd:=zs 3501140572403
def yD:=zs 244953836
def pH:=zs 1668975
def pA:=zs 30815173231
def vd:=zs 0x1cfbefe4bb2ecebcbce2e9e32ee
def vL:=zs 213596914
def apy:=zs 3982749104755
def jF:=zs 1964018
def awS:=zs 3501169685218
def ank:=zs 29196367860
def vJ:=zs 107
def Ew:=zs 31371130851
def Li:=zs 27076163558
def wR:=zs 110
def ahh:=zs 509719678253806
def Sx:=zs 1652581
def qu:=zs 0xe7e766fe0bb2ecebcbce2e9e32ee
def vX:=zs 255539184
def YG:=zs 105
def W0:=zs 1849332
def adD:=zs 29741626223
def aD6:=zs 31354156147
def aJV:=zs 3947051413734
def Vz:=zs 31343606119
def Ug:=zs 29219124979
def u5:=zs 0x73cbb37e8eebb2ecebcbce2e9e32ee
def aRZ:=zs 0x65ddbefe3d3bb7ed
def anI:=zs 509824676214765
def yS:=zs 245166834
def aIX:=zs 213694445
def UH:=zs 0x1d39e5e9cb7e8e6bb2ecebcbce2e9e32ee
def abn:=zs 31381287660
def Lr:=zs 243055343
def KC:=zs 3982193423476
def aHU:=zs 0xcbaf4ecc2bb2ecebcbce2e9e32ee
def aaI:=zs 0x73e597befe0bb2ecebcbce2e9e32ee
def an6:=zs 242973427
def awA:=zs 1817583
def Xn:=zs 3604769125100
def jz:=zs 0xe797c69dabb2ecebcbce2e9e32ee
def R5:=zs 31379192435
def adz:=zs 236550771
def atx:=zs 0x32e3c3b385fe5a70f0
def nA:=zs 0x73cbb3161e8bb2ecebcbce2e9e32ee
def ae1:=zs 31083705580
def QB:=zs 29749801698
def aoR:=zs 3809077835747
def agR:=zs 213464311
def aLU:=zs 31081394920
def ay9:=zs 245166316
def Jb:=zs 14945
def aKG:=zs 27340091636
def aBo:=zs 3463305819383
def Gs:=zs 0x1cf96fe7a7b69c8bb2ecebcbce2e9e32ee
def aNo:=zs 31115244274
def Gi:=zs 0x3961ccbb2ecebcbce2e9e32ee
def awd:=zs 3501182285030
def aPM:=zs 443304183166948
def pP:=zs 0xe7d37efe4bb2ecebcbce2e9e32ee
def anb:=zs 27057092980
def ah8:=zs 245102578
def apc:=zs 31115180018
def arP:=zs 0xe9bb2eedfc3c65
def aLp:=zs 513606627883376
def apJ:=zs 232569588
def aEU:=zs 243021812
def aJ8:=zs 31115227376
def asU:=zs 240808176
def aJz:=zs 509894165509367
def IG:=zs 0x73c9bbaefe4bb2ecebcbce2e9e32ee
def aCA:=zs 4118816732407
def avY:=zs 232354547
def ud:=zs 0xe7d3c65e8bb2ecebcbce2e9e32ee
def Mp:=zs 211597303
def af5:=zs 245248756
def Vo:=zs 31081674743
def aDT:=zs 1880290
def asB:=zs 3465723654882
def Mw:=zs 31379420275
def MG:=zs 1651297
def Jr:=zs 0xf3b3869e9b3aed
def Kw:=zs 228276210
def Nh:=zs 27340075507
def LD:=zs 1800947
def La:=zs 27048637537
def Lf:=zs 14191
def alK:=zs 236714340
def MH:=zs 251393139
def Nv:=zs 245149936
def KJ:=zs 27076163570
def oZ:=zs 1434318
def aPS:=zs 177611476
def gM:=zs 65
def pF:=zs 2836160277198
def asH:=zs 11458
def eE:=zs 0x1af9e5c8bb2ecebcbce2e9e32ee
def aw3:=zs 31081608427
def XY:=zs 245117675
def aDL:=zs 213610734
def awZ:=zs 211530987
def jD:=zs 211448051
def awR:=zs 27321202288
def xJ:=zs 0xbf7fa69dda6fdf
def yj:=zs 1994995
def aCK:=zs 215692019
def abO:=zs 0x5fbfd34eed37efaed7cf2c4
def Wz:=zs 0xf3879aed7cf2c4
def acY:=zs 0xbf7fa63d392fdf
def aF7:=zs 0x1d3869e58f9dfef8765f
def aiT:=zs 3702244537951
def aQR:=zs 0x6cd9971dfef8765f
def aRD:=zs 0x6be79725fef8765f
def ahz:=zs 0x74f197a5fef8765f
def aJH:=zs 0x326eebbf35fef8765f
def avL:=zs 0x32f2cba2fe4e5bfbdfef8765f
def aSa:=zs 3496086107743
def K4:=zs 0x1cb2e2dbd775fef8765f
def V7:=zs 0x65dbbf9dfef8765f
def aOX:=zs 0x65db8775fef8765f
def ax0:=zs 0x39e5db8775fef8765f
def aDv:=zs 0xf387bdfef8765f
def aP8:=zs 0xcbd725fef8765f
noncomputable abbrev t0:String:=PySem.W.SL.s14018661285674007319x4
noncomputable abbrev t1:String:=PySem.W.SL.s7097527257260152453x26
noncomputable abbrev t2:String:=PySem.W.SL.s2766695959194262286x5
noncomputable abbrev t3:String:=PySem.W.SL.s5856160107412720595x4
noncomputable abbrev t4:String:=PySem.W.SL.s658472552662922059x5
noncomputable abbrev t5:String:=PySem.W.SL.s6070975301684473832x10
noncomputable abbrev t6:String:=PySem.W.SL.s11030030927630378310x26
noncomputable abbrev t7:String:=PySem.W.SL.s10062305145149207511x16
noncomputable abbrev t8:String:=PySem.W.SL.s17162191345867700912x4
noncomputable abbrev t9:String:=PySem.W.SL.s4209523147560561109x18
noncomputable abbrev t10:String:=PySem.W.SL.s5946037652744460706x9
noncomputable abbrev t11:String:=PySem.W.SL.s4278001404047624695x13
noncomputable abbrev fW:String:=PySem.W.SL.s2742458400755230247x6
noncomputable abbrev Bp:String:=PySem.W.SL.s14755015743595814543x17
noncomputable abbrev Aj:String:=PySem.W.SL.s10220274742760427390x26
noncomputable abbrev oX:String:=PySem.W.SL.s4290257624100764138x5
noncomputable abbrev oA:String:=PySem.W.SL.s4860613602091757760x24
noncomputable abbrev Ce:String:=PySem.W.SL.s7174869446012820540x8
noncomputable abbrev t18:String:=PySem.W.SL.s11443829558043349243x14
noncomputable abbrev t19:String:=PySem.W.SL.s6511155373996960695x17
noncomputable abbrev RQ:String:=PySem.W.SL.s12411053484034534018x21
def cd(z:Str)(i:Nat):Obj:={.none,.none,.func {z,z,L2.jH (tt i),.stmts (L2.gG (tt i)),L2.aC (tt i),0,[],.none,.none,.none,.none,.none,.none,.none,0},{([])}}
def fo(z:Str)(i:Nat)(y:Str)(t c:Nat):Obj:={.type Ce,.none,.func {z,z,L2.jH (tt i),.stmts (L2.gG (tt i)),L2.aC (tt i),3,[],.none,.none,.none,.str y t,.none,.ref c,.none,0},{([])}}
def cf(z:Str)(a:Nat)(l n:Int)(r:Nat)(x y:Value)(c e:Nat):Obj:={.type t3,.none,.fields {[.str z a,.str z (a+1),.str z9 (a+2),.int l 0,.int n 0,.int 0 0,.int 0 0,.int 3 0,.ref r,.bool true,.int 181 0,.ref (r+1),.none,x,y,.ref c,.int e 0,.int l 0,.str z9 (e+1)]},{([])}}
def cg(z:Str)(a:Nat)(l n:Int)(r c e:Nat):Obj:=cf z a l n r (.ref (r+2)) (.ref (r+3)) c e
def ts(l:List Str)(a:Nat):Obj:={.type t2,.none,.seq {List.rec (motive:=λ_=>Nat->List Value) (λ_=>[]) (λz _ f a=> .str z a::f (a+1)) l a} 0,{([])}}
def er(P:Params)(z:Str)(t r:Nat):DictEntry:={kh P z,.str z t,.ref r}
def l3(P:Params):List DictEntry:=[{kh P z0,.str z0 165,.str z1 1535},{kh P z2,.str z2 166,.none},{kh P z3,.str z3 167,.none},{kh P z4,.str z4 168,.builtin t1},{kh P z5,.str z5 169,.none},er P z6 170 6,er P z7 171 4,{kh P z8,.str z8 173,.str z9 172},{kh P Kv,.str Kv 174,.none},er P dg 206 24,er P sG 222 37,er P qX 238 49,er P rQ 254 61,er P sU 270 73,er P uf 286 85,er P qY 302 97,er P rH 318 109,er P uo 334 121,{kh P Y9,.str Y9 338,.int 1000 337},er P Du 345 130,er P Fx 353 137,er P CW 360 144,er P B4 368 151,er P Fd 376 158,er P Dp 387 165,er P CY 396 172,{kh P VQ,.str VQ 400,.int 12 399},{kh P TN,.str TN 402,.int 300 401},er P Iz 408 177,er P HJ 418 184,er P B6 426 191,er P Iu 433 198,er P IB 444 205,er P Cu 456 212,er P BX 463 219,er P rR 471 226,er P Fp 481 233,er P GZ 489 240,er P Bg 501 247,er P Ef 516 254,er P FT 522 259,er P E6 534 266,er P Ga 540 271,er P E5 546 276,er P Gp 552 281,{kh P z47,.str z47 556,.int 1000000 555},er P Gy 564 288,er P oW 572 295,er P IV 578 300,er P HS 587 307,er P Ec 598 314,er P Eu 604 319,er P Hz 613 326,er P CD 621 331,er P Eh 631 338,er P IW 640 345,er P Dv 654 352,er P Ja 662 357,er P CV 673 364,er P Dn 682 371,{kh P Zc,.str Zc 686,.int 100 685},{kh P YV,.str YV 688,.int 10 687},er P C8 695 378,er P FY 703 385,er P E4 709 390,er P Hy 718 397,er P DC 727 404,er P HB 733 409,er P CG 739 414,er P EG 752 421,er P Cz 760 428,er P GK 768 435,er P C2 774 440,er P Ik 780 445,er P GF 786 450,er P rN 792 455,er P E9 802 462,er P Fb 810 467,er P Dr 820 474,er P Hi 826 479,er P GX 832 484,er P EV 847 491,er P DW 858 498,er P Fv 864 503,er P EY 870 508,er P Fz 876 513,er P GY 882 518,er P CT 888 523,er P Gh 899 530,er P Iw 907 535,er P Hf 916 542,er P Ck 929 549,er P Ii 937 556,{kh P z95,.str z95 941,.int 400 940},er P HC 949 563,er P Di 961 570,er P GR 967 575,er P Jc 975 582,er P Gk 981 587,{kh P Uv,.str Uv 985,.int 1000000 984},er P Er 991 592,er P C6 1001 599,er P EW 1007 604,er P Cp 1018 611,er P Fo 1029 618,er P yM 1039 625,er P Fw 1045 630,er P FW 1057 637,er P oK 1063 642,{kh P VF,.str VF 1067,.int 4096 1066},er P Fl 1077 649,er P Ca 1085 656,er P FP 1097 663,er P Hj 1104 670,er P pq 1110 675,{kh P abw,.str abw 1114,.str aNc 1113},{kh P ace,.str ace 1116,.int 60 1115},er P Ci 1122 682,er P Cw 1129 689,er P FZ 1135 694,er P DQ 1141 699,er P Im 1148 706,er P Cv 1156 713,er P Df 1162 718,er P Ie 1173 725,{kh P acN,.str acN 1177,.str aAc 1176},{kh P PD,.str PD 1179,.int 8 1178},{kh P Yk,.str Yk 1181,.int 12 1180},er P alW 1272 726,er P Gx 1280 755,er P Hv 1289 762,er P Dz 1295 767,er P E3 1304 774,er P Io 1313 781,er P IL 1320 788,er P FJ 1327 795,er P Dl 1334 802,er P E1 1341 809,er P GQ 1348 816,er P CQ 1355 823,er P Gj 1362 830,er P Hw 1369 837,er P DL 1375 842,er P Il 1382 849,er P C7 1389 856,er P EB 1395 861,er P CN 1402 868,er P HW 1409 875,er P GV 1416 882,er P Ea 1424 889,er P Ez 1431 896,er P HN 1437 901,er P Fj 1443 906,er P Ib 1450 913,er P EJ 1458 920,er P aiY 1481 921,er P aoy 1500 922,er P tO 1534 944,er P DY 1544 955,er P Gr 1550 960,er P Dy 1558 967,er P Es 1564 972,er P C5 1575 979,er P CZ 1581 984,er P Hl 1589 991,er P CK 1597 998,er P Fg 1606 1005,er P Gf 1612 1010,er P Jf 1623 1017,er P GB 1629 1022,er P Gn 1635 1027,er P LQ 1641 1032]
def hv(P:Params)(z:Str)(t n:Nat):Obj:={.type t0,.none,.dict {{kh P z0,.str z0 165,.str z t}::((l3 P).take n).drop 1} n,{([])}}
def o3(P:Params):Obj:={.type t0,.none,.dict {l3 P} 172,{([])}}
def asw(P:Params):=hv P eN 187 10
def aR7(P:Params):=hv P eN 187 11
def aBn(P:Params):=hv P eN 187 12
def aJB(P:Params):=hv P eN 187 13
def aQA(P:Params):=hv P eN 187 14
def aHe(P:Params):=hv P eN 187 15
def aMN(P:Params):=hv P eN 187 16
def aR2(P:Params):=hv P eN 187 17
def aIL(P:Params):=hv P uP 335 24
def aAj(P:Params):=hv P qu 472 37
def axB(P:Params):=hv P u5 553 50
def aMm(P:Params):=hv P jz 683 63
def aKA(P:Params):=hv P jz 683 76
def aui(P:Params):=hv P Gs 900 89
def aAh(P:Params):=hv P pP 982 103
def atg(P:Params):=hv P ud 1111 117
def aIj(P:Params):=hv P eE 1174 128
def aEX(P:Params):=hv P eE 1174 129
def awi(P:Params):=hv P eE 1174 142
def ayT(P:Params):=hv P eE 1174 155
def aq4(P:Params):=hv P eE 1174 157
def aBA(P:Params):Obj:={.type t0,.none,.dict {(l3 P).take 162} 162,{([])}}
def ak:Obj:={.type t2,.none,.seq {([])} 0,{([])}}
def fl(l:List (Int×Nat)):List Value:=l.flatMap λx=>[.int x.1 0,.int 0 0,.ref x.2]
noncomputable def gj:=fl [(2,20),(4,33),(6,45),(8,57),(10,69),(12,81),(14,93),(16,105),(18,117),(22,129),(24,136),(33,143),(37,150),(41,157),(45,164),(55,171),(64,176),(68,183),(77,190),(81,197),(84,204),(89,211),(97,218),(100,225),(104,232),(109,239),(111,246),(117,253),(127,258),(132,265),(140,270),(144,275),(147,280),(151,287),(156,294),(158,299),(160,306),(163,313),(166,318),(184,325),(187,330),(195,337),(200,344),(205,351),(215,356),(218,363),(224,370),(232,377),(235,384),(238,389),(242,396),(244,403),(246,408),(248,413),(253,420),(260,427),(262,434),(264,439),(274,444),(276,449),(284,454),(292,461),(298,466),(300,473),(305,478),(310,483),(318,490),(332,497),(340,502),(349,507),(356,512),(370,517),(372,522),(378,529),(384,534),(388,541),(394,548),(405,555),(410,562),(413,569),(421,574),(427,581),(429,586),(437,591),(440,598),(451,603),(456,610),(465,617),(475,624),(480,629),(485,636),(493,641),(505,648),(511,655),(517,662),(527,669),(529,674),(541,681),(543,688),(547,693),(555,698),(562,705),(566,712),(571,717),(578,724),(595,754),(602,761),(612,766),(616,773),(621,780),(631,787),(633,794),(635,801),(637,808),(639,815),(641,822),(643,829),(645,836),(647,841),(649,848),(651,855),(653,860),(655,867),(657,874),(659,881),(661,888),(664,895),(666,900),(674,905),(681,912),(683,919),(691,928),(708,954),(712,959),(729,966),(731,971),(739,978),(751,983),(754,990),(760,997),(768,1004),(775,1009),(785,1016),(790,1021),(812,1026),(820,1031)]
def Ao:Obj:={.none,.none,.fields {(gj)},{([])}}
def ha0(a:Nat):Obj:={.none,.none,.fields {gj.take a},{([])}}
def ajH:=ha0 0
def aEV:=ha0 3
def avh:=ha0 6
def av0:=ha0 9
def arL:=ha0 12
def aCy:=ha0 15
def aQE:=ha0 18
def az8:=ha0 21
def aHO:=ha0 24
def aGa:=ha0 42
def aEy:=ha0 75
def aP1:=ha0 111
def axg:=ha0 144
def aL9:=ha0 183
def aIs:=ha0 222
def ayO:=ha0 258
def aAX:=ha0 291
def aji:=ha0 315
def aQy:=ha0 354
def anw:=ha0 393
def aJ5:=ha0 408
def ha1(a:Str)(b d:Nat)(c e:Int):Obj:={.type t3,.none,.fields {[.str a b,.str a (b+1),.str z9 (b+2),.int c 0,.int 0 0,.int 0 0,.int 0 0,.int 0 0,.ref d,.bool false,.int 181 0,.ref (d+1),.none,.none,.none,.none,.int e 0,.int c 0,.str z9 (b+4)]},{([])}}
def U6:=ha1 akD 182 11 1 185
def ha2(c:Str)(a b d:Nat):Obj:={.type t4,.none,.plain,{[.some (.ref a),.some (.ref 3),.some (.ref b),.none,.some (.str c d),.none,.some (.ref 0)]}}
def R0:=ha2 aOJ 13 3 164
def o15:Obj:={.type t2,.none,.seq {[.type t5]} 0,{([])}}
def qb:Obj:={.type t6,.none,.fields {[.builtin t7,.type t8]},{([])}}
def ha3(P:Params)(b:Str)(a d:Nat)(c:Int):Obj:={.type t0,.none,.dict {[{kh P dG,.str dG a,.str eN 187},{kh P iZ,.str iZ (a+2),.str b (a+1)},{kh P dO,.str dO (a+4),.int c (a+3)},{kh P dD,.str dD (a+5),.ref d}]} 4,{([])}}
def o17(P:Params):=ha3 P dg 196 22 2
def aJ:Obj:={.none,.none,.fields {([])},{([])}}
def o20:=ha1 dg 191 18 2 194
def o21:=ha2 eN 20 17 187
def o23(P:Params):Obj:={.type t0,.none,.dict {[{kh P dG,.str dG 196,.str eN 187},{kh P dO,.str dO 200,.int 2 199},{kh P dD,.str dD 201,.ref 22},{kh P zc,.str zc 203,.ref 25},{kh P z2,.str z2 204,.none}]} 3,{([])}}
def o24:Obj:={.type t8,.none,.cls {dg,[.type t5],[.ref 24,.type t5,.type t10,.type t11,.type fW],23,dg,true,[],[.ref 37,.ref 49,.ref 61,.ref 73,.ref 85,.ref 97,.ref 109,.ref 121],false,.none,false},{[.some (.ref 15),.none,.some (.str dg 189),.some (.str dg 197),.some (.builtin t9),.some (.bool true)]}}
def aMr:Obj:={.type t8,.none,.cls {dg,[.type t5],[.ref 24,.type t5,.type t10,.type t11,.type fW],23,dg,true,[],[],false,.none,false},{[.some (.ref 15),.none,.some (.str dg 189),.some (.str dg 197),.some (.builtin t9),.some (.bool true)]}}
def aRp:Obj:={.type t8,.none,.cls {dg,[.type t5],[.ref 24,.type t5,.type t10,.type t11,.type fW],23,dg,true,[],[.ref 37],false,.none,false},{[.some (.ref 15),.none,.some (.str dg 189),.some (.str dg 197),.some (.builtin t9),.some (.bool true)]}}
def avU:Obj:={.type t8,.none,.cls {dg,[.type t5],[.ref 24,.type t5,.type t10,.type t11,.type fW],23,dg,true,[],[.ref 37,.ref 49],false,.none,false},{[.some (.ref 15),.none,.some (.str dg 189),.some (.str dg 197),.some (.builtin t9),.some (.bool true)]}}
def aDx:Obj:={.type t8,.none,.cls {dg,[.type t5],[.ref 24,.type t5,.type t10,.type t11,.type fW],23,dg,true,[],[.ref 37,.ref 49,.ref 61],false,.none,false},{[.some (.ref 15),.none,.some (.str dg 189),.some (.str dg 197),.some (.builtin t9),.some (.bool true)]}}
def aO8:Obj:={.type t8,.none,.cls {dg,[.type t5],[.ref 24,.type t5,.type t10,.type t11,.type fW],23,dg,true,[],[.ref 37,.ref 49,.ref 61,.ref 73],false,.none,false},{[.some (.ref 15),.none,.some (.str dg 189),.some (.str dg 197),.some (.builtin t9),.some (.bool true)]}}
def arS:Obj:={.type t8,.none,.cls {dg,[.type t5],[.ref 24,.type t5,.type t10,.type t11,.type fW],23,dg,true,[],[.ref 37,.ref 49,.ref 61,.ref 73,.ref 85],false,.none,false},{[.some (.ref 15),.none,.some (.str dg 189),.some (.str dg 197),.some (.builtin t9),.some (.bool true)]}}
def aze:Obj:={.type t8,.none,.cls {dg,[.type t5],[.ref 24,.type t5,.type t10,.type t11,.type fW],23,dg,true,[],[.ref 37,.ref 49,.ref 61,.ref 73,.ref 85,.ref 97],false,.none,false},{[.some (.ref 15),.none,.some (.str dg 189),.some (.str dg 197),.some (.builtin t9),.some (.bool true)]}}
def axh:Obj:={.type t8,.none,.cls {dg,[.type t5],[.ref 24,.type t5,.type t10,.type t11,.type fW],23,dg,true,[],[.ref 37,.ref 49,.ref 61,.ref 73,.ref 85,.ref 97,.ref 109],false,.none,false},{[.some (.ref 15),.none,.some (.str dg 189),.some (.str dg 197),.some (.builtin t9),.some (.bool true)]}}
def o25:Obj:={.type Bp,.none,.fields {[.str zc 202,.ref 24,.builtin Aj,.none]},{([])}}
def ha4(a:Nat):Obj:={.type oX,.none,.fields {[.ref a,.ref a,.ref a]},{([])}}
def o26:=ha4 24
def ha5(a:Nat):Obj:={.type t6,.none,.fields {[.builtin oA,.ref a]},{([])}}
def o27:=ha5 24
def jU:Obj:={.type t2,.none,.seq {[.ref 24]} 0,{([])}}
def o30(P:Params):=ha3 P sG 214 35 4
def o33:=ha1 sG 209 31 4 212
def o34:=ha2 eN 33 30 187
def ha6(P:Params)(a c:Nat)(b:Int):Obj:={.type t0,.none,.dict {[{kh P dG,.str dG a,.str eN 187},{kh P dO,.str dO (a+4),.int b (a+3)},{kh P dD,.str dD (a+5),.ref c},{kh P z2,.str z2 (a+6),.none}]} 2,{([])}}
def o36(P:Params):=ha6 P 214 35 4
def ha7(a:Str)(b c:Nat):Obj:={.type t8,.none,.cls {a,[.ref 24],[.ref (b+9),.ref 24,.type t5,.type t10,.type t11,.type fW],(b+8),a,true,[],[],false,.none,false},{[.some (.ref b),.none,.some (.str a c),.some (.str a (c+8)),.some (.builtin t9),.some (.bool true)]}}
def o37:=ha7 sG 28 207
def o38:=ha4 37
def o39:=ha5 37
def o42(P:Params):=ha3 P qX 230 47 6
def o45:=ha1 qX 225 43 6 228
def o46:=ha2 eN 45 42 187
def o48(P:Params):=ha6 P 230 47 6
def o49:=ha7 qX 40 223
def o50:=ha4 49
def o51:=ha5 49
def o54(P:Params):=ha3 P rQ 246 59 8
def o57:=ha1 rQ 241 55 8 244
def o58:=ha2 eN 57 54 187
def o60(P:Params):=ha6 P 246 59 8
def o61:=ha7 rQ 52 239
def o62:=ha4 61
def o63:=ha5 61
def o66(P:Params):=ha3 P sU 262 71 10
def o69:=ha1 sU 257 67 10 260
def o70:=ha2 eN 69 66 187
def o72(P:Params):=ha6 P 262 71 10
def o73:=ha7 sU 64 255
def o74:=ha4 73
def o75:=ha5 73
def o78(P:Params):=ha3 P uf 278 83 12
def o81:=ha1 uf 273 79 12 276
def o82:=ha2 eN 81 78 187
def o84(P:Params):=ha6 P 278 83 12
def o85:=ha7 uf 76 271
def o86:=ha4 85
def o87:=ha5 85
def o90(P:Params):=ha3 P qY 294 95 14
def o93:=ha1 qY 289 91 14 292
def o94:=ha2 eN 93 90 187
def o96(P:Params):=ha6 P 294 95 14
def o97:=ha7 qY 88 287
def o98:=ha4 97
def o99:=ha5 97
def aGf(P:Params):=ha3 P rH 310 107 16
def ay7:=ha1 rH 305 103 16 308
def aOd:=ha2 eN 105 102 187
def ahm(P:Params):=ha6 P 310 107 16
def aiD:=ha7 rH 100 303
def aRl:=ha4 109
def o111:=ha5 109
def aFj(P:Params):=ha3 P uo 326 119 18
def avz:=ha1 uo 321 115 18 324
def aAk:=ha2 eN 117 114 187
def aoF(P:Params):=ha6 P 326 119 18
def apx:=ha7 uo 112 319
def aB8:=ha4 121
def ayV:=ha5 121
def ayR:=ts [NV] 342
def aE0:=cd Du 12
def anO:=cg Du 339 22 1 124 128 343
def aib:=fo Du 12 uP 335 129
def aKi:=ts [rP,rM] 349
def aKE:=cd Fx 13
def apC:=cg Fx 346 24 1 131 135 351
def aeX:=fo Fx 13 uP 335 136
def axR:=ts [NV] 357
def aD3:=cd CW 14
def aok:=cg CW 354 33 1 138 142 358
def amL:=fo CW 14 uP 335 143
def aLF:=ts [jP,NV] 364
def azX:=cd B4 15
def aqD:=cg B4 361 37 2 145 149 366
def agl:=fo B4 15 uP 335 150
def aLG:=ts [jP,rP] 372
def au8:=cd Fd 16
def agt:=cg Fd 369 41 2 152 156 374
def aik:=fo Fd 16 uP 335 157
def aJK:=ts [Hh,rP,yM,aJd,yD] 380
def aJw:=cd Dp 17
def ajh:=cg Dp 377 45 2 159 163 385
def afW:=fo Dp 17 uP 335 164
def aAM:=ts [jP,pH,pA] 391
def axV:=cd CY 18
def anT:=cg CY 388 55 3 166 170 394
def ap1:=fo CY 18 uP 335 171
def avZ:=cd Iz 22
def ahQ:=cf Iz 403 64 2 173 .none .none 175 406
def alq:=fo Iz 22 vd 397 176
def aHi:=ts [NV,jP,vL,apy] 412
def aQI:=cd HJ 23
def an4:=cg HJ 409 68 1 178 182 416
def ajq:=fo HJ 23 vd 397 183
def aAz:=ts [pH,pA] 422
def aru:=cd B6 24
def amB:=cg B6 419 77 2 185 189 424
def af0:=fo B6 24 vd 397 190
def aNu:=ts [jF] 430
def aGC:=cd Iu 25
def anZ:=cg Iu 427 81 1 192 196 431
def akq:=fo Iu 25 vd 397 197
def aOH:=ts [jP,vL,awS,ank,vJ] 437
def avQ:=cd IB 26
def agf:=cg IB 434 84 3 199 203 442
def ak8:=fo IB 26 vd 397 204
def aCo:=ts [jF,Ew,jP,vL,apy,Li] 448
def aGn:=cd Cu 27
def afw:=cg Cu 445 89 2 206 210 454
def ajo:=fo Cu 27 vd 397 211
def aMI:=ts [wR] 460
def aDs:=cd BX 28
def aiR:=cg BX 457 97 1 213 217 461
def ai5:=fo BX 28 vd 397 218
def aHu:=ts [jF,Ew] 467
def aI8:=cd rR 29
def apt:=cg rR 464 100 2 220 224 469
def ahj:=fo rR 29 vd 397 225
def arJ:=ts [ahh,Sx] 477
def ax4:=cd Fp 31
def afu:=cg Fp 474 104 1 227 231 479
def akI:=fo Fp 31 qu 472 232
def awW:=ts [vX,vJ] 485
def aOG:=cd GZ 32
def ap9:=cg GZ 482 109 2 234 238 487
def aek:=fo GZ 32 qu 472 239
def aNY:=ts [jP,pH,pA,ank,YG,vJ] 493
def aEq:=cd Bg 33
def ano:=cg Bg 490 111 3 241 245 499
def aqQ:=fo Bg 33 qu 472 246
def aOR:=ts [jP,pH,pA,W0,adD,yD,aD6,aJV,vJ] 505
def awu:=cd Ef 34
def aof:=cg Ef 502 117 3 248 252 514
def adn:=fo Ef 34 qu 472 253
def aLq:=cd FT 35
def ai7:=cf FT 517 127 2 255 .none .none 257 520
def ajw:=fo FT 35 qu 472 258
def aDI:=ts [jP,pH,pA,Vz,Ug,yD] 526
def aRc:=cd E6 36
def aiu:=cg E6 523 132 3 260 264 532
def aeV:=fo E6 36 qu 472 265
def aM8:=cd Ga 37
def afk:=cf Ga 535 140 2 267 .none .none 269 538
def aiB:=fo Ga 37 qu 472 270
def aKF:=cd E5 38
def akE:=cf E5 541 144 2 272 .none .none 274 544
def aiv:=fo E5 38 qu 472 275
def aMR:=cd Gp 39
def anf:=cf Gp 547 147 4 277 .none .none 279 550
def aeM:=fo Gp 39 qu 472 280
def azr:=ts [rP,Li] 560
def aPW:=cd Gy 42
def ajV:=cg Gy 557 151 1 282 286 562
def amj:=fo Gy 42 u5 553 287
def aKu:=ts [aRZ,vX] 568
def aAr:=cd oW 43
def al4:=cg oW 565 156 2 289 293 570
def apT:=fo oW 43 u5 553 294
def azn:=cd IV 44
def ahT:=cf IV 573 158 2 296 .none .none 298 576
def o300:=fo IV 44 u5 553 299
def axd:=ts [anI,rP,yS] 582
def aHQ:=cd HS 45
def agB:=cg HS 579 160 2 301 305 585
def an0:=fo HS 45 u5 553 306
def asj:=ts [anI,rP,Hh,yS,aIX] 591
def atZ:=cd Ec 46
def agm:=cg Ec 588 163 4 308 312 596
def agI:=fo Ec 46 u5 553 313
def aNM:=cd Eu 47
def ajc:=cf Eu 599 166 2 315 .none .none 317 602
def agG:=fo Eu 47 u5 553 318
def aOh:=ts [jP,pH,pA] 608
def aDk:=cd Hz 48
def aiA:=cg Hz 605 184 3 320 324 611
def anv:=fo Hz 48 u5 553 325
def aIe:=cd CD 50
def akW:=cf CD 616 187 2 327 .none .none 329 619
def ajf:=fo CD 50 UH 614 330
def ato:=ts [jF,jP,vX,W0] 625
def azV:=cd Eh 51
def ag8:=cg Eh 622 195 1 332 336 629
def ahn:=fo Eh 51 UH 614 337
def aRs:=ts [jF,abn,vL] 635
def aQ9:=cd IW 52
def ali:=cg IW 632 200 1 339 343 638
def ak2:=fo IW 52 UH 614 344
def ay1:=ts [pH,pA,Ew,Lr,KC,wR] 646
def au6:=cd Dv 54
def anJ:=cg Dv 643 205 2 346 350 652
def ahB:=fo Dv 54 aHU 641 351
def auE:=cd Ja 56
def aiW:=cf Ja 657 215 3 353 .none .none 355 660
def akY:=fo Ja 56 aaI 655 356
def aGB:=ts [vL,Ew,an6,vJ,awA] 666
def aK3:=cd CV 57
def alF:=cg CV 663 218 2 358 362 671
def ah4:=fo CV 57 aaI 655 363
def axm:=ts [an6,vL,vJ] 677
def azs:=cd Dn 58
def adh:=cg Dn 674 224 1 365 369 680
def amd:=fo Dn 58 aaI 655 370
def azm:=ts [Xn] 692
def aRU:=cd C8 62
def o377:=cg C8 689 232 1 372 376 693
def ajT:=fo C8 62 jz 683 377
def aQx:=ts [R5,adz] 699
def aKm:=cd FY 63
def afp:=cg FY 696 235 2 379 383 701
def alU:=fo FY 63 jz 683 384
def aDl:=cd E4 64
def aeK:=cf E4 704 238 3 386 .none .none 388 707
def aqi:=fo E4 64 jz 683 389
def aMQ:=ts [Lr,KC,wR] 713
def aLr:=cd Hy 65
def adt:=cg Hy 710 242 3 391 395 716
def afm:=fo Hy 65 jz 683 396
def o400:=ts [Lr,KC,wR] 722
def arl:=cd DC 66
def aon:=cg DC 719 244 3 398 402 725
def ad6:=fo DC 66 jz 683 403
def aBM:=cd HB 67
def aiS:=cf HB 728 246 3 405 .none .none 407 731
def aqx:=fo HB 67 jz 683 408
def aua:=cd CG 68
def ahi:=cf CG 734 248 4 410 .none .none 412 737
def ao3:=fo CG 68 jz 683 413
def aDE:=ts [pH,pA,atx,jP,Lr,KC,vX] 743
def aLR:=cd EG 69
def ai3:=cg EG 740 253 3 415 419 750
def aiy:=fo EG 69 jz 683 420
def aGW:=ts [pH,pA] 756
def aBE:=cd Cz 70
def afr:=cg Cz 753 260 2 422 426 758
def ajs:=fo Cz 70 jz 683 427
def aCv:=ts [pH,pA] 764
def asq:=cd GK 71
def ad1:=cg GK 761 262 2 429 433 766
def an9:=fo GK 71 jz 683 434
def aNv:=cd C2 72
def adS:=cf C2 769 264 2 436 .none .none 438 772
def agb:=fo C2 72 jz 683 439
def aJX:=cd Ik 73
def o444:=cf Ik 775 274 2 441 .none .none 443 778
def apF:=fo Ik 73 jz 683 444
def aMD:=cd GF 74
def ak4:=cf GF 781 276 1 446 .none .none 448 784
def akC:=fo GF 74 jz 683 449
def aPd:=cd rN 75
def aes:=cf rN 787 284 3 451 .none .none 453 790
def anH:=fo rN 75 jz 683 454
def aPb:=ts [jF,ahh,abn,vL] 796
def auA:=cd E9 76
def ag7:=cg E9 793 292 2 456 460 800
def akZ:=fo E9 76 jz 683 461
def azh:=cd Fb 78
def ae6:=cf Fb 805 298 2 463 .none .none 465 808
def adY:=fo Fb 78 nA 803 466
def ayf:=ts [ae1,QB,aoR,YG] 814
def aEP:=cd Dr 79
def agH:=cg Dr 811 300 3 468 472 818
def amX:=fo Dr 79 nA 803 473
def azE:=cd Hi 80
def agc:=cf Hi 821 305 4 475 .none .none 477 824
def akL:=fo Hi 80 nA 803 478
def aKZ:=cd GX 81
def ao5:=cf GX 827 310 5 480 .none .none 482 830
def aht:=fo GX 81 nA 803 483
def aQ5:=ts [jP,agR,ae1,aLU,ay9,aoR,W0,Jb,YG] 836
def aEO:=cd EV 82
def aea:=cg EV 833 318 3 485 489 845
def ak9:=fo EV 82 nA 803 490
def aLY:=ts [pH,pA,Vz,Ug,yD] 851
def azz:=cd DW 83
def aov:=cg DW 848 332 2 492 496 856
def ap3:=fo DW 83 nA 803 497
def au9:=cd Fv 84
def amv:=cf Fv 859 340 3 499 .none .none 501 862
def afq:=fo Fv 84 nA 803 502
def awx:=cd EY 85
def aeE:=cf EY 865 349 5 504 .none .none 506 868
def agD:=fo EY 85 nA 803 507
def aQt:=cd Fz 86
def aeZ:=cf Fz 871 356 4 509 .none .none 511 874
def ahb:=fo Fz 86 nA 803 512
def aAC:=cd GY 87
def ahC:=cf GY 877 370 2 514 .none .none 516 880
def aqN:=fo GY 87 nA 803 517
def aFc:=cd CT 88
def aio:=cf CT 883 372 4 519 .none .none 521 886
def alH:=fo CT 88 nA 803 522
def axC:=ts [jP,agR,aKG,aBo,Li] 892
def aH8:=cd Gh 89
def apL:=cg Gh 889 378 4 524 528 897
def afF:=fo Gh 89 nA 803 529
def axf:=cd Iw 91
def amS:=cf Iw 902 384 2 531 .none .none 533 905
def ajt:=fo Iw 91 Gs 900 534
def aOP:=ts [jF,rM,R5] 911
def aJb:=cd Hf 92
def ahv:=cg Hf 908 388 1 536 540 914
def ad2:=fo Hf 92 Gs 900 541
def aKr:=ts [jF,rM,R5,adz,Xn,aNo,vJ] 920
def aAS:=cd Ck 93
def aqs:=cg Ck 917 394 4 543 547 927
def aqa:=fo Ck 93 Gs 900 548
def aMP:=ts [jF,Hh] 933
def auj:=cd Ii 94
def o555:=cg Ii 930 405 2 550 554 935
def adi:=fo Ii 94 Gs 900 555
def aRt:=ts [jP,wR] 945
def aA6:=cd HC 97
def ak7:=cg HC 942 410 2 557 561 947
def apO:=fo HC 97 Gi 938 562
def ayd:=ts [jP,vX,wR,yD,awd,aPM] 953
def aGZ:=cd Di 98
def anN:=cg Di 950 413 3 564 568 959
def alN:=fo Di 98 Gi 938 569
def aJN:=cd GR 99
def afI:=cf GR 962 421 2 571 .none .none 573 965
def adW:=fo GR 99 Gi 938 574
def aEQ:=ts [jF,wR] 971
def aQM:=cd Jc 100
def ahF:=cg Jc 968 427 2 576 580 973
def ahp:=fo Jc 100 Gi 938 581
def avG:=cd Gk 101
def akn:=cf Gk 976 429 2 583 .none .none 585 979
def akj:=fo Gk 101 Gi 938 586
def aPB:=cd Er 104
def anu:=cf Er 986 437 1 588 .none .none 590 989
def afa:=fo Er 104 pP 982 591
def aMv:=ts [rP,Ug,Vz,anb] 995
def aP6:=cd C6 105
def aqR:=cg C6 992 440 1 593 597 999
def ake:=fo C6 105 pP 982 598
def aJh:=cd EW 106
def anF:=cf EW 1002 451 1 600 .none .none 602 1005
def aer:=fo EW 106 pP 982 603
def aSt:=ts [vX,ah8,adD,yD,anb] 1011
def aEj:=cd Cp 107
def aej:=cg Cp 1008 456 2 605 609 1016
def aoO:=fo Cp 107 pP 982 610
def aQp:=ts [vX,apc,yD,ah8,Li] 1022
def auW:=cd Fo 108
def afs:=cg Fo 1019 465 1 612 616 1027
def alw:=fo Fo 108 pP 982 617
def aBd:=ts [rP,arP,aLp,apJ] 1033
def aE8:=cd yM 109
def aif:=cg yM 1030 475 2 619 623 1037
def agz:=fo yM 109 pP 982 624
def aOF:=cd Fw 110
def agJ:=cf Fw 1040 480 2 626 .none .none 628 1043
def alh:=fo Fw 110 pP 982 629
def auG:=ts [apc,aEU,aJ8,QB,asU,Sx] 1049
def aGq:=cd FW 111
def ahH:=cg FW 1046 485 2 631 635 1055
def apq:=fo FW 111 pP 982 636
def aQh:=cd oK 112
def aoM:=cf oK 1058 493 1 638 .none .none 640 1061
def aeG:=fo oK 112 pP 982 641
def aQ3:=ts [Hh,Xn,aJz,apJ] 1071
def aGb:=cd Fl 115
def aje:=cg Fl 1068 505 2 643 647 1075
def ah5:=fo Fl 115 IG 1064 648
def as8:=ts [jF,abn] 1081
def ayQ:=cd Ca 116
def aeY:=cg Ca 1078 511 1 650 654 1083
def apv:=fo Ca 116 IG 1064 655
def aOU:=ts [jF,jP,vL,aCA,avY,QB] 1089
def aHw:=cd FP 117
def akS:=cg FP 1086 517 1 657 661 1095
def aee:=fo FP 117 IG 1064 662
def o666:=ts [jF] 1101
def azj:=cd Hj 118
def amf:=cg Hj 1098 527 1 664 668 1102
def ajI:=fo Hj 118 IG 1064 669
def aIp:=cd pq 119
def al9:=cf pq 1105 529 2 671 .none .none 673 1108
def aj1:=fo pq 119 IG 1064 674
def aBf:=cd Ci 123
def alS:=cg Ci 1117 541 0 676 680 1120
def anq:=fo Ci 123 ud 1111 681
def aCj:=ts [rP] 1126
def aCx:=cd Cw 124
def afE:=cg Cw 1123 543 1 683 687 1127
def aiz:=fo Cw 124 ud 1111 688
def axP:=cd FZ 125
def akp:=cf FZ 1130 547 1 690 .none .none 692 1133
def akz:=fo FZ 125 ud 1111 693
def axY:=cd DQ 126
def ahI:=cf DQ 1136 555 1 695 .none .none 697 1139
def aeA:=fo DQ 126 ud 1111 698
def ayi:=ts [Mp] 1145
def au0:=cd Im 127
def afR:=cg Im 1142 562 1 700 704 1146
def adG:=fo Im 127 ud 1111 705
def aOm:=ts [Mp,Hh] 1152
def aG3:=cd Cv 128
def aqF:=cg Cv 1149 566 1 707 711 1154
def ags:=fo Cv 128 ud 1111 712
def ava:=cd Df 129
def ao1:=cf Df 1157 571 3 714 .none .none 716 1160
def ai9:=fo Df 129 ud 1111 717
def ayq:=ts [af5,Vo,aDT,asB,Sx] 1166
def aC6:=cd Ie 130
def akB:=cg Ie 1163 578 1 719 723 1171
def alT:=fo Ie 130 ud 1111 724
def afy(P:Params):Obj:={.type t0,.none,.dict {[{kh P jF,.str jF 1182,.ref 727},{kh P Mw,.str Mw 1186,.ref 728},{kh P MG,.str MG 1190,.ref 729},{kh P Jr,.str Jr 1195,.ref 730},{kh P Kw,.str Kw 1200,.ref 731},{kh P Nh,.str Nh 1205,.ref 732},{kh P LD,.str LD 1210,.ref 733},{kh P rN,.str rN 1214,.ref 734},{kh P La,.str La 1220,.ref 735},{kh P Lf,.str Lf 1225,.ref 736},{kh P yS,.str yS 1230,.ref 737},{kh P alK,.str alK 1235,.ref 738},{kh P MH,.str MH 1238,.ref 739},{kh P rR,.str rR 1241,.ref 740},{kh P Jb,.str Jb 1245,.ref 741},{kh P Nv,.str Nv 1249,.ref 742},{kh P KJ,.str KJ 1253,.ref 743},{kh P pq,.str pq 1256,.ref 745},{kh P oK,.str oK 1259,.ref 746},{kh P rM,.str rM 1261,.ref 747},{kh P oW,.str oW 1263,.ref 748}]} 21,{([])}}
def am1:=ts [oZ,aPS] 1183
def afO:=ts [oZ,gM] 1187
def ahg:=ts [oZ,gM,gM] 1191
def ap0:=ts [oZ,gM,gM] 1196
def apf:=ts [oZ,gM,gM] 1201
def alD:=ts [oZ,gM,pF] 1206
def amM:=ts [oZ,gM] 1211
def agC:=ts [oZ,gM,pF,pF] 1215
def amg:=ts [oZ,gM,pF] 1221
def apr:=ts [oZ,gM,pF] 1226
def ahd:=ts [oZ,gM,asH] 1231
def aop:=ts [gM] 1236
def ana:=ts [gM] 1239
def alY:=ts [gM,pF] 1242
def aqK:=ts [gM,pF] 1246
def aoo:=ts [gM,gM] 1250
def afX:=ts [gM] 1254
def aA2(P:Params):Obj:={.type t0,.none,.dict {[{kh P pq,.str pq 1256,.ref 745},{kh P oK,.str oK 1259,.ref 746},{kh P rM,.str rM 1261,.ref 747},{kh P oW,.str oW 1263,.ref 748}]} 4,{([])}}
def ao7:=ts [gM,pF] 1257
def ala:=ts [gM] 1260
def apR:=ts [gM] 1262
def ap6:=ts [gM,pF,pF,pF] 1264
def aQb:=ts [af5,Vo] 1276
def avE:=cd Gx 136
def ad9:=cg Gx 1273 595 1 749 753 1278
def o755:=fo Gx 136 eE 1174 754
def avd:=ts [Vo,aw3,Ew] 1284
def aBi:=cd Hv 137
def aor:=cg Hv 1281 602 1 756 760 1287
def ac5:=fo Hv 137 eE 1174 761
def aQC:=cd Dz 138
def adL:=cf Dz 1290 612 1 763 .none .none 765 1293
def ang:=fo Dz 138 eE 1174 766
def aFX:=ts [XY,Mp,aDL] 1299
def aPz:=cd E3 139
def aiP:=cg E3 1296 616 2 768 772 1302
def aoz:=fo E3 139 eE 1174 773
def o777:=ts [XY,awZ,Mp] 1308
def awQ:=cd Io 140
def aix:=cg Io 1305 621 3 775 779 1311
def amP:=fo Io 140 eE 1174 780
def aPH:=ts [jD] 1317
def aEF:=cd IL 141
def akO:=cg IL 1314 631 1 782 786 1318
def ahG:=fo IL 141 eE 1174 787
def aq7:=ts [jD] 1324
def av1:=cd FJ 142
def aqy:=cg FJ 1321 633 1 789 793 1325
def ai0:=fo FJ 142 eE 1174 794
def aSj:=ts [jD] 1331
def aPx:=cd Dl 143
def af2:=cg Dl 1328 635 1 796 800 1332
def aqu:=fo Dl 143 eE 1174 801
def aP4:=ts [jD] 1338
def arq:=cd E1 144
def ad8:=cg E1 1335 637 1 803 807 1339
def al8:=fo E1 144 eE 1174 808
def arC:=ts [jD] 1345
def ave:=cd GQ 145
def adE:=cg GQ 1342 639 1 810 814 1346
def amF:=fo GQ 145 eE 1174 815
def atD:=ts [jD] 1352
def asb:=cd CQ 146
def aeL:=cg CQ 1349 641 1 817 821 1353
def aec:=fo CQ 146 eE 1174 822
def aAg:=ts [jD] 1359
def aRQ:=cd Gj 147
def ajp:=cg Gj 1356 643 1 824 828 1360
def aen:=fo Gj 147 eE 1174 829
def aDM:=ts [jD] 1366
def aDA:=cd Hw 148
def aoN:=cg Hw 1363 645 1 831 835 1367
def ao8:=fo Hw 148 eE 1174 836
def aBu:=cd DL 149
def agx:=cf DL 1370 647 1 838 .none .none 840 1373
def alP:=fo DL 149 eE 1174 841
def asW:=ts [jD] 1379
def aPE:=cd Il 150
def anD:=cg Il 1376 649 1 843 847 1380
def akd:=fo Il 150 eE 1174 848
def aCH:=ts [jD] 1386
def aRL:=cd C7 151
def anm:=cg C7 1383 651 1 850 854 1387
def am0:=fo C7 151 eE 1174 855
def axk:=cd EB 152
def ahy:=cf EB 1390 653 1 857 .none .none 859 1393
def ajS:=fo EB 152 eE 1174 860
def aLk:=ts [jD] 1399
def aCz:=cd CN 153
def aqJ:=cg CN 1396 655 1 862 866 1400
def agQ:=fo CN 153 eE 1174 867
def aN2:=ts [jD] 1406
def aLL:=cd HW 154
def alQ:=cg HW 1403 657 1 869 873 1407
def amC:=fo HW 154 eE 1174 874
def awK:=ts [jD] 1413
def aRO:=cd GV 155
def alJ:=cg GV 1410 659 1 876 880 1414
def an1:=fo GV 155 eE 1174 881
def aRw:=ts [jD,awR] 1420
def aBI:=cd Ea 156
def adf:=cg Ea 1417 661 1 883 887 1422
def ajd:=fo Ea 156 eE 1174 888
def aPP:=ts [jD] 1428
def aOT:=cd Ez 157
def aoX:=cg Ez 1425 664 1 890 894 1429
def amx:=fo Ez 157 eE 1174 895
def aHx:=cd HN 158
def ajR:=cf HN 1432 666 1 897 .none .none 899 1435
def alA:=fo HN 158 eE 1174 900
def aLo:=cd Fj 159
def anC:=cf Fj 1438 674 1 902 .none .none 904 1441
def apM:=fo Fj 159 eE 1174 905
def auV:=ts [jD] 1447
def aR0:=cd Ib 160
def anS:=cg Ib 1444 681 1 907 911 1448
def adA:=fo Ib 160 eE 1174 912
def aLl:=ts [jD,vJ] 1454
def aA3:=cd EJ 161
def aiZ:=cg EJ 1451 683 1 914 918 1456
def akN:=fo EJ 161 eE 1174 919
def agj(P:Params):Obj:={.type t0,.none,.dict {[{kh P jF,.str jF 1459,.ref 788},{kh P Mw,.str Mw 1460,.ref 795},{kh P MG,.str MG 1461,.ref 802},{kh P Jr,.str Jr 1462,.ref 809},{kh P Kw,.str Kw 1463,.ref 816},{kh P Nh,.str Nh 1464,.ref 823},{kh P LD,.str LD 1465,.ref 830},{kh P rN,.str rN 1466,.ref 837},{kh P La,.str La 1467,.ref 842},{kh P Lf,.str Lf 1468,.ref 849},{kh P yS,.str yS 1469,.ref 856}]} 11,{([])}}
def aiJ(P:Params):Obj:={.type t0,.none,.dict {[{kh P MH,.str MH 1482,.ref 868},{kh P rR,.str rR 1483,.ref 875},{kh P Jb,.str Jb 1484,.ref 882},{kh P Nv,.str Nv 1485,.ref 889},{kh P KJ,.str KJ 1486,.ref 896},{kh P pq,.str pq 1487,.ref 901},{kh P oK,.str oK 1488,.ref 906},{kh P rM,.str rM 1489,.ref 913},{kh P oW,.str oW 1490,.ref 920}]} 9,{([])}}
def aCO(P:Params):Obj:={.type t0,.none,.dict {[{kh P dG,.str dG 1508,.str eE 1174},{kh P iZ,.str iZ 1510,.str tO 1509},{kh P dO,.str dO 1512,.int 691 1511},{kh P xJ,.str xJ 1519,.ref 936},{kh P yj,.str yj 1525,.ref 941},{kh P dD,.str dD 1527,.ref 942}]} 6,{([])}}
def aIH:Obj:={.none,.none,.fields {[.int 693 0,.int 4 0,.ref 935,.int 696 0,.int 4 0,.ref 940]},{([])}}
def ayc:=ha1 tO 1503 926 691 1506
def azG:=ha2 eE 928 925 1174
def aAB:=ts [aCK] 1516
def ahS:Obj:={.none,.none,.func {xJ,abO,L2.jH (L2.inClass (tt 164) 0),.stmts (L2.gG (L2.inClass (tt 164) 0)),L2.aC (L2.inClass (tt 164) 0),0,[],.none,.none,.none,.none,.none,.none,.none,0},{([])}}
def agP:Obj:={.type t3,.none,.fields {[.str xJ 1513,.str abO 1514,.str z9 1515,.int 693 0,.int 1 0,.int 0 0,.int 0 0,.int 3 0,.ref 930,.bool true,.int 181 0,.ref 931,.none,.ref 932,.ref 933,.ref 934,.int 1517 0,.int 693 0,.str z9 1518]},{([])}}
def aqr:Obj:={.type Ce,.none,.func {xJ,abO,L2.jH (L2.inClass (tt 164) 0),.stmts (L2.gG (L2.inClass (tt 164) 0)),L2.aC (L2.inClass (tt 164) 0),3,[],.none,.none,.none,.str eE 1174,.none,.ref 935,.none,0},{([])}}
def akr:Obj:={.none,.none,.func {yj,Wz,L2.jH (L2.inClass (tt 164) 1),.stmts (L2.gG (L2.inClass (tt 164) 1)),L2.aC (L2.inClass (tt 164) 1),0,[],.none,.none,.none,.none,.none,.none,.none,0},{([])}}
def apI:Obj:={.type t3,.none,.fields {[.str yj 1520,.str Wz 1521,.str z9 1522,.int 696 0,.int 2 0,.int 0 0,.int 0 0,.int 3 0,.ref 937,.bool true,.int 181 0,.ref 938,.none,.none,.none,.ref 939,.int 1523 0,.int 696 0,.str z9 1524]},{([])}}
def ai4:Obj:={.type Ce,.none,.func {yj,Wz,L2.jH (L2.inClass (tt 164) 1),.stmts (L2.gG (L2.inClass (tt 164) 1)),L2.aC (L2.inClass (tt 164) 1),3,[],.none,.none,.none,.str eE 1174,.none,.ref 940,.none,0},{([])}}
def aFg:=ts [XY] 1526
def aja(P:Params):Obj:={.type t0,.none,.dict {[{kh P dG,.str dG 1508,.str eE 1174},{kh P dO,.str dO 1512,.int 691 1511},{kh P xJ,.str xJ 1519,.ref 936},{kh P yj,.str yj 1525,.ref 941},{kh P dD,.str dD 1527,.ref 942},{kh P acY,.str acY 1529,.ref 945},{kh P zc,.str zc 1531,.ref 946},{kh P z2,.str z2 1532,.none}]} 4,{([])}}
def am3:Obj:={.type t8,.none,.cls {tO,[.type fW],[.ref 944,.type fW],943,tO,true,[],[],false,.none,false},{[.none,.none,.some (.str tO 1501),.some (.str tO 1509),.some (.builtin t18),.some (.bool true)]}}
def ajb:Obj:={.type Bp,.none,.fields {[.str acY 1528,.ref 944,.builtin t19,.builtin RQ]},{([])}}
def apm:Obj:={.type Bp,.none,.fields {[.str zc 1530,.ref 944,.builtin Aj,.none]},{([])}}
def asi:=ha4 944
def aOr:=ha5 944
def aOl:=ts [aF7,aiT] 1540
def aQi:=cd DY 166
def aky:=cg DY 1537 708 2 949 953 1542
def ail:=fo DY 166 z1 1535 954
def aPp:=cd Gr 167
def amA:=cf Gr 1545 712 2 956 .none .none 958 1548
def apg:=fo Gr 167 z1 1535 959
def aEb:=ts [aQR,aiT] 1554
def aG5:=cd Dy 168
def ae4:=cg Dy 1551 729 2 961 965 1556
def amc:=fo Dy 168 z1 1535 966
def axG:=cd Es 169
def aog:=cf Es 1559 731 1 968 .none .none 970 1562
def ajG:=fo Es 169 z1 1535 971
def ar8:=ts [aRD,ahz,aJH,avL,aSa] 1568
def aA8:=cd C5 170
def afV:=cg C5 1565 739 2 973 977 1573
def ahW:=fo C5 170 z1 1535 978
def aFl:=cd CZ 171
def ajE:=cf CZ 1576 751 2 980 .none .none 982 1579
def aqq:=fo CZ 171 z1 1535 983
def aLj:=ts [K4,V7] 1585
def axK:=cd Hl 172
def ajZ:=cg Hl 1582 754 1 985 989 1587
def ac4:=fo Hl 172 z1 1535 990
def ax5:=ts [K4,V7] 1593
def arE:=cd CK 173
def amD:=cg CK 1590 760 1 992 996 1595
def aoB:=fo CK 173 z1 1535 997
def aOn:=ts [K4,V7,aOX] 1601
def aFb:=cd Fg 174
def akH:=cg Fg 1598 768 1 999 1003 1604
def adR:=fo Fg 174 z1 1535 1004
def aKv:=cd Gf 175
def ak3:=cf Gf 1607 775 1 1006 .none .none 1008 1610
def apl:=fo Gf 175 z1 1535 1009
def aCT:=ts [ax0,aDv,K4,ahz,aP8] 1616
def arK:=cd Jf 176
def anE:=cg Jf 1613 785 3 1011 1015 1621
def afH:=fo Jf 176 z1 1535 1016
def avF:=cd GB 177
def ajC:=cf GB 1624 790 2 1018 .none .none 1020 1627
def al5:=fo GB 177 z1 1535 1021
def aJY:=cd Gn 178
def aqj:=cf Gn 1630 812 2 1023 .none .none 1025 1633
def agg:=fo Gn 178 z1 1535 1026
def aLb:=cd LQ 179
def ani:=cf LQ 1636 820 1 1028 .none .none 1030 1639
def alE:=fo LQ 179 z1 1535 1031
noncomputable def HL(P:Params):List Obj:=[PySem.W.boot_o_0 P,PySem.W.boot_o_1 P,PySem.W.boot_o_2 P,o3 P,PySem.W.boot_o_4 P,PySem.W.boot_o_5 P,PySem.W.boot_o_6 P,PySem.W.boot_o_7 P,PySem.W.boot_o_8 P,PySem.W.boot_o_9 P,PySem.W.boot_o_10 P,ak,Ao,U6,R0,o15,qb,o17 P,ak,aJ,o20,o21,ak,o23 P,o24,o25,o26,o27,jU,qb,o30 P,ak,aJ,o33,o34,ak,o36 P,o37,o38,o39,jU,qb,o42 P,ak,aJ,o45,o46,ak,o48 P,o49,o50,o51,jU,qb,o54 P,ak,aJ,o57,o58,ak,o60 P,o61,o62,o63,jU,qb,o66 P,ak,aJ,o69,o70,ak,o72 P,o73,o74,o75,jU,qb,o78 P,ak,aJ,o81,o82,ak,o84 P,o85,o86,o87,jU,qb,o90 P,ak,aJ,o93,o94,ak,o96 P,o97,o98,o99,jU,qb,aGf P,ak,aJ,ay7,aOd,ak,ahm P,aiD,aRl,o111,jU,qb,aFj P,ak,aJ,avz,aAk,ak,aoF P,apx,aB8,ayV,ak,aJ,ayR,ak,aE0,anO,aib,ak,aJ,aKi,ak,aKE,apC,aeX,ak,aJ,axR,ak,aD3,aok,amL,ak,aJ,aLF,ak,azX,aqD,agl,ak,aJ,aLG,ak,au8,agt,aik,ak,aJ,aJK,ak,aJw,ajh,afW,ak,aJ,aAM,ak,axV,anT,ap1,ak,aJ,avZ,ahQ,alq,ak,aJ,aHi,ak,aQI,an4,ajq,ak,aJ,aAz,ak,aru,amB,af0,ak,aJ,aNu,ak,aGC,anZ,akq,ak,aJ,aOH,ak,avQ,agf,ak8,ak,aJ,aCo,ak,aGn,afw,ajo,ak,aJ,aMI,ak,aDs,aiR,ai5,ak,aJ,aHu,ak,aI8,apt,ahj,ak,aJ,arJ,ak,ax4,afu,akI,ak,aJ,awW,ak,aOG,ap9,aek,ak,aJ,aNY,ak,aEq,ano,aqQ,ak,aJ,aOR,ak,awu,aof,adn,ak,aJ,aLq,ai7,ajw,ak,aJ,aDI,ak,aRc,aiu,aeV,ak,aJ,aM8,afk,aiB,ak,aJ,aKF,akE,aiv,ak,aJ,aMR,anf,aeM,ak,aJ,azr,ak,aPW,ajV,amj,ak,aJ,aKu,ak,aAr,al4,apT,ak,aJ,azn,ahT,o300,ak,aJ,axd,ak,aHQ,agB,an0,ak,aJ,asj,ak,atZ,agm,agI,ak,aJ,aNM,ajc,agG,ak,aJ,aOh,ak,aDk,aiA,anv,ak,aJ,aIe,akW,ajf,ak,aJ,ato,ak,azV,ag8,ahn,ak,aJ,aRs,ak,aQ9,ali,ak2,ak,aJ,ay1,ak,au6,anJ,ahB,ak,aJ,auE,aiW,akY,ak,aJ,aGB,ak,aK3,alF,ah4,ak,aJ,axm,ak,azs,adh,amd,ak,aJ,azm,ak,aRU,o377,ajT,ak,aJ,aQx,ak,aKm,afp,alU,ak,aJ,aDl,aeK,aqi,ak,aJ,aMQ,ak,aLr,adt,afm,ak,aJ,o400,ak,arl,aon,ad6,ak,aJ,aBM,aiS,aqx,ak,aJ,aua,ahi,ao3,ak,aJ,aDE,ak,aLR,ai3,aiy,ak,aJ,aGW,ak,aBE,afr,ajs,ak,aJ,aCv,ak,asq,ad1,an9,ak,aJ,aNv,adS,agb,ak,aJ,aJX,o444,apF,ak,aJ,aMD,ak4,akC,ak,aJ,aPd,aes,anH,ak,aJ,aPb,ak,auA,ag7,akZ,ak,aJ,azh,ae6,adY,ak,aJ,ayf,ak,aEP,agH,amX,ak,aJ,azE,agc,akL,ak,aJ,aKZ,ao5,aht,ak,aJ,aQ5,ak,aEO,aea,ak9,ak,aJ,aLY,ak,azz,aov,ap3,ak,aJ,au9,amv,afq,ak,aJ,awx,aeE,agD,ak,aJ,aQt,aeZ,ahb,ak,aJ,aAC,ahC,aqN,ak,aJ,aFc,aio,alH,ak,aJ,axC,ak,aH8,apL,afF,ak,aJ,axf,amS,ajt,ak,aJ,aOP,ak,aJb,ahv,ad2,ak,aJ,aKr,ak,aAS,aqs,aqa,ak,aJ,aMP,ak,auj,o555,adi,ak,aJ,aRt,ak,aA6,ak7,apO,ak,aJ,ayd,ak,aGZ,anN,alN,ak,aJ,aJN,afI,adW,ak,aJ,aEQ,ak,aQM,ahF,ahp,ak,aJ,avG,akn,akj,ak,aJ,aPB,anu,afa,ak,aJ,aMv,ak,aP6,aqR,ake,ak,aJ,aJh,anF,aer,ak,aJ,aSt,ak,aEj,aej,aoO,ak,aJ,aQp,ak,auW,afs,alw,ak,aJ,aBd,ak,aE8,aif,agz,ak,aJ,aOF,agJ,alh,ak,aJ,auG,ak,aGq,ahH,apq,ak,aJ,aQh,aoM,aeG,ak,aJ,aQ3,ak,aGb,aje,ah5,ak,aJ,as8,ak,ayQ,aeY,apv,ak,aJ,aOU,ak,aHw,akS,aee,ak,aJ,o666,ak,azj,amf,ajI,ak,aJ,aIp,al9,aj1,ak,aJ,ak,ak,aBf,alS,anq,ak,aJ,aCj,ak,aCx,afE,aiz,ak,aJ,axP,akp,akz,ak,aJ,axY,ahI,aeA,ak,aJ,ayi,ak,au0,afR,adG,ak,aJ,aOm,ak,aG3,aqF,ags,ak,aJ,ava,ao1,ai9,ak,aJ,ayq,ak,aC6,akB,alT,afy P,am1,afO,ahg,ap0,apf,alD,amM,agC,amg,apr,ahd,aop,ana,alY,aqK,aoo,afX,aA2 P,ao7,ala,apR,ap6,ak,aJ,aQb,ak,avE,ad9,o755,ak,aJ,avd,ak,aBi,aor,ac5,ak,aJ,aQC,adL,ang,ak,aJ,aFX,ak,aPz,aiP,aoz,ak,aJ,o777,ak,awQ,aix,amP,ak,aJ,aPH,ak,aEF,akO,ahG,ak,aJ,aq7,ak,av1,aqy,ai0,ak,aJ,aSj,ak,aPx,af2,aqu,ak,aJ,aP4,ak,arq,ad8,al8,ak,aJ,arC,ak,ave,adE,amF,ak,aJ,atD,ak,asb,aeL,aec,ak,aJ,aAg,ak,aRQ,ajp,aen,ak,aJ,aDM,ak,aDA,aoN,ao8,ak,aJ,aBu,agx,alP,ak,aJ,asW,ak,aPE,anD,akd,ak,aJ,aCH,ak,aRL,anm,am0,ak,aJ,axk,ahy,ajS,ak,aJ,aLk,ak,aCz,aqJ,agQ,ak,aJ,aN2,ak,aLL,alQ,amC,ak,aJ,awK,ak,aRO,alJ,an1,ak,aJ,aRw,ak,aBI,adf,ajd,ak,aJ,aPP,ak,aOT,aoX,amx,ak,aJ,aHx,ajR,alA,ak,aJ,aLo,anC,apM,ak,aJ,auV,ak,aR0,anS,adA,ak,aJ,aLl,ak,aA3,aiZ,akN,agj P,aiJ P,ak,qb,aCO P,ak,aIH,ayc,azG,ak,aJ,aAB,ak,ahS,agP,aqr,ak,aJ,akr,apI,ai4,aFg,aja P,am3,ajb,apm,asi,aOr,ak,aJ,aOl,ak,aQi,aky,ail,ak,aJ,aPp,amA,apg,ak,aJ,aEb,ak,aG5,ae4,amc,ak,aJ,axG,aog,ajG,ak,aJ,ar8,ak,aA8,afV,ahW,ak,aJ,aFl,ajE,aqq,ak,aJ,aLj,ak,axK,ajZ,ac4,ak,aJ,ax5,ak,arE,amD,aoB,ak,aJ,aOn,ak,aFb,akH,adR,ak,aJ,aKv,ak3,apl,ak,aJ,aCT,ak,arK,anE,afH,ak,aJ,avF,ajC,al5,ak,aJ,aJY,aqj,agg,ak,aJ,aLb,ani,alE]
def ev(l:List Obj):Bool->List Obj:=List.rec (motive:=λ_=>Bool->List Obj) (λ_=>[]) (λo _ f b=>cond b (o::f false) (f true)) l
def bt(n:Nat):List Obj->BT:=Nat.rec (motive:=λ_=>List Obj->BT) (λ_=> .nil) (λ_ f l=>List.casesOn l .nil λo l=> .node o (f (ev l true)) (f (ev l false))) n
def TF(P:Params):BT:=bt 16 (HL P)
def HF(P:Params):Heap:={{HL P},{}}
section
local macro_rules | `(#[]) => `([])
local macro_rules | `(#[$i:num,$o]) => `((nat_lit $i,$o)::[])
local macro_rules | `(#[$i:num,$o,$x,*]) => `((nat_lit $i,$o)::#[$x,*])
noncomputable def K(P:Params):Frag:=#[0,PySem.W.boot_o_0 P,1,PySem.W.boot_o_1 P,2,PySem.W.boot_o_2 P,3,o3 P,4,PySem.W.boot_o_4 P,5,PySem.W.boot_o_5 P,6,PySem.W.boot_o_6 P,7,PySem.W.boot_o_7 P,8,PySem.W.boot_o_8 P,9,PySem.W.boot_o_9 P,10,PySem.W.boot_o_10 P,11,ak,12,Ao,13,U6,14,R0,15,o15,22,ak,23,o23 P,24,o24,25,o25,28,jU,35,ak,36,o36 P,37,o37,40,jU,47,ak,48,o48 P,49,o49,52,jU,59,ak,60,o60 P,61,o61,64,jU,71,ak,72,o72 P,73,o73,76,jU,83,ak,84,o84 P,85,o85,88,jU,95,ak,96,o96 P,97,o97,100,jU,107,ak,108,ahm P,109,aiD,112,jU,119,ak,120,aoF P,121,apx,129,anO,130,aib,136,apC,137,aeX,143,aok,144,amL,150,aqD,151,agl,157,agt,158,aik,164,ajh,165,afW,171,anT,172,ap1,176,ahQ,177,alq,183,an4,184,ajq,190,amB,191,af0,197,anZ,198,akq,204,agf,205,ak8,211,afw,212,ajo,218,aiR,219,ai5,225,apt,226,ahj,232,afu,233,akI,239,ap9,240,aek,246,ano,247,aqQ,253,aof,254,adn,258,ai7,259,ajw,265,aiu,266,aeV,270,afk,271,aiB,275,akE,276,aiv,280,anf,281,aeM,287,ajV,288,amj,294,al4,295,apT,299,ahT,300,o300,306,agB,307,an0,313,agm,314,agI,318,ajc,319,agG,325,aiA,326,anv,330,akW,331,ajf,337,ag8,338,ahn,344,ali,345,ak2,351,anJ,352,ahB,356,aiW,357,akY,363,alF,364,ah4,370,adh,371,amd,377,o377,378,ajT,384,afp,385,alU,389,aeK,390,aqi,396,adt,397,afm,403,aon,404,ad6,408,aiS,409,aqx,413,ahi,414,ao3,420,ai3,421,aiy,427,afr,428,ajs,434,ad1,435,an9,439,adS,440,agb,444,o444,445,apF,449,ak4,450,akC,454,aes,455,anH,461,ag7,462,akZ,466,ae6,467,adY,473,agH,474,amX,478,agc,479,akL,483,ao5,484,aht,490,aea,491,ak9,497,aov,498,ap3,502,amv,503,afq,507,aeE,508,agD,512,aeZ,513,ahb,517,ahC,518,aqN,522,aio,523,alH,529,apL,530,afF,534,amS,535,ajt,541,ahv,542,ad2,548,aqs,549,aqa,555,o555,556,adi,562,ak7,563,apO,569,anN,570,alN,574,afI,575,adW,581,ahF,582,ahp,586,akn,587,akj,591,anu,592,afa,598,aqR,599,ake,603,anF,604,aer,610,aej,611,aoO,617,afs,618,alw,624,aif,625,agz,629,agJ,630,alh,636,ahH,637,apq,641,aoM,642,aeG,648,aje,649,ah5,655,aeY,656,apv,662,akS,663,aee,669,amf,670,ajI,674,al9,675,aj1,681,alS,682,anq,688,afE,689,aiz,693,akp,694,akz,698,ahI,699,aeA,705,afR,706,adG,712,aqF,713,ags,717,ao1,718,ai9,724,akB,725,alT,726,afy P,727,am1,728,afO,729,ahg,730,ap0,731,apf,732,alD,733,amM,734,agC,735,amg,736,apr,737,ahd,738,aop,739,ana,740,alY,741,aqK,742,aoo,743,afX,745,ao7,746,ala,747,apR,748,ap6,754,ad9,755,o755,761,aor,762,ac5,766,adL,767,ang,773,aiP,774,aoz,780,aix,781,amP,787,akO,788,ahG,794,aqy,795,ai0,801,af2,802,aqu,808,ad8,809,al8,815,adE,816,amF,822,aeL,823,aec,829,ajp,830,aen,836,aoN,837,ao8,841,agx,842,alP,848,anD,849,akd,855,anm,856,am0,860,ahy,861,ajS,867,aqJ,868,agQ,874,alQ,875,amC,881,alJ,882,an1,888,adf,889,ajd,895,aoX,896,amx,900,ajR,901,alA,905,anC,906,apM,912,anS,913,adA,919,aiZ,920,akN,921,agj P,922,aiJ P,934,ahS,935,agP,936,aqr,939,akr,940,apI,941,ai4,943,aja P,944,am3,945,ajb,946,apm,954,aky,955,ail,959,amA,960,apg,966,ae4,967,amc,971,aog,972,ajG,978,afV,979,ahW,983,ajE,984,aqq,990,ajZ,991,ac4,997,amD,998,aoB,1004,akH,1005,adR,1009,ak3,1010,apl,1016,anE,1017,afH,1021,ajC,1022,al5,1026,aqj,1027,agg,1031,ani,1032,alE]
end
noncomputable def as:List Nat:=[0,1,2,3,4,5,6,7,8,9,10,11,12,13,14,15,22,23,24,25,28,35,36,37,40,47,48,49,52,59,60,61,64,71,72,73,76,83,84,85,88,95,96,97,100,107,108,109,112,119,120,121,129,130,136,137,143,144,150,151,157,158,164,165,171,172,176,177,183,184,190,191,197,198,204,205,211,212,218,219,225,226,232,233,239,240,246,247,253,254,258,259,265,266,270,271,275,276,280,281,287,288,294,295,299,300,306,307,313,314,318,319,325,326,330,331,337,338,344,345,351,352,356,357,363,364,370,371,377,378,384,385,389,390,396,397,403,404,408,409,413,414,420,421,427,428,434,435,439,440,444,445,449,450,454,455,461,462,466,467,473,474,478,479,483,484,490,491,497,498,502,503,507,508,512,513,517,518,522,523,529,530,534,535,541,542,548,549,555,556,562,563,569,570,574,575,581,582,586,587,591,592,598,599,603,604,610,611,617,618,624,625,629,630,636,637,641,642,648,649,655,656,662,663,669,670,674,675,681,682,688,689,693,694,698,699,705,706,712,713,717,718,724,725,726,727,728,729,730,731,732,733,734,735,736,737,738,739,740,741,742,743,745,746,747,748,754,755,761,762,766,767,773,774,780,781,787,788,794,795,801,802,808,809,815,816,822,823,829,830,836,837,841,842,848,849,855,856,860,861,867,868,874,875,881,882,888,889,895,896,900,901,905,906,912,913,919,920,921,922,934,935,936,939,940,941,943,944,945,946,954,955,959,960,966,967,971,972,978,979,983,984,990,991,997,998,1004,1005,1009,1010,1016,1017,1021,1022,1026,1027,1031,1032]
def cut(n:Nat)(t:BT):Nat->Nat->BT:=BT.rec (motive:=λ_=>Nat->Nat->BT) (λ_ _=> .nil) (λv _ _ l r a b=>cond (Nat.blt b n) (.node v (l (Nat.mul 2 a) (Nat.add a b)) (r (Nat.mul 2 a) (Nat.add (Nat.mul 2 a) b))) .nil) t
def HA(P:Params):Heap:={{[PySem.W.boot_o_0 P,PySem.W.boot_o_1 P,PySem.W.boot_o_2 P,PySem.W.boot_o_3 P,PySem.W.boot_o_4 P,PySem.W.boot_o_5 P,PySem.W.boot_o_6 P,PySem.W.boot_o_7 P,PySem.W.boot_o_8 P,PySem.W.boot_o_9 P,PySem.W.boot_o_10 P,ak,ajH,U6,R0]},{}}
def SA(w:World)(os:OsState):Shared:={HA w.params,{([])},{},187,os}
def T1(P:Params):BT:=((cut 15 (TF P) 1 0).set 3 λ_=>PySem.W.boot_o_3 P).set 12 λ_=>ajH
def S1(w:World)(os:OsState):SharedT:={T1 w.params,15,{},{([])},{},187,os}
def T2(P:Params):BT:=(((cut 28 (TF P) 1 0).set 3 λ_=>asw P).set 12 λ_=>aEV).set 24 λ_=>aMr
def S2(w:World)(os:OsState):SharedT:={T2 w.params,28,{},{([])},{},207,os}
def T3(P:Params):BT:=(((cut 40 (TF P) 1 0).set 3 λ_=>aR7 P).set 12 λ_=>avh).set 24 λ_=>aRp
def S3(w:World)(os:OsState):SharedT:={T3 w.params,40,{},{([])},{},223,os}
def T4(P:Params):BT:=(((cut 52 (TF P) 1 0).set 3 λ_=>aBn P).set 12 λ_=>av0).set 24 λ_=>avU
def S4(w:World)(os:OsState):SharedT:={T4 w.params,52,{},{([])},{},239,os}
def T5(P:Params):BT:=(((cut 64 (TF P) 1 0).set 3 λ_=>aJB P).set 12 λ_=>arL).set 24 λ_=>aDx
def S5(w:World)(os:OsState):SharedT:={T5 w.params,64,{},{([])},{},255,os}
def T6(P:Params):BT:=(((cut 76 (TF P) 1 0).set 3 λ_=>aQA P).set 12 λ_=>aCy).set 24 λ_=>aO8
def S6(w:World)(os:OsState):SharedT:={T6 w.params,76,{},{([])},{},271,os}
def T7(P:Params):BT:=(((cut 88 (TF P) 1 0).set 3 λ_=>aHe P).set 12 λ_=>aQE).set 24 λ_=>arS
def S7(w:World)(os:OsState):SharedT:={T7 w.params,88,{},{([])},{},287,os}
def T8(P:Params):BT:=(((cut 100 (TF P) 1 0).set 3 λ_=>aMN P).set 12 λ_=>az8).set 24 λ_=>aze
def S8(w:World)(os:OsState):SharedT:={T8 w.params,100,{},{([])},{},303,os}
def T9(P:Params):BT:=(((cut 112 (TF P) 1 0).set 3 λ_=>aR2 P).set 12 λ_=>aHO).set 24 λ_=>axh
def S9(w:World)(os:OsState):SharedT:={T9 w.params,112,{},{([])},{},319,os}
def T10(P:Params):BT:=((cut 159 (TF P) 1 0).set 3 λ_=>aIL P).set 12 λ_=>aGa
def S10(w:World)(os:OsState):SharedT:={T10 w.params,159,{},{([])},{},377,os}
def T11(P:Params):BT:=((cut 234 (TF P) 1 0).set 3 λ_=>aAj P).set 12 λ_=>aEy
def S11(w:World)(os:OsState):SharedT:={T11 w.params,234,{},{([])},{},482,os}
def T12(P:Params):BT:=((cut 308 (TF P) 1 0).set 3 λ_=>axB P).set 12 λ_=>aP1
def S12(w:World)(os:OsState):SharedT:={T12 w.params,308,{},{([])},{},588,os}
def T13(P:Params):BT:=((cut 379 (TF P) 1 0).set 3 λ_=>aMm P).set 12 λ_=>axg
def S13(w:World)(os:OsState):SharedT:={T13 w.params,379,{},{([])},{},696,os}
def T14(P:Params):BT:=((cut 456 (TF P) 1 0).set 3 λ_=>aKA P).set 12 λ_=>aL9
def S14(w:World)(os:OsState):SharedT:={T14 w.params,456,{},{([])},{},793,os}
def T15(P:Params):BT:=((cut 531 (TF P) 1 0).set 3 λ_=>aui P).set 12 λ_=>aIs
def S15(w:World)(os:OsState):SharedT:={T15 w.params,531,{},{([])},{},902,os}
def T16(P:Params):BT:=((cut 605 (TF P) 1 0).set 3 λ_=>aAh P).set 12 λ_=>ayO
def S16(w:World)(os:OsState):SharedT:={T16 w.params,605,{},{([])},{},1008,os}
def T17(P:Params):BT:=((cut 676 (TF P) 1 0).set 3 λ_=>atg P).set 12 λ_=>aAX
def S17(w:World)(os:OsState):SharedT:={T17 w.params,676,{},{([])},{},1117,os}
def T18(P:Params):BT:=((cut 726 (TF P) 1 0).set 3 λ_=>aIj P).set 12 λ_=>aji
def S18(w:World)(os:OsState):SharedT:={T18 w.params,726,{},{([])},{},1182,os}
def T19(P:Params):BT:=((cut 749 (TF P) 1 0).set 3 λ_=>aEX P).set 12 λ_=>aji
def S19(w:World)(os:OsState):SharedT:={T19 w.params,749,{},{([])},{},1273,os}
def T20(P:Params):BT:=((cut 838 (TF P) 1 0).set 3 λ_=>awi P).set 12 λ_=>aQy
def S20(w:World)(os:OsState):SharedT:={T20 w.params,838,{},{([])},{},1370,os}
def T21(P:Params):BT:=((cut 921 (TF P) 1 0).set 3 λ_=>ayT P).set 12 λ_=>anw
def S21(w:World)(os:OsState):SharedT:={T21 w.params,921,{},{([])},{},1459,os}
def T22(P:Params):BT:=((cut 923 (TF P) 1 0).set 3 λ_=>aq4 P).set 12 λ_=>anw
def S22(w:World)(os:OsState):SharedT:={T22 w.params,923,{},{([])},{},1501,os}
def T23(P:Params):BT:=((cut 973 (TF P) 1 0).set 3 λ_=>aBA P).set 12 λ_=>aJ5
def S23(w:World)(os:OsState):SharedT:={T23 w.params,973,{},{([])},{},1565,os}
def T24(P:Params):BT:=cut 1033 (TF P) 1 0
def S24(w:World)(os:OsState):SharedT:={T24 w.params,1033,{},{([])},{},1642,os}
def SF(w:World)(os:OsState):Shared:={HF w.params,{([])},{},1642,os}
def ann:Option Value:=some (.ref 6)
def env:Env:={ scope:=pwL.main.scope,locals:=mainNs,globals:=mainNs,cells:=[],code:= .ref 13,frame:=some 14 }
def cE:Code:= .body (behindTheImports pwL) env
abbrev BB:List Frame:=[topFrame {0,0,0,(0)}]
def LO:List Str:=[dg,sG,qX,rQ,sU,uf,qY,rH,uo,Y9,Du,Fx,CW,B4,Fd,Dp,CY,VQ,TN,Iz,HJ,B6,Iu,IB,Cu,BX,rR,Fp,GZ,Bg,Ef,FT,E6,Ga,E5,Gp,z47,Gy,oW,IV,HS,Ec,Eu,Hz,CD,Eh,IW,Dv,Ja,CV,Dn,Zc,YV,C8,FY,E4,Hy,DC,HB,CG,EG,Cz,GK,C2,Ik,GF,rN,E9,Fb,Dr,Hi,GX,EV,DW,Fv,EY,Fz,GY,CT,Gh,Iw,Hf,Ck,Ii,z95,HC,Di,GR,Jc,Gk,Uv,Er,C6,EW,Cp,Fo,yM,Fw,FW,oK,VF,Fl,Ca,FP,Hj,pq,abw,ace,Ci,Cw,FZ,DQ,Im,Cv,Df,Ie,acN,PD,Yk,alW,Gx,Hv,Dz,E3,Io,IL,FJ,Dl,E1,GQ,CQ,Gj,Hw,DL,Il,C7,EB,CN,HW,GV,Ea,Ez,HN,Fj,Ib,EJ,aiY,aoy,tO,DY,Gr,Dy,Es,C5,CZ,Hl,CK,Fg,Gf,Jf,GB,Gn]
noncomputable def q:Program:={ pwL with main:={ pwL.main with body:=[topF 179] } }
theorem a0:@segRunT=PySem.W.Fast.tw10110043849684766642:=PySem.W.Fast.te10110043849684766642
theorem a1:@treeTable=PySem.W.Fast.tw14364793385576792824:=PySem.W.Fast.te14364793385576792824
theorem a2:@topGo=PySem.W.Fast.tw15667345088766844465:=PySem.W.Fast.te15667345088766844465
theorem a3:@topRun=PySem.W.Fast.tw14082659384304107361:=PySem.W.Fast.te14082659384304107361
theorem a4:@segRun=PySem.W.Fast.tw14374325043358763698:=PySem.W.Fast.te14374325043358763698
theorem a5:@denote=PySem.W.Fast.tw11892475500146522536:=PySem.W.Fast.te11892475500146522536
theorem a11:@importedModules=PySem.W.Fast.tw5923862056798008813:=PySem.W.Fast.te5923862056798008813
theorem a12:@openSeen=PySem.W.Fast.tw4187177175401517315:=PySem.W.Fast.te4187177175401517315
theorem a13:@Heap.nsMap=PySem.W.Fast.tw8920871248978507458:=PySem.W.Fast.te8920871248978507458
set_option maxHeartbeats 0
theorem pre(w:World)(os:OsState):topGo treeTable pwL w 11 ann 12 {boot_heap w.params,{([])},boot_drawn,boot_toks,os} (topStub pwL)=some (SA w os,{denote treeTable cE,cE,{0,0,0,(0)},BB}):=by
 rw[a1,a2,a5];kernel_rfl
theorem blk(w:World)(os:OsState):segRun treeTable pwL w 11 ann 1 1 (SA w os) (blockOf (behindTheImports pwL) env cE {0,0,0,(0)} BB)=some (.next,(S1 w os).abs,cE,{0,0,0,(0)}):=by
 rw[a1,a4];kernel_rfl
abbrev c1:List Stmt:=[topF 0,topF 1]
abbrev ha8(w:World)(o:OsState)(n:Nat)(s:World->OsState->SharedT)(c:List Stmt)(a:Pos)(t:World->OsState->SharedT)(b:Pos):Prop:=segRunT treeTable pwL w 11 ann 1 n (s w o) (piecesOf c env cE a BB)=some (.next,t w o,cE,b)
theorem p1(w:World)(os:OsState):ha8 w os 196 S1 c1 {0,0,0,(0)} S2 {2,0,3,(8)}:=by
 unfold ha8 c1;rw[a0,a1];kernel_rfl
abbrev c2:List Stmt:=[topF 2]
theorem p2(w:World)(os:OsState):ha8 w os 214 S2 c2 {2,0,3,(8)} S3 {4,0,5,(8)}:=by
 unfold ha8 c2;rw[a0,a1];kernel_rfl
abbrev c3:List Stmt:=[topF 3]
theorem p3(w:World)(os:OsState):ha8 w os 214 S3 c3 {4,0,5,(8)} S4 {6,0,7,(8)}:=by
 unfold ha8 c3;rw[a0,a1];kernel_rfl
abbrev c4:List Stmt:=[topF 4]
theorem p4(w:World)(os:OsState):ha8 w os 214 S4 c4 {6,0,7,(8)} S5 {8,0,9,(8)}:=by
 unfold ha8 c4;rw[a0,a1];kernel_rfl
abbrev c5:List Stmt:=[topF 5]
theorem p5(w:World)(os:OsState):ha8 w os 214 S5 c5 {8,0,9,(8)} S6 {10,0,11,(8)}:=by
 unfold ha8 c5;rw[a0,a1];kernel_rfl
abbrev c6:List Stmt:=[topF 6]
theorem p6(w:World)(os:OsState):ha8 w os 214 S6 c6 {10,0,11,(8)} S7 {12,0,13,(8)}:=by
 unfold ha8 c6;rw[a0,a1];kernel_rfl
abbrev c7:List Stmt:=[topF 7]
theorem p7(w:World)(os:OsState):ha8 w os 214 S7 c7 {12,0,13,(8)} S8 {14,0,15,(8)}:=by
 unfold ha8 c7;rw[a0,a1];kernel_rfl
abbrev c8:List Stmt:=[topF 8]
theorem p8(w:World)(os:OsState):ha8 w os 214 S8 c8 {14,0,15,(8)} S9 {16,0,17,(8)}:=by
 unfold ha8 c8;rw[a0,a1];kernel_rfl
abbrev c9:List Stmt:=[topF 9,topF 10,topF 11,topF 12,topF 13,topF 14,topF 15,topF 16]
theorem p9(w:World)(os:OsState):ha8 w os 380 S9 c9 {16,0,17,(8)} S10 {41,0,44,(22)}:=by
 unfold ha8 c9;rw[a0,a1];kernel_rfl
abbrev A8:List Stmt:=[topF 17,topF 18,topF 19,topF 20,topF 21,topF 22,topF 23,topF 24,topF 25,topF 26,topF 27,topF 28,topF 29,topF 30,topF 31]
theorem p10(w:World)(os:OsState):ha8 w os 374 S10 A8 {41,0,44,(22)} S11 {104,0,108,(31)}:=by
 unfold ha8 A8;rw[a0,a1];kernel_rfl
abbrev XC:List Stmt:=[topF 32,topF 33,topF 34,topF 35,topF 36,topF 37,topF 38,topF 39,topF 40,topF 41,topF 42,topF 43,topF 44,topF 45]
theorem p11(w:World)(os:OsState):ha8 w os 375 S11 XC {104,0,108,(31)} S12 {160,0,162,(57)}:=by
 unfold ha8 XC;rw[a0,a1];kernel_rfl
abbrev c12:List Stmt:=[topF 46,topF 47,topF 48,topF 49,topF 50,topF 51,topF 52,topF 53,topF 54,topF 55,topF 56,topF 57,topF 58,topF 59,topF 60,topF 61,topF 62]
theorem p12(w:World)(os:OsState):ha8 w os 387 S12 c12 {160,0,162,(57)} S13 {232,0,234,(71)}:=by
 unfold ha8 c12;rw[a0,a1];kernel_rfl
abbrev WX:List Stmt:=[topF 63,topF 64,topF 65,topF 66,topF 67,topF 68,topF 69,topF 70,topF 71,topF 72,topF 73,topF 74,topF 75]
theorem p13(w:World)(os:OsState):ha8 w os 370 S13 WX {232,0,234,(71)} S14 {284,0,291,(83)}:=by
 unfold ha8 WX;rw[a0,a1];kernel_rfl
abbrev W3:List Stmt:=[topF 76,topF 77,topF 78,topF 79,topF 80,topF 81,topF 82,topF 83,topF 84,topF 85,topF 86,topF 87,topF 88,topF 89,topF 90]
theorem p14(w:World)(os:OsState):ha8 w os 394 S14 W3 {284,0,291,(83)} S15 {383,0,383,(8)}:=by
 unfold ha8 W3;rw[a0,a1];kernel_rfl
abbrev Qi:List Stmt:=[topF 91,topF 92,topF 93,topF 94,topF 95,topF 96,topF 97,topF 98,topF 99,topF 100,topF 101,topF 102,topF 103,topF 104,topF 105,topF 106]
theorem p15(w:World)(os:OsState):ha8 w os 389 S15 Qi {383,0,383,(8)} S16 {451,0,455,(30)}:=by
 unfold ha8 Qi;rw[a0,a1];kernel_rfl
abbrev c16:List Stmt:=[topF 107,topF 108,topF 109,topF 110,topF 111,topF 112,topF 113,topF 114,topF 115,topF 116,topF 117,topF 118,topF 119,topF 120,topF 121,topF 122]
theorem p16(w:World)(os:OsState):ha8 w os 381 S16 c16 {451,0,455,(30)} S17 {540,0,540,(17)}:=by
 unfold ha8 c16;rw[a0,a1];kernel_rfl
abbrev U8:List Stmt:=[topF 123,topF 124,topF 125,topF 126,topF 127,topF 128,topF 129,topF 130,topF 131,topF 132,topF 133,topF 134]
theorem p17(w:World)(os:OsState):ha8 w os 264 S17 U8 {540,0,540,(17)} S18 {593,0,593,(10)}:=by
 unfold ha8 U8;rw[a0,a1];kernel_rfl
abbrev VD:List Stmt:=[topF 135]
theorem p18(w:World)(os:OsState):ha8 w os 426 S18 VD {593,0,593,(10)} S19 {594,0,594,(5)}:=by
 revert w;refine @afG "special-get-raises" _ ?_ ?_<;>(intro w;unfold ha8 VD;rw[a0,a1];kernel_rfl)
abbrev c19:List Stmt:=[topF 136,topF 137,topF 138,topF 139,topF 140,topF 141,topF 142,topF 143,topF 144,topF 145,topF 146,topF 147,topF 148]
theorem p19(w:World)(os:OsState):ha8 w os 382 S19 c19 {594,0,594,(5)} S20 {645,0,646,(43)}:=by
 unfold ha8 c19;rw[a0,a1];kernel_rfl
abbrev ZF:List Stmt:=[topF 149,topF 150,topF 151,topF 152,topF 153,topF 154,topF 155,topF 156,topF 157,topF 158,topF 159,topF 160,topF 161]
theorem p20(w:World)(os:OsState):ha8 w os 368 S20 ZF {645,0,646,(43)} S21 {683,0,688,(58)}:=by
 unfold ha8 ZF;rw[a0,a1];kernel_rfl
abbrev c21:List Stmt:=[topF 162,topF 163]
theorem p21(w:World)(os:OsState):ha8 w os 341 S21 c21 {683,0,688,(58)} S22 {690,0,690,(7)}:=by
 revert w;refine @afG "special-get-raises" _ ?_ ?_<;>(intro w;unfold ha8 c21;rw[a0,a1];kernel_rfl)
abbrev c22:List Stmt:=[topF 164,topF 165,topF 166,topF 167,topF 168,topF 169]
theorem p22(w:World)(os:OsState):ha8 w os 371 S22 c22 {690,0,690,(7)} S23 {731,0,738,(24)}:=by
 unfold ha8 c22;rw[a0,a1];kernel_rfl
abbrev Wn:List Stmt:=[topF 170,topF 171,topF 172,topF 173,topF 174,topF 175,topF 176,topF 177,topF 178,topF 179]
theorem p23(w:World)(os:OsState):ha8 w os 288 S23 Wn {731,0,738,(24)} S24 {820,0,841,(117)}:=by
 unfold ha8 Wn;rw[a0,a1];kernel_rfl
theorem fin(w:World)(os:OsState):topRun treeTable pwL w 11 ann 2 (S24 w os).abs {doneF .next,cE,{820,0,841,(117)},BB}=some (SF w os):=by
 rw[a1,a3];kernel_rfl
theorem body:behindTheImports pwL=c1++(c2++(c3++(c4++(c5++(c6++(c7++(c8++(c9++(A8++(XC++(c12++(WX++(W3++(Qi++(c16++(U8++(VD++(c19++(ZF++(c21++(c22++(Wn++([]))))))))))))))))))))))):=by
 kernel_rfl
theorem run(w:World)(os:OsState):topRun treeTable pwL w 11 ann (12+(1+(196+(214+(214+(214+(214+(214+(214+(214+(380+(374+(375+(387+(370+(394+(389+(381+(264+(426+(382+(368+(341+(371+(288+(2)))))))))))))))))))))))))) {boot_heap w.params,{([])},boot_drawn,boot_toks,os} (topStub pwL)=some (SF w os):=
 go_top (pre w os) (piece_block (blk w os) (by rw[body];exact piece_app (segRun_of (p1 w os)) (piece_app (segRun_of (p2 w os)) (piece_app (segRun_of (p3 w os)) (piece_app (segRun_of (p4 w os)) (piece_app (segRun_of (p5 w os)) (piece_app (segRun_of (p6 w os)) (piece_app (segRun_of (p7 w os)) (piece_app (segRun_of (p8 w os)) (piece_app (segRun_of (p9 w os)) (piece_app (segRun_of (p10 w os)) (piece_app (segRun_of (p11 w os)) (piece_app (segRun_of (p12 w os)) (piece_app (segRun_of (p13 w os)) (piece_app (segRun_of (p14 w os)) (piece_app (segRun_of (p15 w os)) (piece_app (segRun_of (p16 w os)) (piece_app (segRun_of (p17 w os)) (piece_app (segRun_of (p18 w os)) (piece_app (segRun_of (p19 w os)) (piece_app (segRun_of (p20 w os)) (piece_app (segRun_of (p21 w os)) (piece_app (segRun_of (p22 w os)) (piece_app (segRun_of (p23 w os)) (piece_nil (fin w os))))))))))))))))))))))))))
theorem size(w:World):((boot_heap w.params).isNs mainGlobals&&(Array.mk ([]:List GenState)).size==0,(boot_heap w.params).objs.size,(boot_heap w.params).nsMap mainGlobals "__annotations__")=(true,11,ann):=by
 rw[a13];kernel_rfl
abbrev Xt(s:Shared):Bool:=xlAt q [] s&&recOk [] s
theorem lk1(w:World)(os:OsState):(staticsOk (importedModules pwL.main.body) (boot_heap w.params) (HF w.params)&&namesBound pwL (HF w.params)&&gensDone (SF w os)&&laidKept (boot_heap w.params) (HF w.params))=true:=by
 rw[a11];kernel_rfl
theorem lk2(w:World)(os:OsState):openSeen q LO (importedModules pwL.main.body) Xt true (SF w os)=openGood q LO:=by
 rw[a11,a12];kernel_rfl
theorem lk3(w:World)(os:OsState):alp as (SF w os)=adZ K 1033 1642 w:=by
 kernel_rfl
theorem imports:opening pwL=plainProg pwL.main.scope.names:=by kernel_rfl
theorem left:LeftO pwL q LO Xt (alp as) (adZ K 1033 1642) 14448:=
 LeftO.of_pieces (boot_open imports (by rfl) (λs=>by kernel_rfl)) size run (by rfl) λw=>funext λos=>looks_pair (lk1 w os) (looks_pair (lk2 w os) (lk3 w os))
end
end H
end K54
namespace L2
open PySem PySem.Spec PyProof.Rows
section
variable {H:Hp}{a b:Addr}{o u:HO}
abbrev Key:=Sum Int Str
def qO:Key->Value->Bool
 |.inl k,v=>Value.isInt k v
 |.inr x,v=>Value.isStrOf x v
def aPK(w:World):Key->Int
 |.inl k=>hashInt k
 |.inr x=>hashStr w x
def ug:∀{k:Key} {v:Value},qO k v=true->(∃i t,k=wg i/\v=Value.int i t)∨(∃x t,k=oN x/\v=Value.str x t)
 |.inl i,v,h=>by
  obtain⟨t,e⟩:=Value.isInt_shape (k:=i) (v:=v) h;exact .inl {i,t,rfl,(e)}
 |.inr x,v,h=>by
  obtain⟨t,e⟩:=Value.isStrOf_shape (x:=x) (v:=v) h;exact .inr {x,t,rfl,(e)}
def aR4(i:Int)(t:Tok):qO (.inl i) (.int i t)=true:=by simp[qO,Value.isInt]
def amz(x:Str)(t:Tok):qO (.inr x) (.str x t)=true:=by simp[qO,Value.isStrOf]
def axi(a b:Int):decide ((wg a:Key)=wg b)=(a==b):=by
 by_cases e:a=b
 .subst e;simp
 .have h:¬(wg a:Key)=wg b:=λq=>e (Sum.inl.inj q);rw[decide_eq_false h];exact(beq_eq_false_iff_ne.mpr e).symm
def aOu(a b:Str):decide ((oN a:Key)=oN b)=decide (a=b):=by
 by_cases e:a=b
 .subst e;simp
 .have h:¬(oN a:Key)=oN b:=λq=>e (Nq q);rw[decide_eq_false h,decide_eq_false e]
def axU(a:Int)(b:Str):decide ((wg a:Key)=oN b)=false:=decide_eq_false (λq=>nomatch q)
def avl(a:Str)(b:Int):decide ((oN a:Key)=wg b)=false:=decide_eq_false (λq=>nomatch q)
def gZ(prog:Program)(w:World):PySem.KeyKind prog w Key where
 is:=qO
 hash:=aPK w
 inj:=λv a b ha hb=>by
  rcases ug ha with⟨i,t,rfl,rfl⟩|⟨x,t,rfl,rfl⟩
  .rcases ug hb with⟨j,u,rfl,e⟩|⟨y,u,rfl,e⟩
   .injection e with e1 _;rw[e1]
   .exact nomatch e
  .rcases ug hb with⟨j,u,rfl,e⟩|⟨y,u,rfl,e⟩
   .exact nomatch e
   .injection e with e1 _;rw[e1]
 byValue:=λk v h=>by
  rcases ug h with⟨i,t,rfl,rfl⟩|⟨x,t,rfl,rfl⟩<;>rfl
 pyHash:=λhv h=>by
  rcases ug hv with⟨i,t,rfl,rfl⟩|⟨x,t,rfl,rfl⟩
  .exact wpAny_pyHash_int h
  .exact wpAny_pyHash_str h
 eqBool:=λhu hv h=>by
  rcases ug hu with⟨i,t,rfl,rfl⟩|⟨x,t,rfl,rfl⟩
  .rcases ug hv with⟨j,u,rfl,rfl⟩|⟨y,u,rfl,rfl⟩
   .rw[axi]at h;exact wpAny_eqBool_int h
   .rw[axU]at h;exact SeqAt.EqAt.int_str i t y u _ _ _ _ h
  .rcases ug hv with⟨j,u,rfl,rfl⟩|⟨y,u,rfl,rfl⟩
   .rw[avl]at h;exact SeqAt.EqAt.str_int x t j u _ _ _ _ h
   .rw[aOu]at h;exact wpAny_eqBool_str h
 «strs»:=λk x t v h=>by
  rcases ug h with⟨i,u,rfl,e⟩|⟨y,u,rfl,e⟩
  .exact nomatch e
  .injection e with e1 _;subst e1;cases v<;>rfl
def axe(prog:Program)(w:World)(i:Int)(t:Tok):(gZ prog w).is (.inl i) (.int i t)=true:=aR4 i t
def Ep(prog:Program)(w:World)(x:Str)(t:Tok):(gZ prog w).is (.inr x) (.str x t)=true:=amz x t
inductive V where
 |non|bl (b:Bool)|int (i:Int)|str (x:Str)|j9 (b:Array UInt8)|flt (b:UInt64)|ref (a:Addr)|ty (n:String)
 deriving DecidableEq
def RelV:V->Value->Prop
 |.non,u=>u=Value.none
 |.bl b,u=>u=Value.bool b
 |.int i,u=>∃t,u=Value.int i t
 |.str x,u=>∃t,u=Value.str x t
 |.j9 b,u=>∃t,u=Value.bytes b t
 |.flt b,u=>∃t,u=Value.float b t
 |.ref a,u=>u=Value.ref a
 |.ty n,u=>u=Value.type n
abbrev Vals:List V->List Value->Prop:=Paired RelV
theorem Vals.length{xs:List V}{us:List Value}(r:Vals xs us):xs.length=us.length:=Paired.length r
theorem Vals.get:∀{xs:List V} {us:List Value} {i:Nat} {x:V},Vals xs us->xs[i]?=some x->∃u,us[i]?=some u/\RelV x u
 |_,_,_,_,.nil,e=>by simp at e
 |_,_,0,_,.cons r _,e=>by simp at e;subst e;exact{(),r}
 |_,_,i+1,x,.cons _ t,e=>by
  obtain⟨u,h1,h2⟩:=Vals.get (i:=i) (x:=x) t (by simpa using e);exact{u,by simpa using h1,h2}
theorem Vals.set{x:V}{u:Value}(r:RelV x u):∀{xs:List V} {us:List Value} (i:Nat),Vals xs us->Vals (xs.set i x) (us.set i u)
 |_,_,_,.nil=> .nil
 |_,_,0,.cons _ t=> .cons r t
 |_,_,i+1,.cons q t=> .cons q (Vals.set r i t)
theorem Vals.append:∀{xs ys:List V} {us ws:List Value},Vals xs us->Vals ys ws->Vals (xs++ys) (us++ws)
 |_,_,_,_,.nil,s=>s
 |_,_,_,_,.cons r t,s=> .cons r (Vals.append t s)
theorem Vals.take:∀{xs:List V} {us:List Value} (n:Nat),Vals xs us->Vals (xs.take n) (us.take n)
 |_,_,0,_=> .nil
 |_,_,_+1,.nil=> .nil
 |_,_,n+1,.cons r t=> .cons r (Vals.take n t)
theorem Vals.drop:∀{xs:List V} {us:List Value} (n:Nat),Vals xs us->Vals (xs.drop n) (us.drop n)
 |_,_,0,r=>r
 |_,_,_+1,.nil=> .nil
 |_,_,n+1,.cons _ t=>Vals.drop n t
def iQ:Option V->Option Value->Prop
 |some v,some u=>RelV v u
 |none,none=>True
 |_,_=>False
def KV{κ:Type}:List (κ×V)->List (κ×Value)->Prop:=Paired λ(p:κ×V) (q:κ×Value)=>p.1=q.1/\RelV p.2 q.2
def kV:Key->V
 |.inl i=> .int i
 |.inr x=> .str x
inductive HO where
 /-- z list -/
 |lst (xs:List V)
 /-- z tuple (never changes) -/
 |tup (xs:List V)
 /-- z dict whose keys are ints and texts;one whose keys are tuples of ints and texts (the empty one is both) -/
 |dK (kvs:List (Key×V))|dT (kvs:List (List Key×V))
 /-- z set of ints: its members,its size -/
 |set (S:Int->Bool) (n:Nat)
 /-- an instance of the class at C,its dict at dx,its attributes -/
 |ins (C dx:Addr) (fs:List (Str×V))
 /-- the dict of the instance at x -/
 |own (x:Addr)
 /-- the dict of an exception -/
 |xd (fs:List (Str×V))
 /-- z bound method,f of x -/
 |met (f x:Addr)
 /-- z range object lo,lo+1,.. below hi -/
 |rng (lo hi:Int)
 /-- z thing that is known to the object (the script;z dict while z loop walks it): read,never written while it is so -/
 |fO (o:Obj) (u:HO)
 /-- z code object's table -/
 |nK (ps:Array Value)
 /-- any other thing,by what is true of its one object (z def of aS3 own: aSK z S n:=HO.ext λh=> ..) -/
 |ext (φ:Heap->Prop)
abbrev Hp:=Addr->Option HO
def upd(H:Hp)(a:Addr)(o:HO):Hp:=λb=>if b=a then some o else H b
def ao:upd H a o a=some o:=by unfold upd;rw[if_pos rfl]
def bY(h:b≠a):upd H a o b=H b:=by unfold upd;rw[if_neg h]
def aJA:upd (upd H a o) a u=upd H a u:=by
 funext b;unfold upd;split<;>rfl
def aiE(h:H a=some o)(h':H b=some u)(d:o≠u):a≠b:=by
 intro e;subst e;rw[h]at h';exact d (jT h')
def fU(h:H a=some o)(h':H b=none):a≠b:=by
 intro e;subst e;rw[h]at h';cases h'
end
section
variable (P:Program) (w:World)
def eO(H:Hp)(h:Heap)(a:Addr):HO->Prop
 |.lst xs=>xs.length<=sizeLine/\∃(its:List Value) (n:Nat),Vals xs its/\h.get? a=some { cls:= .type "list",data:= .seq its.toArray n }
 |.tup xs=>xs.length<=sizeLine/\∃its:List Value,Vals xs its/\IsTup h a its.toArray
 |.dK kvs=>kvs.length<=sizeLine/\(a==sysModules)=false/\∃vs,KV kvs vs/\h.DictOf (gZ P w) a vs
 |.dT kvs=>kvs.length<=sizeLine/\(a==sysModules)=false/\∃xs:List (List Key×Addr×Value),
   Paired (λ(p:List Key×V) (q:List Key×Addr×Value)=>p.1=q.1/\H q.2.1=some (.tup (p.1.map kV))/\RelV p.2 q.2.2) kvs xs/\
   ∃o es ep,h.get? a=some o/\o.ExactDict/\o.data = .dict es ep/\es.toList=xs.map (entryOfKey (tupleKind (gZ P w)))/\(xs.map (·.1)).Nodup
 |.set S n=>h.SetOf (intKind P w) a S n
 |.ins C dx fs=>H dx=some (.own a)/\fs.length<=1000/\dx≠a/\h.get? a=some (uY C dx)/\
   ∃mA,h.Ns1 dx mA/\(∀f,iQ (fs.lookup f) (mA f))/\aaT mA (fs.map (·.1))
 |.own _=>∃o,h.get? a=some o
 |.xd fs=>∃mA,h.Ns1 a mA/\∀f,iQ (fs.lookup f) (mA f)
 |.rng lo hi=>∃t u v,h.get? a=some { cls:= .type "range",data:= .fields #[.int lo t,.int hi u,.int 1 v] }
 |.fO o u=>h.get? a=some o/\eO H h a u
 |.nK ps=>h.get? a=some { cls:= .none,data:= .fields ps }
 |.met f x=>h.get? a=some (Zm (.ref f) (.ref x))
 |.ext φ=>φ h/\(∃o,h.get? a=some o)/\∀h1 h2:Heap,φ h1->(∀o,h1.get? a=some o->h2.get? a=some o)->φ h2
def eY(H:Hp)(h:Heap):Prop:=∀a o,H a=some o->eO P w H h a o
end
section
variable {P:Program} {w:World} {H H':Hp} {h h':Heap} {a:Addr} {o:HO}
theorem eO.lt(x:eO P w H h a o):a<h.objs.size:=by
 cases o with
 |lst xs=>intros _ _ _ _ e x;exact cP e
 |tup xs=>intros _ _ _ p x;exact p.lt
 |dK kvs=>intros _ _ _ _ o _ _ e _ x;exact cP e
 |dT kvs=>intros _ _ _ _ o _ _ e _ x;exact cP e
 |set S n=>intros o _ _ _ e _ x;exact cP e
 |ins C dx fs=>intros _ _ _ e _ x;exact cP e
 |own y=>intros _ e x;exact cP e
 |xd fs=>obtain⟨_,⟨_,_,_,e,_⟩,_⟩:=x;exact cP e
 |rng lo hi=>intros _ _ _ e x;exact cP e
 |fO ob u=>intros e _ x;exact cP e
 |nK ps=>exact cP (show h.get? a=some _ from x)
 |met f y=>exact cP (show h.get? a=some _ from x)
 |ext φ=>obtain⟨_,⟨_,e⟩,_⟩:=x;exact cP e
theorem Paired.FN{α β:Type}{F G:α->β->Prop}:∀{l₁:List α} {l₂:List β},Paired F l₁ l₂->(∀a b,F a b->G a b)->Paired G l₁ l₂
 |_,_,.nil,_=> .nil
 |_,_,.cons r t,f=> .cons (f _ _ r) (Paired.FN t f)
def eO.stay(x:eO P w H h a o)(k:∀b u,(b=a∨H b=some (.own a))->h.get? b=some u->h'.get? b=some u)
  (ho:∀b,H b=some (.own a)->H' b=some (.own a)) (ht:∀b xs,H b=some (.tup xs)->H' b=some (.tup xs)):eO P w H' h' a o:=by
 induction o with
 |lst xs=>intros z its n r e x;exact{z,its,n,r,k _ _ (.inl rfl) e}
 |tup xs=>intros z its r ob e c x;exact{z,its,r,ob,k _ _ (.inl rfl) e,c}
 |dK kvs=>intros z y vs r ob es ep e c x;exact{z,y,vs,r,ob,es,ep,k _ _ (.inl rfl) e,c}
 |dT kvs=>
  intros z y xs r ob es ep e c x;exact{z,y,xs,Paired.FN r λp q z=>{z.1,ht _ _ z.2.1,z.2.2},ob,es,ep,k _ _ (.inl rfl) e,c}
 |set S n=>intros ob es ep t e c x;exact{ob,es,ep,t,k _ _ (.inl rfl) e,c}
 |ins C dx fs=>
  obtain⟨d,z,ne,e,mA,⟨od,es,ep,e2,c⟩,r⟩:=x;exact{ho _ d,z,ne,k _ _ (.inl rfl) e,mA,{od,es,ep,k _ _ (.inr d) e2,c},r}
 |own y=>intros ob e x;exact{ob,k _ _ (.inl rfl) e}
 |xd fs=>obtain⟨mA,⟨od,es,ep,e,c⟩,r⟩:=x;exact{mA,{od,es,ep,k _ _ (.inl rfl) e,c},r}
 |rng lo hi=>intros t u v e x;exact{t,u,v,k _ _ (.inl rfl) e}
 |fO ob u ih=>intros e q x;exact{k _ _ (.inl rfl) e,ih q}
 |nK ps=>
  have e:h.get? a=some { cls:= .none,data:= .fields ps }:=x;show h'.get? a=some { cls:= .none,data:= .fields ps };exact k a _ (.inl rfl) e
 |met f y=>
  have e:h.get? a=some (Zm (.ref f) (.ref y)):=x;show h'.get? a=some (Zm (.ref f) (.ref y));exact k a _ (.inl rfl) e
 |ext φ=>obtain⟨p,⟨o,e⟩,st⟩:=x;exact{st _ _ p λo q=>k _ _ (.inl rfl) q,{o,k _ _ (.inl rfl) e},st}
theorem eY.lt(x:eY P w H h)(e:H a=some o):a<h.objs.size:=(x a o e).lt
def eY.fresh(x:eY P w H h)(e:h.objs.size<=a):H a=none:=by
 cases q:H a with
 |none=>rfl
 |some u=>exact absurd (ig (x.lt q) e) (j4 _)
def eY.kept(x:eY P w H h)(k:∀b u,h.get? b=some u->h'.get? b=some u):eY P w H h':=λa o e=>
 (x a o e).stay (λb u _ q=>k b u q) (λ_ q=>q) λ_ _ q=>q
def eY.laid(x:eY P w H h)(k:∀b u,h.get? b=some u->h'.get? b=some u)(hp:h.objs.size<=a)(new:eO P w (upd H a o) h' a o):eY P w (upd H a o) h':=λb u e=>by
 have hn:=x.fresh hp;by_cases hb:b=a
 .subst hb;rw[ao]at e;cases e;exact new
 .rw[bY hb]at e;exact(x b u e).stay (λc v _ q=>k c v q) (λc q=>by rw[bY (fU q hn)];exact q) λc xs q=>by rw[bY (fU q hn)];exact q
end
def Rd(H:Hp)(a:Addr)(u:HO):Prop:=H a=some u∨∃o,H a=some (.fO o u)
def Rd.ok{P:Program}{w:World}{H:Hp}{h:Heap}{a:Addr}{u:HO}(r:Rd H a u)(x:eY P w H h):eO P w H h a u:=by
 rcases r with r|⟨o,r⟩
 .exact x a u r
 .obtain⟨_,q⟩:=x a _ r;exact q
def Eo:Option HO->Prop
 |some (.lst _)=>True
 |some (.dK _)=>True
 |some (.dT _)=>True
 |some (.set _ _)=>True
 |some (.ins _ _ _)=>True
 |some (.ext _)=>True
 |_=>False
section
variable {P:Program} {w:World} {H:Hp} {h h':Heap} {x e:Addr} {o':HO}
def eY.write(ok:eY P w H h)(mu:Eo (H x))(he:e=x∨H e=some (.own x))(k:∀b u,b≠e->h.get? b=some u->h'.get? b=some u)(heo:∃u,h'.get? e=some u)
  (new:eO P w (upd H x o') h' x o'):eY P w (upd H x o') h':=λb u q=>by
 have ant:∀c y,H c=some (.own y)->c≠x:=λc y r z=>by subst z;rw[r]at mu;exact mu
 have ay6:∀c xs,H c=some (.tup xs)->c≠x:=λc xs r z=>by subst z;rw[r]at mu;exact mu
 by_cases hb:b=x
 .subst hb;rw[ao]at q;cases q;exact new
 .rw[bY hb]at q;by_cases hbe:b=e
  .have q':H b=some (.own x):=by
    rcases he with z|z
    .exact absurd (hbe.trans z) hb
    .rw[hbe];exact z
   rw[q]at q';cases q';intros v hv heo;exact{v,by rw[hbe];exact hv}
  .refine(ok b u q).stay (λc v hc r=>k c v ?_ r) (λc r=>by rw[bY (ant c b r)];exact r) λc xs r=>by rw[bY (ay6 c xs r)];exact r
   rcases hc with rfl|hc
   .exact hbe
   .rintro rfl;rcases he with z|z
    .exact ant c b hc z
    .rw[hc]at z;cases z;exact hb rfl
end
structure Un(fs ex:List Addr)(H H':Hp)(h h':Heap):Prop where
 keep:∀b o,h.get? b=some o->H b=none->b∉fs->b∉ex->h'.get? b=some o
 slot:∀b o,h.get? b=some o->H b=none->b∈fs->b∉ex->∃sl,h'.get? b=some { o with slots:=sl }
 free:∀b o,h.get? b=some o->H b=none->b∉ex->H' b=none
 there:∀b o,h.get? b=some o->b∉ex->∃o',h'.get? b=some o'
 tups:∀b xs,H b=some (.tup xs)->H' b=some (.tup xs)
 iC:∀b o u,H b=some (.fO o u)->H' b=some (.fO o u)
 jf:∀b ps,H b=some (.nK ps)->∃more,H' b=some (.nK (ps++more))
section
variable {fs fs' ex ex':List Addr} {H H1 H2:Hp} {h h1 h2 h':Heap} {a x e:Addr} {o:HO}
def Un.any(u:Un fs ex H H1 h h1){b:Addr}{ob:Obj}(q:h.get? b=some ob)(n:H b=none)(hx:b∉ex):∃sl,h1.get? b=some { ob with slots:=sl }:=by
 by_cases hb:b∈fs
 .exact u.slot b ob q n hb hx
 .exact{ob.slots,u.keep b ob q n hb hx}
def Un.kept(k:∀b u,h.get? b=some u->h'.get? b=some u):Un fs ex H H h h':=
 {λb ob q _ _ _=>k b ob q,λb ob q _ _ _=>{ob.slots,k b ob q},λ_ _ _ n _=>n,λb ob q _=>{ob,k b ob q},λ_ _ q=>q,λ_ _ _ q=>q,λ_ ps q=>{#[],by rw[q];simp}}
def Un.refl:Un fs ex H H h h:=Un.kept λ_ _ q=>q
def Un.laid(k:∀b u,h.get? b=some u->h'.get? b=some u)(hp:h.objs.size<=a)(hn:H a=none):Un fs ex H (upd H a o) h h' where
 keep:=λb u q _ _ _=>k b u q
 slot:=λb u q _ _ _=>{u.slots,k b u q}
 free:=λb u q n _=>by rw[bY (gw (ig (cP q) hp))];exact n
 there:=λb u q _=>{u,k b u q}
 tups:=λb xs q=>by rw[bY (fU q hn)];exact q
 iC:=λb u xs q=>by rw[bY (fU q hn)];exact q
 jf:=λb ps q=>{#[],by rw[bY (fU q hn),q];simp}
def Un.write(mu:Eo (H x))(he:e=x∨H e=some (.own x))(k:∀b u,b≠e->h.get? b=some u->h'.get? b=some u)(heo:∃u,h'.get? e=some u):Un fs ex H (upd H x o) h h':=by
 have hx:∀b,H b=none->b≠x:=λb n z=>by subst z;rw[n]at mu;exact mu
 have hb:∀b,H b=none->b≠e:=λb n z=>by
  subst z;rcases he with r|r
  .exact hx b n r
  .rw[n]at r;cases r
 have hm:∀b u,H b=some u->¬Eo (some u)->b≠x:=λb u q nm z=>by subst z;rw[q]at mu;exact nm mu
 refine{λb u q n _ _=>k b u (hb b n) q,λb u q n _ _=>{u.slots,k b u (hb b n) q},λb u q n _=>by rw[bY (hx b n)];exact n,λb u q _=>?_,
  λb xs q=>by rw[bY (hm b _ q λz=>z)];exact q,λb u xs q=>by rw[bY (hm b _ q λz=>z)];exact q,λb ps q=>{#[],by rw[bY (hm b _ q λz=>z),q];simp}}
 by_cases hbe:b=e
 .subst hbe;exact heo
 .exact{u,k b u hbe q}
end
def J1(h:Heap)(H:Hp):List Addr:=(fK h.objs.size).filter λa=>(H a).isSome
def sH(h:Heap)(H:Hp):Heap:=nZ h (J1 h H)
def avj(h:Heap)(H:Hp):(sH h H).objs.size=h.objs.size:=W.hideAll_size _ _
def aDb{h:Heap}{H:Hp}{b:Addr}{o:Obj}(e:h.get? b=some o)(n:H b=none):(sH h H).get? b=some o:=
 Uz _ e λhm=>by
  have q:(H b).isSome=true:=(V8.mp hm).2;rw[n]at q;simp at q
def azq{h:Heap}{H:Hp}{b:Addr}{o:Obj}(e:(sH h H).get? b=some o):h.get? b=some o/\H b=none:=by
 have e':h.get? b=some o:=Qy (J1 h H) e;exists e';cases q:H b with
 |none=>rfl
 |some x=>
  have hm:b∈J1 h H:=V8.mpr {jj.mpr (cP e'),by simp[q]};have z:(sH h H).get? b=none:=W.hideAll_none (J1 h H) hm;rw[z]at e;cases e
structure Mod(K:aD)(mg:Str->Option Value)(base:Heap):Prop where
 tZ:K.In base
 glob:base.Ns mainGlobals mg
 blt:∃mb,base.Ns builtinsNs mb/\∀x:Str,x≠ "__name__" -> mb x=bootBuiltins x
 nolimit:base.NoLimit
 digits:base.NoDigits
 seer:base.NoSeer
structure Cx where
 prog:Program
 w:World
 K:aD
 mg:Str->Option Value
 base:Heap
 A:Around
 N:List Str
 s₀:Shared
 H₀:Hp
 env:Env
 outer:List Env
 stack:List Env
 ex:List Addr
 fn:Str->Bool
 calm:Bool
 pn:List (Addr×Obj)
 xe:Value->Shared->Prop
def frs(l:List Env):List Addr:=l.filterMap (·.frame)
abbrev Cx.fs(X:Cx):List Addr:=frs X.outer
def Jq(sc:Scope)(x:Str):Prop:=sc.names.lookup x=some .local∨sc.names.lookup x=some .cell∨sc.names.lookup x=some .free
def Loc(sc:Scope)(x:Str):Prop:=sc.names.lookup x=some .local∨sc.names.lookup x=some .cell
def Look(env:Env)(h:Heap)(m:Str->Option Value)(x:Str)(u:Value):Prop:=
 (env.kindOf x=some .local/\m x=some u)∨((env.kindOf x=some .cell∨env.kindOf x=some .free)/\∃c,env.cells.lookup x=some c/\h.IsCell c (some u))
structure Cx.Ok(X:Cx):Prop where
 mod:Mod X.K X.mg X.base
 kind:X.env.scope.kind = .function
 glob:X.env.globals=mainGlobals
 blt:X.env.builtins=builtinsNs
 above:X.s₀.heap.objs.size<=X.env.locals
 inj:∀x y c,X.env.cells.lookup x=some c->X.env.cells.lookup y=some c->x=y
 has:∀x,(X.env.kindOf x=some .cell∨X.env.kindOf x=some .free)->∃c,X.env.cells.lookup x=some c
 cab:∀x c,X.fn x=true->X.env.cells.lookup x=some c->X.s₀.heap.objs.size<=c
 hd:X.calm=true->X.A.handled=none
 frames:X.A.frames=some X.stack
 stk:X.stack=X.outer∨(X.stack=X.env::X.outer/\X.env.frame=some X.env.locals)
 PY:∀b∈X.ex,b≠X.env.locals/\∀x c,X.env.cells.lookup x=some c->c≠b
 bs:∀b o,X.base.get? b=some o->X.s₀.heap.get? b=some o/\X.H₀ b=none
 qH:X.base.objs.size<=X.s₀.heap.objs.size
 zF:∀b o,X.base.get? b=some o->b∉X.ex
 zO:∀b∈X.ex,b∉X.fs
 mH:X.s₀.heap.FunFrames X.base X.outer
 uT:∀b∈X.fs,X.H₀ b=none
 tree:X.prog.given.tree=none
 top:∃e l,X.stack=e::l/\e.scope.isGenerator=false/\e.scope.isCoroutine=false/\e.builtins=builtinsNs/\e.globals=mainGlobals
structure Inv(X:Cx)(pins:List (Addr×Obj))(σ:List (Option V))(H:Hp)(s:Shared):Prop where
 ok:X.Ok
 os:s.os=X.s₀.os
 bare:AllBare s.gens
 base:Un X.fs X.ex X.H₀ H X.s₀.heap s.heap
 loc:∃m,s.heap.Ns X.env.locals m/\∀(i:Nat) (x:Str) (v:V),X.N[i]?=some x->σ[i]?=some (some v)->Jq X.env.scope x->∃u,RelV v u/\Look X.env s.heap m x u
 cell:∀x c,X.env.cells.lookup x=some c->∃v,s.heap.IsCell c v
 free:H X.env.locals=none
 lY:∀x c,X.env.cells.lookup x=some c->H c=none
 pin:∀p∈X.pn++pins,s.heap.get? p.1=some p.2/\H p.1=none/\p.1≠X.env.locals/\p.1∉X.fs/\∀v,p.2.data≠ .cell v
 hok:eY X.prog X.w H s.heap
 len:σ.length=X.N.length
section
variable {X:Cx} {pins:List (Addr×Obj)} {σ:List (Option V)} {H H':Hp} {s:Shared} {h':Heap}
section
variable {g':Array GenState}{t' i:Nat}{d':Drawn}{ch:List Addr}{M:Model}{A:Around}{E:Value->Shared->Prop}{x:Str}{v:V}{u:Value}{Q:Unit->Shared->Prop}
def Cx.Ok.aNA(ok:X.Ok){b:Addr}{o:Obj}(e:X.base.get? b=some o):b∉X.fs:=λhb=>by
 have:=(ok.mH.mem hb).1;rw[e]at this;cases this
theorem Inv.bs(I:Inv X pins σ H s):∀b o,X.base.get? b=some o->s.heap.get? b=some o/\H b=none:=λb o e=>
 {I.base.keep b o (I.ok.bs b o e).1 (I.ok.bs b o e).2 (I.ok.aNA e) (I.ok.zF b o e),I.base.free b o (I.ok.bs b o e).1 (I.ok.bs b o e).2 (I.ok.zF b o e)}
def Inv.bk(I:Inv X pins σ H s):∀b o,X.base.get? b=some o->s.heap.get? b=some o:=λb o e=>(I.bs b o e).1
theorem Inv.mod(I:Inv X pins σ H s):Mod X.K X.mg X.base:=I.ok.mod
def Inv.dj(I:Inv X pins σ H s):X.K.In s.heap:=I.ok.mod.tZ.keeps I.bk
theorem Inv.lt(I:Inv X pins σ H s):X.env.locals<s.heap.objs.size:=let⟨_,hn,_⟩:=I.loc;hn.lt
def Inv.sz(I:Inv X pins σ H s):X.s₀.heap.objs.size<=s.heap.objs.size:=eV I.ok.above (jE I.lt)
def Inv.aIO(I:Inv X pins σ H s){a:Addr}(h:s.heap.objs.size<=a):a∉X.fs:=λhb=>by
 obtain⟨_,o,ho,_⟩:=I.ok.mH.mem hb;exact absurd (ig (cP ho) (eV I.sz h)) (j4 _)
def Inv.qU(I:Inv X pins σ H s):∀x c,X.env.cells.lookup x=some c->c≠X.env.locals:=λx c e z=>by
 obtain⟨v,o,ho,hd⟩:=I.cell x c e;obtain⟨m,⟨o',es,ep,ho',hd',_⟩,_⟩:=I.loc;rw[z,ho']at ho;cases ho;rw[hd']at hd;cases hd
theorem Inv.mH(I:Inv X pins σ H s):s.heap.FunFrames X.base X.outer:=by
 have all:∀(l:List Env),(∀b∈frs l,b∈X.fs)->X.s₀.heap.FunFrames X.base l->s.heap.FunFrames X.base l:=by
  intro l;induction l with
  |nil=>intro _ _;trivial
  |cons env r ih=>
   intro hs hl;obtain⟨hk,⟨L,o,hf,hn,ho,hd⟩,hr⟩:=hl;have hL:L∈X.fs:=hs L (by unfold frs;rw[DN,hf];exact wN);obtain⟨sl,e⟩:=I.base.slot L o ho (I.ok.uT L hL) hL λz=>I.ok.zO L z hL;exact{hk,{L,_,hf,hn,e,hd},ih (λb hb=>hs b (by unfold frs;rw[DN,hf];exact jt _ hb)) hr}
 exact all X.outer (λ_ hb=>hb) I.ok.mH
theorem Inv.stack(I:Inv X pins σ H s):s.heap.FunFrames X.base X.stack:=by
 rcases I.ok.stk with e|⟨e,hf⟩
 .rw[e];exact I.mH
 .rw[e];intros m hn _ I.loc;refine .cons (by rw[I.ok.kind];decide) hf hn ?_ I.mH;exact Heap.get?_none_of_le (eV I.ok.qH I.ok.above)
def Inv.Dh(I:Inv X pins σ H s):∀b∈frs X.stack,b∈X.env.locals::X.fs:=λb hb=>by
 rcases I.ok.stk with e|⟨e,hf⟩
 .rw[e]at hb;exact jt _ hb
 .rw[e]at hb;unfold frs at hb;rw[DN,hf]at hb;exact hb
def Inv.Vg(I:Inv X pins σ H s):∀b∈frs X.stack,H b=none:=λb hb=>by
 rcases dz.mp (I.Dh b hb)with e|hb
 .rw[e];exact I.free
 .obtain⟨_,o,ho,_⟩:=I.ok.mH.mem hb;exact I.base.free b o ho (I.ok.uT b hb) λz=>I.ok.zO b z hb
def Inv.step(I:Inv X pins σ H s)
  (hch:∀b∈ch,(b∈X.ex∨X.s₀.heap.objs.size<=b)/\b≠X.env.locals/\(∀x c,X.env.cells.lookup x=some c->c≠b)/\∀p∈X.pn++pins,p.1≠b)
  (keep:∀b o,b≠X.env.locals->b∉X.fs->b∉ch->s.heap.get? b=some o->H b=none->h'.get? b=some o)
  (slot:∀b o,b≠X.env.locals->b∈X.fs->b∉ch->s.heap.get? b=some o->H b=none->∃sl,h'.get? b=some { o with slots:=sl }) (free:∀b o,b∉ch->s.heap.get? b=some o->H b=none->H' b=none)
  (there:∀b o,b∉ch->s.heap.get? b=some o->∃o',h'.get? b=some o')
  (tups:∀b xs,H b=some (.tup xs)->H' b=some (.tup xs)) (iC:∀b o u,H b=some (.fO o u)->H' b=some (.fO o u)) (jf:∀b ps,H b=some (.nK ps)->∃more,H' b=some (.nK (ps++more)))
  (ns:∀m,s.heap.Ns X.env.locals m->h'.Ns X.env.locals m) (hok:eY X.prog X.w H' h') (hg:AllBare g'):
  Inv X pins σ H' { s with heap:=h',gens:=g',drawn:=d',toks:=t' }:=by
 have neL:∀b o,X.s₀.heap.get? b=some o->b≠X.env.locals:=λb o e=>gw (ig (cP e) I.ok.above);have Jj:∀b o,X.s₀.heap.get? b=some o->b∉X.ex->b∉ch:=λb o e hx hb=>by
  rcases(hch b hb).1 with z|z
  .exact hx z
  .exact absurd (ig (cP e) z) (j4 _)
 have cellK:∀x c,X.env.cells.lookup x=some c->∀v,s.heap.IsCell c v->h'.IsCell c v:=λx c e v ⟨o,ho,hd⟩=>by
  have B3:c∉ch:=λz=>(hch c z).2.2.1 x c e rfl;by_cases hc:c∈X.fs
  .obtain⟨sl,q⟩:=slot c o (I.qU x c e) hc B3 ho (I.lY x c e);exact{_,q,hd}
  .exact{o,keep c o (I.qU x c e) hc B3 ho (I.lY x c e),hd}
 refine{I.ok,I.os,hg,{λb o e n hb hx=>?_,λb o e n hb hx=>?_,λb o e n hx=>?_,λb o e hx=>?_,λb xs e=>tups b xs (I.base.tups b xs e),λb o xs e=>iC b o xs (I.base.iC b o xs e),λb ps e=>?_},?_,λx c e=>?_,?_,λx c e=>?_,λp hp=>?_,hok,I.len}
 .exact keep b o (neL b o e) hb (Jj b o e hx) (I.base.keep b o e n hb hx) (I.base.free b o e n hx)
 .obtain⟨sl,e1⟩:=I.base.slot b o e n hb hx;obtain⟨sl',e2⟩:=slot b _ (neL b o e) hb (Jj b o e hx) e1 (I.base.free b o e n hx);exact{sl',(e2)}
 .obtain⟨o',e1⟩:=I.base.there b o e hx;exact free b o' (Jj b o e hx) e1 (I.base.free b o e n hx)
 .obtain⟨o',e1⟩:=I.base.there b o e hx;exact there b o' (Jj b o e hx) e1
 .obtain⟨m1,e1⟩:=I.base.jf b ps e;obtain⟨m2,e2⟩:=jf b _ e1;exact{m1++m2,by rw[e2,abW]}
 .intros m hn hl I.loc;refine{m,ns m hn,λi x v e1 e2 e3=>?_};obtain⟨u,r,l⟩:=hl i x v e1 e2 e3;exists u,r;rcases l with l|⟨k,c,e,z⟩
  .exact .inl l
  .exact .inr {k,c,e,cellK x c e _ z}
 .obtain⟨v,z⟩:=I.cell x c e;exact{v,cellK x c e v z}
 .obtain⟨m,⟨o,_,_,ho,_⟩,_⟩:=I.loc;exact free _ o (λz=>(hch _ z).2.1 rfl) ho I.free
 .obtain⟨v,o,ho,hd⟩:=I.cell x c e;exact free c o (λz=>(hch c z).2.2.1 x c e rfl) ho (I.lY x c e)
 .obtain⟨e,n,ne,nf,d⟩:=I.pin p hp;have B3:p.1∉ch:=λz=>(hch p.1 z).2.2.2 p hp rfl;exact{keep p.1 p.2 ne nf B3 e n,free p.1 p.2 B3 e n,ne,nf,d}
def Inv.un(I:Inv X pins σ H s)(u:Un X.fs [] H H' s.heap h')(hok:eY X.prog X.w H' h'):Inv X pins σ H' { s with heap:=h',toks:=t' }:=by
 obtain⟨m,⟨o,es,ep,ho,r⟩,_⟩:=id I.loc;obtain⟨sl,hL⟩:=u.any ho I.free (by simp);exact I.step (g':=s.gens) (d':=s.drawn) (ch:=[]) (λ_ z=>nomatch z) (λb o _ hb _ e n=>u.keep b o e n hb (by simp)) (λb o _ hb _ e n=>u.slot b o e n hb (by simp)) (λb o _ e n=>u.free b o e n (by simp)) (λb o _ e=>u.there b o e (by simp)) u.tups u.iC u.jf (λm' hm=>by
  intros o' es' ep' ho' r' hm;rw[ho]at ho';cases ho';exact{_,es',ep',hL,r'}) hok I.bare
def Inv.call(I:Inv X pins σ H s)(u:Un (frs X.stack) ch H H' s.heap h')(hok:eY X.prog X.w H' h')(hg:AllBare g')
  (hch:∀b∈ch,(b∈X.ex∨X.s₀.heap.objs.size<=b)/\b≠X.env.locals/\(∀x c,X.env.cells.lookup x=some c->c≠b)/\∀p∈X.pn++pins,p.1≠b):
  Inv X pins σ H' { s with heap:=h',gens:=g',drawn:=d',toks:=t' }:=by
 obtain⟨m,⟨o,es,ep,ho,r⟩,_⟩:=id I.loc;obtain⟨sl,hL⟩:=u.any ho I.free λz=>(hch _ z).2.1 rfl;exact I.step (ch:=ch) hch (λb o hL hb hc e n=>u.keep b o e n (λz=>(dz.mp (I.Dh b z)).elim hL hb) hc) (λb o _ _ hc e n=>u.any e n hc) (λb o hc e n=>u.free b o e n hc) (λb o hc e=>u.there b o e hc) u.tups u.iC u.jf (λm' hm=>by
  intros o' es' ep' ho' r' hm;rw[ho]at ho';cases ho';exact{_,es',ep',hL,r'}) hok hg
def Inv.turned{it:Addr}(I:Inv X pins σ H s)(k:∀b o,b≠it->s.heap.get? b=some o->h'.get? b=some o)(hn:H it=none)(hL:it≠X.env.locals)
  (h1:it∈X.ex∨X.s₀.heap.objs.size<=it) (h2:∀x c,X.env.cells.lookup x=some c->c≠it) (h3:∀p∈X.pn++pins,p.1≠it):Inv X pins σ H { s with heap:=h',toks:=t' }:=by
 have nit:∀b u,H b=some u->b≠it:=λb u e z=>by rw[z,hn]at e;cases e
 refine I.step (g':=s.gens) (d':=s.drawn) (ch:=[it]) (λb hb=>?_) (λb o _ _ hc e _=>k b o (λz=>hc (by simp[z])) e) (λb o _ _ hc e _=>{o.slots,k b o (λz=>hc (by simp[z])) e}) (λ_ _ _ _ n=>n)
  (λb o hc e=>{o,k b o (λz=>hc (by simp[z])) e}) (λ_ _ e=>e) (λ_ _ _ e=>e) (λb ps e=>{#[],by rw[e];simp}) (λm hm=>?_) (λb u e=>?_) I.bare
 .have e:b=it:=by simpa using hb
  subst e;exact{h1,hL,h2,(h3)}
 .intros o es ep ho r hm;exact{o,es,ep,k _ o (dw hL) ho,r}
 .refine(I.hok b u e).stay (λc v hc q=>k c v ?_ q) (λ_ q=>q) λ_ _ q=>q;rcases hc with z|z
  .rw[z];exact nit b u e
  .exact nit c _ z
def Inv.tok(I:Inv X pins σ H s)(t:Nat):Inv X pins σ H { s with toks:=t }:=I.un (h':=s.heap) (t':=t) Un.refl I.hok
theorem Inv.kept{t':Nat}(I:Inv X pins σ H s)(k:∀b u,s.heap.get? b=some u->h'.get? b=some u):Inv X pins σ H { s with heap:=h',toks:=t' }:=I.un (Un.kept k) (I.hok.kept k)
theorem Inv.laid{a:Addr}{o:HO}{t':Nat}(I:Inv X pins σ H s)(k:∀b u,s.heap.get? b=some u->h'.get? b=some u)(hp:s.heap.objs.size<=a)(new:eO X.prog X.w (upd H a o) h' a o):
  Inv X pins σ (upd H a o) { s with heap:=h',toks:=t' }:=I.un (Un.laid k hp (I.hok.fresh hp)) (I.hok.laid k hp new)
theorem Inv.write{x e:Addr}{o:HO}{t':Nat}(I:Inv X pins σ H s)(mu:Eo (H x))(he:e=x∨H e=some (.own x))(k:∀b u,b≠e->s.heap.get? b=some u->h'.get? b=some u)(heo:∃u,h'.get? e=some u)
  (new:eO X.prog X.w (upd H x o) h' x o):Inv X pins σ (upd H x o) { s with heap:=h',toks:=t' }:=I.un (Un.write mu he k heo) (I.hok.write mu he k heo new)
def Inv.aii{oB:List (Addr×Obj)}(I:Inv X pins σ H s)(h:∀p∈oB,s.heap.get? p.1=some p.2/\H p.1=none/\p.1≠X.env.locals/\p.1∉X.fs/\∀v,p.2.data≠ .cell v):Inv X oB σ H s:=
 {I.ok,I.os,I.bare,I.base,I.loc,I.cell,I.free,I.lY,λp hp=>(oF.mp hp).elim (λz=>I.pin p (aaF _ z)) (h p),I.hok,I.len}
def Xo{N:List Str}(hN:N.Nodup){i j:Nat}{x:Str}(a:N[i]?=some x)(b:N[j]?=some x):i=j:=by
 obtain⟨h1,e1⟩:=List.getElem?_eq_some_iff.mp a;obtain⟨h2,e2⟩:=List.getElem?_eq_some_iff.mp b;exact(List.getElem_inj hN).mp (e1.trans e2.symm)
def aFY(I:Inv X pins σ H s)(hN:X.N.Nodup)(hi:X.N[i]?=some x)(hx:Loc X.env.scope x)(r:RelV v u)
  (h:∀s',Inv X pins (σ.set i (some v)) H s'->(∃a,uN a s.heap s'.heap/\(a=X.env.locals∨X.env.cells.lookup x=some a))->Q () s') (hf:X.fn x=true∨X.env.scope.names.lookup x=some .local:=by first|exact .inl rfl|exact .inr rfl|assumption):wpAny M A (storeName X.env x u) Q E s:=by
 obtain⟨m,hn,hl⟩:=id I.loc;have hcls:(X.env.scope.kind== .class||(X.env.scope.kind== .module&&X.env.locals != X.env.globals))=false:=by rw[I.ok.kind];rfl
 have hiσ:i < σ.length:=by rw[I.len];exact(List.getElem?_eq_some_iff.mp hi).1
 have qU:=I.qU;have tracked:∀{a:Addr} {h':Heap},(∃o,s.heap.get? a=some o/\H a=none)->uN a s.heap h'->eY X.prog X.w H h':=λ{a h'} ha hs b ob e=>by
  intros _ _ hfree ha;refine(I.hok b ob e).stay (λc w' hc q=>(hs.2 c ?_).trans q) (λ_ q=>q) λ_ _ q=>q;rintro rfl;rcases hc with rfl|hc
  .rw[hfree]at e;cases e
  .rw[hfree]at hc;cases hc
 rcases hx with hk|hk
 .refine wpAny_storeName_local hk hn (λh' hn' hs=>?_) hcls;obtain⟨oL,_,_,hoL,_⟩:=id hn;refine h _ {I.ok,I.os,I.bare,{λb o e n hb hx=>?_,λb o e n hb hx=>?_,I.base.free,λb o e hx=>?_,I.base.tups,I.base.iC,I.base.jf},{_,hn',λj y v' e1 e2 e3=>?_},λy c e=>?_,I.free,I.lY,λp hp=>?_,tracked {oL,hoL,(I.free)} hs,by simpa using I.len} {_,hs,.inl rfl}
  .exact(hs.2 b (gw (ig (cP e) I.ok.above))).trans (I.base.keep b o e n hb hx)
  .obtain⟨sl,e1⟩:=I.base.slot b o e n hb hx;exact{sl,(hs.2 b (gw (ig (cP e) I.ok.above))).trans e1}
  .obtain⟨o',e1⟩:=I.base.there b o e hx;exact{o',(hs.2 b (gw (ig (cP e) I.ok.above))).trans e1}
  .by_cases hj:j=i
   .subst hj;rw[hi]at e1;cases e1;rw[List.getElem?_set_self hiσ]at e2;cases e2;exact{u,r,.inl {hk,by simp}}
   .rw[List.getElem?_set_ne (dw hj)]at e2;obtain⟨u',r',q⟩:=hl j y v' e1 e2 e3;exists u',r';rcases q with⟨k,e⟩|⟨k,c,e,z⟩
    .refine .inl {k,?_};have:y≠x:=λe=>hj (Xo hN e1 (e▸hi));simp[this,e]
    .exact .inr {k,c,e,z.sameBut hs (qU y c e)}
  .obtain⟨w',z⟩:=I.cell y c e;exact{w',z.sameBut hs (qU y c e)}
  .obtain⟨e,n,ne,nf,d⟩:=I.pin p hp;exact{(hs.2 p.1 ne).trans e,n,ne,nf,d}
 .have hfn:X.fn x=true:=by
   rcases hf with z|z
   .exact z
   .rw[z]at hk;cases hk
  obtain⟨c,hc⟩:=I.ok.has x (.inl hk);obtain⟨w',z⟩:=I.cell x c hc;refine wpAny_storeName_cell I.ok.kind hk hc z (λh' hc' hs=>?_);obtain⟨oc,hoc,aK8⟩:=id z;refine h { s with heap:=h' } {I.ok,I.os,I.bare,{λb o e n hb hx=>?_,λb o e n hb hx=>?_,I.base.free,λb o e hx=>?_,I.base.tups,I.base.iC,I.base.jf},{m,hn.sameBut hs (dw (qU x c hc)),λj y v' e1 e2 e3=>?_},λy c' e=>?_,I.free,I.lY,λp hp=>?_,tracked {oc,hoc,I.lY x c hc} hs,by simpa using I.len} {c,hs,.inr hc}
  .exact(hs.2 b (gw (ig (cP e) (I.ok.cab x c hfn hc)))).trans (I.base.keep b o e n hb hx)
  .obtain⟨sl,e1⟩:=I.base.slot b o e n hb hx;exact{sl,(hs.2 b (gw (ig (cP e) (I.ok.cab x c hfn hc)))).trans e1}
  .obtain⟨o',e1⟩:=I.base.there b o e hx;exact{o',(hs.2 b (gw (ig (cP e) (I.ok.cab x c hfn hc)))).trans e1}
  .by_cases hj:j=i
   .subst hj;rw[hi]at e1;cases e1;rw[List.getElem?_set_self hiσ]at e2;cases e2;exact{u,r,.inr {.inl hk,c,hc,hc'}}
   .rw[List.getElem?_set_ne (dw hj)]at e2;obtain⟨u',r',q⟩:=hl j y v' e1 e2 e3;exists u',r';rcases q with q|⟨k,c',e,z'⟩
    .exact .inl q
    .refine .inr {k,c',e,z'.sameBut hs ?_};rintro rfl;exact hj (Xo hN e1 (I.ok.inj _ _ _ e hc▸hi))
  .by_cases hcc:c'=c
   .subst hcc;exact{_,hc'}
   .obtain⟨w2,z2⟩:=I.cell y c' e;exact{w2,z2.sameBut hs hcc}
  .obtain⟨e,n,ne,nf,d⟩:=I.pin p hp;refine{(hs.2 p.1 ?_).trans e,n,ne,nf,d};intro q;rw[q,hoc]at e;have q':oc=p.2:=jT e;exact d w' (by rw[<-q'];exact aK8)
def Gb(I:Inv X pins σ H s)(hN:X.N.Nodup)(hi:X.N[i]?=some x)(hx:Loc X.env.scope x)(r:RelV v u)
  (h:∀s',Inv X pins (σ.set i (some v)) H s'->Q () s') (hf:X.fn x=true∨X.env.scope.names.lookup x=some .local:=by first|exact .inl rfl|exact .inr rfl|assumption):wpAny M A (storeName X.env x u) Q E s:=
 aFY I hN hi hx r (λs' I' _=>h s' I') hf
def Inv.Rn{s':Shared}(I:Inv X pins σ H s)(ho:s'.os=s.os)(u:Un (frs X.stack) ch H H' s.heap s'.heap)(hok:eY X.prog X.w H' s'.heap)(hg:AllBare s'.gens)
  (hch:∀b∈ch,(b∈X.ex∨X.s₀.heap.objs.size<=b)/\b≠X.env.locals/\(∀x c,X.env.cells.lookup x=some c->c≠b)/\∀p∈X.pn++pins,p.1≠b):Inv X pins σ H' s':=by
 intros h' g' d' t' o' s';have e:o'=s.os:=ho;subst e;exact I.call (g':=g') (t':=t') (d':=d') u hok hg hch
end
end
abbrev XK:=Value->Option Addr->Hp->Prop
abbrev St:=List (Option V)
abbrev VK:=V->Hp->Prop
abbrev TE:=St->Hp->VK->Prop
abbrev TT:=St->Hp->(Bool->Hp->Prop)->Prop
abbrev TA:=St->Hp->(List V->Hp->Prop)->Prop
structure Ends where
 nx:St->Hp->Prop
 rt:VK
 bk:St->Hp->Prop:=λ_ _=>False
 ct:St->Hp->Prop:=λ_ _=>False
abbrev TS:=Ends->St->Hp->Prop
def EP(X:Cx)(pins:List (Addr×Obj))(σ:St)(Q:VK)(u:Value)(s':Shared):Prop:=∃v H',Inv X pins σ H' s'/\RelV v u/\Q v H'
def TP(X:Cx)(pins:List (Addr×Obj))(σ:St)(Q:Bool->Hp->Prop)(b:Bool)(s':Shared):Prop:=∃H',Inv X pins σ H' s'/\Q b H'
def AP(X:Cx)(pins:List (Addr×Obj))(σ:St)(Q:List V->Hp->Prop)(us:List Value)(s':Shared):Prop:=∃vs H',Inv X pins σ H' s'/\Vals vs us/\Q vs H'
def SP(X:Cx)(pins:List (Addr×Obj))(D:Ends)(f:Flow)(s':Shared):Prop:=
 match f with
 |.next=>∃σ' H',Inv X pins σ' H' s'/\D.nx σ' H'
 |.brk=>∃σ' H',Inv X pins σ' H' s'/\D.bk σ' H'
 |.cont=>∃σ' H',Inv X pins σ' H' s'/\D.ct σ' H'
 |.ret u=>∃v σ' H',Inv X pins σ' H' s'/\RelV v u/\D.rt v H'
def PE(X:Cx)(e:Expr)(t:TE):Prop:=
 ∀(pins:List (Addr×Obj)) (s:Shared) (σ:St) (H:Hp) (Q:VK),Inv X pins σ H s->t σ H Q->wpAny (model X.prog X.w) X.A (eval e X.env) (EP X pins σ Q) X.xe s
def PT(X:Cx)(e:Expr)(t:TT):Prop:=
 ∀(pins:List (Addr×Obj)) (s:Shared) (σ:St) (H:Hp) (Q:Bool->Hp->Prop),Inv X pins σ H s->t σ H Q->wpAny (model X.prog X.w) X.A (isTrue e X.env (eval e X.env)) (TP X pins σ Q) X.xe s
def PW(X:Cx)(e:Expr)(t:TT):Prop:=
 ∀(whole:Sem Value) (pins:List (Addr×Obj)) (s:Shared) (σ:St) (H:Hp) (Q:Bool->Hp->Prop),Inv X pins σ H s->t σ H Q->wpAny (model X.prog X.w) X.A (isTrue e X.env whole) (TP X pins σ Q) X.xe s
def PW.pt{X:Cx}{e:Expr}{t:TT}(h:PW X e t):PT X e t:=h _
def PA(X:Cx)(es:List Expr)(t:TA):Prop:=
 ∀(pos:Pos) (pins:List (Addr×Obj)) (s:Shared) (σ:St) (H:Hp) (Q:List V->Hp->Prop),Inv X pins σ H s->t σ H Q->wpAny (model X.prog X.w) X.A (spliced (backTo pos (starEach es X.env))) (AP X pins σ Q) X.xe s
def PS(X:Cx)(st:Stmt)(t:TS):Prop:=
 ∀(pins:List (Addr×Obj)) (s:Shared) (σ:St) (H:Hp) (D:Ends),Inv X pins σ H s->t D σ H->wpAny (model X.prog X.w) X.A (exec st X.env) (SP X pins D) X.xe s
def iT(X:Cx)(st:List Stmt)(t:TS):Prop:=
 ∀(pins:List (Addr×Obj)) (s:Shared) (σ:St) (H:Hp) (D:Ends),Inv X pins σ H s->t D σ H->wpAny (model X.prog X.w) X.A (execs st X.env) (SP X pins D) X.xe s
def aR{α:Type}{t:Sem α}{Q Q':α->Shared->Prop}{M:Model}{A:Around}{E:Value->Shared->Prop}{s:Shared}(h:wpAny M A t Q E s)(hQ:∀a s,Q a s->Q' a s):wpAny M A t Q' E s:=wpAny_mono h hQ λ_ _ x=>x
section
variable {X:Cx}
section
variable {x:Str}{pos:Pos}{E Q:Value->Shared->Prop}{pins:List (Addr×Obj)}{s:Shared}{σ:St}{H:Hp}{u:Value}{v:V}
inductive auM(i:Nat)(σ:St)(H:Hp)(Q:VK):Prop|mk (z:V) (h:σ[i]?=some (some z)) (q:Q z H)
def VP(i:Nat):TE:=λσ H Q=>auM i σ H Q
def tC(v:V):TE:=λ_ H Q=>Q v H
def aAn{i:Nat}(hN:X.N[i]?=some x)(hv:Jq X.env.scope x)(hd:(x==("__debug__" : Str))=false:=by decide)(hcd:(x==("__classdict__" : Str))=false:=by decide):PE X (.Name x pos) (VP i):=by
 intro pins s σ H Q I h;intros v e h h;intros m hn hl I.loc;obtain⟨u,r,l⟩:=hl i x v hN e hv;have fin:EP X pins σ Q u s:={v,H,I,r,(h)};rcases l with⟨hk,hm⟩|⟨hk,c,hc,hcell⟩
 .exact wpAny_Name (wpAny_loadName_local I.ok.kind hk hn hm fin) hd
 .rcases hk with hk|hk
  .exact wpAny_Name (wpAny_loadName_cell I.ok.kind hk hc hcell fin) hd
  .exact wpAny_Name (wpAny_loadName_free I.ok.kind hk hc hcell fin hcd) hd
def aU{i j pos}:PE X (.Constant (.int i) j pos) (tC (.int i)):=λ_ _ _ H _ I h=>wpAny_Constant_int {.int i,H,I.tok _,{()},h}
def fP{b j pos}:PE X (.Constant (.bool b) j pos) (tC (.bl b)):=λ_ _ _ H _ I h=>Constant_bool {.bl b,H,I,rfl,h}
def vh{j pos}:PE X (.Constant .none j pos) (tC .non):=λ_ _ _ H _ I h=>Constant_none {.non,H,I,rfl,h}
def cX{x j pos}:PE X (.Constant (.str x) j pos) (tC (.str x)):=λ_ _ _ H _ I h=>YZ {.str x,H,I.tok _,{()},h}
def Gl(X:Cx)(x:Str):Prop:=X.env.kindOf x=some .globalImplicit
def oE(I:Inv X pins σ H s)(hg:Gl X x)(hm:X.mg x=some u)(h:Q u s)
  (hd:(x==("__debug__" : Str))=false:=by decide):wpAny (model X.prog X.w) X.A (eval (.Name x pos) X.env) Q E s:=
 aqp I.ok.kind hg (Calls.loadGlobal_global (by rw[I.ok.glob];exact I.mod.glob.keeps I.bk) hm h) hd
def qJ(I:Inv X pins σ H s)(hg:Gl X x)(hm:X.mg x=none)(hv:bootBuiltins x=some u)(h:Q u s)
  (hn:x≠ "__name__" := by decide) (hd:(x==("__debug__" : Str))=false:=by decide):wpAny (model X.prog X.w) X.A (eval (.Name x pos) X.env) Q E s:=by
 intros mb h1 h2 I.mod.blt;exact aqp I.ok.kind hg (Calls.loadGlobal_builtin (by rw[I.ok.glob];exact I.mod.glob.keeps I.bk) hm (by rw[I.ok.blt];exact h1.keeps I.bk) ((h2 x hn).trans hv) h) hd
def Mr(hg:Gl X x)(hm:X.mg x=some u)(r:RelV v u)(hd:(x==("__debug__" : Str))=false:=by decide):PE X (.Name x pos) (tC v):=
 λ_ _ _ H _ I h=>oE I hg hm {v,H,I,r,(h)} hd
def auk(hg:Gl X x)(hm:X.mg x=none)(hv:bootBuiltins x=some u)(r:RelV v u)(hn:x≠ "__name__" := by decide)(hd:(x==("__debug__" : Str))=false:=by decide):PE X (.Name x pos) (tC v):=
 λ_ _ _ H _ I h=>qJ I hg hm hv {v,H,I,r,(h)} hn hd
end
variable {a b:Expr} {ta tb:TE} {pos:Pos}
def PC(X:Cx)(op:CmpOp)(a b:Expr)(t:TE):Prop:=
 ∀(pins:List (Addr×Obj)) (s:Shared) (σ:St) (H:Hp) (Q:VK),Inv X pins σ H s->t σ H Q->
  wpAny (model X.prog X.w) X.A (eval a X.env) (λv s₁=>wpAny (model X.prog X.w) X.A (eval b X.env) (λu s₂=>wpAny (model X.prog X.w) X.A (compareOp op v u) (EP X pins σ Q) X.xe s₂) X.xe s₁) X.xe s
def aN1(b:Expr){op:CmpOp}(h:op≠ .In)(h2:op≠ .NotIn):behindInMarks op b=false:=by
 have e1:(op==CmpOp.In)=false:=by cases op<;>first|rfl|exact absurd rfl h
 have e2:(op==CmpOp.NotIn)=false:=by cases op<;>first|rfl|exact absurd rfl h2
 cases b<;>simp[behindInMarks,e1,e2]
def at8(ta:TE):TE:=λσ H Q=>ta σ H λx H1=>Q (.bl (decide (x = .non))) H1
def aCs(ta:TE):TE:=λσ H Q=>ta σ H λx H1=>Q (.bl (!decide (x = .non))) H1
def RelV.anY{x:V}{v:Value}(r:RelV x v):(v==Value.none)=decide (x = .non):=by
 cases x with
 |non=>cases r;rfl
 |bl _=>cases r;rfl
 |int _=>intros t rfl r;rfl
 |str _=>intros t rfl r;rfl
 |j9 _=>intros t rfl r;rfl
 |flt _=>intros t rfl r;rfl
 |ref _=>cases r;rfl
 |ty _=>cases r;rfl
def LR{j pos'}(ha:PE X a ta):PC X .Is a (.Constant .none j pos') (at8 ta):=by
 intro pins s σ H Q I h;refine aR (ha pins s σ H _ I h) λv s1 ⟨x,H1,I1,r1,q1⟩=>?_;exact Constant_none (is_none_gen {.bl _,H1,I1,by rw[r1.anY];rfl,q1})
def asN{j pos'}(ha:PE X a ta):PC X .IsNot a (.Constant .none j pos') (aCs ta):=by
 intro pins s σ H Q I h;refine aR (ha pins s σ H _ I h) λv s1 ⟨x,H1,I1,r1,q1⟩=>?_;exact Constant_none (isnot_none_gen {.bl _,H1,I1,by rw[r1.anY];rfl,q1})
def tB(t:TE):TT:=λσ H Q=>t σ H λx H1=>∃c,x = .bl c/\Q c H1
def rK{op:CmpOp}{t:TE}(h:PC X op a b t)(h1:behindInMarks op b=false:=by first|exact aN1 _ ∅ ∅ | rfl):PT X (.Compare a [op] [b] pos) (tB t):=by
 intro pins s σ H Q I hw;refine wpAny_isTrue_Compare1 (aR (h pins s σ H _ I hw) λv s1 h1=>aR h1 λu s2 h2=>aR h2 λc s3 ⟨x,H1,I1,r1,q1⟩=>?_) h1;intros d rfl q q1;cases r1;exact wpAny_truthy_bool {H1,I1,(q)}
def fY{e:Expr}{t:TE}(h:PE X e t)(he:∀whole,isTrue e X.env whole=(do let v<-whole;standAt e.pos;holding [v] (truthy v)):=by intro _;rfl):PT X e (tB t):=by
 intro pins s σ H Q I hw;refine isTrue_plain (aR (h pins s σ H _ I hw) λv s1 ⟨x,H1,I1,r1,q1⟩=>?_) (he _);intros d rfl q q1;cases r1;exact wpAny_truthy_bool {H1,I1,(q)}
variable {tA Ku:TT} {rest:List Expr}
def aO7(t u:TT):TT:=λσ H Q=>t σ H λc H1=>if c=true then u σ H1 Q else Q false H1
def tOr(t u:TT):TT:=λσ H Q=>t σ H λc H1=>if c=true then Q true H1 else u σ H1 Q
def aIr(t:TT):TT:=λσ H Q=>t σ H λc H1=>Q (!c) H1
def wF(ha:PT X a tA):PW X (.BoolOp .And [a] pos) tA:=by
 intro wh pins s σ H Q I h;refine isTrue_and (aR (ha pins s σ H Q I h) λc s1 e=>?_);cases c with
 |true=>exact isTrue_and_nil e
 |false=>exact e
def jR(ha:PT X a tA):PW X (.BoolOp .Or [a] pos) tA:=by
 intro wh pins s σ H Q I h;refine isTrue_or (aR (ha pins s σ H Q I h) λc s1 e=>?_);cases c with
 |false=>exact isTrue_or_nil e
 |true=>exact e
def xu(ha:PT X a tA)(hb:PW X (.BoolOp .And (b::rest) pos) Ku):PW X (.BoolOp .And (a::b::rest) pos) (aO7 tA Ku):=by
 intro wh pins s σ H Q I h;refine isTrue_and (aR (ha pins s σ H _ I h) λc s1 ⟨H1,I1,q1⟩=>?_);cases c with
 |true=>exact hb wh pins s1 σ H1 Q I1 q1
 |false=>exact{H1,I1,(q1)}
def gP(ha:PT X a tA)(hb:PW X (.BoolOp .Or (b::rest) pos) Ku):PW X (.BoolOp .Or (a::b::rest) pos) (tOr tA Ku):=by
 intro wh pins s σ H Q I h;refine isTrue_or (aR (ha pins s σ H _ I h) λc s1 ⟨H1,I1,q1⟩=>?_);cases c with
 |true=>exact{H1,I1,(q1)}
 |false=>exact hb wh pins s1 σ H1 Q I1 q1
def iU(ha:PT X a tA):PT X (.UnaryOp .Not a pos) (aIr tA):=by
 intro pins s σ H Q I h;exact isTrue_not (ha pins s σ H (λc H1=>Q (!c) H1) I h)
def aEA(ta tb:TE):TE:=λσ H Q=>ta σ H λx H1=>∃c,x = .bl c/\if c=true then tb σ H1 Q else Q (.bl false) H1
def aDe(ta tb:TE):TE:=λσ H Q=>ta σ H λx H1=>∃c,x = .bl c/\if c=true then Q (.bl true) H1 else tb σ H1 Q
def aAW(ta:TE):TE:=λσ H Q=>ta σ H λx H1=>∃c,x = .bl c/\Q (.bl (!c)) H1
def Hq{op}{t:TE}(h:PE X a t):PE X (.BoolOp op [a] pos) t:=λpins s σ H Q I hw=>BoolOp_one (h pins s σ H Q I hw)
def al1(ha:PE X a ta)(hb:PE X (.BoolOp .And (b::rest) pos) tb):PE X (.BoolOp .And (a::b::rest) pos) (aEA ta tb):=by
 intro pins s σ H Q I h;refine BoolOp_and (aR (ha pins s σ H _ I h) λv s1 ⟨x,H1,I1,r1,q1⟩=>?_);intros c rfl q1 q1;cases r1;refine wpAny_truthy_bool ?_;cases c with
 |true=>exact hb pins s1 σ H1 Q I1 q1
 |false=>exact{.bl false,H1,I1,rfl,q1}
def acj(ha:PE X a ta)(hb:PE X (.BoolOp .Or (b::rest) pos) tb):PE X (.BoolOp .Or (a::b::rest) pos) (aDe ta tb):=by
 intro pins s σ H Q I h;refine BoolOp_or (aR (ha pins s σ H _ I h) λv s1 ⟨x,H1,I1,r1,q1⟩=>?_);intros c rfl q1 q1;cases r1;refine wpAny_truthy_bool ?_;cases c with
 |false=>exact hb pins s1 σ H1 Q I1 q1
 |true=>exact{.bl true,H1,I1,rfl,q1}
def alZ(ha:PE X a ta):PE X (.UnaryOp .Not a pos) (aAW ta):=by
 intro pins s σ H Q I h;refine UnaryOp_ (aR (ha pins s σ H _ I h) λv s1 ⟨x,H1,I1,r1,q1⟩=>?_);intros c rfl q1 q1;cases r1;exact not_of (wpAny_truthy_bool {.bl (!c),H1,I1,rfl,q1})
def tIf(t:TT)(ta tb:TE):TE:=λσ H Q=>t σ H λc H1=>if c=true then ta σ H1 Q else tb σ H1 Q
def w6{c:Expr}(hc:PT X c tA)(ha:PE X a ta)(hb:PE X b tb):PE X (.IfExp c a b pos) (tIf tA ta tb):=by
 intro pins s σ H Q I h;refine wpAny_IfExp (aR (hc pins s σ H _ I h) λd s1 ⟨H1,I1,q1⟩=>?_);cases d with
 |true=>exact ha pins s1 σ H1 Q I1 q1
 |false=>exact hb pins s1 σ H1 Q I1 q1
end
def aj(K:aD)(H:Hp)(a:Addr)(xs:List V):Prop:=
 Rd H a (.lst xs)∨
  ∃(o:Obj) (its:Array Value) (n:Nat),K.lookup a=some o/\o.cls = .type "list" /\ o.dict=none/\o.data = .seq its n/\its.size<=sizeLine/\Vals xs its.toList
def aq(K:aD)(H:Hp)(a:Addr)(xs:List V):Prop:=
 Rd H a (.tup xs)∨
  ∃(o:Obj) (its:Array Value) (n:Nat),K.lookup a=some o/\o.cls = .type "tuple" /\ o.data = .seq its n/\its.size<=sizeLine/\Vals xs its.toList
def atH:Value->Option V
 |.none=>some .non
 |.bool b=>some (.bl b)
 |.int i _=>some (.int i)
 |.str x _=>some (.str x)
 |.bytes b _=>some (.j9 b)
 |.float b _=>some (.flt b)
 |.ref a=>some (.ref a)
 |.type n=>some (.ty n)
 |_=>none
def RelV.abs{x:V}{u:Value}(r:RelV x u):atH u=some x:=by
 cases x with
 |non=>cases r;rfl
 |bl _=>cases r;rfl
 |int _=>intros t rfl r;rfl
 |str _=>intros t rfl r;rfl
 |j9 _=>intros t rfl r;rfl
 |flt _=>intros t rfl r;rfl
 |ref _=>cases r;rfl
 |ty _=>cases r;rfl
theorem RelV.inj{x y:V}{u:Value}(r:RelV x u)(q:RelV y u):x=y:=jT (r.abs.symm.trans q.abs)
theorem Vals.inj{xs ys:List V}{us:List Value}(h:Vals xs us)(h':Vals ys us):xs=ys:=by
 induction h generalizing ys with
 |nil=>cases h';rfl
 |cons r t ih=>
  cases h' with
  |cons r' t'=>rw[r.inj r',ih t']
section
variable {X:Cx} {pins:List (Addr×Obj)} {σ:St} {H:Hp} {s:Shared} {a:Addr} {xs ys:List V}
def aj.of{K:aD}(h:H a=some (.lst xs)):aj K H a xs:= .inl (.inl h)
def aq.of{K:aD}(h:H a=some (.tup xs)):aq K H a xs:= .inl (.inl h)
def Inv.list(I:Inv X pins σ H s)(h:aj X.K H a xs):∃its:List Value,Vals xs its/\PlainL s.heap a its.toArray/\xs.length<=sizeLine:=by
 rcases h with h|⟨o,its,n,hk,hc,hd,hs,hz,r⟩
 .obtain⟨z,its,n,r,e⟩:=h.ok I.hok;exact{its,r,{_,n,e,rfl,rfl,rfl},z}
 .refine{its.toList,r,{o,n,I.dj a o hk,hc,hd,by simpa using hs},?_};have e:=r.length;simp only[FD]at e;lia
def Inv.tuple(I:Inv X pins σ H s)(h:aq X.K H a xs):∃its:List Value,Vals xs its/\IsTup s.heap a its.toArray/\xs.length<=sizeLine:=by
 rcases h with h|⟨o,its,n,hk,hc,hs,hz,r⟩
 .obtain⟨z,its,r,p⟩:=h.ok I.hok;exact{its,r,p,(z)}
 .refine{its.toList,r,{o,I.dj a o hk,hc,n,by simpa using hs},?_};have e:=r.length;simp only[FD]at e;lia
def Inv.Mv(I:Inv X pins σ H s)(h:aj X.K H a xs)(h':aj X.K H a ys):xs=ys:=by
 obtain⟨its,r,⟨o,n,e,_,_,d⟩,_⟩:=I.list h;obtain⟨its',r',⟨o',n',e',_,_,d'⟩,_⟩:=I.list h';rw[e]at e';cases e';rw[d]at d';injection d' with d1 _;have:its=its':=by simpa using congrArg anA d1
 subst this;exact r.inj r'
def Inv.afl(I:Inv X pins σ H s)(h:aq X.K H a xs)(h':aq X.K H a ys):xs=ys:=by
 obtain⟨its,r,⟨o,e,_,n,d⟩,_⟩:=I.tuple h;obtain⟨its',r',⟨o',e',_,n',d'⟩,_⟩:=I.tuple h';rw[e]at e';cases e';rw[d]at d';injection d' with d1 _;have:its=its':=by simpa using congrArg anA d1
 subst this;exact r.inj r'
end
abbrev Cx.wish(X:Cx)(E:Value->Shared->Prop):Cx:={ X with xe:=E }
abbrev Cx.pK(X:Cx):Cx:=X.wish λ_ _=>False
theorem Cx.Ok.wish{X:Cx}(ok:X.Ok)(E:Value->Shared->Prop):(X.wish E).Ok:=
 {ok.mod,ok.kind,ok.glob,ok.blt,ok.above,ok.inj,ok.has,ok.cab,ok.hd,ok.frames,ok.stk,ok.PY,ok.bs,ok.qH,ok.zF,ok.zO,ok.mH,ok.uT,ok.tree,(ok.top)}
def Cx.Ok.nM{X:Cx}{E:Value->Shared->Prop}(ok:(X.wish E).Ok):X.Ok:=
 {ok.mod,ok.kind,ok.glob,ok.blt,ok.above,ok.inj,ok.has,ok.cab,ok.hd,ok.frames,ok.stk,ok.PY,ok.bs,ok.qH,ok.zF,ok.zO,ok.mH,ok.uT,ok.tree,(ok.top)}
section
variable {X:Cx} {pins:List (Addr×Obj)} {σ:St} {H:Hp} {s:Shared} {E:Value->Shared->Prop}
theorem Inv.wish(I:Inv X pins σ H s)(E:Value->Shared->Prop):Inv (X.wish E) pins σ H s:={I.ok.wish E,I.os,I.bare,I.base,I.loc,I.cell,I.free,I.lY,I.pin,I.hok,I.len}
theorem Inv.nM(I:Inv (X.wish E) pins σ H s):Inv X pins σ H s:={I.ok.nM,I.os,I.bare,I.base,I.loc,I.cell,I.free,I.lY,I.pin,I.hok,(I.len)}
theorem SP.nM{D:Ends}{f:Flow}{s':Shared}(h:SP (X.wish E) pins D f s'):SP X pins D f s':=by
 cases f with
 |next=>intros σ' H' I q h;exact{σ',H',I.nM,(q)}
 |brk=>intros σ' H' I q h;exact{σ',H',I.nM,(q)}
 |cont=>intros σ' H' I q h;exact{σ',H',I.nM,(q)}
 |ret u=>intros v σ' H' I r q h;exact{v,σ',H',I.nM,r,(q)}
theorem iT.pK{st:List Stmt}{t:TS}(h:iT X.pK st t):iT X st t:=λpins s σ H D I hw=>
 wpAny_mono (h pins s σ H D (I.wish _) hw) (λ_ _ q=>q.nM) λ_ _ z=>False.elim z
end
section
variable {X:Cx} {st:Stmt} {rest:List Stmt} {t u:TS} {e:Expr} {te:TE} {pos:Pos}
def aFZ:TS:=λD σ H=>D.nx σ H
def aNX(t u:TS):TS:=λD σ H=>t { D with nx:=u D } σ H
def bH:iT X [] aFZ:=λ_ _ σ H _ I h=>wpAny_execs_nil {σ,H,I,(h)}
def ahu(h1:PS X st t)(h2:iT X rest u):iT X (st::rest) (aNX t u):=by
 intro pins s σ H D I h;refine wpAny_execs_cons (aR (h1 pins s σ H { D with nx:=u D } I h) λf s1 q=>?_);cases f with
 |next=>
  intros σ' H' I' q q;exact h2 pins s1 σ' H' D I' q
 |ret v=>exact q
 |brk=>exact q
 |cont=>exact q
def aM(h1:PS X st t):iT X [st] t:=by
 intro pins s σ H D I h;refine wpAny_execs_cons (aR (h1 pins s σ H D I h) λf s1 q=>?_);cases f with
 |next=>exact wpAny_execs_nil q
 |ret v=>exact q
 |brk=>exact q
 |cont=>exact q
def Inv.quiet{pins:List (Addr×Obj)}{σ:St}{H:Hp}{s:Shared}(I:Inv X pins σ H s):interactive X.env=false:=by simp[interactive,I.ok.kind]
def aza(te:TE):TS:=λD σ H=>te σ H λ_ H1=>D.nx σ H1
def dJ(he:PE X e te)(hs:swapsWith e none pos.line X.env=pure false:=by rfl):PS X (.Expr e pos) (aza te):=by
 intro pins s σ H D I h;exact wpAny_Expr_any (aR (he pins s σ H _ I h) λv s1 ⟨x,H1,I1,r1,q1⟩=>{σ,H1,I1,(q1)}) I.quiet hs
def atw(te:TE):TS:=λD σ H=>te σ H D.rt
def aF(he:PE X e te):PS X (.Return (some e) pos) (atw te):=by
 intro pins s σ H D I h;exact wpAny_Return_some (aR (he pins s σ H _ I h) λv s1 ⟨x,H1,I1,r1,q1⟩=>{x,σ,H1,I1,r1,(q1)})
def aIt(c:TT)(t u:TS):TS:=λD σ H=>c σ H λb H1=>if b=true then t D σ H1 else u D σ H1
def bD{c:Expr}{a b:List Stmt}{tc:TT}(hc:PT X c tc)(ha:iT X a t)(hb:iT X b u):PS X (.If c a b pos) (aIt tc t u):=by
 intro pins s σ H D I h;refine wpAny_If (aR (hc pins s σ H _ I h) λd s1 ⟨H1,I1,q1⟩=>?_);cases d with
 |true=>exact ha pins s1 σ H1 D I1 q1
 |false=>exact hb pins s1 σ H1 D I1 q1
def aIl:TS:=λ_ _ _=>False
def ajL:PS X st aIl:=λ_ _ _ _ _ _ h=>h.elim
end
abbrev TG:=V->St->Hp->(St->Hp->Prop)->Prop
abbrev nY:=List V->St->Hp->(St->Hp->Prop)->Prop
def PG(X:Cx)(target:Expr)(t:TG):Prop:=
 ∀(pins:List (Addr×Obj)) (s:Shared) (σ:St) (H:Hp) (v:V) (u:Value) (Q:St->Hp->Prop),Inv X pins σ H s->RelV v u->t v σ H Q->
  wpAny (model X.prog X.w) X.A (assign target X.env u) (λ_ s'=>∃σ' H',Inv X pins σ' H' s'/\Q σ' H') X.xe s
def uz(X:Cx)(ts:List Expr)(t:nY):Prop:=
 ∀(pins:List (Addr×Obj)) (s:Shared) (σ:St) (H:Hp) (vs:List V) (us:List Value) (Q:St->Hp->Prop),Inv X pins σ H s->Vals vs us->t vs σ H Q->
  wpAny (model X.prog X.w) X.A (assignInOrder ((assignEach ts X.env).map (·.2)) us) (λ_ s'=>∃σ' H',Inv X pins σ' H' s'/\Q σ' H') X.xe s
abbrev abR:=V->V->V->Hp->(Hp->Prop)->Prop
def aoi(X:Cx)(t:abR):Prop:=
 ∀(pins:List (Addr×Obj)) (s:Shared) (σ:St) (H:Hp) (o i v:V) (ov iv u:Value) (Q:Hp->Prop),Inv X pins σ H s->RelV o ov->RelV i iv->RelV v u->t o i v H Q->
  wpAny (model X.prog X.w) X.A (setItem ov iv u) (λ_ s'=>∃H',Inv X pins σ H' s'/\Q H') X.xe s
section
variable {X:Cx} {pos:Pos}
def iw(i:Nat):TG:=λv σ H Q=>Q (σ.set i (some v)) H
def aa7{i:Nat}{x:Str}(hN:X.N.Nodup)(hi:X.N[i]?=some x)(hx:Loc X.env.scope x)(hf:X.fn x=true∨X.env.scope.names.lookup x=some .local:=by first|exact .inl rfl|exact .inr rfl|assumption):PG X (.Name x pos) (iw i):=by
 intro pins s σ H v u Q I r h;exact wpAny_assign_Name (Gb I hN hi hx r (λs' I'=>{_,H,I',h}) hf)
def aiH:nY:=λvs σ H Q=>vs=[]/\Q σ H
inductive ayN(t:TG)(u:nY)(vs:List V)(σ:St)(H:Hp)(Q:St->Hp->Prop):Prop|mk (v:V) (r:List V) (h:vs=v::r) (q:t v σ H λσ' H'=>u r σ' H' Q)
def Qg(t:TG)(u:nY):nY:=λvs σ H Q=>ayN t u vs σ H Q
def Gv:uz X [] aiH:=by
 intro pins s σ H vs us Q I r h;intros e h h;subst e;cases r;exact assignInOrder_nil {σ,H,I,(h)}
def nG{e:Expr}{es:List Expr}{t:TG}{u:nY}(h1:PG X e t)(h2:uz X es u)
  (hs:(assignEach (e::es) X.env).map (·.2)=assign e X.env::(assignEach es X.env).map (·.2):=by rfl):uz X (e::es) (Qg t u):=by
 intro pins s σ H vs us Q I r h;intros v vr e1 h h;subst e1;cases r with
 |cons r rr=>
  rw[hs];refine assignInOrder_cons (aR (h1 pins s σ H _ _ _ I r h) λ_ s1 ⟨σ1,H1,I1,q1⟩=>?_);exact h2 pins s1 σ1 H1 _ _ Q I1 rr q1
def Nu(K:aD)(n:Nat)(t:nY):TG:=λv σ H Q=>∃a xs,v = .ref a/\aq K H a xs/\xs.length=n/\t xs σ H Q
def aD9{es:List Expr}{k:Nat}{t:nY}{n:Nat}(hc:X.calm=true)(h:uz X es t)
  (hn:(assignEach es X.env).length=n:=by rfl) (hst:(assignEach es X.env).findIdx? (·.1)=none:=by rfl):PG X (.Tuple es k pos) (Nu X.K n t):=by
 intro pins s σ H v u Q I r hw;intros a xs e1 hq hl hw hw;subst e1;cases r;obtain⟨its,rv,ht,hz⟩:=I.tuple hq;refine assign_Tuple_tuple (I.ok.hd hc) ht (by simp[hn,<-hl,rv.length]) hst λh' hx=>?_;have I1:Inv X pins σ H { s with heap:=h' }:=I.kept (t':=s.toks) λb o e=>hx b o (gw (cP e)) e;exact h pins _ σ H xs _ Q I1 (by simpa using rv) hw
def asM(to ti:TE)(t:abR):TG:=λv σ H Q=>to σ H λo H1=>ti σ H1 λi H2=>t o i v H2 λH3=>Q σ H3
def xH{o i:Expr}{to ti:TE}{t:abR}(ho:PE X o to)(hi:PE X i ti)(hs:aoi X t)
  (ha:∀v,assign (.Subscript o i pos) X.env v=(do
   let ov<-holding [v] (eval o X.env)
   let iv<-holding [v,ov] (eval i X.env)
   standAt pos
   holding [v,ov,iv] (setItem ov iv v)
   release [v,ov,iv] []):=by intro _;rfl):PG X (.Subscript o i pos) (asM to ti t):=by
 intro pins s σ H v u Q I r h;rw[ha];refine wpAny_bind (wpAny_holding (aR (ho pins s σ H _ I h) λov s1 ⟨x,H1,I1,r1,q1⟩=>?_));refine wpAny_bind (wpAny_holding (aR (hi pins s1 σ H1 _ I1 q1) λiv s2 ⟨y,H2,I2,r2,q2⟩=>?_));refine wpAny_bind (wpAny_standAt (wpAny_bind (wpAny_holding (aR (hs pins s2 σ H2 x y v ov iv u _ I2 r1 r2 r q2) λ_ s3 ⟨H3,I3,q3⟩=>?_))));exact wpAny_release {σ,H3,I3,(q3)}
def v8(te:TE)(g:TG):TS:=λD σ H=>te σ H λx H1=>g x σ H1 D.nx
def qG{tg e:Expr}{te:TE}{g:TG}(he:PE X e te)(hg:PG X tg g)(hs:swapsWithSole [tg] e pos.line X.env=pure false:=by rfl)(hw:swappedStores [tg] e X.env=pure none:=by rfl)
  (h1:(assignEach [tg] X.env).map (·.2)=[assign tg X.env]:=by rfl):PS X (.Assign [tg] e pos) (v8 te g):=by
 intro pins s σ H D I h;refine wpAny_Assign_stores (aR (he pins s σ H _ I h) λv s1 ⟨x,H1,I1,r1,q1⟩=>?_) hs hw;rw[h1];exact aR (hg pins s1 σ H1 x v _ I1 r1 q1) λ_ s2 q=>q
def fj{i:Nat}{x:Str}{e:Expr}{te:TE}{pos':Pos}(hN:X.N.Nodup)(hi:X.N[i]?=some x)(hx:Loc X.env.scope x)(he:PE X e te)(hs:swapsWith e (some (.Name x pos')) pos.line X.env=pure false:=by rfl)(hf:X.fn x=true∨X.env.scope.names.lookup x=some .local:=by first|exact .inl rfl|exact .inr rfl|assumption):
  PS X (.Assign [.Name x pos'] e pos) (v8 te (iw i)):=by
 intro pins s σ H D I h;refine wpAny_Assign_Name (aR (he pins s σ H _ I h) λv s1 ⟨y,H1,I1,r1,q1⟩=>?_) hs;exact Gb I1 hN hi hx r1 (λs2 I2=>{_,H1,I2,q1}) hf
end
section
variable {X:Cx} {pos:Pos}
def aFS(c:TT)(tb:TS):TS:=λD σ H=>∃W:Nat->St->Hp->Prop,(∃m,W m σ H)/\∀m σ H,W m σ H->
 c σ H λb H1=>if b=true then ∃N:St->Hp->Prop,(∀σ' H',N σ' H'->∃m',m'<m/\W m' σ' H')/\tb { D with nx:=N,ct:=N,bk:=D.nx } σ H1 else D.nx σ H1
def pY{c:Expr}{body:List Stmt}{tc:TT}{tb:TS}(hp:PassesOwn (model X.prog X.w) X.A X.env X.xe)(hc:PT X c tc)(hb:iT X body tb):PS X (.While c body [] pos) (aFS tc tb):=by
 intro pins s σ H D I h;obtain⟨W,⟨m0,w0⟩,turn⟩:=h;refine wpAny_While (codeAny_whileLoop (λn s'=>∃σ' H',Inv X pins σ' H' s'/\W n σ' H') ?_ m0 {σ,H,I,(w0)});rintro n s1 ⟨σ1,H1,I1,w1⟩;refine wpAny_passesOwn hp (aR (hc pins s1 σ1 H1 _ I1 (turn n σ1 H1 w1)) λb s2 ⟨H2,I2,q2⟩=>?_);cases b with
 |true=>
  intros N hN q2 q2;rw[if_pos rfl];refine wpAny_passesOwn hp (aR (hb pins s2 σ1 H2 _ I2 q2) λf s3 q3=>?_);cases f with
  |next=>
   intros σ3 H3 I3 n3 q3;obtain⟨m',hm,w3⟩:=hN σ3 H3 n3;exact{m',hm,σ3,H3,I3,(w3)}
  |cont=>
   intros σ3 H3 I3 n3 q3;obtain⟨m',hm,w3⟩:=hN σ3 H3 n3;exact{m',hm,σ3,H3,I3,(w3)}
  |brk=>exact q3
  |ret v=>exact q3
 |false=>
  rw[if_neg fu];exact wpAny_execs_nil {σ1,H2,I2,(q2)}
end
section
variable {s:Shared}{tg:Expr}{P:Program}{w:World}{K:aD}
structure It where
 go:Nat->Hp->Prop
 iV:Nat->Hp->V->Hp->Prop
 stop:Nat->Hp->Prop
def jW(X:Cx)(pins:List (Addr×Obj))(H:Hp)(b:Addr):Prop:=
 H b=none/\b≠X.env.locals/\b∉X.fs/\(b∈X.ex∨X.s₀.heap.objs.size<=b)/\(∀x c,X.env.cells.lookup x=some c->c≠b)/\∀p∈X.pn++pins,p.1≠b
def Inv.mL{X:Cx}{pins:List (Addr×Obj)}{σ:St}{H H':Hp}{b:Addr}(I:Inv X pins σ H s)(hb:s.heap.objs.size<=b)(hn:H' b=none):jW X pins H' b:=by
 refine{hn,Lh (ig I.lt hb),I.aIO hb,.inr (eV I.sz hb),λx c e z=>?_,λp hp z=>?_}
 .obtain⟨v,q⟩:=I.cell x c e;exact absurd (ig q.lt (by rw[z];exact hb)) (j4 _)
 .exact absurd (ig (cP (I.pin p hp).1) (by rw[z];exact hb)) (j4 _)
structure Turn(P:Program)(w:World)(K:aD)(tg:Expr)(J:It)(fp:List Addr)(it:Addr)(tn:Nat->Heap->Prop)(cm:Cx->Prop:=λX=>X.calm=true):Prop where
 mem:it∈fp
 obj:∀i h,tn i h->∀b∈fp,∃o,h.get? b=some o/\∀v,o.data≠ .cell v
 keep:∀i h h',tn i h->(∀b∈fp,∀o,h.get? b=some o->h'.get? b=some o)->tn i h'
 item:∀(X:Cx),X.prog=P->X.w=w->X.K=K->cm X->∀(i:Nat) (pins:List (Addr×Obj)) (s:Shared) (σ:St) (H:Hp) (E:Value->Shared->Prop),Inv X pins σ H s->(∀b∈fp,jW X pins H b)->tn i s.heap->J.go i H->
  wpAny (model P w) X.A (pyNext (.ref it)) (λr s1=>∃u,r=some u/\
   wpAny (model P w) X.A (letOwnedTupleGo tg (.ref it) u) (λ_ s2=>∃x H',Inv X pins σ H' s2/\RelV x u/\J.iV i H x H'/\tn (i+1) s2.heap/\∀b∈fp,H' b=none) E s1) E s
 done:∀(X:Cx),X.prog=P->X.w=w->X.K=K->cm X->∀(i:Nat) (pins:List (Addr×Obj)) (s:Shared) (σ:St) (H:Hp) (E:Value->Shared->Prop),Inv X pins σ H s->(∀b∈fp,jW X pins H b)->tn i s.heap->J.stop i H->
  wpAny (model P w) X.A (pyNext (.ref it)) (λr s1=>r=none/\Inv X pins σ H s1) E s
 self:∀(A:Around) (i:Nat) (s:Shared) (Q:Value->Shared->Prop) (E:Value->Shared->Prop),tn i s.heap->Q (.ref it) s->wpAny (model P w) A (pyIter (.ref it)) Q E s
abbrev TI:=St->Hp->(It->Hp->Prop)->Prop
def aqv(cm:Cx->Prop)(X:Cx)(pins:List (Addr×Obj))(σ:St)(tg:Expr)(R:It->Hp->Prop)(itv:Value)(s2:Shared):Prop:=
 ∃(it:Addr) (fp:List Addr) (tn:Nat->Heap->Prop) (J:It) (H':Hp),itv = .ref it/\Inv X pins σ H' s2/\Turn X.prog X.w X.K tg J fp it tn cm/\tn 0 s2.heap/\(∀b∈fp,jW X pins H' b)/\R J H'
abbrev PIE:=aqv λX=>X.calm=true
def Ft(cm:Cx->Prop)(X:Cx)(tg iter:Expr)(wi:TI):Prop:=
 ∀(pins:List (Addr×Obj)) (s:Shared) (σ:St) (H:Hp) (R:It->Hp->Prop),Inv X pins σ H s->wi σ H R->
  wpAny (model X.prog X.w) X.A (eval iter X.env) (λv s1=>wpAny (model X.prog X.w) X.A (pyIter v) (aqv cm X pins σ tg R) X.xe s1) X.xe s
def PI(X:Cx)(tg iter:Expr)(wi:TI):Prop:=Ft (λX=>X.calm=true) X tg iter wi
def vf{M:Model}{A:Around}{E:Value->Shared->Prop}{it:Addr}{u:Value}{o:Obj}{n:String}{vs:Array Value}{Q:Unit->Shared->Prop}(ho:s.heap.get? it=some o)(hc:o.cls = .type n)(hd:o.data = .fields vs)
  (hn:["enumerate","zip","dict_itemiterator","dict_reverseitemiterator","odict_iterator","itertools.zip_longest","itertools.pairwise"].contains n=false) (hQ:Q () s):wpAny M A (letOwnedTupleGo tg (.ref it) u) Q E s:=by
 unfold letOwnedTupleGo;cases tg<;>first
  |exact wpAny_pure hQ
  |(cases u<;>first
    |exact wpAny_pure hQ
    |(refine wpAny_bind (wpAny_load ho ?_);rw[hc,hd];show wpAny M A (if(["enumerate","zip","dict_itemiterator","dict_reverseitemiterator","odict_iterator","itertools.zip_longest","itertools.pairwise"].contains n&&vs[0]?==some (rawInt _))=true then _ else _) Q E s;rw[if_neg (by intro h;rw[hn,ao2]at h;cases h)];exact wpAny_pure hQ))
def uW(K:aD)(a:Addr):It:=
 {λi H=>∃xs x,aj K H a xs/\xs[i]?=some x,λi H x H'=>H'=H/\∀xs,aj K H a xs->xs[i]?=some x,λi H=>∃xs,aj K H a xs/\xs.length<=i}
def Jv(K:aD)(a:Addr):It:=
 {λi H=>∃xs x,aq K H a xs/\xs[i]?=some x,λi H x H'=>H'=H/\∀xs,aq K H a xs->xs[i]?=some x,λi H=>∃xs,aq K H a xs/\xs.length<=i}
def pZ(lo:Int)(n:Nat):It:={λi _=>i<n,λi H x H'=>H'=H/\x = .int (lo+i),λi _=>n<=i}
def MN(a it:Addr):Turn P w K tg (uW K a) [it] it (λi h=>h.IsListIter it a i) where
 mem:=by simp
 obj:=λi h st b hb=>by
  have e:b=it:=by simpa using hb
  subst e;intros o e c d st;exact{o,e,λv z=>by rw[d]at z;cases z}
 keep:=λi h h' st k=>st.at λo e=>k it (by simp) o e
 item:=by
  intro X hP hw hK hc i pins s σ H E I hf st hg;subst hP hw hK;intros xs x hq hx hg;obtain⟨its,rv,p,hz⟩:=I.list hq;obtain⟨u,hu,ru⟩:=rv.get hx;obtain⟨f0,f1,f2,f3,f4,f5⟩:=hf it (by simp);refine wpAny_pyNext_list_item st p.isList (x:=u) (by simpa using hu) λh' st' sb=>?_;have I1:Inv X pins σ H { s with heap:=h' }:=I.turned (t':=s.toks) (λb o hb e=>(sb.2 b hb).trans e) f0 f1 f3 f4 f5;obtain⟨o,e,c,d⟩:=id st';exact{u,rfl,vf (s:={ s with heap:=h' }) e c d ∅ {x,H,I1,ru,{rfl,λys hy=>by rw[I.Mv hy hq];exact hx},st',λb hb=>(hf b hb).1}}
 done:=by
  intro X hP hw hK hc i pins s σ H E I hf st hg;subst hP hw hK;intros xs hq hx hg;obtain⟨its,rv,p,hz⟩:=I.list hq;obtain⟨f0,f1,f2,f3,f4,f5⟩:=hf it (by simp);have hl:=rv.length;exact wpAny_pyNext_list_end (I.ok.hd hc) st p.isList (by simp;lia) λh' eb=>{rfl,I.turned (t':=s.toks) (λb o hb e=>eb b o hb e) f0 f1 f3 f4 f5}
 self:=λ_ _ _ _ _ st h=>wpAny_pyIter_listiter st h
def aD7(a it:Addr):Turn P w K tg (Jv K a) [it] it (λi h=>h.IsTupleIter it a i) where
 mem:=by simp
 obj:=λi h st b hb=>by
  have e:b=it:=by simpa using hb
  subst e;intros o e c d st;exact{o,e,λv z=>by rw[d]at z;cases z}
 keep:=λi h h' st k=>st.at λo e=>k it (by simp) o e
 item:=by
  intro X hP hw hK hc i pins s σ H E I hf st hg;subst hP hw hK;intros xs x hq hx hg;obtain⟨its,rv,p,hz⟩:=I.tuple hq;obtain⟨u,hu,ru⟩:=rv.get hx;obtain⟨f0,f1,f2,f3,f4,f5⟩:=hf it (by simp);refine wpAny_pyNext_tuple_item st (show s.heap.IsTuple a its.toArray from p) (x:=u) (by simpa using hu) λh' st' sb=>?_;have I1:Inv X pins σ H { s with heap:=h' }:=I.turned (t':=s.toks) (λb o hb e=>(sb.2 b hb).trans e) f0 f1 f3 f4 f5;obtain⟨o,e,c,d⟩:=id st';exact{u,rfl,vf (s:={ s with heap:=h' }) e c d ∅ {x,H,I1,ru,{rfl,λys hy=>by rw[I.afl hy hq];exact hx},st',λb hb=>(hf b hb).1}}
 done:=by
  intro X hP hw hK hc i pins s σ H E I hf st hg;subst hP hw hK;intros xs hq hx hg;obtain⟨its,rv,p,hz⟩:=I.tuple hq;obtain⟨f0,f1,f2,f3,f4,f5⟩:=hf it (by simp);have hl:=rv.length;exact wpAny_pyNext_tuple_end (I.ok.hd hc) st (show s.heap.IsTuple a its.toArray from p) (by simp;lia) λh' eb=>{rfl,I.turned (t':=s.toks) (λb o hb e=>eb b o hb e) f0 f1 f3 f4 f5}
 self:=λ_ _ _ _ _ st h=>wpAny_pyIter_tupleiter st h
def axX(it:Addr)(lo:Int)(n:Nat):Turn P w K tg (pZ lo n) [it] it (λi h=>IsRangeIter h it (lo+(i:Nat)*1) ((n:Int)-(i:Nat)) 1) where
 mem:=by simp
 obj:=λi h st b hb=>by
  have e:b=it:=by simpa using hb
  subst e;exact{_,st,λv z=>by
   have z':Data.fields _=Data.cell v:=z;cases z'}
 keep:=λi h h' st k=>k it (by simp) _ st
 item:=by
  intro X hP hw hK hc i pins s σ H E I hf st hg;subst hP hw hK;obtain⟨f0,f1,f2,f3,f4,f5⟩:=hf it (by simp);have W:=Walks.range (prog:=X.prog) (w:=X.w) (I.ok.hd hc) it lo 1 n;refine W.item i s _ _ hg st λv h' tk hv st' kk=>?_;intros t rfl hv;have I1:Inv X pins σ H { s with heap:=h',toks:=tk }:=I.turned (λb o hb e=>kk b o (by simpa using hb) e) f0 f1 f3 f4 f5;refine{(),vf (s:={ s with heap:=h',toks:=tk }) (n:= "range_iterator") st' rfl rfl ∅ {.int (lo+i),H,I1,{t,?_},{rfl,(rfl)},st',λb hb=>(hf b hb).1}};rw[Int.mul_one]
 done:=by
  intro X hP hw hK hc i pins s σ H E I hf st hg;subst hP hw hK;obtain⟨f0,f1,f2,f3,f4,f5⟩:=hf it (by simp);exact wpAny_pyNext_range_end (I.ok.hd hc) st (by have:n<=i:=hg;lia) λh' eb=>{rfl,I.turned (t':=s.toks) (λb o hb e=>eb b o hb e) f0 f1 f3 f4 f5}
 self:=λ_ _ _ _ _ st h=>wpAny_pyIter_rangeiter st h
end
section
variable {X:Cx} {tg:Expr}
section
variable {pins:List (Addr×Obj)}{σ:St}{H:Hp}{s:Shared}{a:Expr}{ta:TA}{p pos:Pos}{fp:List Addr}{h:Heap}
def asL(K:aD)(tl:TE):TI:=λσ H R=>tl σ H λx H1=>∃a,x = .ref a/\(∃xs,aj K H1 a xs)/\R (uW K a) H1
def anx{R:It->Hp->Prop}{E:Value->Shared->Prop}{lo hi:Int}{t u v:Tok}{tk:Nat}(I:Inv X pins σ H s)(h1:-(2^62)<=lo)(h2:lo<2^62)(h3:-(2^62)<=hi)(h4:hi<2^62)
  (q:R (pZ lo (hi-lo).toNat) H):wpAny (model X.prog X.w) X.A (pyIter (.ref s.heap.objs.size)) (PIE X pins σ tg R) E { s with heap:=s.heap.push { cls:= .type "range",data:= .fields #[.int lo t,.int hi u,.int 1 v] },toks:=tk }:=by
 refine wpAny_pyIter_range (IsRange.new ..) (small_one h1 h2 h3 h4) ?_;have I1:Inv X pins σ H { s with heap:=s.heap.push { cls:= .type "range",data:= .fields #[.int lo t,.int hi u,.int 1 v] },toks:=tk }:=I.kept λb o e=>Heap.get?_push_of_some _ e;refine{(s.heap.push { cls:= .type "range",data:= .fields #[.int lo t,.int hi u,.int 1 v] }).objs.size,[(s.heap.push { cls:= .type "range",data:= .fields #[.int lo t,.int hi u,.int 1 v] }).objs.size],_,_,H,rfl,
  I1.kept (t':=tk) λb o e=>Heap.get?_push_of_some _ e,axX _ lo (hi-lo).toNat,?_,λb hb=>?_,q}
 .have e1:lo+((0:Nat):Int)*1=lo:=by simp
  have e2:(((hi-lo).toNat:Nat):Int)-((0:Nat):Int)=Builtin.Range.rangeSize lo hi 1:=by rw[rangeSize_one];split<;>lia
  show IsRangeIter _ _ (lo+((0:Nat):Int)*1) ((((hi-lo).toNat:Nat):Int)-((0:Nat):Int)) 1;rw[e1,e2];exact Heap.get?_push_size _ rfl
 .have e:b=(s.heap.push { cls:= .type "range",data:= .fields #[.int lo t,.int hi u,.int 1 v] }).objs.size:=by simpa using hb
  subst e;exact I1.mL (bK _) (I1.hok.fresh (bK _))
inductive aw8(vs:List V)(H:Hp)(R:It->Hp->Prop):Prop|mk (j:Int) (h:vs=[.int j]) (h1:-(2^62)<=j) (h2:j<2^62) (q:R (pZ 0 j.toNat) H)
def aHJ(ta:TA):TI:=λσ H R=>ta σ H λvs H1=>aw8 vs H1 R
def aDC(ta:TA):TI:=λσ H R=>ta σ H λvs H1=>∃i j:Int,vs=[.int i,.int j]/\(-(2^62)<=i/\i<2^62/\-(2^62)<=j/\j<2^62)/\R (pZ i (j-i).toNat) H1
def fL(hg:Gl X "range")(hm:X.mg "range" = none)(ha:PA X [a] ta)(hs:starEach [a] X.env=[(false,eval a X.env)]:=by rfl):PI X tg (.Call (.Name "range" p) [a] [] pos) (aHJ ta):=by
 intro pins s σ H R I h;refine Call_ (qJ I hg hm boot_range (uR (aR (ha pos pins s σ H _ I h) λus s1 ⟨vs,H1,I1,r1,q1⟩=>?_) hs rfl));intros j e q1 q2 q q1;subst e;cases r1 with
 |cons r rr=>
  cases rr;intros t rfl r;exact call_range_1 (anx I1 ⋯ ⋯ q1 q2 (by simpa using q))
def xX{b:Expr}(hg:Gl X "range")(hm:X.mg "range" = none)(ha:PA X [a,b] ta)(hs:starEach [a,b] X.env=[(false,eval a X.env),(false,eval b X.env)]:=by rfl)(hs2:starEach [b] X.env=[(false,eval b X.env)]:=by rfl):
  PI X tg (.Call (.Name "range" p) [a,b] [] pos) (aDC ta):=by
 intro pins s σ H R I h;refine Call_ (qJ I hg hm boot_range (uR (aR (ha pos pins s σ H _ I h) λus s1 ⟨vs,H1,I1,r1,q1⟩=>?_) (by rw[hs,hs2]) (by rw[hs2];rfl)));obtain⟨i,j,e,⟨q1,q2,q3,q4⟩,q⟩:=q1;subst e;cases r1 with
 |cons r rr=>
  cases rr with
  |cons r' rr=>
   cases rr;intros t rfl r;intros t' rfl r';exact call_range_2 (anx I1 q1 q2 q3 q4 q)
def awa(wi:TI)(g:TG)(tb:TS):TS:=λD σ H=>wi σ H λJ H1=>∃W:Nat->Nat->St->Hp->Prop,(∃m,W 0 m σ H1)/\∀i m σ H,W i m σ H->
 (J.stop i H/\D.nx σ H)∨(J.go i H/\∃N:St->Hp->Prop,(∀σ' H',N σ' H'->∃m',m'<m/\W (i+1) m' σ' H')/\∀x H',J.iV i H x H'->g x σ H' λσ2 H2=>tb { D with nx:=N,ct:=N,bk:=D.nx } σ2 H2)
def Hs(fp:List Addr)(h:Heap):List (Addr×Obj):=fp.filterMap λb=>(h.get? b).map λo=>(b,o)
def E7{b:Addr}{o:Obj}(hb:b∈fp)(e:h.get? b=some o):(b,o)∈Hs fp h:=VB.mpr {b,hb,by rw[e];rfl}
def aSp{p:Addr×Obj}(hp:p∈Hs fp h):p.1∈fp/\h.get? p.1=some p.2:=by
 obtain⟨b,hb,e⟩:=VB.mp hp;cases q:h.get? b with
 |none=>rw[q]at e;cases e
 |some o=>
  rw[q]at e;have e':(b,o)=p:=jT e;subst e';exact{hb,(q)}
def Inv.pinned(I:Inv X pins σ H s)(hf:∀b∈fp,jW X pins H b)(ho:∀b∈fp,∃o,s.heap.get? b=some o/\∀v,o.data≠ .cell v):Inv X (pins++Hs fp s.heap) σ H s:=
 I.aii λp hp=>(oF.mp hp).elim (λz=>I.pin p (mC _ z)) λz=>by
  obtain⟨hb,e⟩:=aSp z;obtain⟨f0,f1,f2,_⟩:=hf p.1 hb;obtain⟨o,e',d⟩:=ho p.1 hb;rw[e]at e';cases e';exact{e,f0,f1,f2,(d)}
def Inv.HY{pl:List (Addr×Obj)}(I:Inv X (pins++pl) σ H s):Inv X pins σ H s:=I.aii λp hp=>I.pin p (mC _ (aaF _ hp))
def gk{iter:Expr}{body:List Stmt}{wi:TI}{g:TG}{tb:TS}(hp:PassesOwn (model X.prog X.w) X.A X.env X.xe)(hc:X.calm=true)(hi:PI X tg iter wi)(hg:PG X tg g)(hb:iT X body tb)
  (hs:∀x,foldedSetIterable iter X.env x=pure x:=by intro _;rfl):PS X (.For tg iter body [] pos) (awa wi g tb):=by
 intro pins s σ H D I h;refine wpAny_For (aR (hi pins s σ H _ I h) λv s1 h1=>aR h1 λitv s2 h2=>?_) hs;obtain⟨it,fp,tn,J,H2,e,I2,T,st2,f2,W,⟨m0,w0⟩,turn⟩:=h2;subst e;have stat:∀{H':Hp},(∀b∈fp,H' b=none)->∀b∈fp,jW X pins H' b:=λhn b hb=>{hn b hb,(f2 b hb).2};refine codeAny_forLoop_any (λn s'=>∃i σ' H',Inv X pins σ' H' s'/\tn i s'.heap/\(∀b∈fp,H' b=none)/\W i n σ' H') ?_ m0 {0,σ,H2,I2,st2,λb hb=>(f2 b hb).1,w0};rintro n s3 ⟨i,σ3,H3,I3,st3,fr3,w3⟩;rcases turn i n σ3 H3 w3 with⟨stop,qn⟩|⟨go,N,hN,step⟩
 .refine wpAny_passesOwn hp (aR (T.done X rfl rfl rfl hc i pins s3 σ3 H3 X.xe I3 (stat fr3) st3 stop) λr s4 ⟨hr,I4⟩=>?_);subst hr;exact wpAny_execs_nil {σ3,H3,I4,(qn)}
 .refine wpAny_passesOwn hp (aR (T.item X rfl rfl rfl hc i pins s3 σ3 H3 X.xe I3 (stat fr3) st3 go) λr s4 ⟨u,hr,h4⟩=>?_);subst hr;refine wpAny_passesOwn hp (aR h4 λ_ s5 ⟨x,H5,I5,r5,y5,Bj,Jw⟩=>?_);have I5':=I5.pinned (stat Jw) (T.obj _ _ Bj);refine wpAny_passesOwn hp (aR (hg _ s5 σ3 H5 x u _ I5' r5 (step x H5 y5)) λ_ s6 ⟨σ6,H6,I6,q6⟩=>?_);refine wpAny_passesOwn hp (aR (hb _ s6 σ6 H6 _ I6 q6) λf s7 q7=>?_);have again:∀{σ7:St} {H7:Hp},Inv X (pins++Hs fp s5.heap) σ7 H7 s7->N σ7 H7->∃m,m<n/\∃i σ' H',Inv X pins σ' H' s7/\tn i s7.heap/\(∀b∈fp,H' b=none)/\W i m σ' H':=λ{σ7 H7} I7 n7=>by
   obtain⟨m',hm,w7⟩:=hN σ7 H7 n7;refine{m',hm,i+1,σ7,H7,I7.HY,T.keep _ _ _ Bj λb hb o e=>(I7.pin (b,o) (mC _ (mC _ (E7 hb e)))).1,λb hb=>?_,w7};obtain⟨o,e,d⟩:=T.obj _ _ Bj b hb;exact(I7.pin (b,o) (mC _ (mC _ (E7 hb e)))).2.1
  cases f with
  |next=>intros σ7 H7 I7 n7 q7;exact again I7 n7
  |cont=>intros σ7 H7 I7 n7 q7;exact again I7 n7
  |brk=>intros σ7 H7 I7 q7 q7;exact{σ7,H7,I7.HY,(q7)}
  |ret v=>intros x7 σ7 H7 I7 r7 q7 q7;exact{x7,σ7,H7,I7.HY,r7,(q7)}
end
end
def kY{lo:Int}{n:Nat}{g:TG}{tb:TS}{D:Ends}{σ:St}{H:Hp}(Pv:Nat->St->Hp->Prop)(h0:Pv 0 σ H)
  (hs:∀i σ H,i<n->Pv i σ H->g (.int (lo+i)) σ H λσ2 H2=>tb { D with nx:=Pv (i+1),ct:=Pv (i+1),bk:=D.nx } σ2 H2) (hd:∀σ H,Pv n σ H->D.nx σ H):
  ∃W:Nat->Nat->St->Hp->Prop,(∃m,W 0 m σ H)/\∀i m σ H,W i m σ H->
   ((pZ lo n).stop i H/\D.nx σ H)∨((pZ lo n).go i H/\∃N:St->Hp->Prop,(∀σ' H',N σ' H'->∃m',m'<m/\W (i+1) m' σ' H')/\∀x H',(pZ lo n).iV i H x H'->g x σ H' λσ2 H2=>tb { D with nx:=N,ct:=N,bk:=D.nx } σ2 H2):=by
 refine{λi m σ H=>m=n-i/\i<=n/\Pv i σ H,{n,by simp,fJ _,h0},?_};rintro i m σ H ⟨rfl,hi,p⟩;by_cases hlt:i<n
 .refine .inr {hlt,Pv (i+1),λσ' H' p'=>{n-(i+1),⋯,rfl,hlt,p'},λx H' y=>?_};intros e y y;subst e y;exact hs i σ _ hlt p
 .have e:i=n:=⋯;subst e;exact .inl {bK _,hd σ H p}
abbrev R2:=V->V->Hp->VK->Prop
def cQ(X:Cx)(f:Value->Value->Sem Value)(r:R2):Prop:=
 ∀(pins:List (Addr×Obj)) (s:Shared) (σ:St) (H:Hp) (x y:V) (v u:Value) (Q:VK),Inv X pins σ H s->RelV x v->RelV y u->r x y H Q->
  wpAny (model X.prog X.w) X.A (f v u) (EP X pins σ Q) X.xe s
def RX(X:Cx)(f:Value->Sem Value)(r:V->Hp->VK->Prop):Prop:=
 ∀(pins:List (Addr×Obj)) (s:Shared) (σ:St) (H:Hp) (x:V) (v:Value) (Q:VK),Inv X pins σ H s->RelV x v->r x H Q->
  wpAny (model X.prog X.w) X.A (f v) (EP X pins σ Q) X.xe s
def gY(X:Cx)(f:Value)(r:List V->Hp->VK->Prop):Prop:=
 ∀(pins:List (Addr×Obj)) (s:Shared) (σ:St) (H:Hp) (xs:List V) (us:List Value) (Q:VK),Inv X pins σ H s->Vals xs us->r xs H Q->
  wpAny (model X.prog X.w) X.A (call f us) (EP X pins σ Q) X.xe s
def oY(r:R2)(ta tb:TE):TE:=λσ H Q=>ta σ H λx H1=>tb σ H1 λy H2=>r x y H2 Q
def tUn(r:V->Hp->VK->Prop)(ta:TE):TE:=λσ H Q=>ta σ H λx H1=>r x H1 Q
inductive SII(C:Int->Int->Prop)(g:Int->Int->V)(x y:V)(H:Hp)(Q:VK):Prop|mk (i j:Int) (hx:x = .int i) (hy:y = .int j) (c:C i j) (q:Q (g i j) H)
def rI(C:Int->Int->Prop)(g:Int->Int->V):R2:=λx y H Q=>SII C g x y H Q
inductive SI0(g:Int->Int->V)(x y:V)(H:Hp)(Q:VK):Prop|mk (i j:Int) (hx:x = .int i) (hy:y = .int j) (q:Q (g i j) H)
def uw(g:Int->Int->V):R2:=λx y H Q=>SI0 g x y H Q
inductive SU(g:Int->V)(x:V)(H:Hp)(Q:VK):Prop|mk (i:Int) (hx:x = .int i) (q:Q (g i) H)
def rU(g:Int->V):V->Hp->VK->Prop:=λx H Q=>SU g x H Q
section
variable {X:Cx} {a b c:Expr} {ta tb tc:TE} {pos:Pos}
section
variable {f:Value->Value->Sem Value}{g:Int->Int->Int}
def Js(ha:PE X a ta)(hb:PE X b tb){pins:List (Addr×Obj)}{s:Shared}{σ:St}{H:Hp}{R:V->V->Hp->Prop}(I:Inv X pins σ H s)
  (h:ta σ H λx H1=>tb σ H1 λy H2=>R x y H2) {Q:Value->Shared->Prop} {f:Value->Value->Sem Value}
  (hf:∀v u s2 x y H2,Inv X pins σ H2 s2->RelV x v->RelV y u->R x y H2->wpAny (model X.prog X.w) X.A (f v u) Q X.xe s2):
  wpAny (model X.prog X.w) X.A (eval a X.env) (λv s₁=>wpAny (model X.prog X.w) X.A (eval b X.env) (λu s₂=>wpAny (model X.prog X.w) X.A (f v u) Q X.xe s₂) X.xe s₁) X.xe s:=by
 refine aR (ha pins s σ H _ I h) λv s1 ⟨x,H1,I1,r1,q1⟩=>?_;refine aR (hb pins s1 σ H1 _ I1 q1) λu s2 ⟨y,H2,I2,r2,q2⟩=>?_;exact hf v u s2 x y H2 I2 r1 r2 q2
def jg{op:Operator}{r:R2}(ho:cQ X (binaryOp op) r)(ha:PE X a ta)(hb:PE X b tb):PE X (.BinOp a op b pos) (oY r ta tb):=by
 intro pins s σ H Q I h;exact wpAny_BinOp (Js ha hb I h λv u s2 x y H2 I2 rx ry q=>ho pins s2 σ H2 x y v u Q I2 rx ry q)
def Mf{op:UnaryOp}{r:V->Hp->VK->Prop}(ho:RX X (unaryOp op) r)(ha:PE X a ta):PE X (.UnaryOp op a pos) (tUn r ta):=by
 intro pins s σ H Q I h;exact UnaryOp_ (aR (ha pins s σ H _ I h) λv s1 ⟨x,H1,I1,r1,q1⟩=>ho pins s1 σ H1 x v Q I1 r1 q1)
def C1{C:Int->Int->Prop}
  (rule:∀(i j:Int) (t u:Tok) (s:Shared) (Q:Value->Shared->Prop) (E:Value->Shared->Prop),C i j->Q (.int (g i j) s.toks) { s with toks:=s.toks+1 }->wpAny (model X.prog X.w) X.A (f (.int i t) (.int j u)) Q E s):
  cQ X f (rI C λi j=> .int (g i j)):=by
 intro pins s σ H x y v u Q I rx ry h;intros i j rfl rfl hc q h;intros t rfl rx;intros t' rfl ry;exact rule i j t t' s _ _ hc {.int (g i j),H,I.tok _,{()},q}
def afJ
  (rule:∀(i j:Int) (t u:Tok) (s:Shared) (Q:Value->Shared->Prop) (E:Value->Shared->Prop),Q (.int (g i j) s.toks) { s with toks:=s.toks+1 }->wpAny (model X.prog X.w) X.A (f (.int i t) (.int j u)) Q E s):
  cQ X f (uw λi j=> .int (g i j)):=by
 intro pins s σ H x y v u Q I rx ry h;intros i j rfl rfl q h;intros t rfl rx;intros t' rfl ry;exact rule i j t t' s _ _ {.int (g i j),H,I.tok _,{()},q}
def KH{g:Int->Int->Bool}
  (rule:∀(i j:Int) (t u:Tok) (s:Shared) (Q:Value->Shared->Prop) (E:Value->Shared->Prop),Q (.bool (g i j)) s->wpAny (model X.prog X.w) X.A (f (.int i t) (.int j u)) Q E s):
  cQ X f (uw λi j=> .bl (g i j)):=by
 intro pins s σ H x y v u Q I rx ry h;intros i j rfl rfl q h;intros t rfl rx;intros t' rfl ry;exact rule i j t t' s _ _ {.bl (g i j),H,I,rfl,q}
def aSe(i j:Int):Prop:=0<j/\j<1073741824
def awn(k:Nat):(0:Int)<=2^k:=by
 rw[two_pow_cast];exact Int.natCast_nonneg _
def aH7:cQ X (binaryOp .Add) (uw λi j=> .int (i+j)):=afJ λ_ _ _ _ _ _ _ q=>add_int q
def axb:cQ X (binaryOp .Sub) (uw λi j=> .int (i-j)):=afJ λ_ _ _ _ _ _ _ q=>sub_int q
def aKM:cQ X (binaryOp .FloorDiv) (rI aSe λi j=> .int (i/j)):=C1 λi j _ _ _ _ _ hc q=>by
 have h1:(0:Int)<j:=hc.1;have h2:j<1073741824:=hc.2;exact floordiv_int ⋯ (by rw[ae9 i ⋯];exact q) (.inl (an8 ⋯))
def aDc:cQ X (binaryOp .Mod) (rI (λ_ j=>0<j) λi j=> .int (i%j)):=C1 λi j _ _ _ _ _ hc q=>by
 have h1:(0:Int)<j:=hc;exact mod_int' ⋯ (by rw[aew i ⋯];exact q)
def aFO:cQ X (binaryOp .RShift) (rI (λ_ j=>0<=j) λi j=> .int (i/2^j.toNat)):=C1 λi j _ _ _ _ _ hc q=>
 rshift_int hc (by rw[ae9 i (awn _)];exact q)
def unI{f:Value->Sem Value}{g:Int->Int}
  (rule:∀(i:Int) (t:Tok) (s:Shared) (Q:Value->Shared->Prop) (E:Value->Shared->Prop),Q (.int (g i) s.toks) { s with toks:=s.toks+1 }->wpAny (model X.prog X.w) X.A (f (.int i t)) Q E s):
  RX X f (rU λi=> .int (g i)):=by
 intro pins s σ H x v Q I rx h;intros i rfl q h;intros t rfl rx;exact rule i t s _ _ {.int (g i),H,I.tok _,{()},q}
def JX:RX X (unaryOp .USub) (rU λi=> .int (-i)):=unI λ_ _ _ _ _ q=>neg_int q
end
end
def abI:V->V->Bool
 |.non,.non=>true | .non,.int _=>true | .int _,.non=>true | .non,.bl _=>true | .bl _,.non=>true | .non,.str _=>true | .str _,.non=>true
 |.int _,.int _=>true | .bl _,.bl _=>true | .str _,.str _=>true | .j9 _,.j9 _=>true
 |.int _,.str _=>true | .str _,.int _=>true | .bl _,.str _=>true | .str _,.bl _=>true
 |_,_=>false
def rEq:R2:=λx y H Q=>abI x y=true/\Q (.bl (decide (x=y))) H
def rNe:R2:=λx y H Q=>abI x y=true/\Q (.bl (!decide (x=y))) H
def ak0{i j:Int}:decide (V.int i=V.int j)=(i==j):=by
 rw[Ad];simp
def ain{i j:Bool}:decide (V.bl i=V.bl j)=(i==j):=by
 rw[Ad];simp
def akk{i j:Str}:decide (V.str i=V.str j)=(i==j):=by
 rw[Ad];simp
def ajj{i j:Array UInt8}:decide (V.j9 i=V.j9 j)=(i.toList==j.toList):=by
 rw[Ad];cases i;cases j;simp
section
variable {X:Cx} {a b c:Expr} {ta tb tc:TE} {pos:Pos}
section
variable {r r':R2}{op op':CmpOp}{x:V}{us:List Value}
def fH{pins:List (Addr×Obj)}{σ:St}{H:Hp}{s:Shared}{Q:VK}{k k':Bool}(I:Inv X pins σ H s)(q:Q (.bl k) H)(e:k=k'):EP X pins σ Q (.bool k') s:=by
 subst e;exact{.bl k,H,I,rfl,q}
def aPA:cQ X (compareOp .Eq) rEq:=by
 intro pins s σ H x y v u Q I rx ry h;intros hs q h;cases x with
 |non=>
  cases rx;cases y with
  |non=>cases ry;exact aCp (fH I q (by simp))
  |bl j=>cases ry;exact azQ (fH I q (by simp))
  |int j=>intros t' rfl ry;exact arV (fH I q (by simp))
  |str j=>intros t' rfl ry;exact aA1 (fH I q (by simp))
  |_=>exact absurd (show false=true from hs) fu
 |bl i=>
  cases rx;cases y with
  |non=>cases ry;exact aEz (fH I q (by simp))
  |bl j=>cases ry;exact eq_bool (fH I q ain)
  |str j=>intros t' rfl ry;exact aCu (fH I q (by simp))
  |_=>exact absurd (show false=true from hs) fu
 |int i=>
  intros t rfl rx;cases y with
  |non=>cases ry;exact aDW (fH I q (by simp))
  |int j=>intros t' rfl ry;exact eq_int (fH I q ak0)
  |str j=>intros t' rfl ry;exact aE5 (fH I q (by simp))
  |_=>exact absurd (show false=true from hs) fu
 |str i=>
  intros t rfl rx;cases y with
  |non=>cases ry;exact aBb (fH I q (by simp))
  |bl j=>cases ry;exact awl (fH I q (by simp))
  |int j=>intros t' rfl ry;exact aKt (fH I q (by simp))
  |str j=>intros t' rfl ry;exact eq_str (fH I q akk)
  |_=>exact absurd (show false=true from hs) fu
 |j9 i=>
  intros t rfl rx;cases y with
  |j9 j=>intros t' rfl ry;exact W.eq_bytes (fH I q ajj)
  |_=>exact absurd (show false=true from hs) fu
 |_=>cases y<;>exact absurd (show false=true from hs) fu
def ae7:cQ X (compareOp .NotEq) rNe:=by
 intro pins s σ H x y v u Q I rx ry h;intros hs q h;cases x with
 |non=>
  cases rx;cases y with
  |non=>cases ry;exact aBQ (fH I q (by simp))
  |bl j=>cases ry;exact aFu (fH I q (by simp))
  |int j=>intros t' rfl ry;exact aBV (fH I q (by simp))
  |str j=>intros t' rfl ry;exact aFG (fH I q (by simp))
  |_=>exact absurd (show false=true from hs) fu
 |bl i=>
  cases rx;cases y with
  |non=>cases ry;exact avK (fH I q (by simp))
  |bl j=>cases ry;exact ne_bool (fH I q (congrArg not ain))
  |str j=>intros t' rfl ry;exact aEK (fH I q (by simp))
  |_=>exact absurd (show false=true from hs) fu
 |int i=>
  intros t rfl rx;cases y with
  |non=>cases ry;exact aBS (fH I q (by simp))
  |int j=>intros t' rfl ry;exact ne_int (fH I q (congrArg not ak0))
  |str j=>intros t' rfl ry;exact aN3 (fH I q (by simp))
  |_=>exact absurd (show false=true from hs) fu
 |str i=>
  intros t rfl rx;cases y with
  |non=>cases ry;exact aR3 (fH I q (by simp))
  |bl j=>cases ry;exact aB7 (fH I q (by simp))
  |int j=>intros t' rfl ry;exact aAe (fH I q (by simp))
  |str j=>intros t' rfl ry;exact ne_str (fH I q (congrArg not akk))
  |_=>exact absurd (show false=true from hs) fu
 |j9 i=>
  intros t rfl rx;cases y with
  |j9 j=>intros t' rfl ry;exact W.ne_bytes (fH I q (congrArg not ajj))
  |_=>exact absurd (show false=true from hs) fu
 |_=>cases y<;>exact absurd (show false=true from hs) fu
def LN:cQ X (compareOp .Lt) (uw λi j=> .bl (decide (i<j))):=KH λ_ _ _ _ _ _ _ q=>lt_int q
def ad0:cQ X (compareOp .LtE) (uw λi j=> .bl (decide (i<=j))):=KH λ_ _ _ _ _ _ _ q=>le_int q
def ar5:cQ X (compareOp .Gt) (uw λi j=> .bl (decide (j<i))):=KH λ_ _ _ _ _ _ _ q=>gt_int q
def ad7:cQ X (compareOp .GtE) (uw λi j=> .bl (decide (j<=i))):=KH λ_ _ _ _ _ _ _ q=>ge_int q
def ada:cQ X (compareOp .In) (λx y H Q=>∃i j,x = .str i/\y = .str j/\Q (.bl (!(Builtin.Str.occurrences j i 0 j.length 1).isEmpty)) H):=by
 intro pins s σ H x y v u Q I rx ry h;intros i j rfl rfl q h;intros t rfl rx;intros t' rfl ry;exact in_str (fH I q rfl)
def cQ.or{f:Value->Value->Sem Value}(h:cQ X f r)(h':cQ X f r'):cQ X f (λx y H Q=>r x y H Q∨r' x y H Q):=by
 intro pins s σ H x y v u Q I rx ry q;rcases q with q|q
 .exact h pins s σ H x y v u Q I rx ry q
 .exact h' pins s σ H x y v u Q I rx ry q
def mF(b:Expr){op:CmpOp}(h:op≠ .In:=by decide)(h2:op≠ .NotIn:=by decide):behindInMarks op b=false:=by
 have e1:(op==CmpOp.In)=false:=by cases op<;>first|rfl|exact absurd rfl h
 have e2:(op==CmpOp.NotIn)=false:=by cases op<;>first|rfl|exact absurd rfl h2
 cases b<;>simp[behindInMarks,e1,e2]
def lB(ho:cQ X (compareOp op) r)(ha:PE X a ta)(hb:PE X b tb)(hm:behindInMarks op b=false):PE X (.Compare a [op] [b] pos) (oY r ta tb):=by
 intro pins s σ H Q I h;exact wpAny_Compare1 (Js ha hb I h λv u s2 x y H2 I2 rx ry q=>ho pins s2 σ H2 x y v u Q I2 rx ry q) hm
inductive aDi(x:V)(H:Hp)(Q:Bool->Hp->Prop):Prop|mk (k:Bool) (hx:x = .bl k) (q:Q k H)
def V1(t:TE):TT:=λσ H Q=>t σ H λx H'=>aDi x H' Q
def K6(ho:cQ X (compareOp op) r)(ha:PE X a ta)(hb:PE X b tb)(hm:behindInMarks op b=false):PT X (.Compare a [op] [b] pos) (V1 (oY r ta tb)):=by
 intro pins s σ H Q I h;refine wpAny_isTrue_Compare1 (aR (ha pins s σ H _ I h) λv s1 ⟨x,H1,I1,r1,q1⟩=>aR (hb pins s1 σ H1 _ I1 q1) λu s2 ⟨y,H2,I2,r2,q2⟩=>
  aR (ho pins s2 σ H2 x y v u _ I2 r1 r2 q2) λc s3 ⟨z,H3,I3,r3,k,e,q3⟩=>?_) hm
 subst e;cases r3;exact wpAny_truthy_bool {H3,I3,(q3)}
def amr(r r':R2)(ta tb tc:TE):TE:=λσ H Q=>ta σ H λx H1=>tb σ H1 λy H2=>r x y H2 λz H3=>∃k,z = .bl k/\
 (if k=true then tc σ H3 λw' H4=>r' y w' H4 Q else Q (.bl false) H3)
def aF8(ho:cQ X (compareOp op) r)(ho':cQ X (compareOp op') r')(ha:PE X a ta)(hb:PE X b tb)(hc:PE X c tc)
  (hm:lastMarks [op,op'] [b,c]=false:=by with_unfolding_all rfl):PE X (.Compare a [op,op'] [b,c] pos) (amr r r' ta tb tc):=by
 intro pins s σ H Q I h;refine Compare_chain (aR (ha pins s σ H _ I h) λv s1 ⟨x,H1,I1,r1,q1⟩=>chain_link (aR (hb pins s1 σ H1 _ I1 q1) λu s2 ⟨y,H2,I2,r2,q2⟩=>
  aR (ho pins s2 σ H2 x y v u _ I2 r1 r2 q2) λd s3 ⟨z,H3,I3,r3,k,e,q3⟩=>?_)) hm
 subst e;cases r3;refine wpAny_truthy_bool ?_;cases k with
 |false=>exact ite_ff {.bl false,H3,I3,rfl,q3}
 |true=>exact ite_tt (chain_last (aR (hc pins s3 σ H3 _ I3 q3) λw' s4 ⟨z',H4,I4,r4,q4⟩=>ho' pins s4 σ H4 y z' u w' Q I4 r2 r4 q4))
def aSh(ho:cQ X (compareOp op) r)(ho':cQ X (compareOp op') r')(ha:PE X a ta)(hb:PE X b tb)(hc:PE X c tc)
  (hm:lastMarks [op,op'] [b,c]=false:=by with_unfolding_all rfl):PT X (.Compare a [op,op'] [b,c] pos) (V1 (amr r r' ta tb tc)):=by
 intro pins s σ H Q I h;refine isTrue_chain (aR (ha pins s σ H _ I h) λv s1 ⟨x,H1,I1,r1,q1⟩=>test_link (aR (hb pins s1 σ H1 _ I1 q1) λu s2 ⟨y,H2,I2,r2,q2⟩=>
  aR (ho pins s2 σ H2 x y v u _ I2 r1 r2 q2) λd s3 ⟨z,H3,I3,r3,k,e,q3⟩=>?_)) hm
 subst e;cases r3;refine wpAny_truthy_bool ?_;cases k with
 |false=>
  intros k' e' q' q3;cases e';exact ite_ff {H3,I3,(q')}
 |true=>
  refine ite_tt (test_last (aR (hc pins s3 σ H3 _ I3 q3) λw' s4 ⟨z',H4,I4,r4,q4⟩=>aR (ho' pins s4 σ H4 y z' u w' _ I4 r2 r4 q4) λd' s5 ⟨z2,H5,I5,r5,k2,e2,q5⟩=>?_));subst e2;cases r5;exact wpAny_truthy_bool {H5,I5,(q5)}
def aSD{κ:Type}{kvs:List (κ×V)}{vs:List (κ×Value)}(r:KV kvs vs):(!vs.isEmpty)=!kvs.isEmpty:=by
 cases r<;>rfl
def aS5{xs:List V}{its:List Value}(r:Vals xs its):(!its.toArray.isEmpty)=!xs.isEmpty:=by
 cases r<;>simp
def Cm:(sizeLine:Nat)<2^63:=by rw[sizeLine_eq];decide
def aKd:cQ X (binaryOp .Add) (λx y H Q=>∃i j,x = .str i/\y = .str j/\i.length+j.length<=sizeLine/\Q (.str (i++j)) H):=by
 intro pins s σ H x y v u Q I rx ry h;intros i j rfl rfl hz q h;intros t rfl rx;intros t' rfl ry;exact add_str (λt' tk=>{.str (i++j),H,I.tok _,{()},q}) hz
def vals1(r:Vals [x] us):∃u,us=[u]/\RelV x u:=by
 cases r with
 |cons r1 r2=>cases r2;exact{(),r1}
def vals2{y:V}(r:Vals [x,y] us):∃u w',us=[u,w']/\RelV x u/\RelV y w':=by
 cases r with
 |cons r1 r2=>
  cases r2 with
  |cons r3 r4=>cases r4;exact{_,(),r1,r3}
def AJ:gY X (.builtin "abs") (λxs H Q=>∃i,xs=[.int i]/\Q (.int (if i<0 then -i else i)) H):=by
 intro pins s σ H xs us Q I r h;intros i rfl q h;obtain⟨u,rfl,t,rfl⟩:=vals1 r;exact call_abs_int λu tk=>{.int (if i<0 then -i else i),H,I.tok _,{()},q}
def ayC(hc:X.calm=true):gY X (.builtin "max") (λxs H Q=>∃i j,xs=[.int i,.int j]/\Q (.int (if j>i then j else i)) H):=by
 intro pins s σ H xs us Q I r h;intros i j rfl q h;obtain⟨u,w',rfl,⟨t,rfl⟩,⟨t',rfl⟩⟩:=vals2 r;refine max_two_ints (I.ok.hd hc) λh' tk k=>{_,H,I.kept k,?_,q};by_cases hj:j>i
 .rw[if_pos hj,if_pos hj];exact{()}
 .rw[if_neg hj,if_neg hj];exact{()}
def aum(hc:X.calm=true):gY X (.builtin "min") (λxs H Q=>∃i j,xs=[.int i,.int j]/\Q (.int (if j<i then j else i)) H):=by
 intro pins s σ H xs us Q I r h;intros i j rfl q h;obtain⟨u,w',rfl,⟨t,rfl⟩,⟨t',rfl⟩⟩:=vals2 r;refine min_two_ints (I.ok.hd hc) λh' tk k=>{_,H,I.kept k,?_,q};by_cases hj:j<i
 .rw[if_pos hj,if_pos hj];exact{()}
 .rw[if_neg hj,if_neg hj];exact{()}
def LY:gY X (.type "str") (λxs H Q=>∃i,xs=[.int i]/\i.natAbs.log2<1920/\Q (.str (toString i)) H):=by
 intro pins s σ H xs us Q I r h;intros i rfl hz q h;obtain⟨u,rfl,t,rfl⟩:=vals1 r;exact PySem.P.str_of_int hz {.str _,H,I.tok _,{()},q}
def aw9(K:aD)(x:V)(H:Hp)(n:Nat):Prop:=
 match x with
 |.str y=>y.length<=sizeLine/\n=y.length
 |.j9 y=>y.size<=sizeLine/\n=y.size
 |.ref p=>(∃xs,aj K H p xs/\n=xs.length)∨∃xs,aq K H p xs/\n=xs.length
 |_=>False
inductive Ue(K:aD)(xs:List V)(H:Hp)(Q:VK):Prop|mk (x:V) (n:Nat) (h:xs=[x]) (l:aw9 K x H n) (q:Q (.int n) H)
def ay8:gY X (.builtin "len") (Ue X.K):=by
 intro pins s σ H xs us Q I r h;intros x n rfl e q h;obtain⟨u,rfl,rx⟩:=vals1 r;have hl:=Cm;have hs:sizeLine=16777216:=sizeLine_eq;cases x with
 |str y=>
  intros t rfl rx;obtain⟨hy,e'⟩:y.length<=sizeLine/\n=y.length:=e;subst e';exact len_str ⋯ {.int _,H,I.tok _,{()},q}
 |j9 y=>
  intros t rfl rx;obtain⟨hy,e'⟩:y.size<=sizeLine/\n=y.size:=e;subst e';exact W.len_bytes ⋯ {.int _,H,I.tok _,{()},q}
 |ref p=>
  cases rx;have e':(∃xs,aj X.K H p xs/\n=xs.length)∨∃xs,aq X.K H p xs/\n=xs.length:=e;rcases e' with⟨xs,hx,e'⟩|⟨xs,hx,e'⟩
  .subst e';obtain⟨its,r',pl,hz⟩:=I.list hx;have hlen:=r'.length;exact Calls.call_len_list pl.isList (by simp only[fD];lia) {.int xs.length,H,I.tok _,{_,by simp only[fD];rw[hlen]},q}
  .subst e';obtain⟨its,r',pl,hz⟩:=I.tuple hx;have hlen:=r'.length;exact len_tuple pl (by simp only[fD];lia) {.int xs.length,H,I.tok _,{_,by simp only[fD];rw[hlen]},q}
 |_=>exact(show False from e).elim
end
end
structure v7(h:Heap)(x dx C:Addr)(mA:Str->Option Value):Prop where
 obj:h.get? x=some (uY C dx)
 ns:h.Ns1 dx mA
 ne:dx≠x
def aPg{h:Heap}{dx:Addr}{mA:Str->Option Value}(n:h.Ns1 dx mA):∃od,h.get? dx=some od/\∀name,Ls name od=some (mA name):=by
 intros o es ep ho hd hk _ hm n;refine{o,ho,λname=>?_};have e:=hm name;unfold nsFind findBy at e;rw[<-Array.find?_toList]at e;unfold Ls;rw[hd];dsimp only;split
 .rename_i y q
  rw[q]at e;exact congrArg some e
 .rename_i q
  rw[q]at e;have a:es.toList.any (·.refKey)=false:=by
   rw[List.any_eq_false];intro y hy;obtain⟨z,t,hkey⟩:=hk y (Array.mem_toList_iff.mp hy);simp[DictEntry.refKey,hkey]
  have a':¬es.toList.any (·.refKey)=true:=by rw[a];exact fu
  rw[if_neg a'];exact congrArg some e
def v7.look{h:Heap}{x dx C:Addr}{mA:Str->Option Value}(I:v7 h x dx C mA):∃od,W.InstAt h x (uY C dx) C (some od)/\∀name,Ls name od=some (mA name):=
 let⟨od,ho,hl⟩:=aPg I.ns
 {od,{I.obj,rfl,rfl,(ho)},hl}
section
variable {prog:Program} {w:World} {A:Around} {E:Value->Shared->Prop} {s:Shared} {K:aD} {x dx C f:Addr} {mA:Str->Option Value} {name:Str} {v:Value}
def get_map{expr:Bool}{Q:Value->Shared->Prop}(X:K.In s.heap)(I:v7 s.heap x dx C mA)(hg:Hx K C name=true)(hh:J3 K C=true)
  (ha:dF K (.ref C) name=some none) (hv:mA name=some v) (hv':W.handedIn v=true) (h:Q v { s with toks:=s.toks+1 }):
  wpAny (model prog w) A (getAttr (.ref x) name expr) Q E s:=by
 intros od J hl I.look;exact W.get_value X J (abK hg).1 (W.findObj_own hh ha rfl (by rw[hl,hv])) hv' h
def aQS{pl:Sem Bool}{Q:Value×List Value->Shared->Prop}(X:K.In s.heap)(I:v7 s.heap x dx C mA)(hg:Hx K C name=true)
  (hf:dF K (.ref C) name=some (some (.ref f))) (ht:W.isFn K (.ref f)=true) (hv:mA name=none) (h:Q (.ref f,[.ref x]) s):
  wpAny (model prog w) A (getMethod (.ref x) name pl) Q E s:=by
 intros od J hl I.look;exact W.method_fn X J (abK hg).1 (abK hg).2 hf (beq_iff_eq.mp ht) (by show(Ls name od).map (·.isSome)=some false;rw[hl,hv];rfl) h
def aHD{ns:List Str}{Q:Unit->Shared->Prop}(X:K.In s.heap)(I:v7 s.heap x dx C mA)
  (hs:dF K (.ref C) "__setattr__" = some (some (.builtin "object.__setattr__"))) (hp:aaC K C=true) (ht:XR K C name=some none) (hh:J3 K C=true)
  (hw:aaT mA ns) (hsz:ns.length<=sizeLine)
  (h:∀h',v7 h' x dx C (λy=>if y=name then some v else mA y)->uN dx s.heap h'->Q () { s with heap:=h',toks:=s.toks+2 }):
  wpAny (model prog w) A (setAttr (.ref x) name v) Q E s:=by
 intros od J hl I.look;refine W.set_plain X J hs (W.osa_open (s:={ s with toks:=s.toks+1 }) (r:=none) X J hp ht λb=>?_);obtain⟨cd,hc,hd'⟩:=W.any_some hh;have hx:s.heap.get? x=some {.ref C,some dx,.plain,#[]}:=I.obj;refine wpAny_bind (wpAny_pure (wpAny_bind (wpAny_bind (wpAny_loadPart hx (wpAny_bind (W.Looks.here (s:={ s with toks:=s.toks+1 }) (W.looks_clsIn X hc) ?_))))));rw[hd'];refine wpAny_pure (a:=some dx) (wpAny_bind (wpAny_pure (wpAny_bind ?_)));refine wpAny_nsSet1 (s:={ s with toks:=s.toks+1 }) I.ns λh' hn2 hs2=>?_;obtain⟨oD,esD,epD,hoD,hdD,hcD⟩:=hn2.count (aNH name v hw);refine wpAny_bind (wpAny_lookBehind hoD (by rw[hdD];exact pastItsLine_dict (eV hcD (by rw[um];lia))) ?_);exact wpAny_pure (h _ {(hs2.2 _ (dw I.ne)).trans I.obj,hn2,I.ne} hs2)
def aCD{R:Result->Shared->Prop}{vs:List Value}{kw:List (Str×Value)}(X:K.In s.heap)(hm:K9 K C=true)
  (hi:dF K (.ref C) "__init__" = some (some (.ref f))) (hf:W.typeIn K (.ref f)=some (.type "function"))
  (h:codeAny (model prog w) (A.under (.builtin "type.__call__" {.ref C::vs,kw})) (.call (.ref f) {.ref (s.heap.objs.size+1)::vs,kw}) (W.InitBack (s.heap.objs.size+1) R)
   { s with heap:=(s.heap.push qR).push (uY C s.heap.objs.size) }):
  codeAny (model prog w) A (.call (.ref C) {vs,(kw)}) R s:=by
 intros hh g d t os s;exact W.make_core (W.makes_of X hm) (Lw X hi) (λself=>W.bind_fn X self hf) (.inl rfl) h
end
def jo(f:Str)(v:V):List (Str×V)->List (Str×V)
 |[]=>[(f,v)]
 |(g,x)::r=>if g=f then(g,v)::r else(g,x)::jo f v r
theorem MV(f g:Str)(v:V):∀fs:List (Str×V),(jo f v fs).lookup g=if g=f then some v else fs.lookup g
 |[]=>by
  show xY g [(f,v)]=_;by_cases h:g=f
  .have hb:(g==f)=true:=beq_iff_eq.mpr h;simp only[xY,hb,if_pos h]
  .have hb:(g==f)=false:=beq_eq_false_iff_ne.mpr h;simp only[xY,hb,if_neg h]
 |(k,x)::r=>by
  have ih:=MV f g v r;rw[show jo f v ((k,x)::r)=(if k=f then(k,v)::r else(k,x)::jo f v r)from rfl];by_cases hk:k=f
  .rw[if_pos hk];by_cases h:g=k
   .have hb:(g==k)=true:=beq_iff_eq.mpr h;simp only[xY,hb,if_pos (h.trans hk)]
   .have hb:(g==k)=false:=beq_eq_false_iff_ne.mpr h;simp only[xY,hb,if_neg (λe:g=f=>h (e.trans hk.symm))]
  .rw[if_neg hk];by_cases h:g=k
   .have hb:(g==k)=true:=beq_iff_eq.mpr h;simp only[xY,hb,if_neg (λe:g=f=>hk (h.symm.trans e))]
   .have hb:(g==k)=false:=beq_eq_false_iff_ne.mpr h;simp only[xY,hb];exact ih
theorem Pq(f:Str)(v:V):∀fs:List (Str×V),f∈(jo f v fs).map (·.1)/\∀g,g∈fs.map (·.1)->g∈(jo f v fs).map (·.1)
 |[]=>{by simp[jo],λg h=>by simp at h}
 |(k,x)::r=>by
  obtain⟨i1,i2⟩:=Pq f v r;rw[show jo f v ((k,x)::r)=(if k=f then(k,v)::r else(k,x)::jo f v r)from rfl];by_cases hk:k=f
  .rw[if_pos hk];subst hk;exact{by simp,λg h=>by simpa using h}
  .rw[if_neg hk];refine{?_,λg h=>?_}
   .rw[fB];exact jt _ i1
   .rw[fB]at h⊢;rcases dz.mp h with e|e
    .exact dz.mpr (.inl e)
    .exact jt _ (i2 g e)
theorem aoq(f:Str)(v:V):∀fs:List (Str×V),(jo f v fs).length<=fs.length+1
 |[]=>by simp[jo]
 |(k,x)::r=>by
  have ih:=aoq f v r;rw[show jo f v ((k,x)::r)=(if k=f then(k,v)::r else(k,x)::jo f v r)from rfl];by_cases hk:k=f
  .rw[if_pos hk,um,um];lia
  .rw[if_neg hk,um,um];lia
def iQ.some_of{v:V}{o:Option Value}(r:iQ (some v) o):∃u,o=some u/\RelV v u:=by
 cases o with
 |none=>exact(show False from r).elim
 |some u=>exact{u,rfl,(r)}
def iQ.none_of{o:Option Value}(r:iQ none o):o=none:=by
 cases o with
 |none=>rfl
 |some u=>exact(show False from r).elim
def aI3{v:V}{u:Value}(r:RelV v u):W.handedIn u=true:=by
 cases v with
 |non=>cases (show u=Value.none from r);rfl
 |bl b=>cases (show u=Value.bool b from r);rfl
 |int i=>obtain⟨t,e⟩:=(show ∃t,u=Value.int i t from r);cases e;rfl
 |str x=>obtain⟨t,e⟩:=(show ∃t,u=Value.str x t from r);cases e;rfl
 |j9 b=>obtain⟨t,e⟩:=(show ∃t,u=Value.bytes b t from r);cases e;rfl
 |flt b=>obtain⟨t,e⟩:=(show ∃t,u=Value.float b t from r);cases e;rfl
 |ref a=>cases (show u=Value.ref a from r);rfl
 |ty n=>cases (show u=Value.type n from r);rfl
section
variable {P:Program} {w:World} {H H':Hp} {h h':Heap} {a C dx:Addr} {fs fs':List (Str×V)}
def JW(hok:eY P w H h)(e:H a=some (.ins C dx fs)):∃mA,v7 h a dx C mA/\(∀f,iQ (fs.lookup f) (mA f))/\aaT mA (fs.map (·.1))/\fs.length<=1000/\H dx=some (.own a):=by
 obtain⟨d,z,ne,ob,mA,n,r,q⟩:=(show eO P w H h a (.ins C dx fs)from hok a _ e);exact{mA,{ob,n,(ne)},r,q,z,d}
end
structure Cls(K:aD)(C:Addr):Prop where
 pg:Hx K C Str.empty=true
 hd:J3 K C=true
 po:aaC K C=true
 sa:dF K (.ref C) "__setattr__" = some (some (.builtin "object.__setattr__"))
def Cls.get{K:aD}{C:Addr}(c:Cls K C)(f:Str):Hx K C f=true:=c.pg
def wJ(K:aD)(C:Addr)(f:Str):Prop:=dF K (.ref C) f=some none
def wJ.aQu{K:aD}{C:Addr}{f:Str}(n:wJ K C f):XR K C f=some none:=by
 unfold XR;rw[show dF K (.ref C) f=some none from n];rfl
structure Meth(K:aD)(C:Addr)(m:Str)(f:Addr):Prop where
 at_:dF K (.ref C) m=some (some (.ref f))
 fn:W.isFn K (.ref f)=true
 kp:lU K (.ref f)=true
section
variable {X:Cx} {pins:List (Addr×Obj)} {σ:St} {H:Hp} {s:Shared} {a C dx:Addr} {fs:List (Str×V)} {f:Str} {v:V} {A:Around} {E:Value->Shared->Prop}
def aN4{b:Bool}{Q:Value->Shared->Prop}(I:Inv X pins σ H s)(e:H a=some (.ins C dx fs))(c:Cls X.K C)(n:wJ X.K C f)(l:fs.lookup f=some v)
  (h:∀u s',Inv X pins σ H s'->RelV v u->Q u s'):wpAny (model X.prog X.w) A (getAttr (.ref a) f b) Q E s:=by
 obtain⟨mA,O,r,_,_,_⟩:=JW I.hok e;obtain⟨u,hu,ru⟩:=iQ.some_of (v:=v) (o:=mA f) (by rw[<-l];exact r f);exact get_map I.dj O (c.get f) c.hd n hu (aI3 ru) (h u _ (I.tok _) ru)
def aPJ{m:Str}{g:Addr}{pl:Sem Bool}{Q:Value×List Value->Shared->Prop}(I:Inv X pins σ H s)(e:H a=some (.ins C dx fs))(c:Cls X.K C)(k:Meth X.K C m g)(l:fs.lookup m=none)
  (h:Q (.ref g,[.ref a]) s):wpAny (model X.prog X.w) A (getMethod (.ref a) m pl) Q E s:=by
 obtain⟨mA,O,r,_,_,_⟩:=JW I.hok e;have hn:mA m=none:=iQ.none_of (by rw[<-l];exact r m);exact aQS I.dj O (c.get m) k.at_ k.fn hn h
def aRn{y:V}{u:Value}{Q:Unit->Shared->Prop}(I:Inv X pins σ H s)(e:H a=some (.ins C dx fs))(c:Cls X.K C)(n:wJ X.K C f)(hl:fs.length<1000)(ry:RelV y u)
  (h:∀s',Inv X pins σ (upd H a (.ins C dx (jo f y fs))) s'->Q () s'):wpAny (model X.prog X.w) A (setAttr (.ref a) f u) Q E s:=by
 obtain⟨mA,O,r,wi,_,ho⟩:=JW I.hok e;have hz:(fs.map (·.1)).length<=sizeLine:=by rw[bG,sizeLine_eq];lia
 refine aHD I.dj O c.sa c.po n.aQu c.hd wi hz λh' O' sb=>h _ ?_;have hd:∃o,h'.get? dx=some o:=let⟨o,_,_,e',_⟩:=O'.ns;{o,(e')};refine I.write (x:=a) (e:=dx) (by rw[e];exact True.intro) (.inr ho) (λb q hb z=>(sb.2 b hb).trans z) hd ?_;refine{by rw[bY O.ne];exact ho,?_,O.ne,O'.obj,_,O'.ns,λg=>?_,λg hg=>?_}
 .have:=aoq f y fs;lia
 .show iQ ((jo f y fs).lookup g) (if g=f then some u else mA g);rw[MV];by_cases q:g=f
  .rw[if_pos q,if_pos q];exact ry
  .rw[if_neg q,if_neg q];exact r g
 .by_cases q:g=f
  .rw[q];exact(Pq f y fs).1
  .refine(Pq f y fs).2 g (wi g λz=>hg ?_);show(if g=f then some u else mA g)=none;rw[if_neg q];exact z
def Inv.made(I:Inv X pins σ H s):Inv X pins σ (upd (upd H s.heap.objs.size (.own (s.heap.objs.size+1))) (s.heap.objs.size+1) (.ins C s.heap.objs.size []))
  { s with heap:=(s.heap.push qR).push (uY C s.heap.objs.size) }:=by
 have e1:(s.heap.push qR).get? s.heap.objs.size=some qR:=Heap.get?_push_size s.heap rfl;have e2:((s.heap.push qR).push (uY C s.heap.objs.size)).get? (s.heap.objs.size+1)=some (uY C s.heap.objs.size):=by
  have:=Heap.get?_push_size (s.heap.push qR) (o:=uY C s.heap.objs.size) rfl
  rwa [BD]at this
 have e3:(s.heap.push qR).Ns s.heap.objs.size (λ_=>none):={qR,#[],_,e1,rfl,(λe he=>absurd he (by simp)),λ_=>rfl};have I1:=I.laid (a:=s.heap.objs.size) (o:= .own (s.heap.objs.size+1)) (h':=s.heap.push qR) (t':=s.toks) (λb u q=>Heap.get?_push_of_some _ q) (bK _) {_,e1};refine I1.laid (a:=s.heap.objs.size+1) (o:= .ins C s.heap.objs.size []) (t':=s.toks) (λb u q=>Heap.get?_push_of_some _ q) (Dd (BD _ _)) ?_;have ne:s.heap.objs.size≠s.heap.objs.size+1:=gw (vN _);refine{by rw[bY ne,ao],fJ _,ne,e2,λ_=>none,(Heap.Ns1.of_empty e3).at λo q=>Heap.get?_push_of_some _ q,λ_=>True.intro,λy hy=>absurd rfl hy}
def aQ6{prog:Program}{w:World}{env:Env}{e:Expr}{f:Str}{pos:Pos}{s:Shared}{Q:Value->Shared->Prop}(hb:attributeBase e f env (eval e env)=eval e env)
  (h:wpAny (model prog w) A (eval e env) (λo s₁=>wpAny (model prog w) A (getAttr o f true) Q E s₁) E s):wpAny (model prog w) A (eval (.Attribute e f pos) env) Q E s:=
 Attribute_any_ h (by rw[arm_eval_Attribute,hb])
end
def aez(K:aD)(ta:TE)(f:Str):TE:=λσ H Q=>ta σ H λx H1=>∃a C dx fs v,x = .ref a/\H1 a=some (.ins C dx fs)/\Cls K C/\wJ K C f/\fs.lookup f=some v/\Q v H1
def aNq(K:aD)(ta tv:TE)(f:Str):TS:=λD σ H=>tv σ H λy H1=>ta σ H1 λx H2=>∃a C dx fs,x = .ref a/\H2 a=some (.ins C dx fs)/\Cls K C/\wJ K C f/\fs.length<1000/\
 D.nx σ (upd H2 a (.ins C dx (jo f y fs)))
section
variable {X:Cx} {o e value:Expr} {f:Str} {pos pos' tpos:Pos} {ta tv:TE}
def aNQ(he:PE X e ta)(hb:attributeBase e f X.env (eval e X.env)=eval e X.env):PE X (.Attribute e f pos) (aez X.K ta f):=by
 intro pins s σ H Q I h;refine aQ6 hb (aR (he pins s σ H _ I h) λu s1 ⟨x,H1,I1,rx,a,C,dx,fs,v,ex,ea,c,n,l,q⟩=>?_);subst ex;obtain rfl:u=Value.ref a:=rx;exact aN4 I1 ea c n l λu' s2 I2 ru=>{v,H1,I2,ru,(q)}
def avN(ha:PE X o ta)(hv:PE X value tv)(hs:swapsWith value (some (.Attribute o f pos')) pos.line X.env=pure false):PS X (.Assign [.Attribute o f pos'] value pos) (aNq X.K ta tv f):=by
 intro pins s σ H D I h;refine plainObj_wpAny_Assign_Attribute (aR (hv pins s σ H _ I h) λu s1 ⟨y,H1,I1,ry,q⟩=>aR (ha pins s1 σ H1 _ I1 q) λov s2 ⟨x,H2,I2,rx,a,C,dx,fs,ex,ea,c,n,l,q2⟩=>?_) hs;subst ex;obtain rfl:ov=Value.ref a:=rx;exact aRn I2 ea c n l ry λs3 I3=>{σ,_,I3,q2}
end
section
variable {X:Cx} {pins:List (Addr×Obj)} {σ:St} {H:Hp} {s:Shared} {A:Around} {E:Value->Shared->Prop} {Q:Value->Shared->Prop} {c:Value} {b:Bool}
inductive mG(K:aD)(H:Hp):V->Value->Prop where
 |non:mG K H .non (.type "NoneType")
 |bl (x:Bool):mG K H (.bl x) (.type "bool")
 |int (i:Int):mG K H (.int i) (.type "int")
 |str (x:Str):mG K H (.str x) (.type "str")
 |flt (x:UInt64):mG K H (.flt x) (.type "float")
 |lst {a:Addr} {xs:List V} (e:H a=some (.lst xs)):mG K H (.ref a) (.type "list")
 |fO {a:Addr} {o:Obj} {xs:List V} (e:H a=some (.fO o (.lst xs))):mG K H (.ref a) (.type "list")
 |tup {a:Addr} {xs:List V} (e:H a=some (.tup xs)):mG K H (.ref a) (.type "tuple")
 |dK {a:Addr} {kvs:List (Key×V)} (e:H a=some (.dK kvs)):mG K H (.ref a) (.type "dict")
 |dT {a:Addr} {kvs:List (List Key×V)} (e:H a=some (.dT kvs)):mG K H (.ref a) (.type "dict")
 |ins {a C dx:Addr} {fs:List (Str×V)} (e:H a=some (.ins C dx fs)) (cl:Cls K C) (ha:dF K (.ref C) "__class__" = some (some (.builtin "object.__class__")))
   (hn:W.specialIn K (.builtin "object.__class__") "__get__" = some (some (.builtin "getset_descriptor.__get__"))) (htk:W.takesIn K (.builtin "object.__class__")=some true)
   (hm:ji K C (.type "object")=some true):mG K H (.ref a) (.ref C)
def aEr{x:V}{u t:Value}(I:Inv X pins σ H s)(rx:RelV x u)(ty:mG X.K H x t)(e:aG X.K t c=some b)(h:∀tk,Q (.bool b) { s with toks:=tk }):
  wpAny (model X.prog X.w) A (call (.builtin "isinstance") [u,c]) Q E s:=by
 cases ty with
 |non=>cases (show u=Value.none from rx);exact mD W.kitx_none I.dj True.intro e (λz=>nomatch z) h
 |bl y=>cases (show u=Value.bool y from rx);exact mD W.kitx_bool I.dj True.intro e (λz=>nomatch z) h
 |int i=>obtain⟨t,q⟩:=(show ∃t,u=Value.int i t from rx);cases q;exact mD W.kitx_int I.dj True.intro e (λz=>nomatch z) h
 |str y=>obtain⟨t,q⟩:=(show ∃t,u=Value.str y t from rx);cases q;exact mD W.kitx_str I.dj True.intro e (λz=>nomatch z) h
 |flt y=>obtain⟨t,q⟩:=(show ∃t,u=Value.float y t from rx);cases q;exact mD W.kitx_float I.dj True.intro e (λz=>nomatch z) h
 |@lst a xs ea=>
  cases (show u=Value.ref a from rx);obtain⟨_,_,n,_,h1⟩:=(show eO X.prog X.w H s.heap a (.lst xs)from I.hok a _ ea);exact mD W.kitx_list I.dj {_,h1,rfl} e (λz=>nomatch z) h
 |@fO a ob xs ea=>
  cases (show u=Value.ref a from rx);obtain⟨_,_,_,n,_,h1⟩:=(show eO X.prog X.w H s.heap a (.fO ob (.lst xs))from I.hok a _ ea);exact mD W.kitx_list I.dj {_,h1,rfl} e (λz=>nomatch z) h
 |@tup a xs ea=>
  cases (show u=Value.ref a from rx);obtain⟨_,_,_,p⟩:=(show eO X.prog X.w H s.heap a (.tup xs)from I.hok a _ ea);intros o h1 h2 _ p;exact mD W.kitx_tuple I.dj {o,h1,(h2)} e (λz=>nomatch z) h
 |@dK a kvs ea=>
  cases (show u=Value.ref a from rx);obtain⟨_,_,vs,_,p⟩:=(show eO X.prog X.w H s.heap a (.dK kvs)from I.hok a _ ea);intros o es ep h1 h2 _ p;exact mD W.kitx_dict I.dj {o,h1,(h2.1)} e (λz=>nomatch z) h
 |@dT a kvs ea=>
  cases (show u=Value.ref a from rx);obtain⟨_,_,xs,_,o,es,ep,h1,h2,_⟩:=(show eO X.prog X.w H s.heap a (.dT kvs)from I.hok a _ ea);exact mD W.kitx_dict I.dj {o,h1,(h2.1)} e (λz=>nomatch z) h
 |@ins a C dx fs ea cl ha hn htk hm=>
  cases (show u=Value.ref a from rx);obtain⟨mA,O,_⟩:=JW I.hok ea;intros od J _ O.look;exact mD (W.kitx_own (cl.get _) cl.hd ha hn htk hm) I.dj J e (λz=>nomatch z) h
end
section
variable {k:Nat}{A:Around}{C:Addr}{us:List Value}{kw:List (Str×Value)}
structure cT(k:Nat)(A:Around):Prop where
 hd:A.handled=none
 dp:A.depth+3*k+105<recursionLimit
 un:A.units+16*k+200<cLine
def cT.mono{j:Nat}(r:cT k A)(h:j<=k):cT j A:={r.hd,by have:=r.dp;lia,by have:=r.un;lia}
theorem cT.deeper{k:Nat}{A:Around}(r:cT (k+1) A)(env:Env):cT k (A.deeper env):=
 {r.hd,by have:=r.dp;show A.depth+1+3*k+105<_;lia,by have:=r.un;show A.units+3+16*k+200<_;lia}
def asA:(A.under (.builtin "type.__call__" {.ref C::us,kw})).depth=A.depth+1:=by
 first|rfl|simp[Ry,Code.weight,Code.isCreation,Code.isGuard,Code.isCaller,Code.frames,Code.isFrame,guardIds]
def aEN:(A.under (.builtin "type.__call__" {.ref C::us,kw})).units=A.units+1:=by
 first|rfl|simp[Ry,Code.cUnits,Code.frames,Code.isFrame]
def cT.make{k:Nat}{A:Around}(r:cT (k+1) A)(C:Addr)(us:List Value)(kw:List (Str×Value)):cT k (A.under (.builtin "type.__call__" {.ref C::us,kw})):=
 {r.hd,by have:=r.dp;rw[asA];lia,by have:=r.un;rw[aEN];lia}
theorem cT.depth{k:Nat}{A:Around}(r:cT k A):A.depth<recursionLimit:=by have:=r.dp;lia
theorem cT.units{k:Nat}{A:Around}(r:cT k A):A.units+64<cLine:=by have:=r.un;lia
def cT.aqe(r:cT k A):A.units<cLine:=by have:=r.un;lia
def pJ:TA:=λ_ H Q=>Q [] H
def nH(ta:TE)(tr:TA):TA:=λσ H Q=>ta σ H λx H1=>tr σ H1 λxs H2=>Q (x::xs) H2
end
section
variable {X:Cx} {e:Expr} {es:List Expr} {te:TE} {t:TA} {pos:Pos}
def iB:PA X [] pJ:=λ_ _ _ _ H Q I h=>Hg {[],H,I,.nil,h}
def rT(ha:PE X e te)(hr:PA X es t)(hs:starEach (e::es) X.env=(false,eval e X.env)::starEach es X.env:=by rfl):PA X (e::es) (nH te t):=by
 intro pos pins s σ H Q I h;rw[hs];show wpAny _ _ (spliced ((false,eval e X.env)::backTo pos (starEach es X.env))) _ _ s;refine wQ (aR (ha pins s σ H _ I h) λu s1 ⟨x,H1,I1,r1,q1⟩=>?_);exact aR (hr pos pins s1 σ H1 _ I1 q1) λus s2 ⟨xs,H2,I2,r2,q2⟩=>{x::xs,H2,I2,.cons r1 r2,q2}
inductive vR(xs:List V)(o:HO)(H:Hp)(Q:VK):Prop|mk (hz:xs.length<=sizeLine) (q:∀p,H p=none->Q (.ref p) (upd H p o))
def Vd(t:TA):TE:=λσ H Q=>t σ H λxs H1=>vR xs (.tup xs) H1 Q
def aGD(t:TA):TE:=λσ H Q=>t σ H λxs H1=>vR xs (.lst xs) H1 Q
def cF{x1}(h:PA X es t):PE X (.Tuple es x1 pos) (Vd t):=by
 intro pins s σ H Q I hq;refine wpAny_Tuple_spliced (aR (h pos pins s σ H _ I hq) λus s1 ⟨xs,H1,I1,r,z,q⟩=>{by rw[<-r.length];exact z,?_});have hf:H1 s1.heap.objs.size=none:=I1.hok.fresh (bK _);refine{.ref s1.heap.objs.size,upd H1 s1.heap.objs.size (.tup xs),I1.laid (t':=s1.toks) (λb u e=>Heap.get?_push_of_some _ e) (bK _) ?_,rfl,q _ hf};exact{z,us,r,{_,Heap.get?_push_size _ rfl,rfl,()}}
def cC(h:PA X es t):PE X (.List es pos) (aGD t):=by
 intro pins s σ H Q I hq;refine wpAny_List_spliced (aR (h pos pins s σ H _ I hq) λus s1 ⟨xs,H1,I1,r,z,q⟩=>{by rw[<-r.length];exact z,?_});have hf:H1 s1.heap.objs.size=none:=I1.hok.fresh (bK _);refine{.ref s1.heap.objs.size,upd H1 s1.heap.objs.size (.lst xs),I1.laid (t':=s1.toks) (λb u e=>Heap.get?_push_of_some _ e) (bK _) ?_,rfl,q _ hf};exact{z,us,0,r,Heap.get?_push_size _ rfl}
end
abbrev Sp:=List V->Hp->VK->XK->Prop
abbrev oH:=List Env->Hp->Shared->XK->Value->Shared->Prop
structure uE(P:Program)(w:World)(K:aD)(mg:Str->Option Value)(base:Heap)(A:Around)(outer:List Env)(s:Shared)(H:Hp):Prop where
 frames:A.frames=some outer
 mod:Mod K mg base
 bs:∀b o,base.get? b=some o->s.heap.get? b=some o/\H b=none
 qH:base.objs.size<=s.heap.objs.size
 mH:s.heap.FunFrames base outer
 uT:∀b∈frs outer,H b=none
 hok:eY P w H s.heap
 bare:AllBare s.gens
 tree:P.given.tree=none
def CE(outer:List Env)(P:Program)(w:World)(H:Hp)(s:Shared)(Q:VK)(u:Value)(s':Shared):Prop:=
 ∃v H',s'.os=s.os/\AllBare s'.gens/\Un (frs outer) [] H H' s.heap s'.heap/\eY P w H' s'.heap/\RelV v u/\Q v H'
def CR(CX:oH)(outer:List Env)(P:Program)(w:World)(H:Hp)(s:Shared)(Q:VK)(E:XK)(r:Result)(s':Shared):Prop:=
 match r with
 |.ok (.ret u)=>CE outer P w H s Q u s'
 |.ok _=>False
 |.error e=>CX outer H s E e s'
structure jh(P:Program)(w:World)(K:aD)(mg:Str->Option Value)(base:Heap)(CX:oH)(k:Nat)(f:Addr)(fd:FuncData)(ps:List Str)(sp:Sp):Prop where
 len:∀vs H Q E,sp vs H Q E->vs.length=ps.length
 run:∀(A:Around) (outer:List Env) (s:Shared) (H:Hp) (args:Args) (us:List Value) (vs:List V) (Q:VK) (E:XK),cT k A->uE P w K mg base A outer s H->BindsTo s fd args (ps.zip us)->Vals vs us->sp vs H Q E->
  codeAny (model P w) A (.call (.ref f) args) (CR CX outer P w H s Q E) s
theorem jh.mono{P:Program}{w:World}{K:aD}{mg:Str->Option Value}{base:Heap}{CX:oH}{j k:Nat}{f:Addr}{fd:FuncData}{ps:List Str}{sp:Sp}(F:jh P w K mg base CX j f fd ps sp)(h:j<=k):
  jh P w K mg base CX k f fd ps sp:={F.len,λA outer s H args us vs Q E hr=>F.run A outer s H args us vs Q E (hr.mono h)}
def uE.make{P:Program}{w:World}{K:aD}{mg:Str->Option Value}{base:Heap}{A:Around}{outer:List Env}{s:Shared}{H:Hp}(e:uE P w K mg base A outer s H)(C:Addr)(us:List Value)(kw:List (Str×Value)):
  uE P w K mg base (A.under (.builtin "type.__call__" {.ref C::us,kw})) outer s H:={by first|exact e.frames|(simpa[Ry,Code.envs,Code.isFrame,pushEnvs]using e.frames),e.mod,e.bs,e.qH,e.mH,e.uT,e.hok,e.bare,e.tree}
section
variable {X:Cx} {pins:List (Addr×Obj)} {σ:St} {H:Hp} {s s':Shared}
def Inv.env0(I:Inv X pins σ H s):uE X.prog X.w X.K X.mg X.base X.A X.stack s H:=
 {I.ok.frames,I.ok.mod,I.bs,eV I.ok.qH I.sz,I.stack,I.Vg,I.hok,I.bare,I.ok.tree}
def Inv.after{Q:VK}{u:Value}(I:Inv X pins σ H s)(h:CE X.stack X.prog X.w H s Q u s'):EP X pins σ Q u s':=by
 intros v H' os bare un hok r q h;intros hh g d t os' s';obtain rfl:os'=s.os:=os;exact{v,H',I.call (h':=hh) (g':=g) (d':=d) (t':=t) (ch:=[]) un hok bare (λb z=>absurd z (by simp)),r,q}
end
def wV(sp:Sp)(jJ:List V)(E:XK)(t:TA):TE:=λσ H Q=>t σ H λvs H1=>sp (vs++jJ) H1 Q E
def aqH(C:Addr)(sp:Sp)(jJ:List V)(E:XK)(t:TA):TE:=λσ H Q=>t σ H λvs H1=>∀x dx,H1 x=none->H1 dx=none->dx≠x->
 sp (.ref x::(vs++jJ)) (upd (upd H1 dx (.own x)) x (.ins C dx [])) (λv H2=>v = .non/\Q (.ref x) H2) E
def Binds(K:aD)(fd:FuncData)(ps:List Str)(ds:List Value):Prop:=
 ∀(s:Shared) (us:List Value),K.In s.heap->(us++ds).length=ps.length->BindsTo s fd {us,([])} (ps.zip (us++ds))
def Binds.all{K:aD}{fd:FuncData}{ps:List Str}(h:∀us:List Value,us.length=ps.length->bindArgs fd {us,([])}=pure (ps.zip us)):Binds K fd ps []:=λs us _ hl=>by
 rw[qC]at hl⊢;exact .of_eq (h us hl)
def Passes(CX:oH)(X:Cx)(E:XK):Prop:=∀(pins:List (Addr×Obj)) (σ:St) (H:Hp) (s:Shared) (e:Value) (s':Shared),Inv X pins σ H s->CX X.stack H s E e s'->X.xe e s'
section
variable {X:Cx} {CX:oH} {k:Nat} {f C:Addr} {fd:FuncData} {ps:List Str} {sp:Sp} {jJ:List V} {ds:List Value} {E:XK} {x m:Str} {p pos apos:Pos} {e o:Expr} {es:List Expr} {ta:TE} {t:TA}
section
variable {pins:List (Addr×Obj)}{σ:St}{H:Hp}{s:Shared}{Q:VK}{us:List Value}{vs:List V}
def DV(F:jh X.prog X.w X.K X.mg X.base CX k f fd ps sp)(hr:cT k X.A)(hb:Binds X.K fd ps ds)(hd:Vals jJ ds)(hx:Passes CX X E)
  (I:Inv X pins σ H s) (r:Vals vs us) (h:sp (vs++jJ) H Q E):wpAny (model X.prog X.w) X.A (call (.ref f) us) (EP X pins σ Q) X.xe s:=by
 have r2:Vals (vs++jJ) (us++ds):=r.append hd;have hl:(us++ds).length=ps.length:=by rw[<-r2.length];exact F.len _ _ _ _ h
 refine wpAny_call (codeAny_mono (F.run X.A X.stack s H {us,([])} (us++ds) (vs++jJ) Q E hr I.env0 (hb s us I.dj hl) r2 h) λr s' hq=>?_);cases r with
 |error e=>exact hx pins σ H s e s' I hq
 |ok fl=>
  cases fl with
  |ret u=>exact I.after hq
  |next=>exact False.elim hq
  |brk=>exact False.elim hq
  |cont=>exact False.elim hq
def aap(F:jh X.prog X.w X.K X.mg X.base CX k f fd ps sp)(hr:cT k X.A)(hg:Gl X x)(hm:X.mg x=some (.ref f))(hk:lU X.K (.ref f)=true)(hb:Binds X.K fd ps ds)(hd:Vals jJ ds)(hx:Passes CX X E)
  (ha:PA X (e::es) t) (hdb:(x==("__debug__" : Str))=false:=by decide) (he:starEach (e::es) X.env=(false,eval e X.env)::starEach es X.env:=by rfl) (hpl:(backTo pos (starEach es X.env)).any (·.1)=false:=by rfl):
  PE X (.Call (.Name x p) (e::es) [] pos) (wV sp jJ E t):=by
 intro pins s σ H Q I h;refine wpAny_Call_Name_kw (oE I hg hm ?_ hdb);refine Ar (h₀:=X.base) I.ok.mod.tZ hk (aR (ha pos pins s σ H _ I h) λus s1 ⟨vs,H1,I1,r,q⟩=>{I1.dj,?_}) he hpl;exact DV F hr hb hd hx I1 r q
def aw5(F:jh X.prog X.w X.K X.mg X.base CX k f fd ps sp)(hr:cT k X.A)(hg:Gl X x)(hm:X.mg x=some (.ref f))(hk:lU X.K (.ref f)=true)(hb:Binds X.K fd ps ds)(hd:Vals jJ ds)(hx:Passes CX X E)
  (hdb:(x==("__debug__" : Str))=false:=by decide):PE X (.Call (.Name x p) [] [] pos) (wV sp jJ E pJ):=by
 intro pins s σ H Q I h;refine wpAny_Call_Name_kw (oE I hg hm ?_ hdb);exact W.callWith_K0 I.dj hk (DV (us:=[]) F hr hb hd hx I .nil h)
structure Mk(K:aD)(C f:Addr):Prop where
 makes:K9 K C=true
 init:dF K (.ref C) "__init__" = some (some (.ref f))
 fn:W.isFn K (.ref f)=true
 kp:lU K (.ref C)=true
def aBH(M:Mk X.K C f)(F:jh X.prog X.w X.K X.mg X.base CX k f fd ps sp)(hr:cT (k+1) X.A)(hb:Binds X.K fd ps ds)(hd:Vals jJ ds)
  (hx:Passes CX X E) (I:Inv X pins σ H s) (r:Vals vs us)
  (h:∀x dx,H x=none->H dx=none->dx≠x->sp (.ref x::(vs++jJ)) (upd (upd H dx (.own x)) x (.ins C dx [])) (λv H2=>v = .non/\Q (.ref x) H2) E):
  wpAny (model X.prog X.w) X.A (call (.ref C) us) (EP X pins σ Q) X.xe s:=by
 have hq:=h (s.heap.objs.size+1) s.heap.objs.size (I.hok.fresh (Nat.le_succ _)) (I.hok.fresh (bK _)) (gw (vN _));have I2:=Inv.made (C:=C) I;have r2:Vals (V.ref (s.heap.objs.size+1)::(vs++jJ)) (Value.ref (s.heap.objs.size+1)::(us++ds)):= .cons rfl (r.append hd);have hl:(Value.ref (s.heap.objs.size+1)::us++ds).length=ps.length:=by
  have e:=r2.length;rw[F.len _ _ _ _ hq]at e;exact e.symm
 refine wpAny_call (aCD (f:=f) I.dj M.makes M.init (beq_iff_eq.mp M.fn) (codeAny_mono (F.run _ X.stack _ _ {Value.ref (s.heap.objs.size+1)::us,[]} (Value.ref (s.heap.objs.size+1)::(us++ds)) _ _ E (hr.make C us [])
  (I2.env0.make C us []) (hb _ (Value.ref (s.heap.objs.size+1)::us) I2.dj hl) r2 hq) λr s' hq'=>?_))
 cases r with
 |error e=>exact hx pins σ _ _ e s' I2 hq'
 |ok fl=>
  cases fl with
  |ret u=>
   obtain⟨v,H',I3,rv,ev,q3⟩:=I2.after hq';subst ev;exact{rv,{V.ref (s.heap.objs.size+1),H',I3,rfl,q3}}
  |next=>exact False.elim hq'
  |brk=>exact False.elim hq'
  |cont=>exact False.elim hq'
def awC(M:Mk X.K C f)(F:jh X.prog X.w X.K X.mg X.base CX k f fd ps sp)(hr:cT (k+1) X.A)(hg:Gl X x)(hm:X.mg x=some (.ref C))(hb:Binds X.K fd ps ds)(hd:Vals jJ ds)(hx:Passes CX X E)
  (hdb:(x==("__debug__" : Str))=false:=by decide):PE X (.Call (.Name x p) [] [] pos) (aqH C sp jJ E pJ):=by
 intro pins s σ H Q I h;refine wpAny_Call_Name_kw (oE I hg hm ?_ hdb);exact W.callWith_K0 I.dj M.kp (aBH (us:=[]) M F hr hb hd hx I .nil h)
end
end
section
variable {X:Cx} {CX:oH} {k:Nat} {f C:Addr} {fd:FuncData} {ps ks:List Str} {sp:Sp} {E:XK} {x m:Str} {p pos apos kpos:Pos} {e o:Expr} {es:List Expr} {kws:List Keyword} {te ta:TE} {t tk:TA} {nm:Option Str}
variable {g:List Value->List Value->List Value} {gV:List V->List V->List V}
end
section
variable {CX:oH}{P:Program}{w:World}{K:aD}{mg:Str->Option Value}{base:Heap}{qual:Str}{scope:Scope}{f:Addr}
structure aK(N P:List Str)(sc:Scope):Prop where
 kind:sc.kind = .function
 co:sc.isCoroutine=false
 gen:sc.isGenerator=false
 nd:N.Nodup
 pre:N.take P.length=P
 par:∀x∈P,sc.names.lookup x=some .local∨sc.names.lookup x=some .cell
 abx:∀y∈sc.names,y.2≠ .free
theorem afN{kindOf:Str->Option NameKind}{x:Str}:∀{binds:List (Str×Value)} {m:Str->Option Value},(∀v,(x,v)∉binds)->bindL kindOf binds m x=m x
 |[],_,_=>rfl
 |(n,v)::r,m,h=>by
  unfold bindL;rw[afN λw hw=>h w (jt _ hw)];split
  .have:x≠n:=by rintro rfl;exact h v wN
   simp[this]
  .rfl
theorem aiL{kindOf:Str->Option NameKind}{x:Str}:∀{binds:List (Str×Value)} {m:Str->Option Value},(∀v,(x,v)∉binds)->bindC kindOf binds m x=m x
 |[],_,_=>rfl
 |(n,v)::r,m,h=>by
  unfold bindC;rw[aiL λw hw=>h w (jt _ hw)];split
  .rfl
  .have:x≠n:=by rintro rfl;exact h v wN
   simp[this]
theorem aqz{kindOf:Str->Option NameKind}{x:Str}{v:Value}:∀{P:List Str} {vs:List Value} {i:Nat} {m:Str->Option Value},P.Nodup->P[i]?=some x->vs[i]?=some v->kindOf x=some .local->
  bindL kindOf (P.zip vs) m x=some v
 |[],_,_,_,_,h,_,_=>by simp at h
 |_::_,[],_,_,_,_,h,_=>by simp at h
 |p::P,w::vs,0,m,nd,h1,h2,hk=>by
  simp at h1 h2;subst h1;subst h2;show bindL kindOf ((p,w)::P.zip vs) m p=_;unfold bindL;rw[afN λv hv=>(yL.mp nd).1 (K7 hv).1,if_pos hk];simp
 |p::P,w::vs,i+1,m,nd,h1,h2,hk=>by
  show bindL kindOf ((p,w)::P.zip vs) m x=_;unfold bindL;exact aqz (i:=i) (yL.mp nd).2 (by simpa using h1) (by simpa using h2) hk
theorem aiC{kindOf:Str->Option NameKind}{x:Str}{v:Value}:∀{P:List Str} {vs:List Value} {i:Nat} {m:Str->Option Value},P.Nodup->P[i]?=some x->vs[i]?=some v->kindOf x≠some .local->
  bindC kindOf (P.zip vs) m x=some v
 |[],_,_,_,_,h,_,_=>by simp at h
 |_::_,[],_,_,_,_,h,_=>by simp at h
 |p::P,w::vs,0,m,nd,h1,h2,hk=>by
  simp at h1 h2;subst h1;subst h2;show bindC kindOf ((p,w)::P.zip vs) m p=_;unfold bindC;rw[aiL λv hv=>(yL.mp nd).1 (K7 hv).1,if_neg hk];simp
 |p::P,w::vs,i+1,m,nd,h1,h2,hk=>by
  show bindC kindOf ((p,w)::P.zip vs) m x=_;unfold bindC;exact aiC (i:=i) (yL.mp nd).2 (by simpa using h1) (by simpa using h2) hk
def start(N:List Str)(vs:List V):St:=vs.map some++aX (N.length-vs.length) none
def Af(CX:oH)(P:Program)(w:World)(K:aD)(mg:Str->Option Value)(base:Heap)(N:List Str)(qual:Str)(scope:Scope)(f:Addr)(cd:Value)(A:Around)(outer:List Env)(s:Shared)(H:Hp)(E:XK):Cx where
 prog:=P
 w:=w
 K:=K
 mg:=mg
 base:=base
 A:=A.deeper (envOfC qual scope s.heap.objs.size f cd)
 N:=N
 s₀:=s
 H₀:=H
 env:=envOfC qual scope s.heap.objs.size f cd
 outer:=outer
 stack:=envOfC qual scope s.heap.objs.size f cd::outer
 ex:=[]
 calm:=true
 fn:=λ_=>true
 pn:=[]
 xe:=λe s'=>wpAny (model P w) (A.deeper (envOfC qual scope s.heap.objs.size f cd)) (leaving (envOfC qual scope s.heap.objs.size f cd) e) (λ_ s''=>CX outer H s E e s'') (λe' s''=>CX outer H s E e' s'') s'
def aeC{sc:Scope}{n:Nat}{x:Str}(h:sc.names.lookup x=some .cell):∃c,(cellsFrom n sc.names []).lookup x=some c:=by
 have q:=Zy sc.names n [] (.inl h);exact ZL.mp q
def aep{N ps:List Str}{cd:Value}{A:Around}{outer:List Env}{s s1:Shared}{H:Hp}{E:XK}{us:List Value}{vs:List V}{cb:Bool}
  (S:aK N ps scope) (hd:cb=true->A.handled=none) (e0:uE P w K mg base A outer s H) (hl:vs.length=ps.length) (r:Vals vs us)
  (x:InCallC s s.heap.objs.size (bindL (envOfC qual scope s.heap.objs.size f cd).kindOf (ps.zip us) λ_=>none) (cellsFrom (s.heap.objs.size+1) scope.names []) (bindC (envOfC qual scope s.heap.objs.size f cd).kindOf (ps.zip us) λ_=>none) s1):
  Inv { Af CX P w K mg base N qual scope f cd A outer s H E with calm:=cb } [] (start N vs) H s1:=by
 have hpl:ps.length<=N.length:=by have:=congrArg List.length S.pre;rw[nO]at this;lia
 intros h1 tk rfl hk x.done;have Gu:∀b:Addr,b∉(Af CX P w K mg base N qual scope f cd A outer s H E).ex:=λb z=>absurd (show b∈([]:List Addr)from z) (by simp);refine{{e0.mod,S.kind,rfl,rfl,bK _,λy z c h1 h2=>?_,λy hy=>?_,λy c _ h=>?_,hd,Around.frames_deeper e0.frames,.inr {rfl,(rfl)},λb z=>absurd z (Gu b),e0.bs,e0.qH,λb _ _=>Gu b,λb z=>absurd z (Gu b),e0.mH,e0.uT,e0.tree,{_,(),S.gen,S.co,rfl,rfl}},
  rfl,e0.bare,Un.kept hk,{_,x.toInCall.ns,λi y v h1 h2 h3=>?_},λy c h=>{_,x.cell y c h},e0.hok.fresh (bK _),λy c h=>?_,λp hp=>absurd (show p∈([]:List (Addr×Obj))from hp) (by simp),e0.hok.kept hk,?_}
 .exact name_of_addr x.apart (uX h1) (uX h2)
 .have hy:scope.names.lookup y=some .cell∨scope.names.lookup y=some .free:=hy;rcases hy with hy|hy
  .exact aeC hy
  .exact absurd rfl (S.abx _ (uX hy))
 .exact jE (x.above y c (uX h))
 .have hi:i<vs.length:=by
   unfold start at h2;by_cases hi:i<vs.length
   .exact hi
   .rw[List.getElem?_append_right (by simpa using hi)]at h2;rw[List.getElem?_replicate]at h2;split at h2<;>cases h2
  have ha:vs[i]?=some v:=by
   unfold start at h2;rw[List.getElem?_append_left (by simpa using hi),List.getElem?_map]at h2;cases e:vs[i]? with
   |none=>rw[e]at h2;cases h2
   |some a=>rw[e]at h2;cases h2;rfl
  obtain⟨u,hu,rv⟩:=r.get ha;have hp:ps[i]?=some y:=by
   rw[<-S.pre,List.getElem?_take_of_lt ⋯];exact h1
  have ndP:ps.Nodup:=by rw[<-S.pre];exact S.nd.sublist (List.take_sublist _ _)
  exists u,rv;rcases S.par y (List.mem_of_getElem? hp)with k|k
  .exact .inl {k,aqz ndP hp hu k}
  .obtain⟨c,e⟩:=aeC (n:=s.heap.objs.size+1) k;refine .inr {.inl k,c,e,?_};have q:=x.cell y c e;rw[aiC ndP hp hu (by show scope.names.lookup y≠_;rw[k];decide)]at q;exact q
 .exact e0.hok.fresh (jE (x.above y c (uX h)))
 .unfold start;show _=N.length;rw[gF,bG,rY];lia
def aOI{k:Nat}{name:Str}{params:Arguments}{body:List Stmt}{dV kV doc pm cdv ct oc:Value}{an od:Option Addr}
  {osl:Array (Option Value)} {N ps:List Str} {sp:Sp} (lk:K.lookup f=some {oc,od,.func (mO name qual params body scope dV kV doc pm an cdv ct),osl}) (hcd:Ak K cdv qual=true) (S:aK N ps scope)
  (len:∀vs H Q E,sp vs H Q E->vs.length=ps.length)
  (hbody:∀(A:Around) (outer:List Env) (s:Shared) (H:Hp) (vs:List V) (Q:VK) (E:XK),cT k (A.deeper (envOfC qual scope s.heap.objs.size f cdv))->sp vs H Q E->
   ∃t,iT (Af CX P w K mg base N qual scope f cdv A outer s H E) body t/\t { nx:=λ_ H'=>Q .non H',rt:=Q } (start N vs) H):
  jh P w K mg base CX (k+1) f (mO name qual params body scope dV kV doc pm an cdv ct) ps sp:=by
 refine{len,λA outer s H args us vs Q E hr e0 hb r hsp=>?_};have hl:=len _ _ _ _ hsp;have KX:K.In s.heap:=e0.mod.tZ.keeps λb o e=>(e0.bs b o e).1;have lim:s.heap.NoLimit:=e0.mod.nolimit.keeps λb o e=>(e0.bs b o e).1;have hkind:∀y∈ps.zip us,scope.names.lookup y.1=some .local∨(scope.names.lookup y.1=some .cell/\((cellsFrom (s.heap.objs.size+1) scope.names []).lookup y.1).isSome=true):=λ⟨n,v⟩ hy=>by
  rcases S.par n (K7 hy).1 with q|q
  .exact .inl q
  .exact .inr {q,Zy _ _ _ (.inl q)}
 refine codeAny_call_function hr.depth (KX _ _ lk) rfl S.co S.gen rfl (W.codeRec_of KX hcd) (hb _ _ _ _ ?_);refine wpAny_newFunctionEnv_cells S.kind hkind λenv he s1 x=>?_;subst he;refine{lim.keeps x.toInCall.keep,codeAny_func ?_};obtain⟨t,ht,hq⟩:=hbody A outer s H vs Q E (hr.deeper _) hsp;have I:Inv (Af CX P w K mg base N qual scope f cdv A outer s H E) [] (start N vs) H s1:=aep (cb:=true) S (λ_=>hr.hd) e0 hl r x;refine wpAny_mono (ht [] s1 (start N vs) H _ I hq) (λfl s' hs=>?_) λe s' hs=>hs;have fin:∀{σ':St} {H':Hp} {v:V} {u:Value},Inv (Af CX P w K mg base N qual scope f cdv A outer s H E) [] σ' H' s'->RelV v u->Q v H'->CE outer P w H s Q u s':=
  λ{σ' H' v u} J rv q=>{v,H',J.os,J.bare,J.base,J.hok,rv,(q)}
 cases fl with
 |ret u=>
  intros v σ' H' J rv q hs;exact fin J rv q
 |next=>
  intros σ' H' J q hs;exact fin (v:=V.non) (u:=Value.none) J rfl q
 |brk=>
  intros _ _ _ q hs;exact False.elim q
 |cont=>
  intros _ _ _ q hs;exact False.elim q
end
section
variable {X:Cx} {x:Str} {p pos:Pos} {e:Expr} {es:List Expr} {t:TA} {id T:String} {r:List V->Hp->VK->Prop}
def MR(r:List V->Hp->VK->Prop)(t:TA):TE:=λσ H Q=>t σ H λvs H1=>r vs H1 Q
def eU(hc:gY X (.builtin id) r)(hg:Gl X x)(hm:X.mg x=none)(hv:bootBuiltins x=some (.builtin id))(ha:PA X (e::es) t)(hn:x≠ "__name__" := by decide)(hdb:(x==("__debug__" : Str))=false:=by decide)
  (he:starEach (e::es) X.env=(false,eval e X.env)::starEach es X.env:=by rfl) (hpl:(backTo pos (starEach es X.env)).any (·.1)=false:=by rfl):PE X (.Call (.Name x p) (e::es) [] pos) (MR r t):=by
 intro pins s σ H Q I h;refine wpAny_Call_Name_kw (qJ I hg hm hv ?_ hn hdb);exact aGw (aR (ha pos pins s σ H _ I h) λus s1 ⟨vs,H1,I1,r1,q1⟩=>hc pins s1 σ H1 vs us Q I1 r1 q1) he hpl
def fZ(hc:gY X (.type T) r)(hg:Gl X x)(hm:X.mg x=none)(hv:bootBuiltins x=some (.type T))(ha:PA X (e::es) t)(hn:x≠ "__name__" := by decide)(hdb:(x==("__debug__" : Str))=false:=by decide)
  (he:starEach (e::es) X.env=(false,eval e X.env)::starEach es X.env:=by rfl) (hpl:(backTo pos (starEach es X.env)).any (·.1)=false:=by rfl):PE X (.Call (.Name x p) (e::es) [] pos) (MR r t):=by
 intro pins s σ H Q I h;refine wpAny_Call_Name_kw (qJ I hg hm hv ?_ hn hdb);exact uR (aR (ha pos pins s σ H _ I h) λus s1 ⟨vs,H1,I1,r1,q1⟩=>hc pins s1 σ H1 vs us Q I1 r1 q1) he hpl
end
end L2
namespace HT
open PySem PyProof.Rows
section
open PySem.SeqAt
open PySem.AutoSeq1 (wpAny_loadPart')
open PySem.MeetsSeq PySem.MeetsSeq2 PySem.MeetsSeq3
end
section
variable {prog:Program} {w:World} {A:Around} {E:Value->Shared->Prop} {s:Shared}
section
variable {t sl:Addr}{Q:Value->Shared->Prop}{vl vu:Value}{lo hi:Option Int}
def aKD{b:Addr}{vs ws:List Value}(ht:IsTup s.heap t vs.toArray)(hb:IsTup s.heap b ws.toArray)(hv:vs≠[])
  (h1:ws=[]->Q (.ref t) s) (h2:ws≠[]->Q (.ref s.heap.objs.size) { s with heap:=s.heap.push { cls:= .type "tuple",data:= .seq (vs++ws).toArray } })
  (hsz:vs.length+ws.length<=sizeLine):wpAny (model prog w) A (binaryOp .Add (.ref t) (.ref b)) Q E s:=by
 obtain⟨⟨cls,dd,data,sl⟩,ho,hc,n,hd⟩:=id ht;obtain⟨⟨cls2,dd2,data2,sl2⟩,ho2,hc2,n2,hd2⟩:=id hb;simp only at hc hd hc2 hd2;subst hc hd hc2 hd2;have e:vs.toArray++ws.toArray=(vs++ws).toArray:=by simp
 by_cases hw:ws=[]
 .exact concat_meets {_,ho,rfl} {_,ho2,rfl} noFill_tuple_add seq_tuple_add abd WZ (Ud _ _)
   (tuple_addW1 t b vs.toArray ws.toArray n n2 dd dd2 sl sl2 (by simpa using hv) (by simp[hw])) {ho,ho2,h1 hw}
 .refine concat_meets {_,ho,rfl} {_,ho2,rfl} noFill_tuple_add seq_tuple_add abd WZ (Ud _ _)
   (tuple_addW2 t b vs.toArray ws.toArray n n2 dd dd2 sl sl2 (by simpa using hv) (by simpa using hw) (by rw[fD,fD];exact hsz)) {ho,ho2,?_}
  rw[e];exact h2 hw
def cD(n d:Nat):Option Int->Nat
 |none=>d
 |some v=>if v<0 then(v+(n:Int)).toNat else min v.toNat n
def yJ(n d:Nat):cD n d none=d:=rfl
def yV(n d k:Nat):cD n d (some (k:Int))=min k n:=by
 show(if(k:Int)<0 then((k:Int)+(n:Int)).toNat else min (k:Int).toNat n)=min k n;rw[if_neg ⋯,gR]
def au1(n d:Nat)(hd:d<=n)(o:Option Int):cD n d o<=n:=by
 cases o with
 |none=>exact hd
 |some v=>
  show(if v<0 then(v+(n:Int)).toNat else min v.toNat n)<=n;by_cases hv:v<0
  .rw[if_pos hv];lia
  .rw[if_neg hv];exact aoY _ _
def akf(v:Int)(n d:Nat):(if v<0 then max (v+(n:Int)) 0 else min v (n:Int))=((cD n d (some v):Nat):Int):=by
 show(if v<0 then max (v+(n:Int)) 0 else min v (n:Int))=(((if v<0 then(v+(n:Int)).toNat else min v.toNat n):Nat):Int);by_cases hv:v<0
 .simp only[if_pos hv];lia
 .simp only[if_neg hv];lia
def axE(lo hi:Option Int)(n:Nat):Builtin.Slice.sliceAdjust lo hi 1 (n:Int)=(((cD n 0 lo:Nat):Int),((cD n n hi:Nat):Int)):=by
 have h1:¬((1:Int)<0):=⋯;unfold Builtin.Slice.sliceAdjust;simp only[h1,if_false];refine Prod.ext ?_ ?_
 .cases lo with
  |none=>rfl
  |some v=>exact akf v n 0
 .cases hi with
  |none=>rfl
  |some v=>exact akf v n n
def aQk(i j:Nat):Builtin.Slice.slicePlaces (i:Int) (j:Int) 1=j-i:=by
 unfold Builtin.Slice.slicePlaces;have h1:(1:Int)>0:=⋯;simp only[h1,if_true,GP];split<;>lia
def af6{v:Value}{o:Option Int}{Q:Option Int->Shared->Prop}(p:IsPart v o)(h:Q o s):wpAny (model prog w) A (Builtin.Slice.slicePartIndex v) Q E s:=by
 cases p with
 |none=>exact slicePart_none h
 |int i t=>exact slicePart_int h
def akJ{n:Nat}{Q:Int×Int×Nat->Shared->Prop}(hs:s.heap.IsSliceOf sl vl vu .none)(pl:IsPart vl lo)(pu:IsPart vu hi)
  (h:Q (((cD n 0 lo:Nat):Int),1,cD n n hi-cD n 0 lo) s):wpAny (model prog w) A (Builtin.Slice.sliceApplied (.ref sl) (pure (n:Int))) Q E s:=by
 obtain⟨os,hos,hcs,hds⟩:=id hs;unfold Builtin.Slice.sliceApplied Builtin.Slice.sliceFields;refine wpAny_bind (wpAny_bind (wpAny_field hos hds (x:=vl) rfl (wpAny_bind (wpAny_field hos hds (x:=vu) rfl (wpAny_bind (wpAny_field hos hds (x:= .none) rfl (wpAny_pure ?_)))))));refine wpAny_bind (slicePart_none ?_);show wpAny _ _ (if((1:Int)==0)=true then _ else _) _ _ s;rw[if_neg ∅];refine wpAny_bind (af6 pl (wpAny_bind (af6 pu (wpAny_bind (wpAny_pure ?_)))));show wpAny _ _ (match Builtin.Slice.sliceAdjust lo hi 1 (n:Int)with|(lo,hi)=>pure (lo,(1:Int),Builtin.Slice.slicePlaces lo hi 1)) _ _ s
 rw[axE lo hi n];show wpAny _ _ (pure (((cD n 0 lo:Nat):Int),(1:Int),Builtin.Slice.slicePlaces ((cD n 0 lo:Nat):Int) ((cD n n hi:Nat):Int) 1)) _ _ s;rw[aQk];exact wpAny_pure h
def az1(xs:Array Value)(i k:Nat):((fK k).filterMap λ(m:Nat)=>xs[((i:Int)+(m:Int)*1).toNat]?).toArray=((xs.toList.drop i).take k).toArray:=by
 have e:(λ(m:Nat)=>xs[((i:Int)+(m:Int)*1).toNat]?)=λm=>xs[i+m]?:=by
  funext m
  have:((i:Int)+(m:Int)*1).toNat=i+m:=⋯;rw[this]
 rw[e];have:=pick_run xs i k;rw[List.filterMap_map]at this;have e2:((λx=>xs[x]?)∘λx=>i+x)=λm=>xs[i+m]?:=rfl;rw[e2]at this;rw[this]
def aP7{items:Array Value}(ht:IsTup s.heap t items)(hs:s.heap.IsSliceOf sl vl vu .none)(pl:IsPart vl lo)(pu:IsPart vu hi)
  (hw:¬(cD items.size 0 lo=0/\cD items.size items.size hi=items.size))
  (h:Q (.ref s.heap.objs.size) { s with heap:=s.heap.push { cls:= .type "tuple",data:= .seq ((items.toList.drop (cD items.size 0 lo)).take (cD items.size items.size hi-cD items.size 0 lo)).toArray } })
  (hsz:items.size<=sizeLine):wpAny (model prog w) A (getItem (.ref t) (.ref sl)) Q E s:=by
 have Jm:sizeOk (.seq ((items.toList.drop (cD items.size 0 lo)).take (cD items.size items.size hi-cD items.size 0 lo)).toArray):=by
  show((items.toList.drop (cD items.size 0 lo)).take (cD items.size items.size hi-cD items.size 0 lo)).toArray.size<=sizeLine;rw[fD,nO,tW,FD];lia
 have hj:cD items.size items.size hi<=items.size:=au1 _ _ (bK _) hi;obtain⟨os,hos,hcs,hds⟩:=id hs;have hTs:s.TypeIs (.ref sl) "slice" := {os,hos,(hcs)};unfold getItem;try with_reducible refine wpAny_holding ?_
 first|refine wpAny_bind (wpAny_pure ?_)|skip
 refine wpAny_bind (wpAny_sequenceKey ht.typeIs ∅ ?_);refine wpAny_bind (wpAny_callSpecial?_slot (name:=Str.ofString "__getitem__") ht.typeIs BK
  (wpAny_call_entry BK ht.typeIs entry_tuple_getitem ?_ (args_tuple_getitem _ _)))
 show wpAny _ _ (Builtin.Tuple.tupleItemsOf (.ref t)>>=_) _ _ s;refine wpAny_bind (tupleItemsOf_ ht ?_);refine wpAny_bind (wpAny_typeOf hTs ?_);rw[if_pos ∅];refine wpAny_bind (akJ hs pl pu ?_);have hno:¬((((cD items.size 0 lo:Nat):Int)==0&&(1:Int)==1&&(cD items.size items.size hi-cD items.size 0 lo)==items.size)=true):=by
  intro q;rw[cW,cW]at q;have q1:((cD items.size 0 lo:Nat):Int)=0:=eq_of_beq q.1.1;have q2:cD items.size items.size hi-cD items.size 0 lo=items.size:=eq_of_beq q.2;exact hw {⋯,⋯}
 show wpAny _ _ (if(((cD items.size 0 lo:Nat):Int)==0&&(1:Int)==1&&(cD items.size items.size hi-cD items.size 0 lo)==items.size)=true then _ else _) _ _ s;rw[if_neg hno,az1];first
  |exact wpAny_bind (m:=Builtin.Tuple.tupleExact _) (wpAny_newObj_type (wpAny_pure {(),wpAny_pure h}) Jm)
  |exact wpAny_bind (m:=Builtin.Tuple.tupleExact _) (wpAny_newObj_type (wpAny_bind (wpAny_pure (wpAny_pure {(),wpAny_pure h}))) Jm)
  |exact wpAny_bind (wpAny_bind (m:=Builtin.Tuple.tupleExact _) (wpAny_newObj_type (wpAny_pure (wpAny_pure {(),wpAny_pure h})) Jm))
  |exact wpAny_bind (wpAny_bind (m:=Builtin.Tuple.tupleExact _) (wpAny_newObj_type (wpAny_pure {(),wpAny_pure h}) Jm))
end
end
end HT
namespace L2
open PySem PySem.Spec PyProof.Rows
abbrev TO:=St->Hp->(Option Int->Hp->Prop)->Prop
def PO(X:Cx)(e:Option Expr)(t:TO):Prop:=
 ∀(pins:List (Addr×Obj)) (s:Shared) (σ:St) (H:Hp) (Q:Option Int->Hp->Prop),Inv X pins σ H s->t σ H Q->
  wpAny (model X.prog X.w) X.A (evalPart e X.env) (λu s'=>∃o H',Inv X pins σ H' s'/\IsPart u o/\Q o H') X.xe s
def aLu:TO:=λ_ H Q=>Q none H
inductive aQj(x:V)(H:Hp)(Q:Option Int->Hp->Prop):Prop|mk (i:Int) (hx:x = .int i) (q:Q (some i) H)
def aNF(t:TE):TO:=λσ H Q=>t σ H λx H1=>aQj x H1 Q
def intsAre_of{ns:List Int}:∀{us:List Value},Vals (ns.map V.int) us->IntsAre us ns:=by
 induction ns with
 |nil=>intro us r;rw[xO]at r;cases r;exact .nil
 |cons n ns ih=>
  intro us r;rw[fB]at r;cases r with
  |cons r1 r2=>
   intros t e r1;subst e;exact .cons n t (ih r2)
section
variable {X:Cx} {e:Expr} {te:TE} {lo hi:Option Expr} {tl th:TO} {pos p2:Pos}
def jr:PO X none aLu:=by
 intro pins s σ H Q I h;rw[evalPart_none];exact wpAny_pure {none,H,I,.none,h}
def jd(h:PE X e te):PO X (some e) (aNF te):=by
 intro pins s σ H Q I hw;rw[evalPart_some];refine aR (h pins s σ H _ I hw) λu s1 ⟨x,H1,I1,r1,q1⟩=>?_;intros i rfl q q1;intros t rfl r1;exact{some i,H1,I1,.int i t,q}
def mz(X:Cx)(r:V->Option Int->Option Int->Hp->VK->Prop):Prop:=
 ∀(pins:List (Addr×Obj)) (s:Shared) (σ:St) (H:Hp) (x:V) (v vl vu:Value) (lo hi:Option Int) (sl:Addr) (Q:VK),Inv X pins σ H s->RelV x v->s.heap.IsSliceOf sl vl vu .none->IsPart vl lo->IsPart vu hi->r x lo hi H Q->
  ∃T id,typeLookup (.type T) "__getitem__" = pure (some (.builtin id))/\s.TypeIs v T/\wpAny (model X.prog X.w) X.A (getItem v (.ref sl)) (EP X pins σ Q) X.xe s
def mz.or{r r':V->Option Int->Option Int->Hp->VK->Prop}(h:mz X r)(h':mz X r'):mz X (λx lo hi H Q=>r x lo hi H Q∨r' x lo hi H Q):=by
 intro pins s σ H x v vl vu lo hi sl Q I rx hs pl pu q;rcases q with q|q
 .exact h pins s σ H x v vl vu lo hi sl Q I rx hs pl pu q
 .exact h' pins s σ H x v vl vu lo hi sl Q I rx hs pl pu q
def tSl(r:V->Option Int->Option Int->Hp->VK->Prop)(te:TE)(tl th:TO):TE:=λσ H Q=>te σ H λx H1=>tl σ H1 λl H2=>th σ H2 λu H3=>r x l u H3 Q
def jq{r:V->Option Int->Option Int->Hp->VK->Prop}(hr:mz X r)(he:PE X e te)(hl:PO X lo tl)(hu:PO X hi th):PE X (.Subscript e (.Slice lo hi none p2) pos) (tSl r te tl th):=by
 intro pins s σ H Q I h;refine Subscript_ (aR (he pins s σ H _ I h) λv s1 ⟨x,H1,I1,r1,q1⟩=>?_);refine wpAny_Slice (aR (hl pins s1 σ H1 _ I1 q1) λvl s2 ⟨l,H2,I2,pl,q2⟩=>aR (hu pins s2 σ H2 _ I2 q2) λvu s3 ⟨u,H3,I3,pu,q3⟩=>?_);rw[evalPart_none];refine wpAny_pure ?_;have I4:Inv X pins σ H3 { s3 with heap:=s3.heap.push { cls:= .type "slice",data:= .fields #[vl,vu,.none] } }:=I3.kept (t':=s3.toks) λb ob q=>Heap.get?_push_of_some _ q;obtain⟨T,id,hT,ht,hg⟩:=hr pins { s3 with heap:=s3.heap.push { cls:= .type "slice",data:= .fields #[vl,vu,.none] } } σ H3 x v vl vu l u s3.heap.objs.size Q I4 r1 (aFE ..) pl pu q3;show wpAny (model X.prog X.w) X.A (subscriptTail e (.Slice lo hi none p2) v (.ref s3.heap.objs.size)) (EP X pins σ Q) X.xe { s3 with heap:=s3.heap.push { cls:= .type "slice",data:= .fields #[vl,vu,.none] } };exact tail_any (ops:=[.ref s3.heap.objs.size,v]) ht hT hg (by with_unfolding_all rfl)
def gq(xs:List V)(lo hi:Option Int):List V:=(xs.drop (HT.cD xs.length 0 lo)).take (HT.cD xs.length xs.length hi-HT.cD xs.length 0 lo)
def adq(xs:List V)(lo hi:Option Int):(gq xs lo hi).length<=xs.length:=by
 unfold gq;rw[nO,tW];lia
def aut(K:aD):V->Option Int->Option Int->Hp->VK->Prop:=λx lo hi H Q=>∃a xs,x = .ref a/\aq K H a xs/\
 ¬(HT.cD xs.length 0 lo=0/\HT.cD xs.length xs.length hi=xs.length)/\∀p,H p=none->Q (.ref p) (upd H p (.tup (gq xs lo hi)))
def aFP:mz X (aut X.K):=by
 intro pins s σ H x v vl vu lo hi sl Q I rx hs pl pu h;intros a xs rfl hx hw q h;cases rx;obtain⟨its,r,ht,hz⟩:=I.tuple hx;have hlen:its.toArray.size=xs.length:=by rw[fD];exact r.length.symm
 exists "tuple",_,BK.lookup,ht.typeIs;refine HT.aP7 ht hs pl pu (by rw[hlen];exact hw) ?_ (by rw[hlen];exact hz);rw[hlen];refine{.ref s.heap.objs.size,_,I.laid (t':=s.toks) (o:= .tup (gq xs lo hi)) (λb ob q=>Heap.get?_push_of_some _ q) (bK _) ?_,rfl,q _ (I.hok.fresh (bK _))};exact{eV (adq xs lo hi) hz,_,(r.drop (HT.cD xs.length 0 lo)).take (HT.cD xs.length xs.length hi-HT.cD xs.length 0 lo),IsTup.new _ _}
def awk(K:aD):R2:=λx y H Q=>∃a b xs ys,x = .ref a/\y = .ref b/\aq K H a xs/\aq K H b ys/\xs≠[]/\xs.length+ys.length<=sizeLine/\
 (ys=[]->Q (.ref a) H)/\(ys≠[]->∀p,H p=none->Q (.ref p) (upd H p (.tup (xs++ys))))
def Vals.wG{xs:List V}{us:List Value}(r:Vals xs us):us=[]↔xs=[]:=by
 cases r with
 |nil=>simp
 |cons _ _=>simp
def aJE:cQ X (binaryOp .Add) (awk X.K):=by
 intro pins s σ H x y v u Q I rx ry h;intros a b xs ys rfl rfl ha hb hx hz q1 q2 h;cases rx;cases ry;obtain⟨its,r1,p1,_⟩:=I.tuple ha;obtain⟨its2,r2,p2,_⟩:=I.tuple hb;refine HT.aKD p1 p2 (λz=>hx (r1.wG.mp z)) (λz=>{.ref a,H,I,rfl,q1 (r2.wG.mp z)}) (λz=>?_) (by rw[<-r1.length,<-r2.length];exact hz);refine{.ref s.heap.objs.size,_,I.laid (t':=s.toks) (o:= .tup (xs++ys)) (λb ob q=>Heap.get?_push_of_some _ q) (bK _) ?_,rfl,q2 (λw=>z (r2.wG.mpr w)) _ (I.hok.fresh (bK _))};exact{by rw[gF];exact hz,_,r1.append r2,IsTup.new _ _}
end
def sS(n:Nat)(i:Int):Option Nat:=if 0<=i then(if i<n then some i.toNat else none)else if -(n:Int)<=i then some (i+n).toNat else none
def iy{α:Type}(xs:List α)(i:Int):Option α:=(sS xs.length i).bind λj=>xs[j]?
def akR{n:Nat}{i:Int}{j:Nat}(h:sS n i=some j):seqIndex? i n=some j/\j<n/\-(n:Int)<=i/\i<n:=by
 unfold sS at h;by_cases h0:0<=i
 .rw[if_pos h0]at h;by_cases h1:i<n
  .rw[if_pos h1]at h;have e:i.toNat=j:=jT h;exact{by rw[seqIndex_of h0 h1,e],⋯,⋯,h1}
  .rw[if_neg h1]at h;cases h
 .rw[if_neg h0]at h;by_cases h1:-(n:Int)<=i
  .rw[if_pos h1]at h;have e:(i+n).toNat=j:=jT h;exact{by rw[seqIndex_neg ⋯ h1,e],⋯,h1,⋯}
  .rw[if_neg h1]at h;cases h
def acK{α:Type}{xs:List α}{i:Int}{v:α}(h:iy xs i=some v):∃j,seqIndex? i xs.length=some j/\xs[j]?=some v/\j<xs.length/\-(xs.length:Int)<=i/\i<xs.length:=by
 unfold iy at h;cases e:sS xs.length i with
 |none=>rw[e]at h;cases h
 |some j=>
  rw[e]at h;obtain⟨h1,h2,h3,h4⟩:=akR e;exact{j,h1,h,h2,h3,(h4)}
def qd{α:Type}{xs:List α}{j:Nat}{v:α}(h:xs[j]?=some v):iy xs (j:Int)=some v:=by
 have hj:j<xs.length:=(List.getElem?_eq_some_iff.mp h).1;have e:sS xs.length (j:Int)=some j:=by
  unfold sS;rw[if_pos ⋯,if_pos ⋯];simp
 unfold iy;rw[e];exact h
def Qv(b:Expr):Prop:=∀o i,subscripted b false o i=operate [o,i] (getItem o i)
def kj(X:Cx)(r:R2):Prop:=
 ∀(value slice:Expr) (pins:List (Addr×Obj)) (s:Shared) (σ:St) (H:Hp) (x y:V) (v u:Value) (Q:VK),Inv X pins σ H s->RelV x v->RelV y u->r x y H Q->
  subscripted slice false v u=operate [v,u] (getItem v u)->wpAny (model X.prog X.w) X.A (subscriptTail value slice v u) (EP X pins σ Q) X.xe s
def tM(X:Cx)(id:String)(r:V->List V->Hp->VK->Prop):Prop:=
 ∀(pins:List (Addr×Obj)) (s:Shared) (σ:St) (H:Hp) (x:V) (xs:List V) (v:Value) (us:List Value) (Q:VK),Inv X pins σ H s->RelV x v->Vals xs us->r x xs H Q->
  wpAny (model X.prog X.w) X.A (call (.builtin id) (v::us)) (EP X pins σ Q) X.xe s
section
variable {X:Cx} {a b:Expr} {ta tb:TE} {pos:Pos}
section
variable {r:R2}{pins:List (Addr×Obj)}{σ:St}{H:Hp}{s:Shared}{y x:V}{u v:Value}
def kj.or{r':R2}(h:kj X r)(h':kj X r'):kj X (λx y H Q=>r x y H Q∨r' x y H Q):=by
 intro value slice pins s σ H x y v u Q I rx ry q hs;rcases q with q|q
 .exact h value slice pins s σ H x y v u Q I rx ry q hs
 .exact h' value slice pins s σ H x y v u Q I rx ry q hs
def aOE(hr:kj X r)(ha:PE X a ta)(hb:PE X b tb)(hs:Qv b):PE X (.Subscript a b pos) (oY r ta tb):=by
 intro pins s σ H Q I h;exact Subscript_ (Js ha hb I h λv u s2 x y H2 I2 rx ry q=>hr a b pins s2 σ H2 x y v u Q I2 rx ry q (hs _ _))
def ajD(K:aD):R2:=λx y H Q=>∃p xs i v,x = .ref p/\y = .int i/\aj K H p xs/\iy xs i=some v/\Q v H
def ag1(K:aD):R2:=λx y H Q=>∃p xs i v,x = .ref p/\y = .int i/\aq K H p xs/\iy xs i=some v/\Q v H
def amu:R2:=λx y H Q=>∃z i c,x = .str z/\y = .int i/\z.length<=sizeLine/\iy z.cps.toList i=some c/\Q (.str {(#[c])}) H
def aGp:kj X (ajD X.K):=by
 intro value slice pins s σ H x y v u Q I rx ry h hs;intros p xs i z rfl rfl hq he q h;cases rx;intros t rfl ry;obtain⟨its,r,pl,hz⟩:=I.list hq;obtain⟨j,h1,h2,h3,h4,h5⟩:=acK he;obtain⟨w,ew,j7⟩:=r.get h2;have hl:=r.length;have hn:=Cm;have fin:EP X pins σ Q w s:={z,H,I,j7,(q)};by_cases h0:0<=i
 .have hj:i.toNat=j:=by
   rw[seqIndex_of h0 h5]at h1;exact jT h1
  exact item_listR pl.isList h0 ⋯ (by rw[hj];simpa using ew) fin hs
 .have hj:(i+(its.toArray.size:Int)).toNat=j:=by
   rw[seqIndex_neg ⋯ h4]at h1;rw[fD,<-hl];exact jT h1
  exact subscriptTail_builtinR (x:=w) pl.isList.typeIs slot_list_getitem.lookup
   (wpAny_getItem_list_neg (Q:=λr s'=>r=w/\EP X pins σ Q r s') pl.isList ⋯ (by rw[fD]<;>lia) ⋯ (by rw[hj];simpa using ew) {rfl,(fin)}) hs
def awf:kj X (ag1 X.K):=by
 intro value slice pins s σ H x y v u Q I rx ry h hs;intros p xs i z rfl rfl hq he q h;cases rx;intros t rfl ry;obtain⟨its,r,pl,hz⟩:=I.tuple hq;obtain⟨j,h1,h2,h3,h4,h5⟩:=acK he;obtain⟨w,ew,j7⟩:=r.get h2;have hl:=r.length;have hn:=Cm;have fin:EP X pins σ Q w s:={z,H,I,j7,(q)};exact subscriptTail_builtinR (x:=w) pl.typeIs slot_tuple_getitem.lookup
  (getItem_tuple (j:=j) (Q:=λr s'=>r=w/\EP X pins σ Q r s') pl ⋯ ⋯ (by rw[fD,<-hl];exact h1) (by simpa using ew) {rfl,(fin)}) hs
def aQZ:kj X amu:=by
 intro value slice pins s σ H x y v u Q I rx ry h hs;intros z i c rfl rfl hz he q h;intros t rfl rx;intros t' rfl ry;obtain⟨j,h1,h2,h3,h4,h5⟩:=acK he;have hl:z.cps.toList.length=z.length:=by simp[Str.length]
 rw[hl]at h1 h4 h5;have hn:=Cm;exact tail_any (typeIs_str s z t) slot_str_getitem.lookup (getItem_str (c:=c) (by
  have e1:decide (i < -(2^63:Int))=false:=decide_eq_false ⋯;have e2:decide (i≥2^63)=false:=decide_eq_false ⋯;rw[e1,e2,Bool.or_false]) (by rw[h1];simpa using h2) {.str {(#[c])},H,I.tok _,{()},q}) hs
def rIx(K:aD):R2:=λx y H Q=>ajD K x y H Q∨ag1 K x y H Q∨amu x y H Q
def auQ:kj X (rIx X.K):=aGp.or (awf.or aQZ)
def aL2(its:List Value)(n j:Nat)(u:Value):wA (·.setIfInBounds j u) { cls:= .type "list",data:= .seq its.toArray n }={ cls:= .type "list",data:= .seq (its.set j u).toArray n }:=by
 simp[wA]
theorem Inv.lst{pins:List (Addr×Obj)}{σ:St}{H:Hp}{s:Shared}{p:Addr}{xs:List V}(I:Inv X pins σ H s)(h:H p=some (.lst xs)):
  ∃(its:List Value) (n:Nat),Vals xs its/\s.heap.get? p=some { cls:= .type "list",data:= .seq its.toArray n }/\xs.length<=sizeLine:=by
 obtain⟨z,its,n,r,e⟩:=I.hok p _ h;exact{its,n,r,e,(z)}
def Inv.aIn{p:Addr}{xs ys:List V}{its its':List Value}{n n':Nat}{f:Obj->Obj}(I:Inv X pins σ H s)(h:H p=some (.lst xs))
  (ho:s.heap.get? p=some { cls:= .type "list",data:= .seq its.toArray n }) (hf:f { cls:= .type "list",data:= .seq its.toArray n }={ cls:= .type "list",data:= .seq its'.toArray n' }) (r:Vals ys its') (hz:ys.length<=sizeLine) (t:Nat):
  Inv X pins σ (upd H p (.lst ys)) { s with heap:=s.heap.update p f,toks:=t }:=by
 have e:(s.heap.update p f).get? p=some { cls:= .type "list",data:= .seq its'.toArray n' }:=by
  rw[Heap.get?_update_self f ho (by rw[hf]<;>rfl),hf]
 refine I.write (x:=p) (e:=p) (by rw[h];trivial) (.inl rfl) (λb u hb q=>(Heap.get?_update_other _ _ (dw hb)).trans q) {_,e} ?_;exact{hz,its',n',r,(e)}
inductive SSet(o i z:V)(H:Hp)(Q:Hp->Prop):Prop|mk (p:Addr) (xs:List V) (k:Int) (j:Nat) (ho:o = .ref p) (hi:i = .int k) (hp:H p=some (.lst xs)) (hj:sS xs.length k=some j) (q:Q (upd H p (.lst (xs.set j z))))
def arO:V->V->V->Hp->(Hp->Prop)->Prop:=λo i v H Q=>SSet o i v H Q
def set_list:aoi X arO:=by
 intro pins s σ H o i v ov iv u Q I ro ri rv h;intros p xs k j rfl rfl hp hj q h;cases ro;intros t rfl ri;obtain⟨its,n,r,ho,hz⟩:=I.lst hp;obtain⟨h1,h2,h3,h4⟩:=akR hj;have hl:=r.length;have hn:=Cm;have I':Inv X pins σ (upd H p (.lst (xs.set j v))) { s with heap:=s.heap.update p (wA (·.setIfInBounds j u)) }:=
  I.aIn hp ho (aL2 its n j u) (r.set rv j) (by rw[LV];exact hz) s.toks
 by_cases h0:0<=k
 .have hk:k.toNat=j:=by
   rw[seqIndex_of h0 h4]at h1;exact jT h1
  exact W.ki_setAt ho h0 ⋯ (by rw[fD,<-hl];exact h4) (by rw[hk];exact{_,I',q})
 .have hk:(k+(its.toArray.size:Int)).toNat=j:=by
   rw[seqIndex_neg ⋯ h3]at h1;rw[fD,<-hl];exact jT h1
  exact W.ki_setBack ho ⋯ (by rw[fD,<-hl];exact h3) ⋯ (by rw[hk];exact{_,I',q})
def aHC(lo hi:Option Int)(n:Nat):(sliceBounds lo hi none n).1=((HT.cD n 0 lo:Nat):Int)/\(sliceBounds lo hi none n).2.1=((HT.cD n n hi:Nat):Int)/\(sliceBounds lo hi none n).2.2=1:=by
 refine{?_,?_,rfl}
 .cases lo with
  |none=>simp[sliceBounds,HT.cD]
  |some i=>
   simp only[sliceBounds,HT.cD,LK,(∅:(1:Int)>0),if_true];by_cases h:i<0
   .simp only[h,if_true]<;>lia
   .simp only[h,if_false]<;>lia
 .cases hi with
  |none=>simp[sliceBounds,HT.cD]
  |some i=>
   simp only[sliceBounds,HT.cD,LK,(∅:(1:Int)>0),if_true];by_cases h:i<0
   .simp only[h,if_true]<;>lia
   .simp only[h,if_false]<;>lia
def aEu(its:List Value)(lo hi:Option Int):slicePick its.toArray lo hi none=((its.drop (HT.cD its.length 0 lo)).take (HT.cD its.length its.length hi-HT.cD its.length 0 lo)).toArray:=by
 obtain⟨h1,h2,h3⟩:=aHC lo hi its.toArray.size;unfold slicePick;rw[h1,h2,h3];simp only[sliceRange_one,pick_run,fD]<;>rfl
def awb(K:aD):V->Option Int->Option Int->Hp->VK->Prop:=λx lo hi H Q=>∃a xs,x = .ref a/\aj K H a xs/\∀p,H p=none->Q (.ref p) (upd H p (.lst (gq xs lo hi)))
def aC3:mz X (awb X.K):=by
 intro pins s σ H x v vl vu lo hi sl Q I rx hs pl pu h;intros a xs rfl hx q h;cases rx;obtain⟨its,r,ht,hz⟩:=I.list hx;have hlen:=r.length;exists "list",_,slot_list_getitem.lookup,ht.isList.typeIs;refine wpAny_getItem_list_slice ht.isList hs pl pu .none (by simp) ?_ (by rw[fD]<;>lia);rw[aEu,<-hlen];refine{.ref s.heap.objs.size,_,I.laid (t':=s.toks) (o:= .lst (gq xs lo hi)) (λb ob q=>Heap.get?_push_of_some _ q) (bK _) ?_,rfl,q _ (I.hok.fresh (bK _))};exact{eV (adq xs lo hi) hz,_,0,(r.drop (HT.cD xs.length 0 lo)).take (HT.cD xs.length xs.length hi-HT.cD xs.length 0 lo),Heap.get?_push_size _ rfl}
def jA:V->Bool
 |.non=>true
 |.bl _=>true
 |.int _=>true
 |.str _=>true
 |_=>false
def oJ:V->V->Bool
 |.non,.non=>true
 |.bl a,.bl b=>a==b
 |.bl a,.int b=>(if a then 1 else 0)==b
 |.int a,.bl b=>a==(if b then 1 else 0)
 |.int a,.int b=>a==b
 |.str a,.str b=>a==b
 |_,_=>false
def ajN{A:Around}(ry:RelV y u)(rx:RelV x v)(fy:jA y=true)(fx:jA x=true):SeqAt.EqAt A s u v (oJ y x):=by
 cases y with
 |non=>
  cases ry;cases x with
  |non=>cases rx;exact SeqAt.EqAt.same _
  |bl b=>cases rx;exact SeqAt.EqAt.none_bool b
  |int b=>intros t rfl rx;exact SeqAt.EqAt.none_int b t
  |str b=>intros t rfl rx;exact SeqAt.EqAt.none_str b t
  |_=>exact absurd (show false=true from fx) fu
 |bl a=>
  cases ry;cases x with
  |non=>cases rx;exact SeqAt.EqAt.bool_none a
  |bl b=>cases rx;exact SeqAt.EqAt.bool_bool a b
  |int b=>intros t rfl rx;exact SeqAt.EqAt.bool_int a b t
  |str b=>intros t rfl rx;exact SeqAt.EqAt.bool_str a b t
  |_=>exact absurd (show false=true from fx) fu
 |int a=>
  intros t' rfl ry;cases x with
  |non=>cases rx;exact SeqAt.EqAt.int_none a t'
  |bl b=>cases rx;exact SeqAt.EqAt.int_bool a t' b
  |int b=>intros t rfl rx;exact SeqAt.EqAt.int_int a t' b t
  |str b=>intros t rfl rx;exact SeqAt.EqAt.int_str a t' b t
  |_=>exact absurd (show false=true from fx) fu
 |str a=>
  intros t' rfl ry;cases x with
  |non=>cases rx;exact SeqAt.EqAt.str_none a t'
  |bl b=>cases rx;exact SeqAt.EqAt.str_bool a t' b
  |int b=>intros t rfl rx;exact SeqAt.EqAt.str_int a t' b t
  |str b=>intros t rfl rx;exact SeqAt.EqAt.str_str a t' b t
  |_=>exact absurd (show false=true from fx) fu
 |_=>exact absurd (show false=true from fy) fu
def sJ(x:V)(u:Value):Bool:=match u with
 |.none=>oJ .non x
 |.bool b=>oJ (.bl b) x
 |.int i _=>oJ (.int i) x
 |.str z _=>oJ (.str z) x
 |_=>false
def adp(r:RelV y u)(f:jA y=true):sJ x u=oJ y x:=by
 cases y with
 |non=>cases r;rfl
 |bl b=>cases r;rfl
 |int i=>intros t rfl r;rfl
 |str z=>intros t rfl r;rfl
 |_=>exact absurd (show false=true from f) fu
theorem UG{x:V}:∀{xs:List V} {us:List Value},Vals xs us->xs.all jA=true->us.any (sJ x)=xs.any λy=>oJ y x
 |_,_,.nil,_=>rfl
 |y::xs,u::us,.cons r t,f=>by
  rw[acw,cW]at f;rw[ED,ED,adp r f.1,UG t f.2]
theorem aaG{A:Around}{s:Shared}{x:V}{v:Value}(rx:RelV x v)(fx:jA x=true):∀{xs:List V} {us:List Value},Vals xs us->xs.all jA=true->∀u∈us,SeqAt.EqAt A s u v (sJ x u)
 |_,_,.nil,_=>λu hu=>by cases hu
 |y::xs,u::us,.cons r t,f=>λu' hu=>by
  rw[acw,cW]at f;rcases dz.mp hu with rfl|hu
  .rw[adp r f.1];exact ajN r rx f.1 fx
  .exact aaG rx fx t f.2 u' hu
def inV(x:V)(xs:List V):Bool:=xs.any λy=>oJ y x
def rIn(K:aD)(neg:Bool):R2:=λx y H Q=>∃p xs,y = .ref p/\(aj K H p xs∨aq K H p xs)/\jA x=true/\xs.all jA=true/\Q (.bl (if neg then !inV x xs else inV x xs)) H
def aq2:cQ X (compareOp .In) (rIn X.K false):=by
 intro pins s σ H x y v u Q I rx ry h;intros p xs rfl hq fx fs q h;cases ry;rcases hq with hq|hq
 .obtain⟨its,r,pl,hz⟩:=I.list hq;refine SeqAt.in_listAt (sJ x) pl.isList (λw hw=>aaG rx fx r fs w (by simpa using hw)) {.bl _,H,I,rfl,?_};rw[show its.toArray.any (sJ x)=its.any (sJ x)by simp,UG r fs];exact q
 .obtain⟨its,r,pl,hz⟩:=I.tuple hq;refine SeqAt.in_tupleAt (sJ x) pl (λw hw=>aaG rx fx r fs w (by simpa using hw)) {.bl _,H,I,rfl,?_};rw[show its.toArray.any (sJ x)=its.any (sJ x)by simp,UG r fs];exact q
def aDh:gY X (.type "list") (λxs H Q=>∃p ys,xs=[.ref p]/\(aj X.K H p ys∨aq X.K H p ys)/\∀l,H l=none->Q (.ref l) (upd H l (.lst ys))):=by
 intro pins s σ H xs us Q I r h;intros p ys rfl hq q h;obtain⟨u,rfl,rx⟩:=vals1 r;cases rx;have fin:∀(its:List Value),Vals ys its->ys.length<=sizeLine->∀(h':Heap) (c':Nat),(∀b o',s.heap.get? b=some o'->h'.get? b=some o')->
   h'.get? s.heap.objs.size=some { cls:= .type "list",dict:=none,data:= .seq its.toArray c',slots:=#[] }->EP X pins σ Q (.ref s.heap.objs.size) { s with heap:=h' }:=λits r' hz h' c' kp e=>
  {.ref s.heap.objs.size,_,I.laid (t':=s.toks) kp (bK _) (show eO X.prog X.w _ h' _ (.lst ys)from{hz,its,c',r',(e)}),rfl,q _ (I.hok.fresh (bK _))}
 rcases hq with hq|hq
 .obtain⟨its,r',pl,hz⟩:=I.list hq;have hlen:=r'.length;intros o ho hc n hd pl.isList;exact call_list_seq p (.inl rfl) ho hc hd (λh' c' kp e=>fin its r' hz h' c' kp e) (by simp only[fD]<;>lia)
 .obtain⟨its,r',pl,hz⟩:=I.tuple hq;have hlen:=r'.length;intros o ho hc n hd pl;exact call_list_seq p (.inr rfl) ho hc hd (λh' c' kp e=>fin its r' hz h' c' kp e) (by simp only[fD]<;>lia)
def aGN:gY X (.type "tuple") (λxs H Q=>∃p ys,xs=[.ref p]/\((aj X.K H p ys/\∀l,H l=none->Q (.ref l) (upd H l (.tup ys)))∨(aq X.K H p ys/\Q (.ref p) H))):=by
 intro pins s σ H xs us Q I r h;intros p ys rfl h h;obtain⟨u,rfl,rx⟩:=vals1 r;cases rx;rcases h with⟨hq,q⟩|⟨hq,q⟩
 .obtain⟨its,r',pl,hz⟩:=I.list hq;have hlen:=r'.length;refine call_tuple_list pl.isList (λh' kp=>?_) (by simp only[fD]<;>lia);have I1:Inv X pins σ H { s with heap:=h' }:=I.kept (t':=s.toks) kp;have I2:Inv X pins σ (upd H h'.objs.size (.tup ys)) { s with heap:=h'.push { cls:= .type "tuple",data:= .seq its.toArray } }:=
   I1.laid (t':=s.toks) (λb o e=>Heap.get?_push_of_some _ e) (bK _) (show eO X.prog X.w _ _ _ (.tup ys)from{hz,its,r',IsTup.new _ _})
  exact{.ref h'.objs.size,_,I2,rfl,q _ (I1.hok.fresh (bK _))}
 .obtain⟨its,r',pl,hz⟩:=I.tuple hq;exact call_tuple_same pl {.ref p,H,I,rfl,q}
def Tc(K:aD)(T:String)(x:V)(H:Hp):Prop:=match x with
 |.str _=>T = "str"
 |.int _=>T = "int"
 |.ref p=>(T = "list" /\ ∃xs,aj K H p xs)∨(T = "tuple" /\ ∃o,K.lookup p=some o/\o.cls = .type "tuple" /\ o.dict=none)∨
   (T = "dict" /\ ((∃kvs,H p=some (.dK kvs))∨∃kvs,H p=some (.dT kvs)))∨(T = "set" /\ ∃S n,H p=some (.set S n))
 |_=>False
def aeH{T:String}(I:Inv X pins σ H s)(r:RelV x v)(ty:Tc X.K T x H):
  s.TypeIs v T/\∀a,v = .ref a->∃ob,s.heap.get? a=some ob/\ob.dict=none:=by
 cases x with
 |str z=>
  intros t rfl r;cases (show T = "str" from ty);exact{typeIs_str s z t,λ_ e=>nomatch e}
 |int i=>
  intros t rfl r;cases (show T = "int" from ty);exact{typeIs_int s i t,λ_ e=>nomatch e}
 |ref p=>
  cases r;rcases ty with⟨rfl,xs,hq⟩|⟨rfl,o,hk,hc,hd⟩|⟨rfl,hk⟩|⟨rfl,S,n,hk⟩
  .obtain⟨its,_,pl,_⟩:=I.list hq;refine{pl.isList.typeIs,λa e=>?_};cases e;intros o n e c hd _ pl;exact{o,e,(hd)}
  .refine{{o,I.dj p o hk,hc},λa e=>?_};cases e;exact{o,I.dj _ o hk,hd}
  .have z:∃o,s.heap.get? p=some o/\o.ExactDict:=by
    rcases hk with⟨kvs,hk⟩|⟨kvs,hk⟩
    .obtain⟨_,_,_,_,o,_,_,e,ex,_⟩:=I.hok p _ hk;exact{o,e,(ex)}
    .obtain⟨_,_,_,_,o,_,_,e,ex,_⟩:=I.hok p _ hk;exact{o,e,(ex)}
   intros o e ex z;refine{{o,e,(ex.1)},λa e2=>?_};cases e2;exact{o,e,(ex.2.1)}
  .obtain⟨o,_,_,_,e,ex,_⟩:=I.hok p _ hk;refine{{o,e,(ex.1)},λa e2=>?_};cases e2;exact{o,e,(ex.2.1)}
 |_=>exact False.elim ty
inductive azU(K:aD)(T:String)(r:V->List V->Hp->VK->Prop)(x:V)(H:Hp)(Q:VK):Prop|mk (h:Tc K T x H) (q:r x [] H Q)
def ah6(K:aD)(T:String)(r:V->List V->Hp->VK->Prop)(to:TE):TE:=λσ H Q=>to σ H λx H1=>azU K T r x H1 Q
inductive SBM(K:aD)(T:String)(r:V->List V->Hp->VK->Prop)(t:TA)(x:V)(σ:St)(H:Hp)(Q:VK):Prop|mk (h:Tc K T x H) (q:t σ H λxs H2=>r x xs H2 Q)
def Ld(K:aD)(T:String)(r:V->List V->Hp->VK->Prop)(to:TE)(t:TA):TE:=λσ H Q=>to σ H λx H1=>SBM K T r t x σ H1 Q
end
variable {o e:Expr} {es:List Expr} {to:TE} {t:TA} {name:Str} {apos cpos:Pos} {T id:String} {r:V->List V->Hp->VK->Prop}
def aJn(pa:PlainAttrs T)(slot:Slot T name id)(hty:typeOf (.builtin id)=pure (.type "method_descriptor"))(hm:tM X id r)(ho:PE X o to)
  (hbase:attributeBase o name X.env (eval o X.env)=eval o X.env:=by rfl) (hline:(apos.endLine==cpos.line)=true:=by rfl):PE X (.Call (.Attribute o name apos) [] [] cpos) (ah6 X.K T r to):=by
 intro pins s σ H Q I h;refine wpAny_Call_method0_late hbase hline (aR (ho pins s σ H _ I h) λv s1 ⟨x,H1,I1,r1,ty,q1⟩=>?_);obtain⟨h1,h2⟩:=aeH I1 r1 ty;exact{T,id,pa,slot,hty,h1,h2,GD rfl (PySem.evalArgs_none (hm pins s1 σ H1 x [] v [] Q I1 r1 .nil q1))}
def Zh(pa:PlainAttrs T)(slot:Slot T name id)(hty:typeOf (.builtin id)=pure (.type "method_descriptor"))(hm:tM X id r)(ho:PE X o to)(ha:PA X (e::es) t)
  (hbase:attributeBase o name X.env (eval o X.env)=eval o X.env:=by rfl)
  (hfew:((backTo cpos (starEach (e::es) X.env)).all (λx=>!x.1)&&(backToKw cpos (keywordEach [] X.env)).all (λx=>x.1.isSome)
   && decide ((e::es).length+([]:List Keyword).length+(if([]:List Keyword).isEmpty then 0 else 1)<30))=true:=by rfl)
  (hline:(apos.endLine==cpos.line)=true:=by rfl) (hs:starEach (e::es) X.env=(false,eval e X.env)::starEach es X.env:=by rfl) (hplain:(backTo cpos (starEach es X.env)).any (·.1)=false:=by rfl):
  PE X (.Call (.Attribute o name apos) (e::es) [] cpos) (Ld X.K T r to t):=by
 intro pins s σ H Q I h;refine wpAny_Call_method_late hbase hfew hline rfl (aR (ho pins s σ H _ I h) λv s1 ⟨x,H1,I1,r1,ty,q1⟩=>?_);obtain⟨h1,h2⟩:=aeH I1 r1 ty;exists T,id,pa,slot,hty,h1,h2;have hA:=ha cpos pins s1 σ H1 _ I1 q1;rw[hs]at hA⊢;refine GD (by show(false||(backTo cpos (starEach es X.env)).any (·.1))=false;rw[hplain]<;>rfl) (Jg ?_);exact aR hA λus s2 ⟨vs,H2,I2,r2,q2⟩=>hm pins s2 σ H2 x vs v us Q I2 r1 r2 q2
end
def MtM(X:Cx)(id:String)(r:V->List V->Hp->VK->Prop):Prop:=
 ∀(pins:List (Addr×Obj)) (s:Shared) (σ:St) (H:Hp) (x:V) (xs:List V) (v:Value) (us:List Value) (Q:VK),Inv X pins σ H s->RelV x v->Vals xs us->r x xs H Q->
  wpAny (model X.prog X.w) X.A (call (.builtin id) (v::us)) (EP X pins σ Q) X.xe s
def Vals.one{x:V}{us:List Value}(h:Vals [x] us):∃u,us=[u]/\RelV x u:=by
 cases h with
 |cons r h=>cases h;exact{(),r}
def Vals.two{x y:V}{us:List Value}(h:Vals [x,y] us):∃u v,us=[u,v]/\RelV x u/\RelV y v:=by
 cases h with
 |cons r h=>
  obtain⟨v,rfl,q⟩:=Vals.one h;exact{_,(),r,q}
theorem Vals.reverse{xs:List V}{us:List Value}(h:Vals xs us):Vals xs.reverse us.reverse:=by
 induction h with
 |nil=>exact .nil
 |cons r t ih=>rw[ag2,ag2];exact Vals.append ih (.cons r .nil)
theorem Vals.rep{xs:List V}{us:List Value}(h:Vals xs us):∀k:Nat,Vals (aX k xs).flatten (aX k us).flatten
 |0=> .nil
 |k+1=>by
  rw[mU,mU,xK,xK];exact Vals.append h (Vals.rep h k)
theorem foldl_rep(its:List Value):∀(k:Nat) (acc:List Value),
  nP (λx1 x2=>x1++x2) acc.toArray (aX k its.toArray)=(acc++(aX k its).flatten).toArray
 |0,acc=>by simp
 |k+1,acc=>by
  have e:acc.toArray++its.toArray=(acc++its).toArray:=by simp
  have e2:(acc++its)++(aX k its).flatten=acc++(aX (k+1) its).flatten:=by
   rw[mU,xK,tK]
  rw[<-e2,<-foldl_rep its k (acc++its),<-e,mU,vo]
section
variable {X:Cx} {pins:List (Addr×Obj)} {σ:St} {H:Hp} {s:Shared} {l b:Addr} {xs ys zs:List V}
def Inv.ad5{its its':List Value}{n:Nat}{f:Array Value->Array Value}{t':Nat}(I:Inv X pins σ H s)(hH:H l=some (.lst xs))
  (e:s.heap.get? l=some { cls:= .type "list",data:= .seq its.toArray n }) (hf:f its.toArray=its'.toArray) (hv:Vals ys its') (hz:ys.length<=sizeLine):
  Inv X pins σ (upd H l (.lst ys)) { s with heap:=s.heap.update l (wA f),toks:=t' }:=by
 have q:=PySem.IsL.update e f;rw[hf]at q;refine I.write (x:=l) (e:=l) (by rw[hH];exact trivial) (.inl rfl) (λb' u hb hu=>(Heap.get?_update_other s.heap (wA f) (dw hb)).trans hu) {_,q} ?_;exact{hz,its',_,hv,q}
def Inv.JV{its:List Value}{t':Nat}(I:Inv X pins σ H s)(hv:Vals ys its)(hz:ys.length<=sizeLine):
  Inv X pins σ (upd H s.heap.objs.size (.lst ys)) { s with heap:=s.heap.push { cls:= .type "list",data:= .seq its.toArray },toks:=t' }:=
 I.laid (λ_ _ q=>Heap.get?_push_of_some _ q) (bK _) {hz,its,0,hv,Heap.get?_push_size _ rfl}
theorem Inv.fresh(I:Inv X pins σ H s):H s.heap.objs.size=none:=I.hok.fresh (bK _)
def Inv.qK(I:Inv X pins σ H s)(hH:H l=some (.lst xs)):xs.length<=sizeLine/\∃(its:List Value) (n:Nat),Vals xs its/\xs.length=its.length/\s.heap.get? l=some { cls:= .type "list",data:= .seq its.toArray n }:=by
 obtain⟨z,its,n,r,e⟩:=I.hok l _ hH;exact{z,its,n,r,r.length,(e)}
def ao4{n:Nat}(h:n<=sizeLine):Builtin.List.listTooLong n=false:=by
 unfold Builtin.List.listTooLong;exact decide_eq_false ⋯
end
section
variable {X:Cx}
inductive aDP(x:V)(vs:List V)(H:Hp)(Q:VK):Prop|mk (l:Addr) (xs:List V) (y:V) (hx:x = .ref l) (hv:vs=[y]) (hl:H l=some (.lst xs)) (hz:xs.length<sizeLine) (q:Q .non (upd H l (.lst (xs++[y]))))
def adg:V->List V->Hp->VK->Prop:=λx vs H Q=>aDP x vs H Q
def ajm:MtM X "list.append" adg:=by
 intro pins s σ H x vs v us Q I rx rv h;intros l xs y rfl rfl hH hz q h;cases rx;intros u rfl ru rv.one;obtain⟨z,its,n,r,hl,e⟩:=I.qK hH;refine call_meets F.slot_list_append {_,e,rfl} F.entry_list_append (F.args_list_append_2 _ _) (PySem.list_append l its.toArray n u (by rw[fD];lia)) {e,?_};refine{.non,_,I.ad5 (its':=its++[u]) hH e (by simp) (r.append (.cons ru .nil)) ?_,rfl,q};rw[gF,ah9];lia
def aly:V->List V->Hp->VK->Prop:=λx vs H Q=>∃l b xs zs,x = .ref l/\vs=[.ref b]/\H l=some (.lst xs)/\H b=some (.lst zs)/\xs.length+zs.length<=sizeLine/\Q .non (upd H l (.lst (xs++zs)))
def auF:MtM X "list.extend" aly:=by
 intro pins s σ H x vs v us Q I rx rv h;intros l b xs zs rfl rfl hH hB hz q h;cases rx;intros u rfl ru rv.one;cases ru;obtain⟨z,its,n,r,hl,e⟩:=I.qK hH;obtain⟨z2,its2,n2,r2,hl2,e2⟩:=I.qK hB;have hsz:its.toArray.size+its2.toArray.size<=sizeLine:=by rw[fD,fD];lia
 have YH:¬(!its.toArray.isEmpty&&Builtin.List.listTooLong (its.toArray.size+its2.toArray.size))=true:=by
  rw[ao4 hsz,Bool.and_false];exact fu
 refine call_meets F.slot_list_extend {_,e,rfl} F.entry_list_extend (F.args_list_extend_2 _ _)
  (AutoSeq1.list_extend_list_list_0 l its.toArray n b its2.toArray n2 YH (by rw[fD];lia) ⋯) {e,e2,?_}
 refine{.non,_,I.ad5 (its':=its++its2) hH e (by simp) (r.append r2) ?_,rfl,q};rw[gF];lia
def aO6:R2:=λx y H Q=>∃l b xs zs,x = .ref l/\y = .ref b/\H l=some (.lst xs)/\H b=some (.lst zs)/\xs.length+zs.length<=sizeLine/\∀p,H p=none->Q (.ref p) (upd H p (.lst (xs++zs)))
def au7:cQ X (binaryOp .Add) aO6:=by
 intro pins s σ H x y v u Q I rx ry h;intros l b xs zs rfl rfl hH hB hz q h;cases rx;cases ry;obtain⟨z,its,n,r,hl,e⟩:=I.qK hH;obtain⟨z2,its2,n2,r2,hl2,e2⟩:=I.qK hB;refine PySem.P.add_list e e2 ?_ (by rw[fD,fD];lia);have ea:its.toArray++its2.toArray=(its++its2).toArray:=by simp
 rw[ea];exact{.ref _,_,I.JV (t':=s.toks) (r.append r2) (by rw[gF];lia),rfl,q _ I.fresh}
def aJp:R2:=λx y H Q=>∃l k xs,x = .ref l/\y = .int k/\H l=some (.lst xs)/\-(2^63)<=k/\k<2^63/\xs.length*k.toNat<=sizeLine/\
 ∀p,H p=none->Q (.ref p) (upd H p (.lst (aX k.toNat xs).flatten))
def len_rep{α:Type}(xs:List α)(k:Nat):(aX k xs).flatten.length=k*xs.length:=by
 induction k with
 |zero=>simp
 |succ k ih=>rw[mU,xK,gF,ih,QH,Nat.add_comm]
def as5:cQ X (binaryOp .Mult) aJp:=by
 intro pins s σ H x y v u Q I rx ry h;intros l k xs rfl rfl hH h1 h2 hz q h;cases rx;intros t rfl ry;obtain⟨z,its,n,r,hl,e⟩:=I.qK hH;have hlen:its.toArray.size*k.toNat<=sizeLine:=by rw[fD,<-hl];exact hz
 have hcap:¬its.toArray.size*k.toNat>(2^63-1)/8:=by
  have:(sizeLine:Nat)<=(2^63-1)/8:=∅;lia
 have hfit:¬(!Builtin.List.listFitsIndex k)=true:=by
  rw[fitsIndex_both h1 h2];exact fu
 have YH:¬Builtin.List.listTooLong (its.toArray.size*k.toNat)=true:=by
  rw[ao4 hlen];exact fu
 have hnew:nP (λx1 x2=>x1++x2) #[] (aX (if its.toArray.isEmpty=true then 0 else k.toNat) its.toArray)=(aX k.toNat its).flatten.toArray:=by
  have f0:∀m:Nat,nP (λx1 x2=>x1++x2) #[] (aX m its.toArray)=(aX m its).flatten.toArray:=λm=>by
   have:=foldl_rep its m [];rw[Fq]at this;exact this
  rw[f0];cases its with
  |nil=>simp
  |cons a r'=>rw[if_neg (by simp)]
 refine wpAny_binaryOp_repeat_ref (T:= "list") (U:= "int") ∅ {_,e,rfl} (λs'=>typeIs_int s' k t) noFill_list_mul Zf Jl repeat_list Qn.lookup
  (call_meets Jl (typeIs_int s k t) ak6 (adP _ _) (int___rmul___int_list k t l its.toArray n)
   {e,rfl,{_,e,rfl},call_meets F.slot_list_mul {_,e,rfl} F.entry_list_mul (F.args_list_mul_2 _ _) (AutoListH.list___mul___list_int_3 l its.toArray n k t hfit hcap YH) {e,?_}})
 rw[hnew];exact{.ref _,_,I.JV (t':=s.toks) (r.rep k.toNat) (by rw[len_rep,Ho];exact hz),rfl,q _ I.fresh}
end
section
variable {prog:Program} {w:World} {A:Around} {E:Value->Shared->Prop} {s:Shared}
end
section
variable {X:Cx}
end
section
variable {κ:Type} [DecidableEq κ]
section
variable {k:κ}{p:κ×V}{r kvs:List (κ×V)}{vs:List (κ×Value)}
def dX(kvs:List (κ×V))(k:κ):Option V:=(kvs.find? λkv=>decide (kv.1=k)).map (·.2)
def putK(kvs:List (κ×V))(k:κ)(v:V):List (κ×V):=
 if(kvs.any λkv=>decide (kv.1=k))=true then kvs.map (λkv=>if kv.1=k then(kv.1,v)else kv)else kvs++[(k,v)]
def jY(kvs:List (κ×V))(k:κ):List (κ×V):=kvs.filter λkv=>decide (kv.1≠k)
def aAp:dX ([]:List (κ×V)) k=none:=rfl
def mW(e:p.1=k):dX (p::r) k=some p.2:=by simp[dX,List.find?_cons,e]
def lF(e:¬p.1=k):dX (p::r) k=dX r k:=by simp[dX,List.find?_cons,e]
theorem N6(k:κ):∀kvs:List (κ×V),(kvs.any λkv=>decide (kv.1=k))=(dX kvs k).isSome
 |[]=>rfl
 |p::r=>by
  rw[ED];by_cases e:p.1=k
  .simp only[mW e,decide_eq_true e,Bool.true_or,Option.isSome_some]
  .rw[lF e,decide_eq_false e,Bool.false_or];exact N6 k r
theorem alu(k j:κ)(y:V):∀kvs:List (κ×V),dX (kvs.map λkv=>if kv.1=k then(kv.1,y)else kv) j=(dX kvs j).map λx=>if j=k then y else x
 |[]=>rfl
 |p::r=>by
  have ih:=alu k j y r;rw[fB];by_cases h:p.1=k
  .rw[if_pos h];by_cases e:p.1=j
   .rw[mW (p:=(p.1,y)) e,mW e,M4,if_pos (e.symm.trans h)]
   .rw[lF (p:=(p.1,y)) e,lF e,ih]
  .rw[if_neg h];by_cases e:p.1=j
   .rw[mW (p:=p) e,mW e,M4,if_neg (λz=>h (e.trans z))]
   .rw[lF (p:=p) e,lF e,ih]
theorem aoU(k j:κ)(y:V):∀kvs:List (κ×V),dX kvs k=none->dX (kvs++[(k,y)]) j=if j=k then some y else dX kvs j
 |[],_=>by
  by_cases e:k=j
  .rw[if_pos e.symm];exact mW (p:=(k,y)) e
  .rw[if_neg (λz=>e z.symm)];exact lF (p:=(k,y)) e
 |p::r,hn=>by
  rw[KZ];have hk:¬p.1=k:=λz=>by rw[mW z]at hn;cases hn
  rw[lF hk]at hn;have ih:=aoU k j y r hn;by_cases e:p.1=j
  .rw[mW e,mW e,if_neg (λz=>hk (e.trans z))]
  .rw[lF e,lF e,ih]
def K1(kvs:List (κ×V))(k j:κ)(y:V):dX (putK kvs k y) j=if j=k then some y else dX kvs j:=by
 unfold putK;by_cases a:(kvs.any λkv=>decide (kv.1=k))=true
 .rw[if_pos a,alu];rw[N6]at a;by_cases e:j=k
  .obtain⟨x,hx⟩:=ZL.mp a;rw[if_pos e,e,hx,M4,if_pos rfl]
  .rw[if_neg e];cases dX kvs j with
   |none=>rfl
   |some x=>rw[M4,if_neg e]
 .rw[if_neg a];refine aoU k j y kvs ?_;rw[N6]at a;cases q:dX kvs k with
  |none=>rfl
  |some x=>rw[q]at a;exact(a rfl).elim
def Kl(kvs:List (κ×V))(k:κ)(v:V):(putK kvs k v).length<=kvs.length+1:=by
 unfold putK;split
 .rw[bG];lia
 .rw[gF,um,alo];lia
def iQ.Oi{o:Option V}{u:Option Value}(r:iQ o u):o.isSome=u.isSome:=by
 cases o with
 |none=>cases u with
  |none=>rfl
  |some _=>exact(show False from r).elim
 |some _=>cases u with
  |none=>exact(show False from r).elim
  |some _=>rfl
theorem iQ.getD{o:Option V}{u:Option Value}{d:V}{d':Value}(r:iQ o u)(rd:RelV d d'):RelV (o.getD d) (u.getD d'):=by
 cases o with
 |none=>cases u with
  |none=>exact rd
  |some _=>exact(show False from r).elim
 |some _=>cases u with
  |none=>exact(show False from r).elim
  |some _=>exact r
def KV.val(r:KV kvs vs)(k:κ):iQ (dX kvs k) (valueAt vs k):=by
 unfold KV at r;induction r with
 |nil=>exact True.intro
 |@cons p q ps qs h t ih=>
  intros h1 h2 h;by_cases e:p.1=k
  .have e':q.1=k:=h1.symm.trans e;have b:valueAt (q::qs) k=some q.2:=by simp[valueAt,List.find?_cons,e']
   rw[mW e,b];exact h2
  .have e':¬q.1=k:=λz=>e (h1.trans z);have b:valueAt (q::qs) k=valueAt qs k:=by simp[valueAt,List.find?_cons,e']
   rw[lF e,b];exact ih
theorem KV.any{kvs:List (κ×V)}{vs:List (κ×Value)}(r:KV kvs vs)(k:κ):(kvs.any λkv=>decide (kv.1=k))=vs.any λkv=>decide (kv.1=k):=by
 unfold KV at r;induction r with
 |nil=>rfl
 |cons h t ih=>rw[ED,ED,ih,h.1]
def KV.repl(r:KV kvs vs)(k:κ){y:V}{u:Value}(ry:RelV y u):
  KV (kvs.map λkv=>if kv.1=k then(kv.1,y)else kv) (vs.map λkv=>if kv.1=k then(kv.1,u)else kv):=by
 unfold KV at r⊢;induction r with
 |nil=>exact .nil
 |@cons p q ps qs h t ih=>
  rw[fB,fB];refine .cons ?_ ih;intros h1 h2 h;by_cases e:p.1=k
  .rw[if_pos e,if_pos (h1.symm.trans e)];exact{h1,(ry)}
  .rw[if_neg e,if_neg (λz=>e (h1.trans z))];exact{h1,(h2)}
def KV.put(r:KV kvs vs)(k:κ){y:V}{u:Value}(ry:RelV y u):KV (putK kvs k y) (stored vs k u):=by
 unfold putK stored;rw[r.any k];by_cases e:(vs.any λkv=>decide (kv.1=k))=true
 .rw[if_pos e,if_pos e];exact r.repl k ry
 .rw[if_neg e,if_neg e];exact Paired.snoc r {rfl,(ry)}
def KV.drop{kvs:List (κ×V)}{vs:List (κ×Value)}(r:KV kvs vs)(k:κ):KV (jY kvs k) (without vs k):=by
 unfold KV at r⊢;unfold jY without;induction r with
 |nil=>exact .nil
 |@cons p q ps qs h t ih=>
  intros h1 h2 h;rw[uc,uc];by_cases e:p.1=k
  .have a:¬decide (p.1≠k)=true:=by simp[e]
   have b:¬decide (q.1≠k)=true:=by simp[h1.symm.trans e]
   rw[if_neg a,if_neg b];exact ih
  .have e':¬q.1=k:=λz=>e (h1.trans z);have a:decide (p.1≠k)=true:=by simp[e]
   have b:decide (q.1≠k)=true:=by simp[e']
   rw[if_pos a,if_pos b];exact .cons {h1,(h2)} ih
theorem KV.length{kvs:List (κ×V)}{vs:List (κ×Value)}(r:KV kvs vs):kvs.length=vs.length:=Paired.length r
def adl(kvs:List (κ×V))(k:κ):(jY kvs k).length<=kvs.length:=V9 _ _
end
end
section
variable {H:Hp}{kvs:List (List Key×V)}{xs:List (List Key×Addr×Value)}
def vU{P:Program}{w:World}{k:Key}{u:Value}(r:RelV (kV k) u):(gZ P w).is k u=true:=by
 cases k with
 |inl i=>obtain⟨t,e⟩:=(show ∃t,u=Value.int i t from r);subst e;exact axe P w i t
 |inr x=>obtain⟨t,e⟩:=(show ∃t,u=Value.str x t from r);subst e;exact Ep P w x t
theorem ajF{P:Program}{w:World}:∀{ks:List Key} {us:List Value},Vals (ks.map kV) us->ItemsAre (gZ P w) ks us
 |[],_,r=>by rw[xO]at r;cases r;exact .nil
 |k::ks,_,r=>by
  rw[fB]at r;cases r with
  |cons h t=>exact .cons (vU h) (ajF t)
abbrev KT(H:Hp):List (List Key×V)->List (List Key×Addr×Value)->Prop:=Paired λp q=>p.1=q.1/\H q.2.1=some (.tup (p.1.map kV))/\RelV p.2 q.2.2
def KT.val(r:KT H kvs xs)(k:List Key):iQ (dX kvs k) ((atKey xs k).map (·.2)):=by
 induction r with
 |nil=>exact True.intro
 |@cons p q ps qs h t ih=>
  intros h1 _ h2 h;by_cases e:p.1=k
  .have e':q.1=k:=h1.symm.trans e;have b:atKey (q::qs) k=some q.2:=by simp[atKey,List.find?_cons,e']
   rw[mW e,b];exact h2
  .have e':¬q.1=k:=λz=>e (h1.trans z);have b:atKey (q::qs) k=atKey qs k:=by simp[atKey,List.find?_cons,e']
   rw[lF e,b];exact ih
def KT.repl(r:KT H kvs xs)(k:List Key){y:V}{u:Value}(ry:RelV y u):
  KT H (kvs.map λkv=>if kv.1=k then(kv.1,y)else kv) (xs.map (putAt k u)):=by
 induction r with
 |nil=>exact .nil
 |@cons p q ps qs h t ih=>
  rw[fB,fB];refine .cons ?_ ih;intros h1 h2 h3 h;unfold putAt;by_cases e:p.1=k
  .rw[if_pos e,if_pos (h1.symm.trans e)];exact{h1,h2,(ry)}
  .rw[if_neg e,if_neg (λz=>e (h1.trans z))];exact{h1,h2,(h3)}
def KT.put(r:KT H kvs xs)(k:List Key){b:Addr}{y:V}{u:Value}(hb:H b=some (.tup (k.map kV)))(ry:RelV y u):
  KT H (putK kvs k y) (storedH xs k b u):=by
 have e:(kvs.any λkv=>decide (kv.1=k))=(atKey xs k).isSome:=by
  rw[N6,(r.val k).Oi,apH]
 unfold putK storedH;rw[e];by_cases q:(atKey xs k).isSome=true
 .rw[if_pos q,if_pos q];exact r.repl k ry
 .rw[if_neg q,if_neg q];exact Paired.snoc r {rfl,hb,(ry)}
def KT.keeps{H':Hp}(r:KT H kvs xs)(ht:∀b ys,H b=some (.tup ys)->H' b=some (.tup ys)):KT H' kvs xs:=
 Paired.FN r λ_ _ z=>{z.1,ht _ _ z.2.1,z.2.2}
end
section
variable {P:Program} {w:World} {H:Hp} {h:Heap} {a:Addr}
def ahf{u:HO}(ok:eY P w H h)(e:Rd H a u):eO P w H h a u:=e.ok ok
def zJ{kvs:List (Key×V)}(ok:eY P w H h)(e:Rd H a (.dK kvs)):kvs.length<=sizeLine/\(a==sysModules)=false/\∃vs,KV kvs vs/\h.DictOf (gZ P w) a vs:=
 show eO P w H h a (.dK kvs)from ahf ok e
def Xe{kvs:List (Key×V)}(ok:eY P w H h)(e:H a=some (.dK kvs)):kvs.length<=sizeLine/\(a==sysModules)=false/\∃vs,KV kvs vs/\h.DictOf (gZ P w) a vs:=zJ ok (.inl e)
def HM{ks:List Key}(ok:eY P w H h)(e:H a=some (.tup (ks.map kV))):(tupleKind (gZ P w)).is h ks a:=by
 obtain⟨_,its,r,o,h1,h2,n,h3⟩:=(show eO P w H h a (.tup (ks.map kV))from ok a _ e);exact{o,its.toArray,n,h1,h2,h3,by simpa using ajF r}
def Bo{kvs:List (List Key×V)}(ok:eY P w H h)(e:Rd H a (.dT kvs)):kvs.length<=sizeLine/\(a==sysModules)=false/\
  ∃xs,KT H kvs xs/\h.DictOfH (tupleKind (gZ P w)) a xs:=by
 obtain⟨z,y,xs,r,o,es,ep,h1,h2,h3,h4,h5⟩:=(show eO P w H h a (.dT kvs)from ahf ok e);refine{z,y,xs,r,o,es,ep,h1,h2,h3,h4,λx hx=>?_,h5};have all:∀{l:List (List Key×V)} {m:List (List Key×Addr×Value)},KT H l m->∀x∈m,(tupleKind (gZ P w)).is h x.1 x.2.1:=by
  intro l m q;induction q with
  |nil=>intro x hx;exact nomatch hx
  |@cons p q ps qs hq t ih=>
   intro x hx;rcases dz.mp hx with e|hx
   .subst e;exact HM ok (by rw[<-hq.1];exact hq.2.1)
   .exact ih x hx
 exact all r x hx
def aM5{kvs:List (List Key×V)}(ok:eY P w H h)(e:H a=some (.dT kvs)):kvs.length<=sizeLine/\(a==sysModules)=false/\
  ∃xs,KT H kvs xs/\h.DictOfH (tupleKind (gZ P w)) a xs:=Bo ok (.inl e)
end
def lD(H:Hp)(a:Addr)(y:V)(r:Option V):Prop:=
 (∃kvs k,Rd H a (.dK kvs)/\y=kV k/\r=dX kvs k)∨∃kvs k b,Rd H a (.dT kvs)/\y = .ref b/\H b=some (.tup (k.map kV))/\r=dX kvs k
def vZ(H:Hp)(a:Addr)(y v:V)(H':Hp):Prop:=
 (∃kvs k,H a=some (.dK kvs)/\y=kV k/\kvs.length<sizeLine/\H'=upd H a (.dK (putK kvs k v)))∨
 ∃kvs k b,H a=some (.dT kvs)/\y = .ref b/\H b=some (.tup (k.map kV))/\kvs.length<sizeLine/\H'=upd H a (.dT (putK kvs k v))
theorem lD.k{H:Hp}{a:Addr}{kvs:List (Key×V)}{k:Key}(e:H a=some (.dK kvs)):lD H a (kV k) (dX kvs k):= .inl {kvs,k,.inl e,rfl,rfl}
theorem vZ.k{H:Hp}{a:Addr}{kvs:List (Key×V)}{k:Key}{v:V}(e:H a=some (.dK kvs))(hl:kvs.length<sizeLine):vZ H a (kV k) v (upd H a (.dK (putK kvs k v))):= .inl {kvs,k,e,rfl,hl,(rfl)}
section
variable {X:Cx} {pins:List (Addr×Obj)} {σ:St} {H:Hp} {s:Shared} {a:Addr} {y v:V} {u r:Value} {o:Option V} {A:Around} {E:Value->Shared->Prop}
def Inv.big(I:Inv X pins σ H s):sysModules<s.heap.objs.size:=by
 have h:mainGlobals<s.heap.objs.size:=(I.mod.glob.keeps I.bk).lt;exact NP ∅ h
def aqT{Q:Value->Shared->Prop}(hu:A.units+1<cLine)(I:Inv X pins σ H s)(g:lD H a y (some v))(ry:RelV y u)(h:∀w' s',Inv X pins σ H s'->RelV v w'->Q w' s'):
  wpAny (model X.prog X.w) A (getItem (.ref a) u) Q E s:=by
 rcases g with⟨kvs,k,e,ey,l⟩|⟨kvs,k,b,e,ey,eb,l⟩
 .subst ey;obtain⟨z,hd,vs,rel,dd⟩:=zJ I.hok e;obtain⟨w',hw,j7⟩:=iQ.some_of (v:=v) (o:=valueAt vs k) (by rw[l];exact rel.val k);exact wpAny_getItem_of (vU ry) dd.mapOf hw (h w' _ (I.tok _) j7)
 .subst ey;cases (show u=Value.ref b from ry);obtain⟨z,hd,xs,rel,dd⟩:=Bo I.hok e;obtain⟨w',hw,j7⟩:=iQ.some_of (v:=v) (o:=(atKey xs k).map (·.2)) (by rw[l];exact rel.val k);obtain⟨p,hp,hp2⟩:=Option.map_eq_some_iff.mp hw;refine wpAny_getItem_heap (tupleKind_room_in1 hu) (HM I.hok eb) dd hp ?_;rw[hp2];exact h w' _ (I.tok _) j7
def aQT{Q:Value->Shared->Prop}(hu:A.units+1<cLine)(I:Inv X pins σ H s)(g:lD H a y o)(ry:RelV y u)(h:∀s',Inv X pins σ H s'->Q (.bool (!o.isSome)) s'):
  wpAny (model X.prog X.w) A (compareOp .NotIn u (.ref a)) Q E s:=by
 rcases g with⟨kvs,k,e,ey,l⟩|⟨kvs,k,b,e,ey,eb,l⟩
 .subst ey;obtain⟨z,hd,vs,rel,dd⟩:=zJ I.hok e;refine wpAny_notIn_of (vU ry) hd dd.mapOf ?_;rw[<-(rel.val k).Oi,<-l];exact h _ (I.tok _)
 .subst ey;cases (show u=Value.ref b from ry);obtain⟨z,hd,xs,rel,dd⟩:=Bo I.hok e;refine wpAny_notIn_heap (tupleKind_room_in1 hu) (HM I.hok eb) hd dd ?_;have q:=(rel.val k).Oi;rw[apH]at q;rw[<-q,<-l];exact h _ (I.tok _)
def MP{h':Heap}{t':Nat}{ob:HO}(I:Inv X pins σ H s)(mu:Eo (H a))(hs:uN a s.heap h')(he:∃q,h'.get? a=some q)(new:eO X.prog X.w (upd H a ob) h' a ob):
  Inv X pins σ (upd H a ob) { s with heap:=h',toks:=t' }:=
 I.write (x:=a) (e:=a) mu (.inl rfl) (λb q hb z=>(hs.2 b hb).trans z) he new
def abb{P:Program}{w:World}{H':Hp}{h':Heap}{kvs:List (Key×V)}{vs:List (Key×Value)}(z:kvs.length<=sizeLine)(hd:(a==sysModules)=false)(rel:KV kvs vs)(dd:h'.DictOf (gZ P w) a vs):
  eO P w H' h' a (.dK kvs):={z,hd,vs,rel,(dd)}
def aPe{H':Hp}{Q:Unit->Shared->Prop}(hu:A.units+1<cLine)(I:Inv X pins σ H s)(g:vZ H a y v H')(ry:RelV y u)(rv:RelV v r)(h:∀s',Inv X pins σ H' s'->Q () s'):
  wpAny (model X.prog X.w) A (setItem (.ref a) u r) Q E s:=by
 rcases g with⟨kvs,k,e,ey,l,eH⟩|⟨kvs,k,b,e,ey,eb,l,eH⟩
 .subst ey eH;obtain⟨z,hd,vs,rel,dd⟩:=Xe I.hok e;have hz:vs.length<=sizeLine:=by rw[<-rel.length];exact z
  have hl:(putK kvs k v).length<=sizeLine:=by have:=Kl kvs k v;lia
  refine wpAny_setItem_pairs (hsz:=hz) (vU ry) dd λh' lG hs=>h _ ?_;have he:∃q,h'.get? a=some q:=let⟨q,_,_,hq,_⟩:=lG;{q,(hq)};exact MP I (by rw[e];exact True.intro) hs he (abb hl hd (rel.put k rv) lG)
 .subst ey eH;cases (show u=Value.ref b from ry);obtain⟨z,hd,xs,rel,dd⟩:=aM5 I.hok e;have hz:xs.length<=sizeLine:=by rw[<-Paired.length rel];exact z
  have hl:(putK kvs k v).length<=sizeLine:=by have:=Kl kvs k v;lia
  refine wpAny_setItem_heap (hsz:=hz) (tupleKind_room_in1 hu) (HM I.hok eb) dd λh' lG hs=>h _ ?_;intros q es ep hq h2 h3 h4 _ h5 lG;refine MP I (by rw[e];exact True.intro) hs {q,(hq)} {hl,hd,_,(rel.put k eb rv).keeps λc ys ec=>?_,q,es,ep,hq,h2,h3,h4,h5};rw[bY (aiE ec e (λz=>nomatch z))];exact ec
end
section
variable {X:Cx} {pins:List (Addr×Obj)} {σ:St} {H:Hp} {s:Shared} {a:Addr} {kvs:List (Key×V)} {k:Key} {u:Value} {A:Around} {E:Value->Shared->Prop}
def ay2{v:V}{more:List Value}{Q:Value->Shared->Prop}(I:Inv X pins σ H s)(e:H a=some (.dK kvs))(ry:RelV (kV k) u)(l:dX kvs k=some v)(hm:more=[]∨∃x,more=[x])
  (h:∀w' s',Inv X pins σ (upd H a (.dK (jY kvs k))) s'->RelV v w'->Q w' s'):wpAny (model X.prog X.w) A (call (.builtin "dict.pop") (.ref a::u::more)) Q E s:=by
 obtain⟨z,hd,vs,rel,dd⟩:=Xe I.hok e;obtain⟨w',hw,j7⟩:=iQ.some_of (v:=v) (o:=valueAt vs k) (by rw[<-l];exact rel.val k);have hp:(keyPart u).isSome=true:=by
  cases k with
  |inl i=>obtain⟨t,q⟩:=(show ∃t,u=Value.int i t from ry);subst q;rfl
  |inr x=>obtain⟨t,q⟩:=(show ∃t,u=Value.str x t from ry);subst q;rfl
 have ha:argsOk "dict.pop" {.ref a::u::more,[]}:=by
  rcases hm with q|⟨x,q⟩
  .subst q;exact PySem.F.args_dict_pop_2 _ _
  .subst q;exact PySem.F.args_dict_pop_3 _ _ _
 refine call_meetsIn aiU dd.typeIs PySem.F.entry_dict_pop ha (meets_dict_pop_there (gZ X.prog X.w) a (vU ry) more hm hp)
  {vs,w',dd,by rw[<-rel.length];exact z,hw,λh' lG hs=>h w' _ ?_ j7}
 have he:∃q,h'.get? a=some q:=let⟨q,_,_,hq,_⟩:=lG;{q,(hq)};exact MP I (by rw[e];exact True.intro) hs he (abb (eV (adl kvs k) z) hd (rel.drop k) lG)
end
def Cr(i:Expr):Prop:=∀ov iv,subscripted i false ov iv=operate [ov,iv] (getItem ov iv)
def Xw{prog:Program}{w:World}{A:Around}{E:Value->Shared->Prop}{s:Shared}{env:Env}{value slice:Expr}{pos:Pos}{T id:String}{Q:Value->Shared->Prop}
  (hl:typeLookup (.type T) "__getitem__" = pure (some (.builtin id))) (hs:Cr slice)
  (h:wpAny (model prog w) A (eval value env) (λo s₁=>wpAny (model prog w) A (eval slice env) (λi s₂=>s₂.TypeIs o T/\wpAny (model prog w) A (getItem o i) Q E s₂) E s₁) E s):
  wpAny (model prog w) A (eval (.Subscript value slice pos) env) Q E s:=by
 refine Subscript_ (wpAny_mono h (λo s₁ h₁=>wpAny_mono h₁ (λi s₂ h₂=>?_) λ_ _ x=>x) λ_ _ x=>x);intros hT h₂ h₂;unfold subscriptTail;refine wpAny_bind ?_;rw[getitemInPython_of_ne hT.not_modules];refine wpAny_bind (wpAny_specialOf hT hl ?_);have fin:wpAny (model prog w) A (subscripted slice false o i) (λr s₃=>wpAny (model prog w) A (letTemporaryGo value o r>>=λ_=>pure r) Q E s₃) E s₂:=by
  rw[hs o i];exact wpAny_operating (wpAny_mono h₂ (λr s₃ h₃=>wpAny_bind (wpAny_letTemporaryGo (wpAny_pure h₃))) λ_ _ x=>x)
 first
  |exact wpAny_pure (wpAny_bind fin)
  |exact wpAny_bind (wpAny_pure (wpAny_bind fin))
  |exact wpAny_bind fin
def avM{X:Cx}{pins:List (Addr×Obj)}{σ:St}{H:Hp}{s:Shared}{a:Addr}{y:V}{o:Option V}(I:Inv X pins σ H s)(g:lD H a y o):s.TypeIs (.ref a) "dict" := by
 rcases g with⟨kvs,k,e,_,_⟩|⟨kvs,k,b,e,_,_,_⟩
 .obtain⟨_,_,vs,_,dd⟩:=zJ I.hok e;exact dd.typeIs
 .obtain⟨_,_,xs,_,dd⟩:=Bo I.hok e;exact dd.typeIs
inductive auq(x y:V)(H:Hp)(Q:VK):Prop|mk (a:Addr) (v:V) (hx:x = .ref a) (hg:lD H a y (some v)) (q:Q v H)
def aMk(td ty:TE):TE:=λσ H Q=>td σ H λx H1=>ty σ H1 λy H2=>auq x y H2 Q
def aFy(ty td:TE):TE:=λσ H Q=>ty σ H λy H1=>td σ H1 λx H2=>∃a o,x = .ref a/\lD H2 a y o/\Q (.bl (!o.isSome)) H2
inductive aAf(x y v:V)(σ:St)(H:Hp)(Q:St->Hp->Prop):Prop|mk (a:Addr) (H4:Hp) (hx:x = .ref a) (hp:vZ H a y v H4) (q:Q σ H4)
def axL(td ty tv:TE):TS:=λD σ H=>tv σ H λv H1=>td σ H1 λx H2=>ty σ H2 λy H3=>aAf x y v σ H3 D.nx
section
variable {X:Cx} {o i e value:Expr} {pos pos' tpos:Pos} {td ty tv:TE}
def aQq(hu:X.A.units+1<cLine)(ho:PE X o td)(hi:PE X i ty)(hs:Cr i):PE X (.Subscript o i pos) (aMk td ty):=by
 intro pins s σ H Q I h;refine Xw UW.lookup hs (aR (ho pins s σ H _ I h) λu s1 ⟨x,H1,I1,rx,q1⟩=>aR (hi pins s1 σ H1 _ I1 q1) λiv s2 ⟨y,H2,I2,ry,a,v,ex,g,q2⟩=>?_);subst ex;obtain rfl:u=Value.ref a:=rx;exact{avM I2 g,aqT hu I2 g ry λw' s3 I3 j7=>{v,H2,I3,j7,(q2)}}
def aKs(hu:X.A.units+1<cLine)(hi:PE X i ty)(ho:PE X o td):PC X .NotIn i o (aFy ty td):=by
 intro pins s σ H Q I h;refine aR (hi pins s σ H _ I h) λiv s1 ⟨y,H1,I1,ry,q1⟩=>aR (ho pins s1 σ H1 _ I1 q1) λu s2 ⟨x,H2,I2,rx,a,ov,ex,g,q2⟩=>?_;subst ex;obtain rfl:u=Value.ref a:=rx;exact aQT hu I2 g ry λs3 I3=>{.bl (!ov.isSome),H2,I3,rfl,q2}
def ayE(hu:X.A.units+1<cLine)(ho:PE X o td)(hi:PE X i ty)(hv:PE X value tv)(hs:swapsWith value (some (.Subscript o i pos')) pos.line X.env=pure false):
  PS X (.Assign [.Subscript o i pos'] value pos) (axL td ty tv):=by
 intro pins s σ H D I h;refine wpAny_Assign_Subscript (aR (hv pins s σ H _ I h) λr s1 ⟨v,H1,I1,rv,q1⟩=>aR (ho pins s1 σ H1 _ I1 q1) λu s2 ⟨x,H2,I2,rx,q2⟩=>aR (hi pins s2 σ H2 _ I2 q2) λiv s3 ⟨y,H3,I3,ry,a,H4,ex,g,q3⟩=>?_) hs;subst ex;obtain rfl:u=Value.ref a:=rx;exact aPe hu I3 g ry rv λs4 I4=>{σ,H4,I4,(q3)}
end
def aho{P:Program}{w:World}{H:Hp}(h:Heap)(hb:sysModules<h.objs.size):eO P w H (h.push { cls:= .type "dict",data:= .dict #[] }) h.objs.size (.dK []):=
 {fJ _,beq_eq_false_iff_ne.mpr (dw (gw hb)),[],.nil,Heap.DictOf.new h}
def aNd:TE:=λ_ H Q=>∀p,H p=none->Q (.ref p) (upd H p (.dK []))
section
variable {X:Cx} {pos:Pos}
def aI0:PE X (.Dict [] [] pos) aNd:=λpins s σ H Q I h=>
 wpAny_Dict_empty {.ref s.heap.objs.size,_,I.laid (a:=s.heap.objs.size) (o:= .dK []) (t':=s.toks) (λ_ _ q=>Heap.get?_push_of_some _ q) (bK _) (aho s.heap I.big),rfl,h _ (I.hok.fresh (bK _))}
end
def Qz:List (TE×TE)->St->Hp->(List (V×V)->Hp->Prop)->Prop
 |[],_,H,Q=>Q [] H
 |(tk,tv)::r,σ,H,Q=>tk σ H λx H1=>tv σ H1 λy H2=>Qz r σ H2 λps H3=>Q ((x,y)::ps) H3
abbrev VV:List (V×V)->List (Value×Value)->Prop:=Paired λp q=>RelV p.1 q.1/\RelV p.2 q.2
def KR(X:Cx)(pos:Pos)(keys:List (Option Expr))(values:List Expr)(sW:List (TE×TE)):Prop:=
 ∀(pins:List (Addr×Obj)) (s:Shared) (σ:St) (H:Hp) (Q:List (V×V)->Hp->Prop),Inv X pins σ H s->Qz sW σ H Q->
  wpAny (model X.prog X.w) X.A (evalPairs (pairTrees keys values X.env pos)) (λvs s'=>∃ps H',Inv X pins σ H' s'/\VV ps vs/\Q ps H') X.xe s
def aOg{X:Cx}{pos:Pos}:KR X pos [] [] []:=λpins s σ H Q I h=>pairTrees_nil_walk {[],H,I,.nil,h}
def Yy{X:Cx}{pos:Pos}{k v:Expr}{ks:List (Option Expr)}{vs:List Expr}{tk tv:TE}{sW:List (TE×TE)}(hk:PE X k tk)(hv:PE X v tv)(hr:KR X pos ks vs sW):
  KR X pos (some k::ks) (v::vs) ((tk,tv)::sW):=λpins s σ H Q I h=>
 pairTrees_cons_walk (aR (hk pins s σ H _ I h) λu s1 ⟨x,H1,I1,rx,q1⟩=>aR (hv pins s1 σ H1 _ I1 q1) λw2 s2 ⟨y,H2,I2,ry,q2⟩=>
  aR (hr pins s2 σ H2 _ I2 q2) λws s3 ⟨ps,H3,I3,rel,q3⟩=>{(x,y)::ps,H3,I3,.cons {rx,(ry)} rel,q3})
def pD(kvs more:List (Key×V)):List (Key×V):=more.foldl (λacc kv=>putK acc kv.1 kv.2) kvs
def KV.merge:∀{more:List (Key×V)} {rs:List (Key×Value)} {kvs:List (Key×V)} {vs:List (Key×Value)},KV more rs->KV kvs vs->KV (pD kvs more) (merged vs rs):=by
 intro more rs kvs vs r;unfold KV at r;induction r generalizing kvs vs with
 |nil=>intro q;exact q
 |@cons p q ps qs h t ih=>
  intro r0;have e:KV (putK kvs p.1 p.2) (stored vs q.1 q.2):=by
   have:=r0.put p.1 h.2;rw[<-h.1];exact this
  exact ih e
theorem aex:∀(more kvs:List (Key×V)),(pD kvs more).length<=kvs.length+more.length
 |[],kvs=>by show kvs.length<=kvs.length+0;lia
 |p::r,kvs=>by
  have h1:=aex r (putK kvs p.1 p.2);have h2:=Kl kvs p.1 p.2;show(pD (putK kvs p.1 p.2) r).length<=_;rw[um];lia
theorem afz{P:Program}{w:World}:∀{kvs:List (Key×V)} {ws:List (Value×Value)},VV (kvs.map λkv=>(kV kv.1,kv.2)) ws->∃rs,Carries (gZ P w) ws rs/\KV kvs rs
 |[],_,r=>by rw[xO]at r;cases r;exact{[],True.intro,.nil}
 |p::kvs,_,r=>by
  rw[fB]at r;cases r with
  |@cons a b as bs h t=>
   obtain⟨rs,c,q⟩:=afz (P:=P) (w:=w) t;intros b1 b2 b;exact{(p.1,b2)::rs,{vU h.1,rfl,c},.cons {rfl,(h.2)} q}
def ase(sW:List (TE×TE)):TE:=λσ H Q=>∀p,H p=none->Qz sW σ (upd H p (.dK [])) λps H2=>H2 p=some (.dK [])/\∃kvs:List (Key×V),ps=kvs.map (λkv=>(kV kv.1,kv.2))/\kvs.length<=15/\Q (.ref p) (upd H2 p (.dK (pD [] kvs)))
def asR{X:Cx}{pos:Pos}{keys:List (Option Expr)}{values:List Expr}{sW:List (TE×TE)}(h:KR X pos keys values sW)(hall:keys.all (·.isSome)=true)(hl:keys.length=values.length)(h0:keys≠[])
  (h15:keys.length<=15):PE X (.Dict keys values pos) (ase sW):=by
 intro pins s σ H Q I q;have hn:=I.hok.fresh (bK s.heap.objs.size);have I1:=I.laid (a:=s.heap.objs.size) (o:= .dK []) (h':=s.heap.push { cls:= .type "dict",data:= .dict #[] }) (t':=s.toks) (λ_ _ q=>Heap.get?_push_of_some _ q) (bK _) (aho s.heap I.big);refine wpAny_Dict_walk (knd:=gZ X.prog X.w) hall hl h0 h15 (aR (h pins _ σ _ _ I1 (q _ hn)) λws s2 ⟨ps,H2,I2,rel,e,kvs,ep,lk,q2⟩=>?_);subst ep;obtain⟨rs,c,rk⟩:=afz (P:=X.prog) (w:=X.w) rel;obtain⟨z,hd,vs0,r0,dd⟩:=Xe I2.hok e;cases r0;refine{rs,c,dd,λh' lG hs=>{.ref s.heap.objs.size,_,?_,rfl,q2}};have hz:(pD [] kvs).length<=sizeLine:=by
  have h1:=aex kvs [];rw[alo]at h1;rw[sizeLine_eq];lia
 have he:∃q,h'.get? s.heap.objs.size=some q:=let⟨q,_,_,hq,_⟩:=lG;{q,(hq)};exact MP I2 (by rw[e];exact True.intro) hs he (abb hz hd (rk.merge .nil) lG)
structure M1(X:Cx)(o:Expr)(m:Str)(apos:Pos)(e:Expr)(cpos:Pos):Prop where
 base:attributeBase o m X.env (eval o X.env)=eval o X.env
 few:((backTo cpos (starEach [e] X.env)).all (λx=>!x.1)&&(backToKw cpos (keywordEach [] X.env)).all (λx=>x.1.isSome)
  && decide (([e]:List Expr).length+([]:List Keyword).length+(if([]:List Keyword).isEmpty then 0 else 1)<30))=true
 line:(apos.endLine==cpos.line)=true
 trees:backTo cpos (starEach [e] X.env)=[(false,eval e X.env)]
structure M2(X:Cx)(o:Expr)(m:Str)(apos:Pos)(e f:Expr)(cpos:Pos):Prop where
 base:attributeBase o m X.env (eval o X.env)=eval o X.env
 few:((backTo cpos (starEach [e,f] X.env)).all (λx=>!x.1)&&(backToKw cpos (keywordEach [] X.env)).all (λx=>x.1.isSome)
  && decide (([e,f]:List Expr).length+([]:List Keyword).length+(if([]:List Keyword).isEmpty then 0 else 1)<30))=true
 line:(apos.endLine==cpos.line)=true
 trees:backTo cpos (starEach [e,f] X.env)=[(false,eval e X.env),(false,eval f X.env)]
def Qo(H:Hp)(a:Addr):Prop:=(∃kvs,Rd H a (.dK kvs))∨∃kvs,Rd H a (.dT kvs)
def alm{X:Cx}{pins:List (Addr×Obj)}{σ:St}{H:Hp}{s:Shared}{a:Addr}(I:Inv X pins σ H s)(d:Qo H a):
  s.TypeIs (.ref a) "dict" /\ (∀b,Value.ref a = .ref b->∃ob,s.heap.get? b=some ob/\ob.dict=none)/\(a==sysModules)=false:=by
 rcases d with⟨kvs,e⟩|⟨kvs,e⟩
 .obtain⟨_,hd,vs,_,dd⟩:=zJ I.hok e;refine{dd.typeIs,λb q=>?_,hd};cases q;intros ob _ _ h1 h2 _ dd;exact{ob,h1,(h2.2.1)}
 .obtain⟨_,hd,xs,_,dd⟩:=Bo I.hok e;refine{dd.typeIs,λb q=>?_,hd};cases q;intros ob _ _ h1 h2 _ dd;exact{ob,h1,(h2.2.1)}
section
variable {X:Cx} {pins:List (Addr×Obj)} {σ:St} {H:Hp} {s:Shared} {a:Addr} {y d:V} {u r:Value} {o:Option V} {A:Around} {E:Value->Shared->Prop}
def aKe{Q:Value->Shared->Prop}(hu:A.units+1<cLine)(I:Inv X pins σ H s)(g:lD H a y o)(ry:RelV y u)(rd:RelV d r)(h:∀w' s',Inv X pins σ H s'->RelV (o.getD d) w'->Q w' s'):
  wpAny (model X.prog X.w) A (call (.builtin "dict.get") [.ref a,u,r]) Q E s:=by
 rcases g with⟨kvs,k,e,ey,l⟩|⟨kvs,k,b,e,ey,eb,l⟩
 .subst ey;obtain⟨z,hd,vs,rel,dd⟩:=zJ I.hok e;refine call_meetsIn Zk dd.typeIs anG (agX _ _ _) (meets_dict_get_default (gZ X.prog X.w) a (vU ry) hd r) {_,dd.mapOf,h _ _ (I.tok _) ?_};rw[l];exact(rel.val k).getD rd
 .subst ey;cases (show u=Value.ref b from ry);obtain⟨z,hd,xs,rel,dd⟩:=Bo I.hok e;refine call_meetsIn Zk dd.typeIs anG (agX _ _ _) (meetsH_dict_get_default (tupleKind (gZ X.prog X.w)) a b hd r) {tupleKind_room_in1 hu,k,xs,HM I.hok eb,dd,h _ _ (I.tok _) ?_};rw[l];exact(rel.val k).getD rd
end
inductive aH5(a:Addr)(y z:V)(H:Hp)(Q:VK):Prop|mk (o:Option V) (hg:lD H a y o) (q:Q (o.getD z) H)
inductive aCR(ty tx:TE)(x:V)(σ:St)(H:Hp)(Q:VK):Prop|mk (a:Addr) (hx:x = .ref a) (hd:Qo H a) (q:ty σ H λy H2=>tx σ H2 λz H3=>aH5 a y z H3 Q)
def axH(td ty tx:TE):TE:=λσ H Q=>td σ H λx H1=>aCR ty tx x σ H1 Q
def aB3(td ty:TE):TE:=λσ H Q=>td σ H λx H1=>∃a,x = .ref a/\Qo H1 a/\ty σ H1 λy H2=>∃kvs k v,H2 a=some (.dK kvs)/\y=kV k/\dX kvs k=some v/\Q v (upd H2 a (.dK (jY kvs k)))
section
variable {X:Cx} {o e f:Expr} {apos cpos:Pos} {td ty tx:TE}
def avt(hu:X.A.units+1<cLine)(ho:PE X o td)(he:PE X e ty)(hf:PE X f tx)(m:M2 X o "get" apos e f cpos):PE X (.Call (.Attribute o "get" apos) [e,f] [] cpos) (axH td ty tx):=by
 intro pins s σ H Q I h;refine wpAny_Call_method m.base m.few m.line an5 Zk PySem.F.type_dict_get (aR (ho pins s σ H _ I h) λu s1 ⟨x,H1,I1,rx,a,ex,d,q1⟩=>?_);subst ex;obtain rfl:u=Value.ref a:=rx;obtain⟨t1,t2,_⟩:=alm I1 d;exists t1,t2;rw[m.trees];refine GD rfl (Jg (wQ (aR (he pins s1 σ H1 _ I1 q1) λiv s2 ⟨y,H2,I2,ry,q2⟩=>
  wQ (aR (hf pins s2 σ H2 _ I2 q2) λfv s3 ⟨z,H3,I3,rz,ov,g,q3⟩=>Hg ?_))))
 exact aKe hu I3 g ry rz λw' s4 I4 j7=>{_,H3,I4,j7,q3}
def aNh(ho:PE X o td)(he:PE X e ty)(m:M1 X o "pop" apos e cpos):PE X (.Call (.Attribute o "pop" apos) [e] [] cpos) (aB3 td ty):=by
 intro pins s σ H Q I h;refine wpAny_Call_method m.base m.few m.line an5 aiU PySem.F.type_dict_pop (aR (ho pins s σ H _ I h) λu s1 ⟨x,H1,I1,rx,a,ex,d,q1⟩=>?_);subst ex;obtain rfl:u=Value.ref a:=rx;obtain⟨t1,t2,_⟩:=alm I1 d;exists t1,t2;rw[m.trees];refine GD rfl (Jg (wQ (aR (he pins s1 σ H1 _ I1 q1) λiv s2 ⟨y,H2,I2,ry,kvs,k,v,ea,ey,l,q2⟩=>Hg ?_)));subst ey;exact ay2 I2 ea ry l (.inl rfl) λw' s3 I3 j7=>{v,_,I3,j7,q2}
end
section
variable {X:Cx} {pins:List (Addr×Obj)} {σ:St} {H:Hp} {s:Shared} {a:Addr} {kvs:List (Key×V)} {A:Around} {E:Value->Shared->Prop}
end
section
variable {X:Cx} {pins:List (Addr×Obj)} {σ:St} {H:Hp} {s:Shared} {a:Addr} {y:V} {u:Value} {A:Around} {E:Value->Shared->Prop}
end
end L2
namespace Ml
open PySem PySem.W PySem.Calls PyProof.Rows
def azF{P:Params}{h:Heap}:∀(ns:List Int) (vs:List Value),WellAll P h vs (ns.map WData.int)->IntsAre vs ns:=by
 intro ns;induction ns with
 |nil=>
  intro vs w;rw[xO]at w;cases w;exact .nil
 |cons n ns ih=>
  intro vs w;rw[fB]at w;cases w with
  |cons a b=>
   cases a;exact .cons _ _ (ih _ b)
def aR5{l:OpenLaw}{n:Nat}(hn:l.most=some n){P:Params}{h:Heap}{args:List WData}{vals:List Value}
  (hpre:l.row.toRowW.claim.pre args=true) (hwl:WellAll P h vals args):
  ∃a vs ns,vals=[Value.ref a]/\args=[WData.list (ns.map WData.int)]/\h.get? a=some { cls:= .type "list",data:= .seq vs.toArray }/\IntsAre vs ns/\ns.length<=n:=by
 have hsh:WShape.hasAll [] args [.list .int]=true:=(pre_splitW hpre).1;have hc:l.pre.holds [] { args:=args }=true:=(pre_splitW hpre).2;obtain⟨d,r,rfl,h1,h2⟩:=hasAllW_cons hsh;obtain rfl:=hasAllW_nil h2;obtain⟨xs,rfl,h3⟩:=hasW_list h1;obtain⟨ns,rfl⟩:=items_int h3;have hlen:ns.length<=n:=by
  unfold OpenLaw.pre at hc;have h4:(WTm.not (.lt (.lit (.int (n:Int))) (.len (.arg 0)))).holds [] { args:=[.list (ns.map .int)] }=true:=by
   have h4:=(holds_andW hc).1;rw[hn]at h4;exact h4
  have h5:=condW_of h4 (w_not (w_lt w_lit (w_len_list (w_arg rfl))));rw[bG]at h5;refine Nat.le_of_not_lt λq=>?_;have q':(n:Int)<((ns.length:Nat):Int):=⋯;first
   |(rw[decide_eq_true q']at h5;exact absurd h5 ∅)
   |(simp at h5;lia)
 cases hwl with
 |cons w1 w2=>
  cases w2;cases w1 with
  |list ho hall=>exact{_,_,ns,rfl,rfl,ho,azF ns _ hall,hlen}
def aFd(l:OpenLaw)(args:List WData):l.row.toRowW.claim.post args (.bool true) args=true:=
 postW_of (r:=l.row.toRowW) (X:=(true==true))
  (show WShape.has [] (.bool true) .bool=true by first|rfl|decide|simp[WShape.has,WShape.arms,WShape.armsAll])
  (show(WTm.eq .res (.lit (.bool true))).value [] { args:=args,res:=some (.bool true),after:=args }=some (.bool (true==true))from w_eq_bool (w_res rfl) w_lit) rfl
section
variable {prog:Program} {w:World} {A:Around} {E:Value->Shared->Prop} {s:Shared} {K:Frag}
end
end Ml
namespace L2
open PySem PySem.Spec PyProof.Rows
def arB{vs:List Value}{ns:List Int}(h:IntsAre vs ns):Vals (ns.map V.int) vs:=by
 induction h with
 |nil=>exact .nil
 |cons n t h ih=>exact .cons {t,(rfl)} ih
def Only(H:Hp):Prop:=∀b,H b=none∨∃o xs,H b=some (.fO o (.lst xs))
def axI{P:Program}{w:World}{K:aD}{mg mb:Str->Option Value}{CX:oH}{k:Nat}{fa a:Addr}{fd:FuncData}{x:Str}{sp:Sp}{s₁:Shared}{vs:List Value}{ns:List Int}
  (KX:K.In s₁.heap) (hns:s₁.heap.Ns mainGlobals mg) (hb:s₁.heap.Ns builtinsNs mb) (hbb:∀x:Str,x≠ "__name__" -> mb x=bootBuiltins x) (hlim:s₁.heap.NoLimit) (hdig:s₁.heap.NoDigits) (hse:s₁.heap.NoSeer) (htr:P.given.tree=none) (hg:s₁.gens=#[])
  (ha:s₁.heap.get? a=some { cls:= .type "list",data:= .seq vs.toArray }) (hi:IntsAre vs ns) (hl:ns.length<=sizeLine) (hr:cT k callerA)
  (F:∀base:Heap,K.In base->base.Ns mainGlobals mg->jh P w K mg base CX k fa fd [x] sp) (hbind:∀(s:Shared) (u:Value),BindsTo s fd {[u],([])} [(x,u)])
  (hsp:∀H:Hp,Only H->aj K H a (ns.map V.int)->sp [.ref a] H (λv _=>v = .bl true) λ_ _ _=>False)
  (Pg:∀H e s',CX [] H s₁ (λ_ _ _=>False) e s'->False):
  codeAny (model P w) callerA (.call (.ref fa) {[.ref a],[]}) (λr s'=>r = .ok (.ret (.bool true))/\OldK s₁.heap s'.heap/\s'.os=s₁.os/\AllBare s'.gens) s₁:=by
 have rv:=arB hi;have lenV:=hi.length;have core:∀H:Hp,Only H->aj K H a (ns.map V.int)->eY P w H s₁.heap->(∀b,H b≠none->b=a)->(H a≠none->K.lookup a=none)->
   codeAny (model P w) callerA (.call (.ref fa) {[.ref a],[]}) (λr s'=>r = .ok (.ret (.bool true))/\OldK s₁.heap s'.heap/\s'.os=s₁.os/\AllBare s'.gens) s₁:=by
  intro H hO hS hok hA hK;have SR:∀{b:Addr} {o:Obj},s₁.heap.get? b=some o->H b=none->(sH s₁.heap H).get? b=some o:=λe n=>aDb e n;have Gu:∀{b:Addr} {o:Obj} {es:Array DictEntry} {ep:Nat},s₁.heap.get? b=some o->o.data = .dict es ep->H b=none:=λ{b o es ep} e d=>by
   cases q:H b with
   |none=>rfl
   |some u=>
    have e':b=a:=hA b (by rw[q];simp);subst e';rw[ha]at e;cases e;have d':Data.seq vs.toArray _=Data.dict es ep:=d;cases d'
  have Qx:∀{b:Addr} {o:Obj},s₁.heap.get? b=some o->o.cls = .type "module" -> H b=none:=λ{b o} e d=>by
   cases q:H b with
   |none=>rfl
   |some u=>
    have e':b=a:=hA b (by rw[q];simp);subst e';rw[ha]at e;cases e;exact absurd (show Value.type "list" = Value.type "module" from d) ∅
  have sV:∀{b:Addr} {m:Str->Option Value},s₁.heap.Ns b m->(sH s₁.heap H).Ns b m:=λ{b m} ⟨o,es,ep,e,d,r⟩=>{o,es,ep,SR e (Gu e d),d,r};have hKb:K.In (sH s₁.heap H):=λb o e=>SR (KX b o e) (by
   cases q:H b with
   |none=>rfl
   |some u=>
    have e':b=a:=hA b (by rw[q];simp);subst e';rw[hK (by rw[q];simp)]at e;cases e)
  have hM:Mod K mg (sH s₁.heap H):={hKb,sV hns,{mb,sV hb,hbb},let⟨mc,h1,h2⟩:=hlim;{mc,sV h1,h2},let⟨mc,h1,h2⟩:=hdig;{mc,sV h1,h2},let⟨⟨mc,a1,a2⟩,⟨mm,b1,b2⟩,⟨mb,c1,c2⟩,m,bm,ob,d1,d2,d3,d4,d5⟩:=hse;{{mc,sV a1,a2},{mm,sV b1,b2},{mb,sV c1,c2},m,bm,ob,sV d1,d2,SR d3 (Qx d3 d4),d4,d5}};have e0:uE P w K mg (sH s₁.heap H) callerA [] s₁ H:={rfl,hM,λb o e=>azq e,Dd (avj _ _),trivial,λb hb=>absurd (show b∈([]:List Addr)from hb) (by simp),hok,.of_eq hg,htr};refine codeAny_mono ((F _ hKb (sV hns)).run callerA [] s₁ H {[.ref a],[]} [.ref a] [.ref a] _ _ hr e0 (hbind s₁ (.ref a)) (.cons rfl .nil) (hsp H hO hS)) λr s' h=>?_;cases r with
  |error e=>exact(Pg H e s' h).elim
  |ok fl=>
   cases fl with
   |next=>exact False.elim h
   |brk=>exact False.elim h
   |cont=>exact False.elim h
   |ret u=>
    intros v H' os bare un hok' r' q h;have q':v = .bl true:=q;subst q';obtain rfl:u=Value.bool true:=r';refine{rfl,OldK.of_keep λb o e=>?_,os,bare};cases q:H b with
    |none=>exact un.keep b o e q (by intro z;exact absurd (show b∈([]:List Addr)from z) (by simp)) (by simp)
    |some u=>
     rcases hO b with z|⟨ob,xs,z⟩
     .rw[q]at z;cases z
     .have z2:=un.iC b ob _ z;obtain⟨e1,_⟩:=hok b _ z;obtain⟨e2,_⟩:=hok' b _ z2;rw[e]at e1;cases e1;exact e2
 cases hk:K.lookup a with
 |some o=>
  have e:=KX a o hk;rw[ha]at e;cases e;refine core (λ_=>none) (λ_=> .inl rfl) (.inr {_,vs.toArray,_,hk,rfl,rfl,rfl,by rw[fD,lenV];exact hl,by simpa using rv}) (λb u z=>by have z':(none:Option HO)=some u:=z;cases z') (λb z=>absurd rfl z) λz=>absurd rfl z
 |none=>
  refine core (λb=>if b=a then some (.fO { cls:= .type "list",data:= .seq vs.toArray } (.lst (ns.map V.int)))else none) (λb=>?_) (.inl (.inr {{ cls:= .type "list",data:= .seq vs.toArray },if_pos rfl})) (λb u z=>?_) (λb z=>?_) λ_=>hk
  .by_cases hb:b=a
   .exact .inr {_,_,if_pos hb}
   .exact .inl (if_neg hb)
  .by_cases hb:b=a
   .have z':=(if_pos hb).symm.trans z;cases z';subst hb;exact{ha,by rw[bG];exact hl,vs,_,rv,ha}
   .have z':=(if_neg hb).symm.trans z;cases z'
  .by_cases hb:b=a
   .exact hb
   .exact absurd (if_neg hb) z
abbrev E0:XK:=λ_ _ _=>False
structure qj(K:aD)(x qual:Str)(st:Stmt)(f:Addr)(fd:FuncData):Prop where
 ex:∃(oc:Value) (od:Option Addr) (kV doc pm:Value) (an:Option Addr) (cdv ct:Value) (osl:Array (Option Value)),
  fd=mO x qual (jH st) (gG st) (aC st) .none kV doc pm an cdv ct/\K.lookup f=some {oc,od,.func fd,osl}/\Ak K cdv qual=true
 kp:lU K (.ref f)=true
section
variable {P:Program} {w:World} {K:aD} {mg:Str->Option Value} {base:Heap}
def qj.binds{x qual:Str}{st:Stmt}{f:Addr}{fd:FuncData}{ps:List Str}(F:qj K x qual st f fd)
  (h:∀(kV doc pm:Value) (an:Option Addr) (cdv ct:Value) (us:List Value),us.length=ps.length->bindArgs (mO x qual (jH st) (gG st) (aC st) .none kV doc pm an cdv ct) {us,([])}=pure (ps.zip us)):Binds K fd ps []:=by
 intros oc od kV doc pm an cdv ct osl rfl lk hcd F.ex;exact .all (h kV doc pm an cdv ct)
def ab7{x qual:Str}{st:Stmt}{f:Addr}{oc:Value}{od an:Option Addr}{osl:Array (Option Value)}{kV doc pm cdv ct:Value}(l:K.lookup f=some {oc,od,.func (mO x qual (jH st) (gG st) (aC st) .none kV doc pm an cdv ct),osl})
  (c:Ak K cdv qual=true) (k:lU K (.ref f)=true):qj K x qual st f (mO x qual (jH st) (gG st) (aC st) .none kV doc pm an cdv ct):={{oc,od,kV,doc,pm,an,cdv,ct,osl,rfl,l,(c)},k}
end
def gU{n:Nat}(h:n<=1000):n<sizeLine:=Nat.lt_of_le_of_lt h ∅
section
variable {X:Cx}
def pv(i:Nat){x:Str}{pos:Pos}(hN:X.N[i]?=some x:=by rfl)(hv:Jq X.env.scope x:=by first|exact ju rfl|exact dZ (ju rfl)|exact dZ (dZ rfl))(hd:(x==("__debug__" : Str))=false:=by decide)
  (hcd:(x==("__classdict__" : Str))=false:=by decide):PE X (.Name x pos) (VP i):=aAn hN hv hd hcd
end
def bL{A B:Prop}(h:B):if false=true then A else B:=by
 rw[if_neg fu];exact h
def dM{A B:Prop}(h:A):if true=true then A else B:=by
 rw[if_pos rfl];exact h
def cI{c A B:Prop}[Decidable c](h1:c->A)(h2:¬c->B):if c then A else B:=by
 by_cases h:c
 .rw[if_pos h];exact h1 h
 .rw[if_neg h];exact h2 h
def Same(H H':Hp):Prop:=∀b o,H b=some o->H' b=some o
def Same.refl(H:Hp):Same H H:=λ_ _ h=>h
def Same.trans{H H1 H2:Hp}(a:Same H H1)(b:Same H1 H2):Same H H2:=λc o h=>b c o (a c o h)
def Same.free{H H':Hp}(e:Same H H'){l:Addr}(h:H' l=Yh):H l=Yh:=by
 cases q:H l with
 |none=>rfl
 |some o=>
  rw[e l o q]at h;cases h
def Same.seq{K:aD}{H H':Hp}{a:Addr}{xs:List V}(e:Same H H')(h:aj K H a xs):aj K H' a xs:=by
 rcases h with(h|⟨o,h⟩)|h
 .exact .inl (.inl (e _ _ h))
 .exact .inl (.inr {o,e _ _ h})
 .exact .inr h
section
variable {κ:Type} [DecidableEq κ]
def azI{p:κ×V}{r:List (κ×V)}{k:κ}(e:p.1=k):jY (p::r) k=jY r k:=by
 unfold jY;rw[uc,if_neg (by simp[e])]
def aOw{p:κ×V}{r:List (κ×V)}{k:κ}(e:¬p.1=k):jY (p::r) k=p::jY r k:=by
 unfold jY;rw[uc,if_pos (by simp[e])]
def aA0{kvs:List (κ×V)}{k:κ}{p:κ×V}(h:p∈jY kvs k):p∈kvs:=(V8.mp h).1
end
section
variable {us:List Value}
def qt(h:us.length=0):us=[]:=Dg h
def Et{n:Nat}(h:us.length=n+1):∃a r,us=a::r/\r.length=n:=by
 cases us with
 |nil=>cases h
 |cons a r=>exact{a,r,rfl,Nat.succ.inj h}
def Ph(h:us.length=1):∃a,us=[a]:=by
 obtain⟨a,r,rfl,k⟩:=Et h;obtain rfl:=qt k;exact{a,(rfl)}
def XF(h:us.length=2):∃a b,us=[a,b]:=by
 obtain⟨a,r,rfl,k⟩:=Et h;obtain⟨b,rfl⟩:=Ph k;exact{a,b,(rfl)}
def us3(h:us.length=3):∃a b c,us=[a,b,c]:=by
 obtain⟨a,r,rfl,k⟩:=Et h;obtain⟨b,c,rfl⟩:=XF k;exact{a,b,c,(rfl)}
def us4(h:us.length=4):∃a b c d,us=[a,b,c,d]:=by
 obtain⟨a,r,rfl,k⟩:=Et h;obtain⟨b,c,d,rfl⟩:=us3 k;exact{a,b,c,d,(rfl)}
def us5(h:us.length=5):∃a b c d e,us=[a,b,c,d,e]:=by
 obtain⟨a,r,rfl,k⟩:=Et h;obtain⟨b,c,d,e,rfl⟩:=us4 k;exact{a,b,c,d,e,(rfl)}
def K2(h:Heap)(e:Addr):Prop:=∃oe vs,h.get? e=some oe/\oe.data = .fields vs/\vs[2]?=some .none
end
section
variable {M:Model} {A:Around} {E:Value->Shared->Prop} {s:Shared}
section
variable {base h:Heap}{env:Env}{outer l:List Env}{L e:Addr}{a0 cls fl:Value}{Q:Unit->Shared->Prop}
def ahP{oe:Obj}{vs:Array Value}{hd0:Value}{nx:Bool}
  (fr:A.frames=some (env::outer)) (ff:s.heap.FunFrames base (env::outer)) (el:env.frame=some L) (ge:s.heap.get? e=some oe) (kb:base.StaysIn s.heap) (nb:base.get? e=none) (df:oe.data = .fields vs) (v1:1<vs.size) (v0:vs[0]?=some a0) (v2:vs[2]?=some .none)
  (q:∀h',Heap.HeldW base (env::outer) e oe.cls a0 L h'->s.heap.UpToSlots h'->K2 h' e->Q () { s with heap:=h' }):
  wpAny M A (do let a<-frameOf env;let pl<-entryPlaceOf L nx;let t<-EntryCells.newEntry hd0 a .none (rawInt L) .none pl;setField (.ref e) 1 t) Q E s:=by
 have ns:∀b o,s.heap.get? b=some o->(∀us,o.data≠ .fields us)->b≠e:=λb o g1 g2 z=>by
  rw[z,ge]at g1;cases g1;exact g2 vs df
 have ne:e∉(env::outer).filterMap (·.frame):=λz=>by
  obtain⟨_,o,g1,g2⟩:=ff.mem z;exact ns e o g1 g2 rfl
 refine wpAny_bind (wpAny_frameOf_fun fr ff el λh₁ k₁=>wpAny_bind (wpAny_entryPlaceOf λpl hp=>?_));unfold EntryCells.newEntry newFields;refine wpAny_bind (wpAny_newObj_type ?_ (hp.sizeOk5 _ _ _ _ _));generalize et:({ cls:= .type "traceback",dict:=none,data:= .fields ([hd0,.ref L,.none,rawInt L,.none]++(if pl.isEmpty then aX 6 Value.none else pl)).toArray }:Obj)=tb;have g₁:h₁.get? e=some oe:=(k₁.2.1 e ne).trans ge;have b₁:base.StaysIn h₁:=λb o g=>(k₁.2.1 b λz=>by rw[(ff.mem z).1]at g;cases g).trans (kb b o g);have g₂:=Heap.get?_push_of_some (h:=h₁) tb g₁;have gt:(h₁.push tb).get? h₁.objs.size=some tb:=Heap.get?_push_size h₁ (by rw[<-et];rfl);have nt:h₁.objs.size≠e:=Lh (cP g₁);refine wpAny_setField g₂ df v1 (q _ ?_ (λb o g1 g2=>?_) ?_)
 .have stay:∀b o,b≠e->h₁.get? b=some o->((h₁.push tb).update e (uU (·.setIfInBounds 1 (Value.ref h₁.objs.size)))).get? b=some o:=λb o hb g=>(Heap.get?_update_other _ _ (dw hb)).trans (Heap.get?_push_of_some _ g);refine{λb o g=>stay b o (λz=>by rw[z,nb]at g;cases g) (b₁ b o g),nb,ff.of_keeps λb o g1 g2=>?_,?_}
  .obtain⟨sl,g⟩:=k₁.2.2 b o g1;exact{_,stay b _ (ns b o g1 g2) g,rfl}
  .have d₃:=xM df (·.setIfInBounds 1 (Value.ref h₁.objs.size));exact{_,_,h₁.objs.size,tb,_,Heap.get?_update_self _ g₂ (DM d₃),{abl _ _,(Array.getElem?_setIfInBounds_ne ∅).trans v0},d₃,by simp[v1],b₁.fresh,nt,(Heap.get?_update_other _ _ (dw nt)).trans gt,by rw[<-et],by simp}
 .obtain⟨sl,g⟩:=k₁.2.2 b o g1;exact{sl,(Heap.get?_update_other _ _ (dw (ns b o g1 g2))).trans (Heap.get?_push_of_some _ g)}
 .have d₃:=xM df (·.setIfInBounds 1 (Value.ref h₁.objs.size));exact{_,_,Heap.get?_update_self _ g₂ (DM d₃),d₃,(Array.getElem?_setIfInBounds_ne ∅).trans v2}
def QV(kb:base.StaysIn h)(ff:h.FunFrames base l)(t:h.TracedAtW base e cls a0 fl)(k:K2 h e):∃oe vs T oT ts,h.get? e=some oe/\oe.cls=cls/\oe.data = .fields vs/\vs[0]?=some a0/\vs[1]?=some (.ref T)/\vs[2]?=some .none/\h.get? T=some oT/\oT.data = .fields ts/\ts[3]?=some fl/\
  ∀v,base.StaysIn (h.update T (uU (·.setIfInBounds 3 v)))/\(h.update T (uU (·.setIfInBounds 3 v))).FunFrames base l/\(h.update T (uU (·.setIfInBounds 3 v))).TracedAtW base e cls a0 v/\h.UpToSlots (h.update T (uU (·.setIfInBounds 3 v)))/\(h.update T (uU (·.setIfInBounds 3 v))).get? e=h.get? e:=by
 obtain⟨oe,vs,T,oT,ts,ge,⟨ec,v0⟩,df,v1,nT,Te,gT,dT,t3⟩:=t;intros oe' vs' ge' df' v2 k;rw[ge]at ge';cases ge';rw[df]at df';cases df';refine{oe,vs,T,oT,ts,ge,ec,df,v0,v1,v2,gT,dT,t3,λv=>?_};have oth:∀b,b≠T->(h.update T (uU (·.setIfInBounds 3 v))).get? b=h.get? b:=λb hb=>Heap.get?_update_other _ _ (dw hb);have ns:∀b o,h.get? b=some o->(∀us,o.data≠ .fields us)->b≠T:=λb o g1 g2 z=>by
  rw[z,gT]at g1;cases g1;exact g2 ts dT
 have z3:3<ts.size:=(Array.getElem?_eq_some_iff.mp t3).1;exact{λb o g=>(oth b λz=>by rw[z,nT]at g;cases g).trans (kb b o g),ff.of_keeps λb o g1 g2=>{o,(oth b (ns b o g1 g2)).trans g1,rfl},
  {oe,vs,T,_,_,(oth e (dw Te)).trans ge,{ec,(v0)},df,v1,nT,Te,Heap.get?_update_self _ gT (DM (xM dT _)),xM dT _,by simp[z3]},
  λb o g1 g2=>{o.slots,(oth b (ns b o g1 g2)).trans g1},oth e (dw Te)}
def K2.at{h':Heap}(k:K2 h e)(g:h'.get? e=h.get? e):K2 h' e:=by
 intros oe vs g1 r k;exact{oe,vs,g.trans g1,r}
def Jk(kb:base.StaysIn s.heap)(nb:base.get? e=none)(ff:s.heap.FunFrames base l)(t:s.heap.TracedAtW base e cls a0 fl)(k:K2 s.heap e)
  (q:∀h',IY base l e cls a0 h'->s.heap.UpToSlots h'->K2 h' e->Q () { s with heap:=h' }):wpAny M A (setFlight (.ref e) none) Q E s:=by
 obtain⟨oe,vs,T,oT,ts,ge,ec,df,v0,v1,v2,gT,dT,t3,st⟩:=QV kb ff t k;obtain⟨s1,s2,s3,s4,s5⟩:=st .none;unfold setFlight;refine wpAny_bind (wpAny_field ge df v1 ?_);rw[if_pos (show(Value.ref T != Value.none)=true from rfl)];exact wpAny_setField gT dT (Array.getElem?_eq_some_iff.mp t3).1 (q _ {s1,nb,s2,(s3)} s4 (k.at s5))
def aRW{α:Type}{what:String}{cenv:Env}(kb:base.StaysIn s.heap)(ff:s.heap.FunFrames base l)(t:s.heap.TracedAtW base e cls a0 fl)(k:K2 s.heap e)
  (q:∀h' fl',base.StaysIn h'->h'.FunFrames base l->h'.TracedAtW base e cls a0 fl'->s.heap.UpToSlots h'->K2 h' e->E (.ref e) { s with heap:=h' }):wpAny M A (acE what (.ref e) cenv:Sem α) (λ_ _=>False) E s:=by
 obtain⟨oe,vs,T,oT,ts,ge,ec,df,v0,v1,v2,gT,dT,t3,st⟩:=QV kb ff t k;obtain⟨s1,s2,s3,s4,s5⟩:=st (cenv.frame.elim Value.none λf=>rawInt f);unfold acE setFlight;refine wpAny_bind (wpAny_field ge df v1 ?_);rw[if_neg (show ¬(Value.ref T==Value.none)=true from fu)];refine wpAny_bind (wpAny_bind (wpAny_field ge df v1 ?_));rw[if_pos (show(Value.ref T != Value.none)=true from rfl)];exact wpAny_setField gT dT (Array.getElem?_eq_some_iff.mp t3).1 (wpAny_throw (q _ _ s1 s2 s3 s4 (k.at s5)))
def Rr(fr:A.frames=some (env::outer))(ff:s.heap.FunFrames base (env::outer))(el:env.frame=some L)(t:s.heap.TracedAtW base e cls a0 fl)(kb:base.StaysIn s.heap)(nb:base.get? e=none)(k:K2 s.heap e)
  (q:∀h',Heap.HeldW base (env::outer) e cls a0 L h'->s.heap.UpToSlots h'->K2 h' e->Q () { s with heap:=h' }):wpAny M A (noteFrame (.ref e) env) Q E s:=by
 by_cases c:fl=rawInt L
 .subst c;exact wpAny_noteFrame_againW el t (q s.heap {kb,nb,ff,(t)} (aBe _) k)
 .obtain⟨oe,vs,T,oT,ts,ge,ec,df,v0,v1,v2,gT,dT,t3,st⟩:=QV kb ff t k;obtain⟨s1,s2,s3,s4,s5⟩:=st .none;subst ec;unfold noteFrame;simp only[el];refine wpAny_bind (wpAny_field ge df v1 ?_);rw[if_pos (show(Value.ref T != Value.none)=true from rfl)];refine wpAny_bind (wpAny_field gT dT t3 ?_);rw[if_neg (show ¬((fl==rawInt L)=true)fromλz=>c (eq_of_beq z))];refine wpAny_bind (wpAny_setField gT dT (Array.getElem?_eq_some_iff.mp t3).1 ?_);exact ahP fr s2 el (s5.trans ge) s1 nb df (Array.getElem?_eq_some_iff.mp v1).1 v0 v2 λh' hH u' k'=>q h' hH (s4.trans u') k'
def aeb(fr:A.frames=some (env::outer))(ff:s.heap.FunFrames base (env::outer))(el:env.frame=some L)(t:s.heap.TracedAtW base e cls a0 fl)(kb:base.StaysIn s.heap)(nb:base.get? e=none)(k:K2 s.heap e)
  (q:∀h',IY base outer e cls a0 h'->s.heap.UpToSlots h'->K2 h' e->Q () { s with heap:=h' }):wpAny M A (leaving env (.ref e)) Q E s:=by
 unfold leaving;refine wpAny_bind (Rr fr ff el t kb nb k λh1 ⟨x1,x2,x3,x4⟩ u1 k1=>?_);exact Jk (s:={ s with heap:=h1 }) x1 x2 x3 x4 k1 λh2 ⟨y1,y2,⟨_,_,y3⟩,y4⟩ u2 k2=>q h2 {y1,y2,y3,(y4)} (u1.trans u2) k2
def aPm{args:List Value}(fr:A.frames=some (env::outer))(el:env.frame=some L)(kb:base.StaysIn h)(ff:h.FunFrames base (env::outer))(hx:alO h s.heap e cls args)
  (q:∀h' t,IY base outer e cls (.ref t) h'->s.heap.UpToSlots h'->K2 h' e->Q () { s with heap:=h' }):wpAny M A (leaving env (.ref e)) Q E s:=by
 intros t ge tn ht hx.there;have nb:base.get? e=none:=by
  cases z:base.get? e with
  |none=>rfl
  |some o'=>have:=kb e o' z;rw[hx.new]at this;cases this
 unfold leaving noteFrame;simp only[el];refine wpAny_bind (wpAny_bind (wpAny_field (x:= .none) ge rfl rfl ?_));rw[if_neg ∅];refine ahP (a0:= .ref t) fr (ff.of_keeps λb o g _=>{o,hx.keeps b o g,rfl}) el ge (λb o g=>hx.keeps b o (kb b o g)) nb rfl (by show 1<6;decide) rfl rfl λh1 ⟨x1,x2,x3,x4⟩ u1 k1=>?_;exact Jk (s:={ s with heap:=h1 }) x1 x2 x3 x4 k1 λh2 ⟨y1,y2,⟨_,_,y3⟩,y4⟩ u2 k2=>q h2 t {y1,y2,y3,(y4)} (u1.trans u2) k2
end
end
structure iI(P:Program)(w:World)(outer:List Env)(H:Hp)(s:Shared)(E:XK)(e:Value)(s':Shared):Prop where
 ex:∃(ea C:Addr) (a0:Value) (B:Heap) (H':Hp),e = .ref ea/\s'.os=s.os/\AllBare s'.gens/\IY B outer ea (.ref C) a0 s'.heap/\eY P w H' B/\Un (frs outer) [] H H' s.heap s'.heap/\
  (∀b o,s.heap.get? b=some o->b∈frs outer∨∃o',B.get? b=some o')/\E (.ref C) none H'
 k2:∃ea,e = .ref ea/\K2 s'.heap ea
def Qd{P:Program}{w:World}{outer:List Env}{H:Hp}{s s':Shared}{e:Value}(h:iI P w outer H s E0 e s'):False:=by
 intros _ _ _ _ _ _ _ _ _ _ _ _ q h.ex;exact q
def Je{X:Cx}:Passes (iI X.prog X.w) X E0:=λ_ _ _ _ _ _ _ h=>(Qd h).elim
section
variable {X:Cx} {pins:List (Addr×Obj)} {σ:St} {H:Hp} {s:Shared}
def Inv.C9(I:Inv X pins σ H s){b:Addr}{o:Obj}(e:X.s₀.heap.get? b=some o)(hb:b∉X.fs):b∉frs X.stack:=λz=>by
 rcases dz.mp (I.Dh b z)with q|q
 .exact absurd (ig (cP e) I.ok.above) (by rw[<-q];exact j4 _)
 .exact hb q
def LX(I:Inv X pins σ H s){b:Addr}{o:Obj}(e:s.heap.get? b=some o)(hb:b∉frs X.stack):(nZ s.heap (frs X.stack)).get? b=some o:=Uz _ e hb
def Inv.aLI(I:Inv X pins σ H s):eY X.prog X.w H (nZ s.heap (frs X.stack)):=λb o e=>
 (I.hok b o e).stay (λc u hc q=>LX I q λz=>by
  have n:=I.Vg c z;rcases hc with rfl|hc
  .rw[n]at e;cases e
  .rw[n]at hc;cases hc) (λ_ q=>q) λ_ _ q=>q
def Inv.adF(I:Inv X pins σ H s)(hex:X.ex=[]){H':Hp}{h':Heap}(keep:∀b o,s.heap.get? b=some o->H b=none->b∉frs X.stack->h'.get? b=some o)
  (slot:∀b o,s.heap.get? b=some o->H b=none->b∈X.fs->∃sl,h'.get? b=some { o with slots:=sl }) (free:∀b o,s.heap.get? b=some o->H b=none->H' b=none) (there:∀b o,s.heap.get? b=some o->∃o',h'.get? b=some o')
  (tups:∀b xs,H b=some (.tup xs)->H' b=some (.tup xs)) (iC:∀b o u,H b=some (.fO o u)->H' b=some (.fO o u)) (jf:∀b ps,H b=some (.nK ps)->∃more,H' b=some (.nK (ps++more))):
  Un (frs X.outer) [] X.H₀ H' X.s₀.heap h':=by
 have nx:∀b:Addr,b∉X.ex:=λb=>by rw[hex];simp
 refine{λb o e n hb _=>?_,λb o e n hb _=>?_,λb o e n _=>?_,λb o e _=>?_,λb xs e=>tups b xs (I.base.tups b xs e),λb o u e=>iC b o u (I.base.iC b o u e),λb ps e=>?_}
 .exact keep b o (I.base.keep b o e n hb (nx b)) (I.base.free b o e n (nx b)) (I.C9 e hb)
 .obtain⟨sl,e1⟩:=I.base.slot b o e n hb (nx b);obtain⟨sl',e2⟩:=slot b _ e1 (I.base.free b o e n (nx b)) hb;exact{sl',(e2)}
 .obtain⟨o',e1⟩:=I.base.there b o e (nx b);exact free b o' e1 (I.base.free b o e n (nx b))
 .obtain⟨o',e1⟩:=I.base.there b o e (nx b);exact there b o' e1
 .obtain⟨m1,e1⟩:=I.base.jf b ps e;obtain⟨m2,e2⟩:=jf b _ e1;exact{m1++m2,by rw[e2,abW]}
end
abbrev dI(P:Program)(w:World)(K:aD)(mg:Str->Option Value)(base:Heap)(N:List Str)(qual:Str)(scope:Scope)(f:Addr)(cdv:Value)(A:Around)(outer:List Env)(s:Shared)(H:Hp)(E:XK):Cx:=
 Af (iI P w) P w K mg base N qual scope f cdv A outer s H E
section
variable {P:Program} {w:World} {K:aD} {mg:Str->Option Value} {base:Heap} {N:List Str} {qual:Str} {scope:Scope} {f:Addr} {cdv:Value} {A:Around} {outer:List Env} {s₀:Shared} {H₀:Hp} {E:XK}
def awr{pins:List (Addr×Obj)}{σ:St}{H:Hp}{s:Shared}{h1:Heap}{e C:Addr}{vs:List Value}(I:Inv (dI P w K mg base N qual scope f cdv A outer s₀ H₀ E) pins σ H s)(hx:alO s.heap h1 e (.ref C) vs)(q:E (.ref C) none H):
  (dI P w K mg base N qual scope f cdv A outer s₀ H₀ E).xe (.ref e) { s with heap:=h1 }:=by
 have hin:∀env∈envOfC qual scope s₀.heap.objs.size f cdv::outer,∀a,env.frame=some a->a∈frs (envOfC qual scope s₀.heap.objs.size f cdv::outer):=λenv he a ha=>VB.mpr {env,he,(ha)};refine aPm (base:=nZ s.heap (frs (envOfC qual scope s₀.heap.objs.size f cdv::outer))) (h:=s.heap) (L:=s₀.heap.objs.size) I.ok.frames rfl (λb o q=>Qy _ q) (W.funFrames_hide I.stack hin) hx λh' t x1 x4 kk=>?_;have up:∀b o,s.heap.get? b=some o->b∈frs (envOfC qual scope s₀.heap.objs.size f cdv::outer)->∃sl,h'.get? b=some { o with slots:=sl }:=λb o e hb=>by
  obtain⟨_,o',ho',hd⟩:=I.stack.mem hb;rw[e]at ho';cases ho';exact x4 b o (hx.keeps b o e) hd
 refine{{e,C,.ref t,_,H,rfl,I.os,I.bare,x1,I.aLI,I.adF rfl (λb o e _ hb=>x1.1 b o (LX I e hb)) (λb o e _ hb=>up b o e (jt _ hb)) (λ_ _ _ n=>n) (λb o e=>?_) (λ_ _ z=>z) (λ_ _ _ z=>z) (λb ps z=>{#[],by rw[z];simp}),λb o e=>?_,q},e,rfl,kk}
 .by_cases hb:b∈frs (envOfC qual scope s₀.heap.objs.size f cdv::outer)
  .obtain⟨sl,z⟩:=up b o e hb;exact{_,z}
  .exact{o,x1.1 b o (LX I e hb)}
 .by_cases hb:b∈frs outer
  .exact .inl hb
  .obtain⟨o',e1⟩:=I.base.there b o e (by intro z;cases z);exact .inr {o',LX I e1 (I.C9 e hb)}
def ajM:Passes (iI P w) (dI P w K mg base N qual scope f cdv A outer s₀ H₀ E) E:=by
 intro pins σ H s e s' I h;intros ea C a0 B H' rfl os bare fl hok un old q h.ex;intros ea' ee kk h.k2;cases ee;refine aeb (L:=s₀.heap.objs.size) I.ok.frames fl.2.2.1 rfl fl.2.2.2 fl.1 fl.2.1 kk λh' x1 x2 k'=>?_;have inB:∀b o,s.heap.get? b=some o->b∉frs (envOfC qual scope s₀.heap.objs.size f cdv::outer)->∃o',B.get? b=some o'/\s'.heap.get? b=some o':=λb o e hb=>by
  rcases old b o e with z|⟨o',z⟩
  .exact absurd z hb
  .exact{o',z,fl.1 b o' z}
 have up:∀b o,s'.heap.get? b=some o->b∈frs (envOfC qual scope s₀.heap.objs.size f cdv::outer)->∃sl,h'.get? b=some { o with slots:=sl }:=λb o e hb=>by
  obtain⟨_,o',ho',hd⟩:=fl.2.2.1.mem hb;rw[e]at ho';cases ho';exact x2 b o e hd
 refine{{ea,C,a0,B,H',rfl,os.trans I.os,bare,x1,hok,I.adF rfl (λb o e n hb=>?_) (λb o e n hb=>?_) (λb o e n=>un.free b o e n (by simp)) (λb o e=>?_) un.tups un.iC un.jf,λb o e=>?_,q},ea,rfl,k'}
 .obtain⟨o',e1,e2⟩:=inB b o e hb;have e3:=un.keep b o e n hb (by simp);rw[e2]at e3;cases e3;exact x1.1 b _ e1
 .obtain⟨sl,e1⟩:=un.slot b o e n (jt _ hb) (by simp);obtain⟨sl',e2⟩:=up b _ e1 (jt _ hb);exact{sl',(e2)}
 .by_cases hb:b∈frs (envOfC qual scope s₀.heap.objs.size f cdv::outer)
  .obtain⟨o',e1⟩:=un.there b o e (by simp);obtain⟨sl,e2⟩:=up b o' e1 hb;exact{_,e2}
  .obtain⟨o',e1,_⟩:=inB b o e hb;exact{o',x1.1 b o' e1}
 .by_cases hb:b∈frs outer
  .exact .inl hb
  .obtain⟨o',e1⟩:=I.base.there b o e (by intro z;cases z);obtain⟨o2,e2,_⟩:=inB b o' e1 (I.C9 e hb);exact .inr {o2,(e2)}
end
section
variable {P:Program}{w:World}{K:aD}{mg:Str->Option Value}{base:Heap}{N ps:List Str}{qual x:Str}{f:Addr}{st:Stmt}{fd:FuncData}{k:Nat}{sp:Sp}
def aqW(C:Addr)(E:XK)(t:TA):TS:=λ_ σ H=>t σ H λvs H1=>vs.length<=sizeLine/\E (.ref C) none H1
structure qI(mg:Str->Option Value)(base:Heap)(x:Str)(C:Addr):Prop where
 ex:∃bm newId,OwnCls x C bm newId mg base/\∃(Bn inN:String) (bmN:List Value) (B nid initId:String),ExcBaseFacts Bn newId inN bmN/\bm.contains (.type Bn)=true/\ExcBaseFacts B nid initId bm
def iM{scope:Scope}{cdv:Value}{A:Around}{outer:List Env}{s₀:Shared}{H₀:Hp}{E:XK}
  {x:Str} {C:Addr} {np cpos pos:Pos} {e:Expr} {es:List Expr} {t:TA} (O:qI mg base x C) (hg:Gl (dI P w K mg base N qual scope f cdv A outer s₀ H₀ E) x) (ha:PA (dI P w K mg base N qual scope f cdv A outer s₀ H₀ E) (e::es) t)
  (hdb:(x==("__debug__" : Str))=false:=by decide)
  (he:starEach (e::es) (dI P w K mg base N qual scope f cdv A outer s₀ H₀ E).env=(false,eval e (dI P w K mg base N qual scope f cdv A outer s₀ H₀ E).env)::starEach es (dI P w K mg base N qual scope f cdv A outer s₀ H₀ E).env:=by rfl)
  (hpl:(backTo cpos (starEach es (dI P w K mg base N qual scope f cdv A outer s₀ H₀ E).env)).any (·.1)=false:=by rfl):
  PS (dI P w K mg base N qual scope f cdv A outer s₀ H₀ E) (.Raise (some (.Call (.Name x np) (e::es) [] cpos)) none pos) (aqW C E t):=by
 intro pins s σ H D I h;intros bm newId O Bn inN bmN B nid initId Fn hBn FB O.ex;intros tl Nn nm q bs hdct sn sub ab col dd k0 k1 k2 k3 k5 mN hC hN hni T O.obj;refine wpAny_Raise_call_subU (C:=C) (nm:=nm) (q:=q) (N:=Nn) (bs:=bs) (bm:=tl) (hdct:=hdct) (sn:=sn) (sub:=sub) (ab:=ab) (col:=col) (dd:=dd) (k0:=k0) (k1:=k1) (k2:=k2) (k3:=k3) (k5:=k5)
  Fn hBn FB (mN:=mN) (T.hasType FB.hasBase) (I.ok.hd rfl) (by rw[he];show(false||(backTo cpos (starEach es (dI P w K mg base N qual scope f cdv A outer s₀ H₀ E).env)).any (·.1))=false;rw[hpl];rfl) hni (oE I hg O.bound {rfl,?_} hdb)
 have h2:=ha cpos pins s σ H _ I h;rw[he]at h2⊢;refine Jg (wpAny_mono h2 (λus s2 ⟨vs,H2,I2,r,z,q⟩=>{rfl,by rw[<-r.length];exact z,I2.bk _ _ hC,hN.keeps I2.bk,T.keeps I2.bk,λh' e hm=>awr I2 hm q}) λ_ _ y=>y)
def qj.U3(F:qj K x qual st f fd)(S:aK N ps (aC st))(len:∀vs H Q E,sp vs H Q E->vs.length=ps.length)
  (hbody:∀(cdv:Value) (A:Around) (outer:List Env) (s:Shared) (H:Hp) (vs:List V) (Q:VK) (E:XK),cT k (A.deeper (envOfC qual (aC st) s.heap.objs.size f cdv))->sp vs H Q E->
   ∃t,iT (dI P w K mg base N qual (aC st) f cdv A outer s H E) (gG st) t/\t { nx:=λ_ H'=>Q .non H',rt:=Q } (start N vs) H):jh P w K mg base (iI P w) (k+1) f fd ps sp:=by
 intros oc od kV doc pm an cdv ct osl rfl lk hcd F.ex;exact aOI lk hcd S len λA outer s H vs Q E hr hsp=>hbody cdv A outer s H vs Q E hr hsp
def qj.okN(F:qj K x qual st f fd)(S:aK N ps (aC st))(len:∀vs H Q E,sp vs H Q E->vs.length=ps.length)
  (hbody:∀(cdv:Value) (A:Around) (outer:List Env) (s:Shared) (H:Hp) (vs:List V) (Q:VK) (E:XK),cT k (A.deeper (envOfC qual (aC st) s.heap.objs.size f cdv))->sp vs H Q E->
   ∃t,iT (dI P w K mg base N qual (aC st) f cdv A outer s H E).pK (gG st) t/\t { nx:=λ_ H'=>Q .non H',rt:=Q } (start N vs) H):jh P w K mg base (iI P w) (k+1) f fd ps sp:=
 F.U3 S len λcdv A outer s H vs Q E hr h=>let⟨t,a,b⟩:=hbody cdv A outer s H vs Q E hr h;{t,a.pK,(b)}
end
section
variable {X:Cx}
section
variable {r r':R2}{x:Str}{pos p:Pos}{k k':Nat}{sp:Sp}{t:String}{w:World}{K:aD}{A:Around}{s:Shared}
def cQ.imp{f:Value->Value->Sem Value}(h:cQ X f r)(i:∀x y H Q,r' x y H Q->r x y H Q):cQ X f r':=λpins s σ H x y v u Q I rx ry q=>h pins s σ H x y v u Q I rx ry (i _ _ _ _ q)
def kj.imp(h:kj X r)(i:∀x y H Q,r' x y H Q->r x y H Q):kj X r':=λvalue slice pins s σ H x y v u Q I rx ry q hs=>h value slice pins s σ H x y v u Q I rx ry (i _ _ _ _ q) hs
def nJ{i:Int}(hg:Gl X x)(hm:∃t,X.mg x=some (.int i t))(hd:(x==("__debug__" : Str))=false:=by decide):PE X (.Name x pos) (tC (.int i)):=by
 intros t e hm;exact Mr hg e {t,(rfl)} hd
def vp{n:String}(hg:Gl X x)(hm:X.mg x=none)(hv:bootBuiltins x=some (.type n))(hn:x≠ "__name__" := by decide)(hd:(x==("__debug__" : Str))=false:=by decide):PE X (.Name x pos) (tC (.ty n)):=
 auk hg hm hv (v:= .ty n) rfl hn hd
structure kJ(P:Program)(w:World)(K:aD)(mg:Str->Option Value)(base:Heap)(x:Str)(k:Nat)(ps:List Str)(sp:Sp):Prop where
 ex:∃(g:Addr) (gd:FuncData),mg x=some (.ref g)/\lU K (.ref g)=true/\Binds K gd ps []/\jh P w K mg base (iI P w) k g gd ps sp
def aER{ps:List Str}{e:Expr}{es:List Expr}{t:TA}(C:kJ X.prog X.w X.K X.mg X.base x k ps sp)(hr:cT k' X.A)(hg:Gl X x)(ha:PA X (e::es) t)
  (hk:k<=k':=by decide) (hd:(x==("__debug__" : Str))=false:=by decide)
  (he:starEach (e::es) X.env=(false,eval e X.env)::starEach es X.env:=by rfl) (hpl:(backTo pos (starEach es X.env)).any (·.1)=false:=by rfl):PE X (.Call (.Name x p) (e::es) [] pos) (wV sp [] E0 t):=by
 intros g gd hm hkp hb F C.ex;exact aap F (hr.mono hk) hg hm hkp hb .nil Je ha hd he hpl
def aMu(C:kJ X.prog X.w X.K X.mg X.base x k [] sp)(hr:cT k' X.A)(hg:Gl X x)
  (hk:k<=k':=by decide) (hd:(x==("__debug__" : Str))=false:=by decide):PE X (.Call (.Name x p) [] [] pos) (wV sp [] E0 pJ):=by
 intros g gd hm hkp hb F C.ex;exact aw5 F (hr.mono hk) hg hm hkp hb .nil Je hd
def cL{P:Program}{mg:Str->Option Value}{base:Heap}{N:List Str}{qual:Str}{scope:Scope}{f:Addr}{cdv:Value}{outer:List Env}{s₀:Shared}{H₀:Hp}{E:XK}
  {x:Str} {k k':Nat} {ps:List Str} {sp:Sp} {p pos:Pos} {e:Expr} {es:List Expr} {t:TA} (C:kJ P w K mg base x k ps sp) (hr:cT k' (dI P w K mg base N qual scope f cdv A outer s₀ H₀ E).A) (hg:Gl (dI P w K mg base N qual scope f cdv A outer s₀ H₀ E) x)
  (ha:PA (dI P w K mg base N qual scope f cdv A outer s₀ H₀ E) (e::es) t) (hk:k<=k':=by decide) (hd:(x==("__debug__" : Str))=false:=by decide)
  (he:starEach (e::es) (dI P w K mg base N qual scope f cdv A outer s₀ H₀ E).env=(false,eval e (dI P w K mg base N qual scope f cdv A outer s₀ H₀ E).env)::starEach es (dI P w K mg base N qual scope f cdv A outer s₀ H₀ E).env:=by rfl)
  (hpl:(backTo pos (starEach es (dI P w K mg base N qual scope f cdv A outer s₀ H₀ E).env)).any (·.1)=false:=by rfl):
  PE (dI P w K mg base N qual scope f cdv A outer s₀ H₀ E) (.Call (.Name x p) (e::es) [] pos) (wV sp [] E t):=by
 intros g gd hm hkp hb F C.ex;exact aap (X:=dI P w K mg base N qual scope f cdv A outer s₀ H₀ E) F (hr.mono hk) hg hm hkp hb .nil ajM ha hd he hpl
def awI{prog:Program}{E:Value->Shared->Prop}{t b:Addr}{vs ws:List Value}{Q:Value->Shared->Prop}(ht:IsTup s.heap t vs.toArray)(hb:IsTup s.heap b ws.toArray)(hv:vs=[])
  (h1:Q (.ref b) s):wpAny (model prog w) A (binaryOp .Add (.ref t) (.ref b)) Q E s:=by
 obtain⟨⟨cls,dd,data,sl⟩,ho,hc,n,hd⟩:=id ht;obtain⟨⟨cls2,dd2,data2,sl2⟩,ho2,hc2,n2,hd2⟩:=id hb;simp only at hc hd hc2 hd2;subst hc hd hc2 hd2;exact concat_meets {_,ho,rfl} {_,ho2,rfl} noFill_tuple_add seq_tuple_add abd WZ (Ud _ _)
   (tuple_addW0 t b vs.toArray ws.toArray n n2 dd dd2 sl sl2 (by simp[hv])) {ho,ho2,(h1)}
def aA4(K:aD):R2:=λx y H Q=>∃a b ys,x = .ref a/\y = .ref b/\aq K H a []/\aq K H b ys/\Q (.ref b) H
def azy:cQ X (binaryOp .Add) (aA4 X.K):=by
 intro pins s σ H x y v u Q I rx ry h;intros a b ys rfl rfl ha hb q h;cases rx;cases ry;obtain⟨its,r1,p1,_⟩:=I.tuple ha;obtain⟨its2,r2,p2,_⟩:=I.tuple hb;exact awI p1 p2 (r1.wG.mpr rfl) {.ref b,H,I,rfl,q}
inductive avR(a b:Addr)(H:Hp)(Q:VK):Prop|mk (xs ys:List V) (h1:H a=some (.lst xs)) (h2:H b=some (.lst ys)) (hz:xs.length+ys.length<=sizeLine) (q:∀z,H z=none->Q (.ref z) (upd H z (.lst (xs++ys))))
def vI(K:aD):R2:=λx y H Q=>match x,y with
 |.int i,.int j=>Q (.int (i+j)) H
 |.str i,.str j=>i.length+j.length<=sizeLine/\Q (.str (i++j)) H
 |.ref a,.ref b=>avR a b H Q∨
   (∃xs ys,aq K H a xs/\aq K H b ys/\xs.length+ys.length<=sizeLine/\(xs=[]->Q (.ref b) H)/\(xs≠[]->ys=[]->Q (.ref a) H)/\(xs≠[]->ys≠[]->∀p,H p=none->Q (.ref p) (upd H p (.tup (xs++ys)))))
 |_,_=>False
def v_add:cQ X (binaryOp .Add) (vI X.K):=by
 refine((aH7.or aKd).or (au7.or (aJE.or azy))).imp λx y H Q h=>?_;unfold vI at h;split at h
 .exact .inl (.inl {"",h})
 .exact .inl (.inr {"",h})
 .rcases h with⟨xs,ys,h1,h2,h3,h4⟩|⟨xs,ys,h1,h2,h3,h4,h5,h6⟩
  .exact .inr (.inl {_,_,xs,ys,rfl,rfl,h1,h2,h3,h4})
  .by_cases hx:xs=[]
   .subst hx;exact .inr (.inr (.inr {_,_,ys,rfl,rfl,h1,h2,h4 rfl}))
   .exact .inr (.inr (.inl {_,_,xs,ys,rfl,rfl,h1,h2,hx,h3,h5 hx,h6 hx}))
 .exact h.elim
inductive aPR(i j:Int)(H:Hp)(Q:VK):Prop|mk (h:IntMulOk i j) (q:Q (.int (i*j)) H)
inductive aMJ(l:Addr)(k:Int)(H:Hp)(Q:VK):Prop|mk (xs:List V) (h:H l=some (.lst xs)) (h1:-(2^63)<=k) (h2:k<2^63) (hz:xs.length*k.toNat<=sizeLine) (q:∀z,H z=none->Q (.ref z) (upd H z (.lst (aX k.toNat xs).flatten)))
def YX:R2:=λx y H Q=>match x,y with
 |.int i,.int j=>aPR i j H Q
 |.ref l,.int k=>aMJ l k H Q
 |_,_=>False
def adM:cQ X (binaryOp .Mult) (rI IntMulOk λi j=> .int (i*j)):=C1 λ_ _ _ _ _ _ _ hc q=>mul_int q hc
def v_mul:cQ X (binaryOp .Mult) YX:=by
 refine(adM.or as5).imp λx y H Q h=>?_;unfold YX at h;split at h
 .intros h1 h2 h;exact .inl {"",h1,h2}
 .intros xs h1 h2 h3 h4 h5 h;exact .inr {_,_,xs,rfl,rfl,h1,h2,h3,h4,h5}
 .exact h.elim
inductive SIx(K:aD)(p:Addr)(i:Int)(H:Hp)(Q:VK):Prop|mk (xs:List V) (v:V) (hs:aj K H p xs∨aq K H p xs) (ha:iy xs i=some v) (q:Q v H)
def Ka(K:aD):R2:=λx y H Q=>match x,y with
 |.ref p,.int i=>SIx K p i H Q
 |.str z,.int i=>∃c,z.length<=sizeLine/\iy z.cps.toList i=some c/\Q (.str {(#[c])}) H
 |_,_=>False
def aMZ:kj X (Ka X.K):=by
 refine auQ.imp λx y H Q h=>?_;unfold Ka at h;split at h
 .obtain⟨xs,v,h1|h1,h2,h3⟩:=h
  .exact .inl {_,xs,_,v,rfl,rfl,h1,h2,h3}
  .exact .inr (.inl {_,xs,_,v,rfl,rfl,h1,h2,h3})
 .intros c h1 h2 h3 h;exact .inr (.inr {_,_,c,rfl,rfl,h1,h2,h3})
 .exact h.elim
def Am(H:Hp):V->Option String
 |.non=>some "NoneType"
 |.bl _=>some "bool"
 |.int _=>some "int"
 |.str _=>some "str"
 |.ref a=>match H a with
  |some (.lst _)=>some "list"
  |some (.fO _ (.lst _))=>some "list"
  |some (.tup _)=>some "tuple"
  |some (.dK _)=>some "dict"
  |_=>none
 |_=>none
def subB(t c:String):Bool:=t==c||(t== "bool" && c== "int")
def aKX{c:String}(ht:t∈["NoneType","bool","int","str","list","tuple","dict"])(hc:c∈["int","bool","tuple","list","str","dict"]):aG K (.type t) (.type c)=some (subB t c):=by
 simp only[dz,iY,or_false]at ht hc;rcases ht with rfl|rfl|rfl|rfl|rfl|rfl|rfl<;>rcases hc with rfl|rfl|rfl|rfl|rfl|rfl<;>kernel_rfl
def asI{H:Hp}{x:V}(h:Am H x=some t):mG K H x (.type t)/\t∈["NoneType","bool","int","str","list","tuple","dict"]:=by
 unfold Am at h;split at h
 .cases h;exact{.non,by simp}
 .cases h;exact{.bl _,by simp}
 .cases h;exact{.int _,by simp}
 .cases h;exact{.str _,by simp}
 .split at h
  .rename_i e;cases h;exact{.lst e,by simp}
  .rename_i e;cases h;exact{.fO e,by simp}
  .rename_i e;cases h;exact{.tup e,by simp}
  .rename_i e;cases h;exact{.dK e,by simp}
  .cases h
 .cases h
def xg:gY X (.builtin "isinstance") (λxs H Q=>∃x c t,xs=[x,.ty c]/\Am H x=some t/\c∈["int","bool","tuple","list","str","dict"]/\Q (.bl (subB t c)) H):=by
 intro pins s σ H xs us Q I r h;intros x c t rfl ht hc q h;intros u v rfl ru rv r.two;cases rv;obtain⟨ty,hm⟩:=asI (K:=X.K) ht;exact aEr I ru ty (aKX hm hc) λtk=>{.bl _,H,I.tok tk,rfl,q}
theorem OD:∀{bs:List Bool} {us:List Value},Vals (bs.map V.bl) us->us=bs.map Value.bool
 |[],_,.nil=>rfl
 |b::bs,_,.cons r t=>by
  have e:=OD (bs:=bs) t;cases (show _=Value.bool b from r);rw[e];rfl
def ahD{h':Heap}{o:Obj}(hk:∀b x,b∉[s.heap.objs.size]->(s.heap.push o).get? b=some x->h'.get? b=some x):∀b x,s.heap.get? b=some x->h'.get? b=some x:=
 λb x e=>hk b x (λhm=>by rw[kO.mp hm]at e;exact j4 _ (cP e)) (Heap.get?_push_of_some _ e)
def v_all(hc:X.calm=true):gY X (.builtin "all") (λxs H Q=>∃(l:Addr) (bs:List Bool),xs=[.ref l]/\aj X.K H l (bs.map V.bl)/\Q (.bl (bs.all id)) H):=by
 intro pins s σ H xs us Q I r h;intros l bs rfl hl q h;intros u rfl ru r.one;cases ru;obtain⟨its,rv,pl,hz⟩:=I.list hl;have eb:=OD rv;subst eb;have hl':=pl.isList;have hlt:l<s.heap.objs.size:=by intros _ e _ hl';exact cP e
 refine call_all_walk (wpAny_pyIter_list hl' ?_);refine{s.heap.objs.size,[s.heap.objs.size,l],[s.heap.objs.size],(bs.map Value.bool).toArray.size,_,_,λi=>(bs[i]?).getD true,rfl,Walks.list (A:=X.A.in1) (I.ok.hd hc) _ l (gw hlt) (bs.map Value.bool).toArray,
  {{_,Heap.get?_push_size _ rfl,rfl,rfl},hl'.push _},λi v s' Q' E' hP hQ=>?_,λh' tk hk=>?_}
 .have hP':(bs.map Value.bool)[i]?=some v:=by simpa using hP
  rw[List.getElem?_map]at hP';cases e:bs[i]? with
  |none=>rw[e]at hP';cases hP'
  |some b=>
   rw[e]at hP';cases hP';dsimp only at hQ;rw[e]at hQ;exact wpAny_truthy_bool hQ
 .have e2:((fK (bs.map Value.bool).toArray.size).all λi=>(bs[i]?).getD true)=bs.all id:=by
   rw[fD,bG];rw[Ad,gK,gK];constructor
   .intro hh x hx;obtain⟨i,hi,e⟩:=abq.mp hx;have:=hh i (jj.mpr hi);rw[List.getElem?_eq_getElem hi,e]at this;exact this
   .intro hh i hi;have hi':=jj.mp hi;rw[List.getElem?_eq_getElem hi'];exact hh _ (uh hi')
  have fin:EP X pins σ Q (.bool (bs.all id)) { s with heap:=h',toks:=tk }:={.bl _,H,I.kept (ahD hk),rfl,q};first|(rw[e2];exact fin)|(simpa[e2]using fin)
def v_sum(hc:X.calm=true):gY X (.builtin "sum") (λxs H Q=>∃(l:Addr) (ns:List Int),xs=[.ref l]/\aj X.K H l (ns.map V.int)/\Q (.int ns.sum) H):=by
 intro pins s σ H xs us Q I r h;intros l ns rfl hl q h;intros u rfl ru r.one;cases ru;obtain⟨its,rv,pl,hz⟩:=I.list hl;have hi:=intsAre_of rv;intros xs hx hi.allInts.items;have hl':s.heap.IsList l (intItems xs):=hx▸pl.isList;refine sum_intListG (I.ok.hd hc) hl' λh' tk t' hk=>?_;have e1:ns=xs.toList.map (·.1):=by
  rw[<-nums_intItems,<-hx];exact(show numsOf its.toArray.toList=ns from hi.numsOf).symm
 have e2:preSum (numAt xs) xs.size=ns.sum:=by
  rw[preSum_eq,yP (by simp),e1]
 rw[e2];exact{.int _,H,I.kept hk,{()},q}
inductive af7(P:Prop)(R:It->Hp->Prop)(J:It)(H:Hp):Prop|mk (h:P) (q:R J H)
inductive SSq(z:aD)(a:Addr)(H:Hp)(R:It->Hp->Prop):Prop
 |inl (h:af7 (∃xs,aj z H a xs) R (uW z a) H)
 |inr (h:af7 (∃xs,aq z H a xs) R (Jv z a) H)
inductive aoj(K:aD)(x:V)(H:Hp)(R:It->Hp->Prop):Prop|mk (a:Addr) (hx:x = .ref a) (q:SSq K a H R)
def afc(K:aD)(tl:TE):TI:=λσ H R=>tl σ H λx H1=>aoj K x H1 R
def aNR{tg l:Expr}{tl:TE}(hl:PE X l tl):PI X tg l (afc X.K tl):=by
 intro pins s σ H R I h;refine aR (hl pins s σ H _ I h) λv s1 ⟨x,H1,I1,r1,a,e,q⟩=>?_;subst e;cases r1;rcases q with⟨⟨xs,hq⟩,q⟩|⟨⟨xs,hq⟩,q⟩
 .have hh:PI X tg l (asL X.K λσ' H' Q=>Q (.ref a) H')->True:=λ_=>trivial;obtain⟨its,rv,p,hz⟩:=I1.list hq;refine wpAny_pyIter_list p.isList ?_;refine{s1.heap.objs.size,[s1.heap.objs.size],_,_,H1,rfl,I1.kept (t':=s1.toks) λb o e=>Heap.get?_push_of_some _ e,MN a _,{_,Heap.get?_push_size _ rfl,rfl,rfl},λb hb=>?_,q};have e:b=s1.heap.objs.size:=by simpa using hb
  subst e;exact I1.mL (bK _) (I1.hok.fresh (bK _))
 .obtain⟨its,rv,p,hz⟩:=I1.tuple hq;refine wpAny_pyIter_tuple (show s1.heap.IsTuple a its.toArray from p) ?_;refine{s1.heap.objs.size,[s1.heap.objs.size],_,_,H1,rfl,I1.kept (t':=s1.toks) λb o e=>Heap.get?_push_of_some _ e,aD7 a _,{_,Heap.get?_push_size _ rfl,rfl,rfl},λb hb=>?_,q};have e:b=s1.heap.objs.size:=by simpa using hb
  subst e;exact I1.mL (bK _) (I1.hok.fresh (bK _))
end
end
section
variable {env:Env}{scope sc:Scope}{X:Cx}{elt iter tg:Expr}{ifs:List Expr}{pos py spos:Pos}{cm:Cx->Prop}{wx:List (Str×Addr)->Addr->Shared->Hp->List Addr->Value->Shared->Prop}{wi:TI}{g:TG}{tc:TT}{te:TE}{N:List Str}{ix:List (Option Nat)}{i:Nat}{y:Str}
theorem abD{env:Env}:∀(names:List (Str×NameKind)) (acc:List (Str×Addr)),(∀y∈names,y.2 = .free->∃c,env.cells.lookup y.1=some c)->(∀p∈acc,env.cells.lookup p.1=some p.2)->
 ∃cl,(forIn names acc λ(y:Str×NameKind) (cs:List (Str×Addr))=>match y with|(name,kind)=>if(kind== .free)=true then do let a<-cellOf env name;pure (ForInStep.yield ((name,a)::cs))else pure (ForInStep.yield cs))=(pure cl:Sem _)/\(∀p∈cl,env.cells.lookup p.1=some p.2)/\(∀p∈acc,p∈cl)/\∀y∈names,y.2 = .free->∃c,(y.1,c)∈cl
 |[],acc,_,ha=>{acc,rfl,ha,λ_ h=>h,λ_ h=>nomatch h}
 |(n,k)::r,acc,hf,ha=>by
  have hr:∀y∈r,y.2 = .free->∃c,env.cells.lookup y.1=some c:=λy hy=>hf y (jt _ hy);by_cases hk:k = .free
  .subst hk;obtain⟨c,hc⟩:=hf (n,.free) wN rfl;obtain⟨cl,e,h1,h2,h3⟩:=abD r ((n,c)::acc) hr (λp hp=>by
    rcases dz.mp hp with rfl|hp
    .exact hc
    .exact ha p hp)
   refine{cl,?_,h1,λp hp=>h2 p (jt _ hp),λy hy hyf=>?_}
   .rw[HZ];simp only[beq_self_eq_true,if_true,cellOf,hc,pure_bind];exact e
   .rcases dz.mp hy with rfl|hy
    .exact{c,h2 _ wN}
    .exact h3 y hy hyf
  .have hb:(k==NameKind.free)=false:=by simpa using hk
   obtain⟨cl,e,h1,h2,h3⟩:=abD r acc hr ha;refine{cl,?_,h1,h2,λy hy hyf=>?_}
   .rw[HZ];simp only[hb,Gz,if_false,pure_bind];exact e
   .rcases dz.mp hy with rfl|hy
    .exact absurd hyf hk
    .exact h3 y hy hyf
def aQd(hf:∀y∈scope.names,y.2 = .free->∃c,env.cells.lookup y.1=some c):
  ∃cl,closureFor scope env=pure cl/\(∀x c,cl.lookup x=some c->env.cells.lookup x=some c)/\∀y∈scope.names,y.2 = .free->∃c,cl.lookup y.1=some c:=by
 obtain⟨cl,e,h1,_,h3⟩:=abD (env:=env) scope.names [] hf (λ_ h=>nomatch h);refine{cl,?_,λx c h=>h1 (x,c) (uX h),λy hy hyf=>?_}
 .unfold closureFor;simp only[bind_pure_comp]at e⊢;rw[e];rfl
 .obtain⟨c,hc⟩:=h3 y hy hyf;cases q:cl.lookup y.1 with
  |some d=>exact{d,(rfl)}
  |none=>
   have z:=List.lookup_eq_none_iff.mp q (y.1,c) hc;simp at z
def zu(sc:Scope)(cl:List (Str×Addr))(C:Addr)(env:Env):Env:=
 { scope:=sc,locals:=C,globals:=env.globals,cells:=cl,qual:=env.qual,func:=none,code:=env.code,frame:=env.frame,builtins:=env.builtins }
def dR(X:Cx)(sc:Scope)(N:List Str)(cl:List (Str×Addr))(C:Addr)(s₀:Shared)(H₀:Hp)(ex:List Addr):Cx:=
 { X with env:=zu sc cl C X.env,N:=N,s₀:=s₀,H₀:=H₀,outer:=X.stack,ex:=ex,fn:=λ_=>false,pn:=[],xe:=λ_ _=>False }
def cst(ix:List (Option Nat))(σ:St):St:=ix.map λo=>match o with
 |none=>none
 |some i=>match σ[i]? with
  |some v=>v
  |none=>none
def qF(X:Cx)(ifs:List Expr)(t:TT):Prop:=
 ∀(pins:List (Addr×Obj)) (s:Shared) (σ:St) (H:Hp) (Q:Bool->Hp->Prop),Inv X pins σ H s->t σ H Q->
  wpAny (model X.prog X.w) X.A (forIn ifs true λc r=>if r=true then do let ok<-isTrue c X.env (eval c X.env);pure (ForInStep.yield ok)else pure (ForInStep.yield r)) (TP X pins σ Q) X.xe s
def nj:TT:=λ_ H Q=>Q true H
def cO:qF X [] nj:=λ_ _ _ H _ I h=>wpAny_tests_nil {H,I,(h)}
def M6{c:Expr}{t:TT}(h:PT X c t):qF X [c] t:=λpins s σ H Q I q=>wpAny_tests_one (h pins s σ H Q I q)
def aAA{prog:Program}{w:World}{A:Around}{R:Result->Shared->Prop}{s:Shared}{target:Expr}{it acc:Value}(I:Nat->Shared->Prop)
  (turn:∀n s,I n s->wpAny (model prog w) A (pyNext it) (λr s₁=>match r with
   |none=>R (.ok .next) s₁
   |some v=>wpAny (model prog w) A (letOwnedTupleGo target it v) (λ_ s₀=>wpAny (model prog w) A (assign target env v) (λ_ s₂=>
     wpAny (model prog w) A (forIn ifs true λc r=>if r=true then do let ok<-isTrue c env (eval c env);pure (ForInStep.yield ok)else pure (ForInStep.yield r)) (λok s₃=>
      if ok=true then wpAny (model prog w) A (eval elt env) (λx s₄=>
       wpAny (model prog w) A (call (.builtin "list.append") [acc,x]) (λ_ s₅=>∃m,m<n/\I m s₅) (λ_ _=>False) s₄) (notedBy (model prog w) A env λx s'=>R (.error x) s') s₃
      else ∃m,m<n/\I m s₃) (λ_ _=>False) s₂) (λ_ _=>False) s₀) (λ_ _=>False) s₁) (λ_ _=>False) s)
  (n:Nat) (h:I n s):
  codeAny (model prog w) A (.compLoop (.ListComp elt [{target,iter,ifs,(0)}] scope pos) 0 it acc env) R s:=by
 refine codeAny_loop rfl I (λn s hI=>?_) n h;show wpAny _ A ((compTurn (.ListComp elt [{target,iter,ifs,(0)}] scope pos) 0 it acc env).onRaise (λx=>do noteFrame x env;theTreesLotGoes x)) _ _ s
 refine wpAny_noted ?_;rw[compTurn_list];refine wpAny_bind (wpAny_standAt (wpAny_bind (wpAny_mono (turn n s hI) (λr s₁ h₁=>?_) λ_ _ h'=>h'.elim)));cases r with
 |none=>exact wpAny_pure h₁
 |some v=>
  refine wpAny_bind (wpAny_mono h₁ (λ_ s₀ h₀=>?_) λ_ _ h'=>h'.elim);refine wpAny_bind (wpAny_mono h₀ (λ_ s₂ h₂=>wpAny_bind (wpAny_mono h₂ (λok s₃ h₃=>?_) λ_ _ h'=>h'.elim)) λ_ _ h'=>h'.elim);cases ok with
  |false=>exact wpAny_pure {rfl,(h₃)}
  |true=>
   exact wpAny_bind (wpAny_bind (wpAny_mono h₃ (λx s₄ h₄=>wpAny_bind (wpAny_mono h₄ (λ_ s₅ h₅=>wpAny_pure (wpAny_pure {rfl,(h₅)})) λ_ _ h'=>h'.elim)) λ_ _ h'=>h'))
structure lO(ix:List (Option Nat))(g:TG)(tc:TT)(te:TE)(σ:St)(Q:VK)(J:It)(H1:Hp):Prop where
 go:∀D,H1 D=none->∃W:Nat->Nat->St->Hp->Prop,(∃m,W 0 m (cst ix σ) (upd H1 D (.lst [])))/\
  ∀i m σ' H',W i m σ' H'->(J.stop i H'/\Q (.ref D) H')∨(J.go i H'/\∀x H2,J.iV i H' x H2->g x σ' H2 λσ3 H3=>tc σ3 H3 λb H4=>
   if b=true then te σ3 H4 λy H5=>∃ys,H5 D=some (.lst ys)/\ys.length<sizeLine/\∃m',m'<m/\W (i+1) m' σ3 (upd H5 D (.lst (ys++[y])))
   else ∃m',m'<m/\W (i+1) m' σ3 H4)
def vV(ix:List (Option Nat))(wi:TI)(g:TG)(tc:TT)(te:TE):TE:=λσ H Q=>wi σ H λJ H1=>lO ix g tc te σ Q J H1
structure vA(X:Cx)(scope sc:Scope)(N:List Str)(ix:List (Option Nat)):Prop where
 rel:relabel scope X.env=sc
 kind:scope.kind = .function
 cell:∀y∈scope.names,y.2≠ .cell
 names:∀x∈scope.names,x.2 = .local->scope.names.lookup x.1=some .local
 free:∀y∈scope.names,y.2 = .free->X.env.kindOf y.1=some .cell∨X.env.kindOf y.1=some .free
 len:N.length=ix.length
 ix:∀(j:Nat) (x:Str) (i:Nat),N[j]?=some x->ix[j]?=some (some i)->X.N[i]?=some x/\(x,NameKind.free)∈scope.names/\(sc.names.lookup x=some .cell∨sc.names.lookup x=some .free)
 has:∀x,(sc.names.lookup x=some .cell∨sc.names.lookup x=some .free)->(x,NameKind.free)∈scope.names
def Ub{ip:Pos}(O:vA X scope sc N ix)(hc:cm X)(hcm:∀{pins:List (Addr×Obj)} {σ:St} {H:Hp} {s:Shared} (cl:List (Str×Addr)) (C:Addr) (fp:List Addr),Inv X pins σ H s->cm (dR X sc N cl C s H fp))(hi:Ft cm X tg iter wi)
  (hb:∀cl C s₀ H₀ ex,cm (dR X sc N cl C s₀ H₀ ex)->PG (dR X sc N cl C s₀ H₀ ex) tg g/\qF (dR X sc N cl C s₀ H₀ ex) ifs tc/\PE ((dR X sc N cl C s₀ H₀ ex).wish (wx cl C s₀ H₀ ex)) elt te) (hs:∀x,foldedSetIterable iter X.env x=pure x)
  {use:Option (Value->Sem Unit)} {QQ:Value->Shared->Prop} {pins:List (Addr×Obj)} {s:Shared} {σ:St} {H:Hp} {Q:VK} (I:Inv X pins σ H s) (h:vV ix wi g tc te σ H Q)
  (sZ:∀cl D C s₀ H₀ ex x s',wx cl C s₀ H₀ ex x s'->(∀{oB σ' H' s1},Inv (dR X sc N cl C s₀ H₀ ex) oB σ' H' s1->Inv X pins σ H' s1/\jW X pins H' C)->notedBy (model X.prog X.w) X.A (zu sc cl C X.env) (λx s'=>compPost (model X.prog X.w) X.A X.xe use QQ (.ref D) C (.error x) s') x s')
  (fin:∀(D C:Addr) (s6:Shared) (H5:Hp) (m:Str->Option Value),Inv X pins σ H5 s6->s6.heap.Ns C m->jW X pins H5 C->Q (.ref D) H5->compPost (model X.prog X.w) X.A X.xe use QQ (.ref D) C (.ok .next) s6):
  wpAny (model X.prog X.w) X.A (comprehension (.ListComp elt [{tg,iter,ifs,(0)}] scope pos) scope X.env ip (newList []) false (eval iter X.env) use) QQ X.xe s:=by
 have hcl:∃cl,closureFor scope X.env=pure cl/\(∀x c,cl.lookup x=some c->X.env.cells.lookup x=some c)/\∀y∈scope.names,y.2 = .free->∃c,cl.lookup y.1=some c:=
  aQd λy hy hf=>I.ok.has y.1 (O.free y hy hf)
 intros cl ecl yh aln hcl;refine wpAny_comprehension_free (use:=use) rfl hs ecl O.kind O.names (aR (hi pins s σ H _ I h) λv s1 h1=>aR h1 λitv s2 h2=>?_);intros it fp tn J H2 e I2 T st2 f2 q2 h2;subst e;obtain⟨W,⟨m0,w0⟩,turn⟩:=q2.go s2.heap.objs.size I2.fresh;refine wpAny_newObj_type ?_;have I3:=I2.JV (its:=[]) (t':=s2.toks) (ys:=[]) .nil (fJ _);generalize eH3:upd H2 s2.heap.objs.size (.lst [])=H3 at I3 w0;have eD:H3 s2.heap.objs.size=some (.lst []):=by rw[<-eH3];exact ao
 have aKP:∀b∈fp,b≠s2.heap.objs.size:=λb hb z=>by
  obtain⟨o,ho,_⟩:=T.obj _ _ st2 b hb;exact absurd (cP ho) (by rw[z];exact j4 _)
 have st3:tn 0 (s2.heap.push { cls:= .type "list",dict:=none,data:= .seq ([]:List Value).toArray }):=T.keep _ _ _ st2 λb _ o e=>Heap.get?_push_of_some _ e;have f3:∀b∈fp,jW X pins H3 b:=λb hb=>{by rw[<-eH3,bY (aKP b hb)];exact(f2 b hb).1,(f2 b hb).2};generalize Lk:({ s2 with heap:=s2.heap.push { cls:= .type "list",dict:=none,data:= .seq ([]:List Value).toArray },toks:=s2.toks }:Shared)=s3 at I3;have ae2:tn 0 s3.heap:=by rw[<-Lk];exact st3
 refine wpAny_newFunctionEnv O.cell (λy hy=>nomatch hy) (λh4 aBr aHh=>?_) O.kind;have acr:∀b o,s3.heap.get? b=some o->h4.get? b=some o:=λb o e=>(aHh.2 b (gw (cP e))).trans (Heap.get?_push_of_some _ e);have I4:Inv X pins σ H3 { s3 with heap:=h4,toks:=s3.toks+([]:List (Str×Value)).length }:=I3.kept acr;have aEB:({ newEnv scope s3.heap.objs.size X.env.globals cl X.env.qual none .none (some X.env) builtinsNs with scope:=relabel scope X.env }:Env)=zu sc cl s3.heap.objs.size X.env:=by rw[O.rel];rfl
 rw[aEB];show codeAny _ _ _ (compPost (model X.prog X.w) X.A X.xe use QQ (.ref s2.heap.objs.size) s3.heap.objs.size) _;generalize eC:s3.heap.objs.size=C;generalize es4:({ s3 with heap:=h4,toks:=s3.toks+([]:List (Str×Value)).length }:Shared)=s4 at I4;have X5:s4.heap=h4:=by rw[<-es4]
 have o4s:s4.os=s3.os:=by rw[<-es4]
 have fC:∀b∈fp,b≠C:=λb hb z=>by
  obtain⟨o,ho,_⟩:=T.obj _ _ ae2 b hb;exact absurd (cP ho) (by rw[z,eC];exact j4 _)
 have okC:(dR X sc N cl C s3 H3 fp).Ok:=by
  refine{I3.ok.mod,?_,I3.ok.glob,I3.ok.blt,Dd eC,λx y c h1 h2=>I3.ok.inj x y c (yh x c h1) (yh y c h2),λx hx=>?_,λx c z _=>(nomatch z),I3.ok.hd,I3.ok.frames,.inl rfl,λb hb=>{fC b hb,λx c e=>(f3 b hb).2.2.2.2.1 x c (yh x c e)},
   I3.bs,eV I3.ok.qH I3.sz,λb o e hb=>?_,λb hb z=>?_,I3.stack,I3.Vg,I3.ok.tree,I3.ok.top}
  .show sc.kind = .function;rw[<-O.rel];exact O.kind
  .exact aln (x,.free) (O.has x hx) rfl
  .rcases(f3 b hb).2.2.2.1 with z|z
   .exact I3.ok.zF b o e z
   .exact absurd (ig (cP e) (eV I3.ok.qH z)) (j4 _)
  .rcases dz.mp (I3.Dh b z)with z|z
   .exact(f3 b hb).2.1 z
   .exact(f3 b hb).2.2.1 z
 have IC:Inv (dR X sc N cl C s3 H3 fp) [] (cst ix σ) H3 s4:=by
  refine{okC,o4s,I4.bare,?_,?_,λx c e=>I4.cell x c (yh x c e),?_,λx c e=>I4.lY x c (yh x c e),λp hp=>(nomatch hp),I4.hok,?_}
  .rw[X5];exact Un.kept acr
  .refine{_,by rw[X5,<-eC];exact aBr,λj x v e1 e2 e3=>?_};have e2':(cst ix σ)[j]?=some (some v):=e2;unfold cst at e2';rw[List.getElem?_map]at e2';cases q:ix[j]? with
   |none=>rw[q]at e2';cases e2'
   |some o=>
    rw[q]at e2';cases o with
    |none=>cases e2'
    |some i=>
     obtain⟨hx,hm,hsc⟩:=O.ix j x i e1 q;cases q2:σ[i]? with
     |none=>simp[q2]at e2'
     |some w'=>
      simp[q2]at e2';subst e2';intros m hn hl I4.loc;have kf:=O.free (x,.free) hm rfl;have vis:Jq X.env.scope x:=by
       rcases kf with k|k
       .exact .inr (.inl k)
       .exact .inr (.inr k)
      obtain⟨u,r,l⟩:=hl i x v hx q2 vis;exists u,r;rcases l with⟨k,_⟩|⟨_,c,e,z⟩
      .rcases kf with k'|k'
       .rw[k]at k';cases k'
       .rw[k]at k';cases k'
      .obtain⟨c',e'⟩:=aln (x,.free) hm rfl;have:=yh x c' e';rw[e]at this;cases this;exact .inr {hsc,c,e',(z)}
  .rw[<-eC];exact I3.fresh
  .show(cst ix σ).length=N.length;rw[O.len];simp[cst]
 have st4:tn 0 s4.heap:=T.keep _ _ _ ae2 λb _ o e=>by rw[X5];exact acr b o e
 have stat:∀{H':Hp},(∀b∈fp,H' b=none)->∀b∈fp,jW (dR X sc N cl C s3 H3 fp) [] H' b:=λhn b hb=>
  {hn b hb,fC b hb,okC.zO b hb,.inl hb,λx c e=>(f3 b hb).2.2.2.2.1 x c (yh x c e),λp hp=>(nomatch hp)}
 have hc':cm (dR X sc N cl C s3 H3 fp):=hcm cl C fp I3;obtain⟨hg,ht,he⟩:=hb cl C s3 H3 fp hc';have loop:codeAny (model X.prog X.w) X.A (.compLoop (.ListComp elt [{tg,iter,ifs,(0)}] scope pos) 0 (.ref it) (.ref s2.heap.objs.size) (zu sc cl C X.env))
   (compPost (model X.prog X.w) X.A X.xe use QQ (.ref s2.heap.objs.size) C) s4:=by
  refine aAA (λn s'=>∃i σ' H',Inv (dR X sc N cl C s3 H3 fp) [] σ' H' s'/\tn i s'.heap/\(∀b∈fp,H' b=none)/\W i n σ' H') ?_ m0 {0,cst ix σ,H3,IC,st4,λb hb=>(f3 b hb).1,w0};rintro n s5 ⟨i,σ5,H5,I5,Bj,Jw,w5⟩;rcases turn i n σ5 H5 w5 with⟨stop,qn⟩|⟨go,step⟩
  .refine aR (T.done (dR X sc N cl C s3 H3 fp) rfl rfl rfl hc' i [] s5 σ5 H5 (λ_ _=>False) I5 (stat Jw) Bj stop) λr s6 ⟨hr,I6⟩=>?_;subst hr;obtain⟨m,hn,_⟩:=id I6.loc;have I7:Inv X pins σ H5 s6:=I3.Rn (ch:=fp) I6.os I6.base I6.hok I6.bare λb hb=>{(f3 b hb).2.2.2.1,(f3 b hb).2.1,(f3 b hb).2.2.2.2.1,(f3 b hb).2.2.2.2.2};exact fin _ C s6 H5 m I7 hn (I3.mL (Dd eC) I6.free) qn
  .refine aR (T.item (dR X sc N cl C s3 H3 fp) rfl rfl rfl hc' i [] s5 σ5 H5 (λ_ _=>False) I5 (stat Jw) Bj go) λr s6 ⟨u,hr,h6⟩=>?_;subst hr;refine aR h6 λ_ s7 ⟨x,H7,I7,r7,y7,st7,fr7⟩=>?_;have I7':=I7.pinned (stat fr7) (T.obj _ _ st7);have again:∀{σ9:St} {H9:Hp} {s9:Shared} {m':Nat},Inv (dR X sc N cl C s3 H3 fp) ([]++Hs fp s7.heap) σ9 H9 s9->m'<n->W (i+1) m' σ9 H9->
     ∃m,m<n/\∃i σ' H',Inv (dR X sc N cl C s3 H3 fp) [] σ' H' s9/\tn i s9.heap/\(∀b∈fp,H' b=none)/\W i m σ' H':=λ{σ9 H9 s9 m'} I9 hm w9=>by
    refine{m',hm,i+1,σ9,H9,I9.HY,T.keep _ _ _ st7 λb hb o e=>(I9.pin (b,o) (mC _ (mC _ (E7 hb e)))).1,λb hb=>?_,w9};obtain⟨o,e,d⟩:=T.obj _ _ st7 b hb;exact(I9.pin (b,o) (mC _ (mC _ (E7 hb e)))).2.1
   refine aR (hg _ s7 σ5 H7 x u _ I7' r7 (step x H7 y7)) λ_ s8 ⟨σ8,H8,I8,q8⟩=>?_;refine aR (ht _ s8 σ8 H8 _ I8 q8) λb s9 ⟨H9,I9,q9⟩=>?_;cases b with
   |false=>
    rw[if_neg fu]at q9;intros m' hm w9 q9;rw[if_neg fu];exact again I9 hm w9
   |true=>
    rw[if_pos rfl]at q9;rw[if_pos rfl];refine wpAny_mono (he _ s9 σ8 H9 _ (I9.wish _) q9) (λy kE ⟨yv,nu,aLh,r10,ys,e10,Kv,m',hm,w10⟩=>?_) (λx kE hx=>sZ cl _ C s3 H3 fp x kE hx λI6=>{I3.Rn (ch:=fp) I6.os I6.base I6.hok I6.bare λb hb=>{(f3 b hb).2.2.2.1,(f3 b hb).2.1,(f3 b hb).2.2.2.2.1,(f3 b hb).2.2.2.2.2},I3.mL (Dd eC) I6.free});have rW:=Inv.nM aLh;refine aR (ajm _ kE σ8 nu (.ref s2.heap.objs.size) [yv] (.ref s2.heap.objs.size) [y] (λ_ H'=>W (i+1) m' σ8 H') rW rfl (.cons r10 .nil) {_,ys,yv,rfl,rfl,e10,Kv,w10}) λ_ s11 ⟨_,vQ,I11,_,w11⟩=>?_;exact again I11 hm w11
 exact codeAny_compStart_list loop (T.self _ _ _ _ _ st4 loop)
def dB(O:vA X scope sc N ix)(hc:X.calm=true)(hi:PI X tg iter wi)
  (hb:∀cl C s₀ H₀ ex,PG (dR X sc N cl C s₀ H₀ ex) tg g/\qF (dR X sc N cl C s₀ H₀ ex) ifs tc/\PE (dR X sc N cl C s₀ H₀ ex) elt te)
  (hs:∀x,foldedSetIterable iter X.env x=pure x:=by intro _;rfl):PE X (.ListComp elt [{tg,iter,ifs,(0)}] scope pos) (vV ix wi g tc te):=by
 intro pins s σ H Q I h;rw[eval_ListComp];exact Ub (cm:=λX=>X.calm=true) (wx:=λ_ _ _ _ _ _ _=>False) (use:=none) (QQ:=EP X pins σ Q) O hc (λ_ _ _ _=>hc) hi (λcl C s₀ H₀ ex _=>hb cl C s₀ H₀ ex) hs I h (λ_ _ _ _ _ _ _ _ z=>z.elim) λD C s6 H5 m I7 hn f q=>{m,hn,λh' hs'=>{.ref D,H5,I7.turned (it:=C) (t':=s6.toks) (λb o hb e=>(hs'.2 b hb).trans e) f.1 f.2.1 f.2.2.2.1 f.2.2.2.2.1 f.2.2.2.2.2,rfl,q}}
def Pk(hN:X.N.Nodup)(hi':X.N[i]?=some y)(hx:Loc X.env.scope y)
  (O:vA X scope sc N ix) (hc:cm X) (hcm:∀{pins:List (Addr×Obj)} {σ:St} {H:Hp} {s:Shared} (cl:List (Str×Addr)) (C:Addr) (fp:List Addr),Inv X pins σ H s->cm (dR X sc N cl C s H fp)) (hi:Ft cm X tg iter wi)
  (hb:∀cl C s₀ H₀ ex,cm (dR X sc N cl C s₀ H₀ ex)->PG (dR X sc N cl C s₀ H₀ ex) tg g/\qF (dR X sc N cl C s₀ H₀ ex) ifs tc/\PE ((dR X sc N cl C s₀ H₀ ex).wish (wx cl C s₀ H₀ ex)) elt te)
  (sZ:∀{pins:List (Addr×Obj)} {σ:St} {use:Option (Value->Sem Unit)} {QQ:Value->Shared->Prop} cl D C s₀ H₀ ex x s',wx cl C s₀ H₀ ex x s'->(∀{oB σ' H' s1},Inv (dR X sc N cl C s₀ H₀ ex) oB σ' H' s1->Inv X pins σ H' s1/\jW X pins H' C)->notedBy (model X.prog X.w) X.A (zu sc cl C X.env) (λx s'=>compPost (model X.prog X.w) X.A X.xe use QQ (.ref D) C (.error x) s') x s')
  (hs:∀x,foldedSetIterable iter X.env x=pure x:=by intro _;rfl) (hsw:swapsWith (.ListComp elt [{tg,iter,ifs,(0)}] scope pos) (some (.Name y py)) spos.line X.env=pure true:=by rfl)
  (hf:X.fn y=true∨X.env.scope.names.lookup y=some .local:=by first|exact .inl rfl|exact .inr rfl|assumption):
  PS X (.Assign [.Name y py] (.ListComp elt [{tg,iter,ifs,(0)}] scope pos) spos) (v8 (vV ix wi g tc te) (iw i)):=by
 intro pins s σ H D I h;rw[exec_Assign_Name_used _ _ _ _ hsw];refine wpAny_bind (wpAny_standAt (wpAny_bind ?_));show wpAny _ X.A (do let _<-comprehension (.ListComp elt [{tg,iter,ifs,(0)}] scope pos) scope X.env _ (newList []) false (eval iter X.env) (some (assign (.Name y py) X.env))) _ _ s
 refine wpAny_bind (wpAny_mono (Ub (use:=some (assign (.Name y py) X.env)) (QQ:=λ_ s'=>∃σ' H',Inv X pins σ' H' s'/\D.nx σ' H') O hc hcm hi hb hs I h sZ λD1 C s6 H5 m I7 hn f q=>?_) (λ_ s' ⟨σ',H',I',q'⟩=>wpAny_pure (wpAny_pure {σ',H',I',(q')})) λ_ _ e=>e);obtain⟨o,es,ep,ho,hc1,hc2⟩:=id hn;have I8:=I7.pinned (fp:=[C]) (λb hb=>by
  have e:b=C:=by simpa using hb
  subst e;exact f) (λb hb=>by
  have e:b=C:=by simpa using hb
  subst e;exact{o,ho,λv z=>by first|(rw[hc1.2]at z;cases z)|(rw[hc2.1]at z;cases z)|(rw[hc1]at z;cases z)|(simp_all)})
 show wpAny _ X.A (assign (.Name y py) X.env (.ref D1)) _ _ _;refine wpAny_assign_Name (Gb I8 hN hi' hx (v:= .ref D1) rfl (λs7 I9=>?_) hf);have hC:=(I9.pin (C,o) (mC _ (mC _ (E7 (by simp) ho)))).1;refine{m,{o,es,ep,hC,hc1,(hc2)},λh' hs'=>{_,H5,I9.HY.turned (it:=C) (t':=s7.toks) (λb o hb e=>(hs'.2 b hb).trans e) f.1 f.2.1 f.2.2.2.1 f.2.2.2.2.1 f.2.2.2.2.2,q}}
def vH(hN:X.N.Nodup)(hi':X.N[i]?=some y)(hx:Loc X.env.scope y)
  (O:vA X scope sc N ix) (hc:X.calm=true) (hi:PI X tg iter wi)
  (hb:∀cl C s₀ H₀ ex,PG (dR X sc N cl C s₀ H₀ ex) tg g/\qF (dR X sc N cl C s₀ H₀ ex) ifs tc/\PE (dR X sc N cl C s₀ H₀ ex) elt te)
  (hs:∀x,foldedSetIterable iter X.env x=pure x:=by intro _;rfl) (hsw:swapsWith (.ListComp elt [{tg,iter,ifs,(0)}] scope pos) (some (.Name y py)) spos.line X.env=pure true:=by rfl)
  (hf:X.fn y=true∨X.env.scope.names.lookup y=some .local:=by first|exact .inl rfl|exact .inr rfl|assumption):
  PS X (.Assign [.Name y py] (.ListComp elt [{tg,iter,ifs,(0)}] scope pos) spos) (v8 (vV ix wi g tc te) (iw i)):=
 Pk (cm:=λX=>X.calm=true) (wx:=λ_ _ _ _ _ _ _=>False) hN hi' hx O hc (λ_ _ _ _=>hc) hi (λcl C s₀ H₀ ex _=>hb cl C s₀ H₀ ex) (λ_ _ _ _ _ _ _ _ z=>z.elim) hs hsw hf
end
mutual
inductive lJ(K:aD)(H:Hp):V->PyData->Prop
 |non:lJ K H .non .none
 |bl (b:Bool):lJ K H (.bl b) (.bool b)
 |int (i:Int):lJ K H (.int i) (.int i)
 |str (x:Str):lJ K H (.str x) (.str x)
 |lst {a:Addr} {xs:List V} {ds:List PyData}:aj K H a xs->nq K H xs ds->lJ K H (.ref a) (.list ds)
 |tup {a:Addr} {xs:List V} {ds:List PyData}:aq K H a xs->nq K H xs ds->lJ K H (.ref a) (.tuple ds)
inductive nq(K:aD)(H:Hp):List V->List PyData->Prop
 |nil:nq K H [] []
 |cons {x:V} {d:PyData} {xs:List V} {ds:List PyData}:lJ K H x d->nq K H xs ds->nq K H (x::xs) (d::ds)
end
section
variable {X:Cx} {pins:List (Addr×Obj)} {σ:St} {H:Hp} {s:Shared}
mutual
theorem Inv.reads(I:Inv X pins σ H s):∀{x:V} {d:PyData} {u:Value},lJ X.K H x d->RelV x u->∃as,Reads s.heap u d as
 |_,_,_,.non,r=>by cases r;exact{_,.none}
 |_,_,_,.bl b,r=>by cases r;exact{_,.bool b}
 |_,_,_,.int i,r=>by intros t rfl r;exact{_,.int i t}
 |_,_,_,.str x,r=>by intros t rfl r;exact{_,.str x t}
 |_,_,_,.lst hq hs,r=>by
  cases r;obtain⟨its,rv,pl,_⟩:=I.list hq;obtain⟨as,ra⟩:=Inv.readsAll I hs rv;intros o ho hc n hd pl.isList;exact{_,.list ho hc hd (by simpa using ra)}
 |_,_,_,.tup hq hs,r=>by
  cases r;obtain⟨its,rv,pl,_⟩:=I.tuple hq;obtain⟨as,ra⟩:=Inv.readsAll I hs rv;intros o ho hc n hd pl;exact{_,.tuple ho hc hd (by simpa using ra)}
theorem Inv.readsAll(I:Inv X pins σ H s):∀{xs:List V} {ds:List PyData} {us:List Value},nq X.K H xs ds->Vals xs us->∃as,ReadsAll s.heap us ds as
 |_,_,_,.nil,.nil=>{_,.nil}
 |_,_,_,.cons h1 h2,.cons r1 r2=>by
  obtain⟨as,a⟩:=Inv.reads I h1 r1;obtain⟨bs,b⟩:=Inv.readsAll I h2 r2;exact{_,.cons a b}
end
theorem nq.ints{K:aD}{H:Hp}:∀ns:List Int,nq K H (ns.map V.int) (ns.map Wt)
 |[]=> .nil
 |n::r=> .cons (.int n) (nq.ints r)
def qw(kb:List (Key×V)):List (Key×V)->Bool
 |[]=>true
 |(k,v)::r=>match dX kb k with
  |none=>false
  |some y=>oJ v y&&qw kb r
theorem Vx{A:Around}{kb:List (Key×V)}{vb:List (Key×Value)}(hb:KV kb vb)(fb:kb.all (λp=>jA p.2)=true):∀{ka:List (Key×V)} {va:List (Key×Value)},KV ka va->ka.all (λp=>jA p.2)=true->
  W.KeqHits A s vb va (qw kb ka)
 |[],_,.nil,_=> .nil
 |(k,v)::r,(k',v')::r',.cons {e,(rv)} t,f=>by
  cases (show k=k' from e);rw[acw,cW]at f;have hv:=KV.val hb k;cases q:dX kb k with
  |none=>
   have hn:valueAt vb k=none:=iQ.none_of (by rw[q]at hv;exact hv);have e2:qw kb ((k,v)::r)=false:=by simp[qw,q]
   rw[e2];exact .miss hn
  |some y=>
   rw[q]at hv;obtain⟨u,hu,ru⟩:=iQ.some_of hv;have fy:jA y=true:=by
    unfold dX at q;cases q2:kb.find? (λkv=>decide (kv.1=k))with
    |none=>rw[q2]at q;cases q
    |some p=>
     rw[q2]at q;cases q;exact gK.mp fb p (List.mem_of_find?_eq_some q2)
   have e2:qw kb ((k,v)::r)=(oJ v y&&qw kb r):=by simp[qw,q]
   rw[e2];exact .hit hu (ajN rv ru f.1 fy) (Vx hb fb t f.2)
end
section
variable {X:Cx}
def qT(K:aD)(g:Bool->Bool):R2:=λx y H Q=>match x,y with
 |.int i,.int j=>Q (.bl (g (decide (i=j)))) H
 |.bl i,.bl j=>Q (.bl (g (decide (i=j)))) H
 |.str i,.str j=>Q (.bl (g (decide (i=j)))) H
 |.non,.non=>Q (.bl (g true)) H
 |.ref a,.ref b=>(∃d e,lJ K H (.ref a) d/\lJ K H (.ref b) e/\SeqAt.shaped d=true/\SeqAt.shaped e=true/\Q (.bl (g (qp d e))) H)∨
   (∃ka kb,H a=some (.dK ka)/\H b=some (.dK kb)/\ka.all (λp=>jA p.2)=true/\kb.all (λp=>jA p.2)=true/\Q (.bl (g (ka.length==kb.length&&qw kb ka))) H)
 |.non,.ref _=>False
 |.ref _,.non=>False
 |x,y=>abI x y=true/\Q (.bl (g (decide (x=y)))) H
def aGI{k:Nat}(hr:cT k X.A):cQ X (compareOp .Eq) (λx y H Q=>∃d e,lJ X.K H x d/\lJ X.K H y e/\SeqAt.shaped d=true/\SeqAt.shaped e=true/\Q (.bl (qp d e)) H):=by
 intro pins s σ H x y v u Q I rx ry h;intros d e h1 h2 h3 h4 q h;obtain⟨as,ra⟩:=I.reads h1 rx;obtain⟨bs,rb⟩:=I.reads h2 ry;exact eq_dataH ra rb h3 h4 hr.units {.bl _,H,I,rfl,q}
def aRH{k:Nat}(hr:cT k X.A):cQ X (compareOp .NotEq) (λx y H Q=>∃d e,lJ X.K H x d/\lJ X.K H y e/\SeqAt.shaped d=true/\SeqAt.shaped e=true/\Q (.bl (!qp d e)) H):=by
 intro pins s σ H x y v u Q I rx ry h;intros d e h1 h2 h3 h4 q h;obtain⟨as,ra⟩:=I.reads h1 rx;obtain⟨bs,rb⟩:=I.reads h2 ry;exact ne_dataH ra rb h3 h4 hr.units {.bl _,H,I,rfl,q}
def aQD{k:Nat}(hr:cT k X.A):cQ X (compareOp .Eq) (λx y H Q=>∃a b ka kb,x = .ref a/\y = .ref b/\H a=some (.dK ka)/\H b=some (.dK kb)/\ka.all (λp=>jA p.2)=true/\kb.all (λp=>jA p.2)=true/\Q (.bl (ka.length==kb.length&&qw kb ka)) H):=by
 intro pins s σ H x y v u Q I rx ry h;intros a b ka kb rfl rfl h1 h2 h3 h4 q h;cases rx;cases ry;obtain⟨_,ea,va,ra,da⟩:ka.length<=sizeLine/\(a==sysModules)=false/\∃vs,KV ka vs/\s.heap.DictOf (gZ X.prog X.w) a vs:=I.hok a _ h1;obtain⟨_,eb,vb,rb,db⟩:kb.length<=sizeLine/\(b==sysModules)=false/\∃vs,KV kb vs/\s.heap.DictOf (gZ X.prog X.w) b vs:=I.hok b _ h2;refine W.keq_eq ea eb da db hr.aqe (λ_=>Vx rb h4 ra h3) {.bl _,H,I,?_,q};show _=Value.bool _;rw[Paired.length ra,Paired.length rb]
def asu{k:Nat}(hr:cT k X.A):cQ X (compareOp .NotEq) (λx y H Q=>∃a b ka kb,x = .ref a/\y = .ref b/\H a=some (.dK ka)/\H b=some (.dK kb)/\ka.all (λp=>jA p.2)=true/\kb.all (λp=>jA p.2)=true/\Q (.bl (!(ka.length==kb.length&&qw kb ka))) H):=by
 intro pins s σ H x y v u Q I rx ry h;intros a b ka kb rfl rfl h1 h2 h3 h4 q h;cases rx;cases ry;obtain⟨_,ea,va,ra,da⟩:ka.length<=sizeLine/\(a==sysModules)=false/\∃vs,KV ka vs/\s.heap.DictOf (gZ X.prog X.w) a vs:=I.hok a _ h1;obtain⟨_,eb,vb,rb,db⟩:kb.length<=sizeLine/\(b==sysModules)=false/\∃vs,KV kb vs/\s.heap.DictOf (gZ X.prog X.w) b vs:=I.hok b _ h2;refine W.keq_ne ea eb da db hr.aqe (λ_=>Vx rb h4 ra h3) {.bl _,H,I,?_,q};show _=Value.bool _;rw[Paired.length ra,Paired.length rb]
def ahY{i j:Int}:decide (V.int i=V.int j)=decide (i=j):=by simp
def akb{i j:Bool}:decide (V.bl i=V.bl j)=decide (i=j):=by simp
def am5{i j:Str}:decide (V.str i=V.str j)=decide (i=j):=by simp
def v_eq{k:Nat}(hr:cT k X.A):cQ X (compareOp .Eq) (qT X.K id):=by
 refine(aPA.or ((aGI hr).or (aQD hr))).imp λx y H Q h=>?_;unfold qT at h;split at h
 .exact .inl {rfl,by rw[ahY];exact h}
 .exact .inl {rfl,by rw[akb];exact h}
 .exact .inl {rfl,by rw[am5];exact h}
 .exact .inl {rfl,by rw[decide_eq_true rfl];exact h}
 .rcases h with⟨d,e,h⟩|⟨ka,kb,h⟩
  .exact .inr (.inl {d,e,(h)})
  .exact .inr (.inr {_,_,ka,kb,rfl,rfl,h})
 .exact h.elim
 .exact h.elim
 .exact .inl h
def aQg{k:Nat}(hr:cT k X.A):cQ X (compareOp .NotEq) (qT X.K not):=by
 refine(ae7.or ((aRH hr).or (asu hr))).imp λx y H Q h=>?_;unfold qT at h;split at h
 .exact .inl {rfl,by rw[ahY];exact h}
 .exact .inl {rfl,by rw[akb];exact h}
 .exact .inl {rfl,by rw[am5];exact h}
 .exact .inl {rfl,by rw[decide_eq_true rfl];exact h}
 .rcases h with⟨d,e,h⟩|⟨ka,kb,h⟩
  .exact .inr (.inl {d,e,(h)})
  .exact .inr (.inr {_,_,ka,kb,rfl,rfl,h})
 .exact h.elim
 .exact h.elim
 .exact .inl h
end
end L2
namespace PySem.SeqAt
open AutoSeq1 (wpAny_loadPart')
open MeetsSeq MeetsSeq2 MeetsSeq3 SeqRoads2
section
variable {A:Around} {s:Shared}
end
end PySem.SeqAt
namespace L2
open PySem PySem.Spec PyProof.Rows
section
variable {X:Cx}
end
section
variable {P:Program}{w:World}{K:aD}{mg:Str->Option Value}{base h:Heap}{x:Str}{st:Stmt}{N ps:List Str}{k:Nat}{sp:Sp}{H H1:Hp}{a:Addr}{xs:List V}{i j:Int}{X:Cx}{sc:Scope}{ix:List (Option Nat)}{J:It}{σ:St}{Q:VK}{t:TE}
def boot_isinstance:bootBuiltins "isinstance" = some (.builtin "isinstance"):=by decide +kernel
def boot_abs:bootBuiltins "abs" = some (.builtin "abs"):=by decide +kernel
def boot_sum:bootBuiltins "sum" = some (.builtin "sum"):=by decide +kernel
def boot_max:bootBuiltins "max" = some (.builtin "max"):=by decide +kernel
def boot_int:bootBuiltins "int" = some (.type "int"):=by decide +kernel
def boot_bool:bootBuiltins "bool" = some (.type "bool"):=by decide +kernel
def boot_tuple:bootBuiltins "tuple" = some (.type "tuple"):=by decide +kernel
def boot_list:bootBuiltins "list" = some (.type "list"):=by decide +kernel
structure Fn(K:aD)(mg:Str->Option Value)(x:Str)(st:Stmt)(ps:List Str):Prop where
 ex:∃(f:Addr) (fd:FuncData),qj K x x st f fd/\mg x=some (.ref f)/\Binds K fd ps []
def Fn.cal(F:Fn K mg x st ps)(S:aK N ps (aC st))
  (hbody:∀{f:Addr} {cdv:Value} {A:Around} {outer:List Env} {s:Shared} {vs:List V} (H:Hp) (Q:VK) (E:XK),cT k (A.deeper (envOfC x (aC st) s.heap.objs.size f cdv))->sp vs H Q E->
   ∃t,iT (dI P w K mg base N x (aC st) f cdv A outer s H E).pK (gG st) t/\t { nx:=λ_ H'=>Q .non H',rt:=Q } (start N vs) H) (len:∀vs H Q E,sp vs H Q E->vs.length=ps.length:=by intro _ _ _ _ h;cases h;subst_vars;rfl):kJ P w K mg base x (k+1) ps sp:=by
 intros f fd F m b F.ex;exact{f,fd,m,F.kp,b,F.okN S len λcdv A outer s H vs Q E hr h=>hbody H Q E hr h}
def Fn.cH(F:Fn K mg x st ps)(S:aK N ps (aC st))
  (hbody:∀{f:Addr} {cdv:Value} {A:Around} {outer:List Env} {s:Shared} {vs:List V} (H:Hp) (Q:VK) (E:XK),cT k (A.deeper (envOfC x (aC st) s.heap.objs.size f cdv))->sp vs H Q E->
   ∃t,iT (dI P w K mg base N x (aC st) f cdv A outer s H E) (gG st) t/\t { nx:=λ_ H'=>Q .non H',rt:=Q } (start N vs) H) (len:∀vs H Q E,sp vs H Q E->vs.length=ps.length:=by intro _ _ _ _ h;cases h;subst_vars;rfl):kJ P w K mg base x (k+1) ps sp:=by
 intros f fd F m b F.ex;exact{f,fd,m,F.kp,b,F.U3 S len λcdv A outer s H vs Q E hr h=>hbody H Q E hr h}
def Same.new{p:Addr}(h:H p=none)(o:HO):Same H (upd H p o):=λb u q=>by rw[bY (fU q h)];exact q
theorem Same.upd{H H':Hp}{p:Addr}(g:Same H H')(h:H p=none)(o:HO):Same H (L2.upd H' p o):=λb u q=>by rw[bY (fU q h)];exact g b u q
def Same.MD{H':Hp}(e:Same H H')(h:aq K H a xs):aq K H' a xs:=by
 rcases h with(h|⟨o,h⟩)|h
 .exact .inl (.inl (e _ _ h))
 .exact .inl (.inr {o,e _ _ h})
 .exact .inr h
def mulL(h1:-(2^64)<i)(h2:i<2^64):IntMulOk i j:= .of_left (intBits_le_64 h1 h2)
def mulR(h1:-(2^64)<j)(h2:j<2^64):IntMulOk i j:= .of_right (intBits_le_64 h1 h2)
def cJ(h:decide N.Nodup=true:=by kernel_rfl):N.Nodup:=of_decide_eq_true h
abbrev cN(l:List (Str×NameKind)):Scope:={ kind:= .function,names:=l,isGenerator:=false,isCoroutine:=false }
def cM{scope:Scope}(sc':relabel scope X.env=sc:=by kernel_rfl)(kind:scope.kind = .function:=by kernel_rfl)(cell:scope.names.all (λy=>y.2 != .cell)=true:=by kernel_rfl)
  (names:scope.names.all (λx=>x.2 != .local||scope.names.lookup x.1==some .local)=true:=by kernel_rfl)
  (free:scope.names.all (λy=>y.2 != .free||(X.env.scope.names.lookup y.1==some .cell||X.env.scope.names.lookup y.1==some .free))=true:=by kernel_rfl)
  (len:N.length=ix.length:=by kernel_rfl)
  (hix:(N.zip ix).all (λp=>match p.2 with
   |none=>true
   |some i=>X.N[i]?==some p.1&&scope.names.any (λy=>y.1==p.1&&y.2== .free)&&(sc.names.lookup p.1==some .cell||sc.names.lookup p.1==some .free))=true:=by kernel_rfl)
  (has:sc.names.all (λy=>(y.2 != .cell&&y.2 != .free)||scope.names.any (λz=>z.1==y.1&&z.2== .free))=true:=by kernel_rfl):vA X scope sc N ix:=by
 have mem:∀x:Str,scope.names.any (λy=>y.1==x&&y.2== .free)=true->(x,NameKind.free)∈scope.names:=λx h=>by
  obtain⟨y,hy,e⟩:=aaO.mp h;rw[cW]at e;intros a b y;have e1:a=x:=eq_of_beq e.1;have e2:b = .free:=eq_of_beq e.2;subst e1;subst e2;exact hy
 refine{sc',kind,λy hy e=>?_,λx hx e=>?_,λy hy e=>?_,len,λj x i h1 h2=>?_,λx hx=>?_}
 .have:=gK.mp cell y hy;rw[e]at this;cases this
 .have:=gK.mp names x hx;rw[e]at this;simpa using this
 .have:=gK.mp free y hy;rw[e]at this;simpa[Env.kindOf]using this
 .have hm:(x,some i)∈N.zip ix:=by
   have:(N.zip ix)[j]?=some (x,some i):=by
    rw[List.getElem?_zip_eq_some];exact{h1,(h2)}
   exact List.mem_of_getElem? this
  have:=gK.mp hix _ hm;simp only[cW]at this;obtain⟨⟨a1,a2⟩,a3⟩:=this;exists eq_of_beq a1,mem x a2;rw[qD]at a3;rcases a3 with z|z
  .exact .inl (eq_of_beq z)
  .exact .inr (eq_of_beq z)
 .have hm:∃k,(x,k)∈sc.names/\(k = .cell∨k = .free):=by
   rcases hx with z|z
   .exact{_,uX z,.inl rfl}
   .exact{_,uX z,.inr rfl}
  intros k hk e hm;have:=gK.mp has _ hk;rw[qD]at this;rcases this with z|z
  .rcases e with e|e<;>(subst e;simp at z)
  .exact mem x z
structure aL(K:aD)(x:Str)(st:Stmt):Prop where
 ex:∃(f:Addr) (oc:Value) (od:Option Addr) (kV doc pm:Value) (an:Option Addr) (cdv ct:Value) (sl:Array (Option Value)),bI K mainGlobals x=some (some (.ref f))/\
  K.lookup f=some {oc,od,.func (mO x x (jH st) (gG st) (aC st) .none kV doc pm an cdv ct),sl}/\Ak K cdv x=true/\lU K (.ref f)=true
def azW{f:Addr}{oc:Value}{od:Option Addr}{kV doc pm:Value}{an:Option Addr}{cdv ct:Value}{sl:Array (Option Value)}(a:bI K mainGlobals x=some (some (.ref f)))
  (l:K.lookup f=some {oc,od,.func (mO x x (jH st) (gG st) (aC st) .none kV doc pm an cdv ct),sl}) (c:Ak K cdv x=true) (k:lU K (.ref f)=true):aL K x st:=
 {f,oc,od,kV,doc,pm,an,cdv,ct,sl,a,l,c,(k)}
def aL.fn(F:aL K x st)(X:K.In h)(G:h.Ns mainGlobals mg)
  (hb:∀(kV doc pm:Value) (an:Option Addr) (cdv ct:Value) (us:List Value),us.length=ps.length->bindArgs (mO x x (jH st) (gG st) (aC st) .none kV doc pm an cdv ct) {us,([])}=pure (ps.zip us)):Fn K mg x st ps:=by
 intros f oc od kV doc pm an cdv ct sl a l c k F.ex;have FF:=ab7 (st:=st) l c k;exact{f,_,FF,fG X G a,FF.binds hb}
def aL.aO(F:aL K x st)(X:K.In h)(G:h.Ns mainGlobals mg)
  (hb:∀(kV doc pm:Value) (an:Option Addr) (cdv ct:Value) (us:List Value),us.length=ps.length->bindArgs (mO x x (jH st) (gG st) (aC st) .none kV doc pm an cdv ct) {us,([])}=pure (ps.zip us):=by
   intro _ _ _ _ _ _ us hl;first
    |(obtain⟨_,rfl⟩:=L2.Ph hl;rfl)
    |(obtain⟨_,_,rfl⟩:=L2.XF hl;rfl)
    |(obtain⟨_,_,_,rfl⟩:=L2.us3 hl;rfl)
    |(obtain⟨_,_,_,_,rfl⟩:=L2.us4 hl;rfl)
    |(obtain rfl:=L2.qt hl;rfl)
    |(obtain⟨_,_,_,_,_,rfl⟩:=L2.us5 hl;rfl)
    |(obtain⟨_,_,_,_,_,_,rfl⟩:=L2.us6 hl;rfl)):Fn K mg x st ps:=F.fn X G hb
def aN{P:List Str}(kind:sc.kind = .function:=by rfl)(co:sc.isCoroutine=false:=by rfl)(gen:sc.isGenerator=false:=by rfl)(nd:N.Nodup:=by decide +kernel)(pre:N.take P.length=P:=by rfl)
  (par:∀x∈P,sc.names.lookup x=some .local∨sc.names.lookup x=some .cell:=by decide +kernel) (abx:∀y∈sc.names,y.2≠ .free:=by decide +kernel):aK N P sc:={kind,co,gen,nd,pre,par,(abx)}
structure j8(J:It)(xs:List V)(H1:Hp):Prop where
 go:∀i H',Same H1 H'->i<xs.length->J.go i H'
 iV:∀i H' x H2,Same H1 H'->J.iV i H' x H2->H2=H'/\(i<xs.length->xs[i]?=some x)
 stop:∀i H',Same H1 H'->xs.length<=i->J.stop i H'
def iu(hq:aj K H1 a xs):j8 (uW K a) xs H1:=
 {λi H' g h=>{xs,xs[i],g.seq hq,by simp[h]},λi H' x H2 g y=>{y.1,λ_=>y.2 xs (g.seq hq)},λi H' g h=>{xs,g.seq hq,h}}
def pL(hq:aq K H1 a xs):j8 (Jv K a) xs H1:=
 {λi H' g h=>{xs,xs[i],g.MD hq,by simp[h]},λi H' x H2 g y=>{y.1,λ_=>y.2 xs (g.MD hq)},λi H' g h=>{xs,g.MD hq,h}}
def Bk{lo:Int}{n:Nat}:j8 (pZ lo n) ((fK n).map λi=>V.int (lo+(i:Nat))) H1:=
 {λi H' g h=>show i<n by simpa using h,λi H' x H2 g y=>{y.1,λh=>by
  have h':i<n:=by simpa using h
  rw[List.getElem?_map,List.getElem?_range h',y.2];rfl},λi H' g h=>show n<=i by simpa using h}
def mJ{tc:TT}{te:TE}(I:j8 J xs H1)(hz:xs.length<=sizeLine){rest:St}(hst:cst ix σ=none::rest)(p:V->Bool)(F:V->V)
  (ht:∀H' x,Same H1 H'->x∈xs->∀k:Bool->Hp->Prop,k (p x) H'->tc (some x::rest) H' k)
  (he:∀H' x,Same H1 H'->x∈xs->p x=true->∀k:VK,k (F x) H'->te (some x::rest) H' k)
  (hQ:∀D,H1 D=none->Q (.ref D) (upd H1 D (.lst ((xs.filter p).map F)))):
  lO ix (iw 0) tc te σ Q J H1:=by
 constructor;intro D hD;refine{λi m σ' H'=>m=xs.length-i/\i<=xs.length/\(∃o,σ'=o::rest)/\H'=upd H1 D (.lst (((xs.take i).filter p).map F)),{xs.length,by simp,fJ _,{none,(hst)},by simp},?_};rintro i m σ' H' ⟨rfl,hi,⟨o,rfl⟩,rfl⟩;have g:Same H1 (upd H1 D (.lst (((xs.take i).filter p).map F))):=Same.new hD _;by_cases hlt:i<xs.length
 .refine .inr {I.go i _ g hlt,λx H2 y=>?_};obtain⟨rfl,hx⟩:=I.iV i _ x H2 g y;have hx:=hx hlt;have hm:x∈xs:=List.mem_of_getElem? hx;have et:xs.take (i+1)=xs.take i++[x]:=by
   rw[J7,hx];rfl
  show tc (some x::rest) _ _;refine ht _ x g hm _ ?_;cases hp:p x with
  |true=>
   rw[if_pos rfl];refine he _ x g hm hp _ {_,ao,?_,xs.length-(i+1),⋯,rfl,hlt,{()},?_}
   .have h1:(((xs.take i).filter p).map F).length<=i:=by
     rw[bG];exact eV (V9 _ _) (by rw[nO];lia)
    lia
   .rw[aJA,et,Kf,gC];simp[hp]
  |false=>
   rw[if_neg fu];exists xs.length-(i+1),⋯,rfl,hlt,{()};rw[et,Kf];simp[hp]
 .have e:i=xs.length:=⋯;subst e;refine .inl {I.stop _ _ g (bK _),?_};rw[yF];exact hQ D hD
def aeD{g:TG}{tb:TS}{D:Ends}(I:j8 J xs H)(Pv:Nat->St->Hp->Prop)(h0:Pv 0 σ H)(hsame:∀i σ' H',Pv i σ' H'->Same H H')
  (hs:∀i x σ' H',xs[i]?=some x->Pv i σ' H'->g x σ' H' λσ2 H2=>tb { D with nx:=Pv (i+1),ct:=Pv (i+1),bk:=D.nx } σ2 H2) (hd:∀σ' H',Pv xs.length σ' H'->D.nx σ' H'):
  ∃W:Nat->Nat->St->Hp->Prop,(∃m,W 0 m σ H)/\∀i m σ H,W i m σ H->
   (J.stop i H/\D.nx σ H)∨(J.go i H/\∃N:St->Hp->Prop,(∀σ' H',N σ' H'->∃m',m'<m/\W (i+1) m' σ' H')/\∀x H',J.iV i H x H'->g x σ H' λσ2 H2=>tb { D with nx:=N,ct:=N,bk:=D.nx } σ2 H2):=by
 refine{λi m σ' H'=>m=xs.length-i/\i<=xs.length/\Pv i σ' H',{xs.length,by simp,fJ _,h0},?_};rintro i m σ' H' ⟨rfl,hi,p⟩;have gs:=hsame i σ' H' p;by_cases hlt:i<xs.length
 .refine .inr {I.go i _ gs hlt,Pv (i+1),λσ2 H2 p'=>{xs.length-(i+1),⋯,rfl,hlt,p'},λx H2 y=>?_};obtain⟨rfl,hx⟩:=I.iV i _ x H2 gs y;exact hs i x σ' _ (hx hlt) p
 .have e:i=xs.length:=⋯;subst e;exact .inl {I.stop _ _ gs (bK _),hd σ' H' p}
structure Bar(t:TE)(σ:St)(H:Hp)(Q:VK):Prop where
 go:t σ H Q
def auB(t:TE):TE:=λσ H Q=>Bar t σ H Q
def Bar.by(R:V->Hp->Prop)(h:∀k:VK,(∀v H1,R v H1->k v H1)->t σ H k)(q:∀v H1,R v H1->Q v H1):Bar t σ H Q:={h Q q}
def Xi{e:Expr}(h:PE X e t):PE X e (auB t):=λpins s σ H Q I q=>h pins s σ H Q I q.go
structure uV(t:TS)(D:Ends)(σ:St)(H:Hp):Prop where
 go:t D σ H
def aF2(t:TS):TS:=λD σ H=>uV t D σ H
def tU{t:TS}(h:PS X st t):PS X st (aF2 t):=λpins s σ H D I q=>h pins s σ H D I q.go
theorem uV.by{t:TS}{D:Ends}{σ:St}{H:Hp}(R:St->Hp->Prop)(h:∀N:St->Hp->Prop,(∀σ' H',R σ' H'->N σ' H')->t { D with nx:=N } σ H)(q:∀σ' H',R σ' H'->D.nx σ' H'):uV t D σ H:=by
 constructor;exact h D.nx q
end
end L2
namespace HT
open PySem PyProof.Rows
section
variable {prog:Program} {w:World} {A:Around} {E:Value->Shared->Prop} {s:Shared}
def awv{t sl:Addr}{items:Array Value}{vl vu:Value}{lo hi:Option Int}{Q:Value->Shared->Prop}(ht:IsTup s.heap t items)(hs:s.heap.IsSliceOf sl vl vu .none)(pl:IsPart vl lo)(pu:IsPart vu hi)
  (hw:cD items.size 0 lo=0/\cD items.size items.size hi=items.size) (h:Q (.ref t) s):wpAny (model prog w) A (getItem (.ref t) (.ref sl)) Q E s:=by
 obtain⟨os,hos,hcs,hds⟩:=id hs;have hTs:s.TypeIs (.ref sl) "slice" := {os,hos,(hcs)};unfold getItem;try with_reducible refine wpAny_holding ?_
 first|refine wpAny_bind (wpAny_pure ?_)|skip
 refine wpAny_bind (wpAny_sequenceKey ht.typeIs ∅ ?_);refine wpAny_bind (wpAny_callSpecial?_slot (name:=Str.ofString "__getitem__") ht.typeIs BK
  (wpAny_call_entry BK ht.typeIs entry_tuple_getitem ?_ (args_tuple_getitem _ _)))
 show wpAny _ _ (Builtin.Tuple.tupleItemsOf (.ref t)>>=_) _ _ s;refine wpAny_bind (tupleItemsOf_ ht ?_);refine wpAny_bind (wpAny_typeOf hTs ?_);rw[if_pos ∅];refine wpAny_bind (akJ hs pl pu ?_);have hyes:(((cD items.size 0 lo:Nat):Int)==0&&(1:Int)==1&&(cD items.size items.size hi-cD items.size 0 lo)==items.size)=true:=by
  rw[hw.1,hw.2];simp
 show wpAny _ _ (if(((cD items.size 0 lo:Nat):Int)==0&&(1:Int)==1&&(cD items.size items.size hi-cD items.size 0 lo)==items.size)=true then _ else _) _ _ s;rw[if_pos hyes];unfold Builtin.Tuple.tupleIsExact;refine wpAny_bind (wpAny_bind (wpAny_typeOf ht.typeIs (wpAny_pure ?_)));rw[if_pos ∅];exact wpAny_bind (wpAny_rule (wpAny_pure {(),wpAny_pure h}))
end
end HT
namespace L2
open PySem PySem.Spec PyProof.Rows
section
variable {X:Cx}
def aRr:mz X (λx lo hi H Q=>∃a xs,x = .ref a/\aq X.K H a xs/\(HT.cD xs.length 0 lo=0/\HT.cD xs.length xs.length hi=xs.length)/\Q (.ref a) H):=by
 intro pins s σ H x v vl vu lo hi sl Q I rx hs pl pu h;intros a xs rfl hx hw q h;cases rx;obtain⟨its,r,ht,hz⟩:=I.tuple hx;have hlen:its.toArray.size=xs.length:=by rw[fD];exact r.length.symm
 exists "tuple",_,BK.lookup,ht.typeIs;exact HT.awv ht hs pl pu (by rw[hlen];exact hw) {.ref a,H,I,rfl,q}
end
def boot_all:bootBuiltins "all" = some (.builtin "all"):=by decide +kernel
def boot_zip:bootBuiltins "zip" = some (.type "zip"):=by decide +kernel
def boot_min:bootBuiltins "min" = some (.builtin "min"):=by decide +kernel
def boot_str:bootBuiltins "str" = some (.type "str"):=by decide +kernel
section
variable {X:Cx} (K:aD)
def mz.imp{r r':V->Option Int->Option Int->Hp->VK->Prop}(h:mz X r)(i:∀x lo hi H Q,r' x lo hi H Q->r x lo hi H Q):mz X r':=λpins s σ H x v vl vu lo hi sl Q I rx hs pl pu q=>h pins s σ H x v vl vu lo hi sl Q I rx hs pl pu (i _ _ _ _ _ q)
def avJ(hK:X.K=K:=by rfl):cQ X (binaryOp .Add) (vI K):=by subst hK;exact v_add
def xix(hK:X.K=K:=by rfl):kj X (Ka K):=by subst hK;exact aMZ
def oO{k:Nat}(hr:cT k X.A)(hK:X.K=K:=by rfl):cQ X (compareOp .Eq) (qT K id):=by subst hK;exact v_eq hr
def xne{k:Nat}(hr:cT k X.A)(hK:X.K=K:=by rfl):cQ X (compareOp .NotEq) (qT K not):=by subst hK;exact aQg hr
def aID(hK:X.K=K:=by rfl):gY X (.builtin "len") (Ue K):=by subst hK;exact ay8
def Qp(hc:X.calm=true)(hK:X.K=K:=by rfl):gY X (.builtin "all") (λxs H Q=>∃(l:Addr) (bs:List Bool),xs=[.ref l]/\aj K H l (bs.map V.bl)/\Q (.bl (bs.all id)) H):=by subst hK;exact v_all hc
def Km(hc:X.calm=true)(hK:X.K=K:=by rfl):gY X (.builtin "sum") (λxs H Q=>∃(l:Addr) (ns:List Int),xs=[.ref l]/\aj K H l (ns.map V.int)/\Q (.int ns.sum) H):=by subst hK;exact v_sum hc
def xlist(hK:X.K=K:=by rfl):gY X (.type "list") (λxs H Q=>∃p ys,xs=[.ref p]/\(aj K H p ys∨aq K H p ys)/\∀l,H l=none->Q (.ref l) (upd H l (.lst ys))):=by subst hK;exact aDh
def mY(hK:X.K=K:=by rfl):gY X (.type "tuple") (λxs H Q=>∃p ys,xs=[.ref p]/\((aj K H p ys/\∀l,H l=none->Q (.ref l) (upd H l (.tup ys)))∨(aq K H p ys/\Q (.ref p) H))):=by subst hK;exact aGN
def ait(K:aD):V->Option Int->Option Int->Hp->VK->Prop:=λx lo hi H Q=>match x with
 |.ref a=>(∃xs,aj K H a xs/\∀p,H p=none->Q (.ref p) (upd H p (.lst (gq xs lo hi))))∨
   (∃xs,aq K H a xs/\¬(HT.cD xs.length 0 lo=0/\HT.cD xs.length xs.length hi=xs.length)/\∀p,H p=none->Q (.ref p) (upd H p (.tup (gq xs lo hi))))∨
   (∃xs,aq K H a xs/\(HT.cD xs.length 0 lo=0/\HT.cD xs.length xs.length hi=xs.length)/\Q (.ref a) H)
 |_=>False
def kW(hK:X.K=K:=by rfl):mz X (ait K):=by
 subst hK;refine(aC3.or (aFP.or aRr)).imp λx lo hi H Q h=>?_;unfold ait at h;split at h
 .rcases h with⟨xs,h⟩|⟨xs,h⟩|⟨xs,h⟩
  .exact .inl {_,xs,rfl,h}
  .exact .inr (.inl {_,xs,rfl,h})
  .exact .inr (.inr {_,xs,rfl,h})
 .exact h.elim
def dh{tg l:Expr}{tl:TE}(hl:PE X l tl)(hK:X.K=K:=by rfl):PI X tg l (afc K tl):=by subst hK;exact aNR hl
def aCL{es:List Expr}{k:Nat}{t:nY}{n:Nat}{pos:Pos}(hc:X.calm=true)(h:uz X es t)(hK:X.K=K:=by rfl)
  (hn:(assignEach es X.env).length=n:=by rfl) (hst:(assignEach es X.env).findIdx? (·.1)=none:=by rfl):PG X (.Tuple es k pos) (Nu K n t):=by subst hK;exact aD9 hc h hn hst
def jy{o e:Expr}{to:TE}{te:TE}{apos cpos:Pos}(ho:PE X o to)(he:PE X e te)(hK:X.K=K:=by rfl)
  (hbase:attributeBase o "append" X.env (eval o X.env)=eval o X.env:=by rfl)
  (hfew:((backTo cpos (starEach [e] X.env)).all (λx=>!x.1)&&(backToKw cpos (keywordEach [] X.env)).all (λx=>x.1.isSome)
   && decide ([e].length+([]:List Keyword).length+(if([]:List Keyword).isEmpty then 0 else 1)<30))=true:=by rfl)
  (hline:(apos.endLine==cpos.line)=true:=by rfl) (hs:starEach [e] X.env=(false,eval e X.env)::starEach [] X.env:=by rfl):
  PE X (.Call (.Attribute o "append" apos) [e] [] cpos) (Ld K "list" adg to (nH te pJ)):=by
 subst hK;exact Zh MX PySem.F.slot_list_append PySem.F.type_list_append ajm ho (rT he iB hs) hbase hfew hline hs rfl
def KW{o e:Expr}{to:TE}{te:TE}{apos cpos:Pos}(ho:PE X o to)(he:PE X e te)(hK:X.K=K:=by rfl)
  (hbase:attributeBase o "extend" X.env (eval o X.env)=eval o X.env:=by rfl)
  (hfew:((backTo cpos (starEach [e] X.env)).all (λx=>!x.1)&&(backToKw cpos (keywordEach [] X.env)).all (λx=>x.1.isSome)
   && decide ([e].length+([]:List Keyword).length+(if([]:List Keyword).isEmpty then 0 else 1)<30))=true:=by rfl)
  (hline:(apos.endLine==cpos.line)=true:=by rfl) (hs:starEach [e] X.env=(false,eval e X.env)::starEach [] X.env:=by rfl):
  PE X (.Call (.Attribute o "extend" apos) [e] [] cpos) (Ld K "list" aly to (nH te pJ)):=by
 subst hK;exact Zh MX PySem.F.slot_list_extend PySem.F.type_list_extend auF ho (rT he iB hs) hbase hfew hline hs rfl
end
section
variable {X:Cx} {es:List Expr} {te:TE} {t:TA}
def Ju{c:Const}{j}{p:Pos}(h:PE X (.Constant c j p) te)(hr:PA X es t):PA X ((.Constant c j p)::es) (nH te t):=rT h hr rfl
def akM{x:Str}{p:Pos}(h:PE X (.Name x p) te)(hr:PA X es t):PA X ((.Name x p)::es) (nH te t):=rT h hr rfl
end
def uy(a C:Addr):HO:= .ext λh=>∃o vs,h.get? a=some o/\o.cls = .ref C/\o.data = .fields vs
def Cd(ob:Obj):Prop:=∃vs,ob.data = .fields vs/\vs[2]?=some .none
def aGM{P:Program}{w:World}{H:Hp}{h:Heap}{a C:Addr}{o:Obj}{vs:Array Value}(e:h.get? a=some o)(hc:o.cls = .ref C)(hd:o.data = .fields vs):eO P w H h a (uy a C):=
 {{o,vs,e,hc,(hd)},{o,(e)},λ_ _ ⟨o,vs,e,r⟩ k=>{o,vs,k o e,r}}
def eO.there{P:Program}{w:World}{H:Hp}{h:Heap}{a:Addr}{o:HO}(x:eO P w H h a o):∃u,h.get? a=some u:=by
 cases o with
 |lst xs=>intros _ _ _ _ e x;exact{_,e}
 |tup xs=>intros _ _ _ o e _ x;exact{_,e}
 |dK kvs=>intros _ _ _ _ o _ _ e _ x;exact{_,e}
 |dT kvs=>intros _ _ _ _ o _ _ e _ x;exact{_,e}
 |set S n=>intros o _ _ _ e _ x;exact{_,e}
 |ins C dx fs=>intros _ _ _ e _ x;exact{_,e}
 |own y=>exact x
 |xd fs=>obtain⟨_,⟨_,_,_,e,_⟩,_⟩:=x;exact{_,e}
 |rng lo hi=>intros _ _ _ e x;exact{_,e}
 |fO ob u=>intros e _ x;exact{_,e}
 |nK ps=>exact{_,(show h.get? a=some _ from x)}
 |met f y=>exact{_,(show h.get? a=some _ from x)}
 |ext φ=>exact x.2.1
structure pI(base:Heap)(C R:Addr):Prop where
 cls:∃nm q N bs bm hdct sn sub ab col dd k0 k1 k2 k3 k5 newId,base.get? C=some (excClassObj nm q C N bs bm hdct sn sub ab col dd k0 k1 k2 k3 k5 newId)/\(Value.ref C::bm).contains (.ref R)=true
 top:∃nm q N bs bm hdct sn sub ab col dd k0 k1 k2 k3 k5 newId,base.get? R=some (excClassObj nm q R N bs bm hdct sn sub ab col dd k0 k1 k2 k3 k5 newId)/\bm.contains (.type "BaseException")=true
def aEI{M:Model}{A:Around}{E:Value->Shared->Prop}{h:Heap}{g:Array GenState}{d:Drawn}{t:Nat}{os:OsState}{e C R:Addr}{oe:Obj}{Q:Bool->Shared->Prop}{base:Heap}(S:pI base C R)(kb:∀b o,base.get? b=some o->h.get? b=some o)
  (he:h.get? e=some oe) (hcls:oe.cls = .ref C) (hq:Q true {h,g,d,t,(os)}):wpAny M A (excMatches (.ref e) (.ref R)) Q E {h,g,d,t,(os)}:=by
 intros nm q N bs bm hdct sn sub ab col dd k0 k1 k2 k3 k5 newId hC hs S.cls;intros nm' q' N' bs' bm' aSX sn' sub' ab' col' lG k0' k1' k2' k3' k5' newId' hR hB S.top;have hC:=kb _ _ hC;have hR:=kb _ _ hR;have hcB:(Value.ref R::bm').contains (.type "BaseException")=true:=by rw[List.contains_cons,hB,Bool.or_true]
 have f:=tc_notTuple;unfold excMatches
 repeat (first|(with_reducible refine wpAny_loadPart_at he ?_;rw[hcls])|with_reducible refine wpAny_loadPart_at hR ?_|(with_reducible refine wpAny_isSubtype_exc hR ?_;rw[hcB])|(with_reducible refine wpAny_isSubtype_exc hC ?_;rw[hs])|wp_step)
 exact hq
section
variable {X:Cx} {pins:List (Addr×Obj)} {σ:St} {H:Hp} {s:Shared}
def Inv.track{a:Addr}{o:HO}(I:Inv X pins σ H s)(hn:H a=none)(h0:∀u,X.s₀.heap.get? a≠some u)(hL:a≠X.env.locals)(hc:∀x c,X.env.cells.lookup x=some c->c≠a)(hp:∀p∈X.pn++pins,p.1≠a)
  (new:eO X.prog X.w (upd H a o) s.heap a o):Inv X pins σ (upd H a o) s:=by
 have ne:∀b u,H b=some u->b≠a:=λb u e=>fU e hn;refine{I.ok,I.os,I.bare,{I.base.keep,I.base.slot,λb u e n hx=>?_,I.base.there,λb xs e=>?_,λb u xs e=>?_,λb ps e=>?_},I.loc,I.cell,?_,λx c e=>?_,λp q=>?_,λb u e=>?_,I.len}
 .rw[bY (λz=>h0 u (by rw[<-z];exact e))];exact I.base.free b u e n hx
 .have:=I.base.tups b xs e;rw[bY (ne b _ this)];exact this
 .have:=I.base.iC b u xs e;rw[bY (ne b _ this)];exact this
 .obtain⟨m,this⟩:=I.base.jf b ps e;exact{m,by rw[bY (ne b _ this)];exact this}
 .rw[bY (dw hL)];exact I.free
 .rw[bY (hc x c e)];exact I.lY x c e
 .obtain⟨e1,e2,e3⟩:=I.pin p q;exact{e1,by rw[bY (hp p q)];exact e2,e3}
 .by_cases hb:b=a
  .subst hb;rw[ao]at e;cases e;exact new
  .rw[bY hb]at e;exact(I.hok b u e).stay (λ_ _ _ q=>q) (λc q=>by rw[bY (ne c _ q)];exact q) λc xs q=>by rw[bY (ne c _ q)];exact q
def Inv.unset{h':Heap}{t':Nat}{j:Nat}{n:Str}{v:Option Value}{m:Str->Option Value}(I:Inv X pins σ H s)(hN:X.N.Nodup)(hj:X.N[j]?=some n)(hm:s.heap.Ns X.env.locals m)
  (hn:h'.Ns X.env.locals λy=>if y=n then v else m y) (hs:uN X.env.locals s.heap h'):Inv X pins (σ.set j none) H { s with heap:=h',toks:=t' }:=by
 obtain⟨m2,hn2,hl⟩:=id I.loc;obtain⟨oL,_,_,hoL,_⟩:=id hm;have em:m2=m:=by
  intros o1 es1 ep1 ho1 hd1 hk1 hf1 hn2;intros o2 es2 ep2 ho2 hd2 hk2 hf2 hm;rw[ho1]at ho2;cases ho2;rw[hd1]at hd2;cases hd2
  funext y;rw[<-hf1 y,<-hf2 y]
 subst em;refine{I.ok,I.os,I.bare,{λb o e nn hb hx=>?_,λb o e nn hb hx=>?_,I.base.free,λb o e hx=>?_,I.base.tups,I.base.iC,I.base.jf},{_,hn,λi y u e1 e2 e3=>?_},λy c e=>?_,I.free,I.lY,λp hp=>?_,λb u e=>?_,by simpa using I.len}
 .exact(hs.2 b (gw (ig (cP e) I.ok.above))).trans (I.base.keep b o e nn hb hx)
 .obtain⟨sl,e1⟩:=I.base.slot b o e nn hb hx;exact{sl,(hs.2 b (gw (ig (cP e) I.ok.above))).trans e1}
 .obtain⟨o',e1⟩:=I.base.there b o e hx;exact{o',(hs.2 b (gw (ig (cP e) I.ok.above))).trans e1}
 .by_cases hji:i=j
  .subst hji;by_cases hlt:i < σ.length
   .rw[List.getElem?_set_self hlt]at e2;cases e2
   .rw[List.getElem?_eq_none (by simp;lia)]at e2;cases e2
  .rw[List.getElem?_set_ne (dw hji)]at e2;obtain⟨u',r',q⟩:=hl i y u e1 e2 e3;exists u',r';rcases q with⟨k,e⟩|⟨k,c,e,z⟩
   .refine .inl {k,?_};have:y≠n:=λz=>hji (Xo hN e1 (z▸hj));simp[this,e]
   .exact .inr {k,c,e,z.sameBut hs (I.qU y c e)}
 .obtain⟨w',z⟩:=I.cell y c e;exact{w',z.sameBut hs (I.qU y c e)}
 .obtain⟨e,nn,ne,nf,d⟩:=I.pin p hp;exact{(hs.2 p.1 ne).trans e,nn,ne,nf,d}
 .refine(I.hok b u e).stay (λc w' hc q=>(hs.2 c ?_).trans q) (λ_ q=>q) λ_ _ q=>q;rintro rfl;rcases hc with z|hc
  .rw[<-z,I.free]at e;cases e
  .rw[I.free]at hc;cases hc
end
section
variable {X:Cx}{pins:List (Addr×Obj)}{σ:St}{H:Hp}{s:Shared}
def pU(X:Cx)(a:Addr):Cx:={ X with A:=X.A.mark (some (.ref a)),calm:=false,xe:=λ_ _=>False }
def Inv.suite(I:Inv X pins σ H s)(a:Addr):Inv (pU X a) pins σ H s:=
 {{I.ok.mod,I.ok.kind,I.ok.glob,I.ok.blt,I.ok.above,I.ok.inj,I.ok.has,I.ok.cab,(λz=>by cases z),I.ok.frames,I.ok.stk,I.ok.PY,I.ok.bs,I.ok.qH,I.ok.zF,I.ok.zO,I.ok.mH,I.ok.uT,I.ok.tree,I.ok.top},
  I.os,I.bare,I.base,I.loc,I.cell,I.free,I.lY,I.pin,I.hok,I.len}
def Inv.aAm{a:Addr}(ok:X.Ok)(I:Inv (pU X a) pins σ H s):Inv X pins σ H s:=
 {ok,I.os,I.bare,I.base,I.loc,I.cell,I.free,I.lY,I.pin,I.hok,(I.len)}
abbrev Sg:=St->Hp->VK->XK->Prop
def PT2(X:Cx)(c:Expr)(t:Sg):Prop:=∀(pins:List (Addr×Obj)) (s:Shared) (σ:St) (H:Hp) (Q:VK) (E:XK),Inv X pins σ H s->t σ H Q E->wpAny (model X.prog X.w) X.A (eval c X.env) (λu s2=>∃s1 H1,Inv X pins σ H1 s1/\CE X.stack X.prog X.w H1 s1 Q u s2) (λev s2=>∃s1 H1,Inv X pins σ H1 s1/\iI X.prog X.w X.stack H1 s1 E ev s2) s
def aD0{k:Nat}{f:Addr}{fd:FuncData}{ps:List Str}{sp:Sp}{H1:Hp}{s1:Shared}{Q:VK}{E:XK}{us:List Value}{vs:List V}(F:jh X.prog X.w X.K X.mg X.base (iI X.prog X.w) k f fd ps sp)(hr:cT k X.A)(hb:Binds X.K fd ps [])
  (I1:Inv X pins σ H1 s1) (r:Vals vs us) (q:sp vs H1 Q E):wpAny (model X.prog X.w) X.A (call (.ref f) us) (λu s2=>∃s1 H1,Inv X pins σ H1 s1/\CE X.stack X.prog X.w H1 s1 Q u s2) (λev s2=>∃s1 H1,Inv X pins σ H1 s1/\iI X.prog X.w X.stack H1 s1 E ev s2) s1:=by
 have hl:(us++[]).length=ps.length:=by
  rw[qC,<-r.length];exact F.len _ _ _ _ q
 refine wpAny_call (codeAny_mono (F.run X.A X.stack s1 H1 {us,([])} (us++[]) vs _ _ hr I1.env0 (hb s1 us I1.dj hl) (by rw[qC];exact r) q) λrs s2 hq=>?_);cases rs with
 |ok fl=>
  cases fl with
  |ret u=>exact{s1,H1,I1,(hq)}
  |next=>exact False.elim hq
  |brk=>exact False.elim hq
  |cont=>exact False.elim hq
 |error ev=>exact{s1,H1,I1,(hq)}
def aBK(base:Heap)(R:Addr)(tc:Sg)(i j:Nat)(ts:Addr->TS):TS:=λD σ H=>tc σ H (λv H2=>D.nx (σ.set i (some v)) H2)
 (λcls _ H2=>∃C,cls = .ref C/\pI base C R/\∀a ob,H2 a=none->Cd ob->
  ts a { nx:=λσ' H'=>D.nx (σ'.set j none) H',rt:=D.rt,bk:=λσ' H'=>D.bk (σ'.set j none) H',ct:=λσ' H'=>D.ct (σ'.set j none) H' } (σ.set j (some (.ref a))) (upd H2 a (.fO ob (uy a C))))
def aGo{v n x:Str}{i j:Nat}{R:Addr}{al6 apos xp hpos pos:Pos}{c:Expr}{b₀:Stmt}{suite:List Stmt}{tc:Sg}{ts:Addr->TS}
  (hc:PT2 X c tc) (Pj:X.stack=X.env::X.outer) (hfr:X.env.frame=some X.env.locals) (hex:X.ex=[]) (hN:X.N.Nodup) (hi:X.N[i]?=some v) (hv:Loc X.env.scope v)
  (hj:X.N[j]?=some n) (hn:X.env.scope.names.lookup n=some .local) (hx:Gl X x) (hR:X.mg x=some (.ref R)) (hs:∀a,iT (pU X a) (b₀::suite) (ts a))
  (hdx:(x==("__debug__" : Str))=false:=by decide)
  (hsw:swapsWith c (some (.Name v al6)) apos.line X.env=pure false:=by rfl) (hfv:X.fn v=true∨X.env.scope.names.lookup v=some .local:=by first|exact .inl rfl|exact .inr rfl|assumption):
  PS X (.Try [.Assign [.Name v al6] c apos] [.ExceptHandler (some (.Name x xp)) (some n) (b₀::suite) hpos] [] [] pos) (aBK X.base R tc i j ts):=by
 intro pins s σ H D I h;have nx:∀b:Addr,b∉X.ex:=λb=>by rw[hex];simp
 refine wpAny_Try_except ?_;refine wpAny_execs_cons (wpAny_Assign_Name (wpAny_mono (hc pins s σ H _ _ I h) (λu s2 ⟨s1,H1,I1,hq⟩=>?_) λev s2 ⟨s1,H1,I1,hq⟩=>?_) hsw)
 .obtain⟨y,H2,I2,ry,q2⟩:=I1.after hq;refine Gb I2 hN hi hv ry (λs3 I3=>?_) hfv;exact wpAny_execs_nil (wpAny_execs_nil {_,H2,I3,q2})
 .obtain⟨ea,Cc,a0,B,H2,rfl,os,bare,fl,hok,un,old,C',eC,S,q2⟩:=iI.ex hq;obtain⟨ea',ee,kk⟩:=iI.k2 hq;cases ee;cases eC;rw[Pj]at fl;have ZV:frs X.stack=(X.env::X.outer).filterMap (·.frame):=by rw[Pj];rfl
  have oe:=fl.first;have newE:∀u,s1.heap.get? ea≠some u:=λu z=>by
   rcases old ea u z with hb|⟨o',hb⟩
   .rw[ZV]at hb;obtain⟨_,o,ho,hd⟩:=fl.2.2.1.mem hb;intros o2 vs2 e1 _ e2 _ oe;rw[e1]at ho;cases ho;exact hd _ e2
   .rw[fl.2.1]at hb;cases hb
  have to:∀h6,IY B (X.env::X.outer) ea (.ref Cc) a0 h6->s2.heap.UpToSlots h6->Inv X pins σ H2 { s2 with heap:=h6 }:=λh6 BW up=>by
   refine I1.Rn (ch:=[]) os {λb o e1 n1 hb _=>?_,λb o e1 n1 hb _=>?_,λb o e1 n1 _=>un.free b o e1 n1 (by simp),λb o e1 _=>?_,un.tups,un.iC,un.jf} (hok.kept BW.1) bare (λ_ z=>nomatch z)
   .rcases old b o e1 with z|⟨o',z⟩
    .exact absurd z hb
    .have e2:=un.keep b o e1 n1 hb (by simp);have e3:=fl.1 b o' z;rw[e2]at e3;cases e3;exact BW.1 b _ z
   .obtain⟨sl,e2⟩:=un.slot b o e1 n1 hb (by simp);rw[ZV]at hb;obtain⟨_,o2,ho,hd⟩:=fl.2.2.1.mem hb;rw[e2]at ho;cases ho;obtain⟨sl',e3⟩:=up b _ e2 hd;exact{sl',(e3)}
   .rcases old b o e1 with z|⟨o',z⟩
    .rw[ZV]at z;obtain⟨_,o2,ho,hd⟩:=fl.2.2.1.mem z;obtain⟨sl',e3⟩:=up b _ ho hd;exact{_,e3}
    .exact{o',BW.1 b o' z}
  have avk:X.A.frames=some (X.env::X.outer):=by rw[I.ok.frames,Pj]
  refine Rr avk fl.2.2.1 hfr fl.2.2.2 fl.1 fl.2.1 kk λh4 JG up4 Xq=>?_;refine Jk JG.1 JG.2.1 JG.2.2.1 JG.2.2.2 Xq λh5 yQ up5 kk5=>?_;have I5:=to h5 yQ (up4.trans up5);intros ob hob hobc yQ.there;refine wpAny_handleBy_cons (codeAny_handlers_test (oE (X:=pU X ea) (I5.suite ea) hx hR ?_ hdx)) (by intro z;cases z);refine aEI S I5.bk hob hobc (codeAny_handlers_suite_as ?_);refine Jk yQ.1 yQ.2.1 yQ.2.2.1 yQ.2.2.2 kk5 λh6 BW up6 kk6=>?_;have I6:=to h6 BW ((up4.trans up5).trans up6);intros Ro vs6 e6 c6 d6 _ BW.first;have cm:Cd Ro:=by
   intros o' v' g1 g2 g3 kk6;rw[e6]at g1;cases g1;exact{v',g2,(g3)}
  have hn2:H2 ea=none:=by
   cases z:H2 ea with
   |none=>rfl
   |some u=>
    exfalso
    obtain⟨o',z'⟩:=(hok ea u z).there;rw[fl.2.1]at z';cases z'
  have I7:Inv X pins σ (upd H2 ea (.fO Ro (uy ea Cc))) { s2 with heap:=h6 }:=by
   refine I6.track hn2 (λu z=>?_) (λz=>?_) (λy c e z=>?_) (λp hp z=>?_) {e6,aGM e6 c6 d6}
   .obtain⟨o',e1⟩:=I1.base.there ea u z (nx ea);exact newE o' e1
   .obtain⟨m,⟨o,_,_,ho,_⟩,_⟩:=I1.loc;exact newE o (by rw[z];exact ho)
   .obtain⟨v',o,ho,_⟩:=I1.cell y c e;exact newE o (by rw[<-z];exact ho)
   .exact newE p.2 (by rw[<-z];exact(I1.pin p hp).1)
  refine Gb (X:=pU X ea) (I7.suite ea) hN hj (.inl hn) (show RelV (.ref ea) (Value.ref ea)from rfl) (λs8 I8=>?_) (.inr hn);have q3:=q2 ea Ro hn2 cm;have gone:∀{σ9:St} {H9:Hp} {s9:Shared} {Q':Unit->Shared->Prop},Inv (pU X ea) pins σ9 H9 s9->(∀kE,Inv X pins (σ9.set j none) H9 kE->Q' () kE)->wpAny (model X.prog X.w) X.A (do bindName X.env n .none;unbindBehindTheSuite X.env n hpos) Q' X.xe s9:=
   λ{σ9 H9 s9 Q'} I9 k=>by
    have I9':Inv X pins σ9 H9 s9:=I9.aAm I.ok;obtain⟨m,hm9,_⟩:=id I9'.loc;exact wpAny_nameGoes_keeps hn hm9 (by rw[I.ok.kind];rfl) λh' v' n' sb=>k _ (I9'.unset hN hj hm9 n' sb)
  refine wpAny_mono (hs ea pins s8 _ _ _ I8 q3) (λfl9 s9 q9=>?_) λ_ _ z=>z.elim;cases fl9 with
  |next=>
   intros σ9 H9 I9 q9 q9;exact gone I9 λkE rW=>{_,H9,rW,q9}
  |brk=>
   intros σ9 H9 I9 q9 q9;exact gone I9 λkE rW=>{_,H9,rW,q9}
  |cont=>
   intros σ9 H9 I9 q9 q9;exact gone I9 λkE rW=>{_,H9,rW,q9}
  |ret u=>
   intros y σ9 H9 I9 r9 q9 q9;exact gone I9 λkE rW=>{y,_,H9,rW,r9,q9}
structure jM(K:aD)(C:Addr):Prop where
 ga:dF K (.ref C) "__getattribute__" = some (some (.builtin "BaseException.__getattribute__"))
 gt:dF K (.ref C) "__getattr__" = some none
 cl:dF K (.ref C) "__class__" = some (some (.builtin "object.__class__"))
 mb:ji K C (.type "BaseException")=some true
 mo:ji K C (.type "object")=some true
 is:(oV K C).isSome=true
end
section
variable {prog:Program} {w:World} {A:Around} {E:Value->Shared->Prop} {h:Heap} {g:Array GenState} {d:Drawn} {t:Nat} {os:OsState} {a C:Addr} {o:Obj} {K:aD}
def aAq{R:Result->Shared->Prop}(S:jM K C)(X:K.In h)(hx:h.get? a=some o)(hc:o.cls = .ref C)(hq:R (.ok (.ret (.ref C))) {h,g,d,t,(os)}):
  codeAny (model prog w) A (.call (.builtin "getset_descriptor.__get__") {[.builtin "object.__class__",.ref a,.ref C],[]}) R {h,g,d,t,(os)}:=by
 have hT5:({h,g,d,t,(os)}:Shared).TypeIs (.builtin "object.__class__") "getset_descriptor" := aaS;have L1:=W.looks_mroIn (M:=model prog w) X S.mo;rw[<-F.owner_object_class]at L1;refine codeAny_call_builtin Ra.plain F.entry_gs_get (Ra.check _ _ _ _ _ _ _ _ hT5 (F.args_gs_get _ _ _) ?_)
 repeat (any_goals (first|assumption|(with_reducible refine wpAny_loadPart_at hx ?_;rw[hc])|with_reducible refine L1.at ?_|wp_step))
 refine{Code.quiet_builtin _ (by decide +kernel),codeAny_builtin F.entry_object_class ?_}
 repeat (any_goals (first|assumption|(with_reducible refine wpAny_loadPart_at hx ?_;rw[hc])|wp_step))
def aLH{tk:Tok}{Q:Fin->Shared->Prop}(S:jM K C)(X:K.In h)(hx:h.get? a=some o)(hc:o.cls = .ref C)(hq:Q (.done (.ret (.ref C))) {h,g,d,t,(os)}):
  wpAny (model prog w) A (Builtin.«object.__getattribute__» {[.ref a,.str "__class__" tk],[]}) Q E {h,g,d,t,(os)}:=by
 have hT5:({h,g,d,t,(os)}:Shared).TypeIs (.builtin "object.__class__") "getset_descriptor" := aaS;have L1:=Lw (M:=model prog w) X S.cl;have f5:=aaS;have f6:=Ra.lookup;have f7:=F.slot_gs_set.lookup
 repeat (any_goals (first|assumption|(with_reducible refine wpAny_loadPart_at hx ?_;rw[hc])|with_reducible refine L1.at ?_|wp_step))
 refine aAq S X hx hc ?_
 repeat (any_goals (first|assumption|wp_step))
def aGs{nameV:Value}{Q:Unit->Shared->Prop}(S:jM K C)(X:K.In h)(hx:h.get? a=some o)(hc:o.cls = .ref C)(hq:Q () {h,g,d,t,(os)}):
  wpAny (model prog w) A (checkBuiltinCall "BaseException.__getattribute__" {[.ref a,nameV],[]}) Q E {h,g,d,t,(os)}:=by
 have hk:builtinKind "BaseException.__getattribute__" = some .slot:=by decide +kernel
 have hs:splitId "BaseException.__getattribute__" = some ("BaseException","__getattribute__"):=by decide +kernel
 have L1:=W.looks_mroIn (M:=model prog w) X S.mb;have ha:=F.args_bexc_ga (.ref a) nameV;simp only[checkBuiltinCall,hk,hs];refine wpAny_bind ?_;unfold isInstance
 repeat (first|(with_reducible refine wpAny_loadPart_at hx ?_;rw[hc])|with_reducible refine L1.at ?_|wp_step)
 exact hq
def aBC{tk:Tok}{Q:Value->Shared->Prop}(S:jM K C)(X:K.In h)(hx:h.get? a=some o)(hc:o.cls = .ref C)(hq:Q (.ref C) {h,g,d,t,(os)}):
  wpAny (model prog w) A (getAttrBy (.ref a) (.str "__class__" tk) false) Q E {h,g,d,t,(os)}:=by
 have f3:=aqc.ga.bind (.ref a);have L1:=Lw (M:=model prog w) X S.ga;have L2:=Lw (M:=model prog w) X S.gt;have hx2:(Value.builtin "BaseException.__getattribute__" == Value.builtin "object.__getattribute__")=false:=by decide +kernel
 have hx1:(onTheHeap (Value.ref C)&&Value.builtin "BaseException.__getattribute__" == Value.builtin "object.__getattribute__")=false:=by rw[hx2];rfl
 repeat (any_goals (first|assumption|(with_reducible refine wpAny_loadPart_at hx ?_;rw[hc])|with_reducible refine L1.at ?_|with_reducible refine L2.at ?_|wp_step))
 refine codeAny_call_builtin aqc.ga.plain F.entry_bexc_ga (aGs S X hx hc (aLH S X hx hc ?_))
 repeat (any_goals (first|assumption|wp_step))
def aSf{Q:Option Value->Shared->Prop}(S:jM K C)(X:K.In h)(hx:h.get? a=some o)(hc:o.cls = .ref C)(hq:Q (some (.ref C)) {h,g,d,t+1,(os)}):
  wpAny (model prog w) A (getAttr? (.ref a) "__class__") Q E {h,g,d,t,(os)}:=by
 unfold getAttr? getAttrBy?
 repeat (any_goals (first|assumption|with_reducible apply aBC S X hx hc|wp_step))
end
def Xr{K:aD}{a C:Addr}(S:jM K C):W.KitX K (.ref a) (.ref C) (λh=>∃o vs,h.get? a=some o/\o.cls = .ref C/\o.data = .fields vs) where
 ty:=λM h _ p=>by
  intros o _ h1 h2 _ p;exact h2▸(W.Looks.ld h1).andThen .now
 it:=λ_ _ X _=>by
  have hi:=S.is;unfold oV at hi;split at hi
  .rename_i c' d' cd' sl' ho
   intro A' Q' E' s' k q;unfold isType loadHead;exact wpAny_bind (wpAny_loadPart (k _ _ (X _ _ ho)) (wpAny_pure q))
  .cases hi
 ne:=λh tp dd its n sl X htp=>by
  have hi:=S.is;refine pG.mpr λq=>?_;have e:C=tp:=Value.ref.inj (beq_iff_eq.mp q);subst e;unfold oV at hi;split at hi
  .rename_i c' d' cd' sl' ho
   have z:=(X _ _ ho).symm.trans htp;cases z
  .cases hi
 ca:=λ{prog w A E Q s} X p k=>by
  intros o vs h1 h2 _ p;intros h0 g d t os s;exact aSf S X h1 h2 k
theorem af8:∀{Ds:List Addr} {us:List Value},Vals (Ds.map V.ref) us->us=Ds.map Value.ref
 |[],_,.nil=>rfl
 |D::Ds,_,.cons r t=>by
  have e:=af8 (Ds:=Ds) t;cases (show _=Value.ref D from r);rw[e];rfl
def WV(K:aD):List V->Hp->VK->Prop:=λxs H Q=>∃a C y b,xs=[.ref a,y]/\Rd H a (uy a C)/\jM K C/\
 ((∃D,y = .ref D/\aG K (.ref C) (.ref D)=some b)∨(∃T,y = .ty T/\aG K (.ref C) (.type T)=some b)∨(∃(p:Addr) (Ds:List Addr),y = .ref p/\H p=some (.tup (Ds.map V.ref))/\W.kitAny K (.ref C) (Ds.map Value.ref)=some b))/\Q (.bl b) H
def aJW{X:Cx}:gY X (.builtin "isinstance") (WV X.K):=by
 intro pins s σ H xs us Q I r h;intros a C y b rfl ha S h1 q h;intros u v rfl ru rv r.two;cases ru;have p:∃o vs,s.heap.get? a=some o/\o.cls = .ref C/\o.data = .fields vs:=by
  rcases ha with ha|⟨o,ha⟩
  .exact(I.hok a _ ha).1
  .exact(show eO X.prog X.w H s.heap a (.fO o (uy a C))from I.hok a _ ha).2.1
 have fin:∀tk,EP X pins σ Q (.bool b) { s with toks:=tk }:=λtk=>{.bl b,H,I.tok tk,rfl,q};rcases h1 with⟨D,rfl,e⟩|⟨T,rfl,e⟩|⟨tp,Ds,rfl,ht,e⟩
 .cases rv;exact mD (Xr S) I.dj p e (λz=>nomatch z) fin
 .cases rv;exact mD (Xr S) I.dj p e (λz=>nomatch z) fin
 .cases rv;obtain⟨its,r2,p2,_⟩:=I.tuple (aq.of ht);have ei:=af8 r2;subst ei;obtain⟨⟨cls,dd,data,sl⟩,ho,hc,n,hd⟩:=id p2;simp only at hc hd;subst hc hd;exact W.kia_tup (Xr S) I.dj p ho e (λz=>nomatch z) fin
def rJ{X:Cx}(K:aD)(hK:X.K=K:=by rfl):gY X (.builtin "isinstance") (WV K):=by subst hK;exact aJW
def uK{X:Cx}{x:Str}{C:Addr}{pos:Pos}(hg:Gl X x)(hm:X.mg x=some (.ref C))(hd:(x==("__debug__" : Str))=false:=by decide):PE X (.Name x pos) (tC (.ref C)):=Mr hg hm rfl hd
def vg{K:aD}{h:Heap}{mg:Str->Option Value}{x:Str}{C:Addr}{newId inN Bn:String}{bmN:List Value}(X:K.In h)(G:h.Ns mainGlobals mg)(e:bI K mainGlobals x=some (some (.ref C)))
  (q:qP K C [.type "ValueError",.type "Exception",.type "BaseException",.type "object"] newId=true) (Fn:ExcBaseFacts Bn newId inN bmN)
  (hBn:[Value.type "ValueError",.type "Exception",.type "BaseException",.type "object"].contains (.type Bn)=true):qI mg h x C:=by
 refine{_,newId,{fG X G e,?_},Bn,inN,bmN,_,_,_,Fn,hBn,rC};unfold qP at q;split at q
 .rename_i dd cd sl ho
  split at q
  .rename_i C' bm k0 k1 k2 k3 n k5 hm hs
   simp only[cW,beq_iff_eq,aar]at q;obtain⟨⟨⟨⟨⟨rfl,rfl⟩,hdel⟩,ht⟩,hok⟩,hni⟩:=q;intros nm bs mro ns qn hdc sn sub ab col del cd;dsimp only at hm hdel hok hni;subst hm;subst hdel;have hsl:sl=#[k0,k1,k2,k3,some (.builtin n),k5]:=by
    intros l sl;simp only at hs;rw[hs]
   subst hsl;exact{bm,ns,nm,qn,bs,hdc,sn,sub,ab,col,dd,k0,k1,k2,k3,k5,_,X _ _ ho,.of_isNs (W.isNs_of_in X hok),W.nsMap_none_of_in X hok hni,W.tail_of_in X ht}
  .cases q
 .cases q
def pW(K:aD)(C R:Addr):Bool:=match K.lookup C with
 |some ⟨.type "type",_,.cls cd,sl⟩=>(match cd.mro,sl.toList with
  |.ref C'::bm,[_,_,_,_,some (.builtin _),_]=>C'==C&&!cd.hasDel&&(Value.ref C'::bm).contains (.ref R)
  |_,_=>false)
 |_=>false
def ur{K:aD}{h:Heap}{C R:Addr}(X:K.In h)(q:pW K C R=true)(qr:sE K R "BaseException" = true):pI h C R:=by
 refine{?_,?_}
 .unfold pW at q;split at q
  .rename_i dd cd sl ho
   split at q
   .rename_i C' bm k0 k1 k2 k3 n k5 hm hs
    simp only[cW,beq_iff_eq,aar]at q;obtain⟨⟨rfl,hdel⟩,ht⟩:=q;intros nm bs mro ns qn hdc sn sub ab col del cd;dsimp only at hm hdel;subst hm;subst hdel;have hsl:sl=#[k0,k1,k2,k3,some (.builtin n),k5]:=by
     intros l sl;simp only at hs;rw[hs]
    subst hsl;exact{nm,qn,ns,bs,bm,hdc,sn,sub,ab,col,dd,k0,k1,k2,k3,k5,n,X _ _ ho,ht}
   .cases q
  .cases q
 .obtain⟨nm,qn,N,bs,bm,hdct,sn,sub,ab,col,dd,k0,k1,k2,k3,k5,newId,hR,hb,_⟩:=W.kts_cls X qr;exact{nm,qn,N,bs,bm,hdct,sn,sub,ab,col,dd,k0,k1,k2,k3,k5,newId,hR,(hb)}
def aAN:bootBuiltins "ValueError" = some (.type "ValueError"):=by decide +kernel
section
variable {X:Cx} {a:Expr} {ta:TE}
end
end L2
namespace L2
open PySem
theorem alM:∀ns:List Int,Aw (ns.map Wt)=true
 |[]=>rfl
 |n::r=>by
  have:=alM r;simp[Aw,zG,this]
theorem anV:∀ns:List Int,vC (ns.map Wt)<=1
 |[]=>by simp[vC]
 |n::r=>by
  have:=anV r;simp[vC,Bl];lia
def agY(ns:List Int):SeqAt.shaped (.tuple (ns.map .int))=true:=by
 have h1:=alM ns;have h2:=anV ns;simp only[SeqAt.shaped,zG,Bl,h1,Nx];exact decide_eq_true ⋯
def ayl(ns ms:List Int):qp (.tuple (ns.map .int)) (.tuple (ms.map .int))=decide (ns=ms):=by
 rw[qp];exact W.ked_eqvAll ns ms
def aav{K:aD}{g:Bool->Bool}{H:Hp}{a b:Addr}{ns ms:List Int}{Q:VK}(ha:aq K H a (ns.map V.int))(hb:aq K H b (ms.map V.int))(q:Q (.bl (g (decide (ns=ms)))) H):qT K g (.ref a) (.ref b) H Q:=
 .inl {_,_,.tup ha (nq.ints ns),.tup hb (nq.ints ms),agY ns,agY ms,by rw[ayl];exact q}
end L2
set_option maxHeartbeats 4000000
namespace L2
open PySem PySem.Spec PyProof.Rows
def zf(lo:Int)(n:Nat):It:={λi _=>i<n,λi H x H'=>H'=H/\x = .int (lo-i),λi _=>n<=i}
def aCN{P:Program}{w:World}{K:aD}{tg:Expr}(it:Addr)(lo:Int)(n:Nat):Turn P w K tg (zf lo n) [it] it (λi h=>IsRangeIter h it (lo+(i:Nat)*(-1)) ((n:Int)-(i:Nat)) (-1)) where
 mem:=by simp
 obj:=λi h st b hb=>by
  have e:b=it:=by simpa using hb
  subst e;exact{_,st,λv z=>by
   have z':Data.fields _=Data.cell v:=z;cases z'}
 keep:=λi h h' st k=>k it (by simp) _ st
 item:=by
  intro X hP hw hK hc i pins s σ H E I hf st hg;subst hP hw hK;obtain⟨f0,f1,f2,f3,f4,f5⟩:=hf it (by simp);have W:=Walks.range (prog:=X.prog) (w:=X.w) (I.ok.hd hc) it lo (-1) n;refine W.item i s _ _ hg st λv h' tk hv st' kk=>?_;intros t rfl hv;have I1:Inv X pins σ H { s with heap:=h',toks:=tk }:=I.turned (λb o hb e=>kk b o (by simpa using hb) e) f0 f1 f3 f4 f5;refine{(),vf (s:={ s with heap:=h',toks:=tk }) (n:= "range_iterator") st' rfl rfl ∅ {.int (lo-i),H,I1,{t,?_},{rfl,(rfl)},st',λb hb=>(hf b hb).1}};rw[Int.mul_neg_one];rfl
 done:=by
  intro X hP hw hK hc i pins s σ H E I hf st hg;subst hP hw hK;obtain⟨f0,f1,f2,f3,f4,f5⟩:=hf it (by simp);exact wpAny_pyNext_range_end (I.ok.hd hc) st (by have:n<=i:=hg;lia) λh' eb=>{rfl,I.turned (t':=s.toks) (λb o hb e=>eb b o hb e) f0 f1 f3 f4 f5}
 self:=λ_ _ _ _ _ st h=>wpAny_pyIter_rangeiter st h
def rangeSize_down(a b:Int):Builtin.Range.rangeSize a b (-1)=if b<a then a-b else 0:=by
 unfold Builtin.Range.rangeSize;simp only[(∅:¬(-1:Int)>0),if_false,Int.neg_neg,GP];split<;>lia
def small_down{a b:Int}(ha:-(2^62)<=a)(ha':a<2^62)(hb:-(2^62)<=b)(hb':b<2^62):Builtin.Range.small a b (-1)=true:=by
 unfold Builtin.Range.small;rw[rangeSize_down];simp only[Builtin.Range.rangeFitsLong,cW,qD,decide_eq_true_eq,beq_iff_eq,(∅:¬(-1:Int)>0),if_false];split<;>lia
section
variable {X:Cx} {tg:Expr}
def aKY{pins:List (Addr×Obj)}{σ:St}{H:Hp}{s:Shared}{R:It->Hp->Prop}{E:Value->Shared->Prop}{lo hi:Int}{t u v:Tok}{tk:Nat}(I:Inv X pins σ H s)(h1:-(2^62)<=lo)(h2:lo<2^62)(h3:-(2^62)<=hi)(h4:hi<2^62)
  (q:R (zf lo (lo-hi).toNat) H):wpAny (model X.prog X.w) X.A (pyIter (.ref s.heap.objs.size)) (PIE X pins σ tg R) E { s with heap:=s.heap.push { cls:= .type "range",data:= .fields #[.int lo t,.int hi u,.int (-1) v] },toks:=tk }:=by
 refine wpAny_pyIter_range (IsRange.new ..) (small_down h1 h2 h3 h4) ?_;have I1:Inv X pins σ H { s with heap:=s.heap.push { cls:= .type "range",data:= .fields #[.int lo t,.int hi u,.int (-1) v] },toks:=tk }:=I.kept λb o e=>Heap.get?_push_of_some _ e;refine{(s.heap.push { cls:= .type "range",data:= .fields #[.int lo t,.int hi u,.int (-1) v] }).objs.size,[(s.heap.push { cls:= .type "range",data:= .fields #[.int lo t,.int hi u,.int (-1) v] }).objs.size],_,_,H,rfl,
  I1.kept (t':=tk) λb o e=>Heap.get?_push_of_some _ e,aCN _ lo (lo-hi).toNat,?_,λb hb=>?_,q}
 .have e1:lo+((0:Nat):Int)*(-1)=lo:=by simp
  have e2:(((lo-hi).toNat:Nat):Int)-((0:Nat):Int)=Builtin.Range.rangeSize lo hi (-1):=by rw[rangeSize_down];split<;>lia
  show IsRangeIter _ _ (lo+((0:Nat):Int)*(-1)) ((((lo-hi).toNat:Nat):Int)-((0:Nat):Int)) (-1);rw[e1,e2];exact Heap.get?_push_size _ rfl
 .have e:b=(s.heap.push { cls:= .type "range",data:= .fields #[.int lo t,.int hi u,.int (-1) v] }).objs.size:=by simpa using hb
  subst e;exact I1.mL (bK _) (I1.hok.fresh (bK _))
def aBg(ta:TA):TI:=λσ H R=>ta σ H λvs H1=>∃i j:Int,vs=[.int i,.int j,.int (-1)]/\(-(2^62)<=i/\i<2^62/\-(2^62)<=j/\j<2^62)/\R (zf i (i-j).toNat) H1
def amT{a b c:Expr}{ta:TA}{p pos:Pos}(hg:Gl X "range")(hm:X.mg "range" = none)(ha:PA X [a,b,c] ta)(hs:starEach [a,b,c] X.env=(false,eval a X.env)::starEach [b,c] X.env:=by rfl)(hs2:(backTo pos (starEach [b,c] X.env)).any (·.1)=false:=by rfl):
  PI X tg (.Call (.Name "range" p) [a,b,c] [] pos) (aBg ta):=by
 intro pins s σ H R I h;refine Call_ (qJ I hg hm boot_range (uR (aR (ha pos pins s σ H _ I h) λus s1 ⟨vs,H1,I1,r1,q1⟩=>?_) hs hs2));obtain⟨i,j,e,⟨q1,q2,q3,q4⟩,q⟩:=q1;subst e;cases r1 with
 |cons r rr=>
  cases rr with
  |cons r' rr=>
   cases rr with
   |cons r'' rr=>
    cases rr;intros t rfl r;intros t' rfl r';intros t'' rfl r'';exact call_range_3 ∅ (aKY (tk:=s1.toks) I1 q1 q2 q3 q4 q) (.inl (an8 ⋯))
end
def aiN{lo:Int}{n:Nat}{g:TG}{tb:TS}{D:Ends}{σ:St}{H:Hp}(Pv:Nat->St->Hp->Prop)(h0:Pv 0 σ H)
  (hs:∀i σ H,i<n->Pv i σ H->g (.int (lo-i)) σ H λσ2 H2=>tb { D with nx:=Pv (i+1),ct:=Pv (i+1),bk:=D.nx } σ2 H2) (hd:∀σ H,Pv n σ H->D.nx σ H):
  ∃W:Nat->Nat->St->Hp->Prop,(∃m,W 0 m σ H)/\∀i m σ H,W i m σ H->
   ((zf lo n).stop i H/\D.nx σ H)∨((zf lo n).go i H/\∃N:St->Hp->Prop,(∀σ' H',N σ' H'->∃m',m'<m/\W (i+1) m' σ' H')/\∀x H',(zf lo n).iV i H x H'->g x σ H' λσ2 H2=>tb { D with nx:=N,ct:=N,bk:=D.nx } σ2 H2):=by
 refine{λi m σ H=>m=n-i/\i<=n/\Pv i σ H,{n,by simp,fJ _,h0},?_};rintro i m σ H ⟨rfl,hi,p⟩;by_cases hlt:i<n
 .refine .inr {hlt,Pv (i+1),λσ' H' p'=>{n-(i+1),⋯,rfl,hlt,p'},λx H' y=>?_};intros e y y;subst e y;exact hs i σ _ hlt p
 .have e:i=n:=⋯;subst e;exact .inl {bK _,hd σ H p}
def aJf:fillsNumberSlot (.type "tuple") "mul" = pure false:=PySem.fillsNumberSlot_seq (id:= "tuple.__mul__") (r:=some (.builtin "tuple.__rmul__")) Bw.lookup (by decide +kernel) aoC.lookup (by decide +kernel)
def aMT:seqRepeat? (.type "tuple")=pure (some (.builtin "tuple.__mul__")):=by
 have e1:=aqh (T:= "tuple") (name:= "__mul__") (id:= "tuple.__mul__") Bw.lookup (by decide +kernel);have e2:=aqh (T:= "tuple") (name:= "__rmul__") (id:= "tuple.__rmul__") aoC.lookup (by decide +kernel);unfold seqRepeat?;rw[e1,e2];rfl
def axQ(a:Int)(t:Tok)(l:Addr)(items:Array Value)(n:Nat)(dd)(sl):
  Meets (Builtin.«int.__rmul__» {[.int a t,.ref l],[]}) (λ_ R s=>s.heap.get? l=some { cls:= .type "tuple",dict:=dd,data:= .seq items n,slots:=sl }/\R (.ok (.ret Value.notImplemented)) s):=
 .of_wp λprog w A R s h=>by
  intros hp g d tk os s;intros hl q h
  wp_walk
  exact{(),q}
def ap5(k:Int)(t:Tok)(l:Addr)(items:Array Value)(n:Nat)(dd)(sl)(h1:¬(decide (k < -(2^63))||decide (k≥2^63))=true)(h2:(items.isEmpty||k==1)=true):
  Meets (Builtin.«tuple.__mul__» {[.ref l,.int k t],[]}) (λ_ R s=>s.heap.get? l=some { cls:= .type "tuple",dict:=dd,data:= .seq items n,slots:=sl }/\R (.ok (.ret (.ref l))) s):=
 .of_wp λprog w A R s h=>by
  intros hp g d tk os s;intros hl q h;have f1:=AutoSeq1.idx_int
  wp_walk using wpAny_loadPart' hl
  rw[if_neg h1]
  wp_walk using wpAny_loadPart' hl
  exact{(),q}
def aJS(k:Int)(t:Tok)(l:Addr)(items:Array Value)(n:Nat)(dd)(sl)(h1:¬(decide (k < -(2^63))||decide (k≥2^63))=true)(h2:¬(items.isEmpty||k==1)=true)(h3:¬(decide (k<=0)||items.isEmpty)=true)
  (h4:¬(items.size:Int)*k>(2^63-1)/8) (h5:¬Builtin.Tuple.tupleTooMany ((items.size:Int)*k)=true) (h6:((aX k.toNat items).foldl (·++·) #[]).size<=sizeLine):
  Meets (Builtin.«tuple.__mul__» {[.ref l,.int k t],[]}) (λ_ R s=>s.heap.get? l=some { cls:= .type "tuple",dict:=dd,data:= .seq items n,slots:=sl }/\
   R (.ok (.ret (.ref s.heap.objs.size))) { s with heap:=s.heap.push { cls:= .type "tuple",data:= .seq ((aX k.toNat items).foldl (·++·) #[]) } }):=
 .of_wp λprog w A R s h=>by
  intros hp g d tk os s;intros hl q h;have f1:=AutoSeq1.idx_int
  wp_walk using wpAny_loadPart' hl
  rw[if_neg h1]
  wp_walk using wpAny_loadPart' hl
  rw[if_neg h4]
  wp_walk using wpAny_loadPart' hl
  exact{(),q}
def aFC(k:Int)(t:Tok)(l:Addr)(items:Array Value)(n:Nat)(dd)(sl)(h1:¬(decide (k < -(2^63))||decide (k≥2^63))=true)(h2:¬(items.isEmpty||k==1)=true)(h3:(decide (k<=0)||items.isEmpty)=true):
  Meets (Builtin.«tuple.__mul__» {[.ref l,.int k t],[]}) (λ_ R s=>s.heap.get? l=some { cls:= .type "tuple",dict:=dd,data:= .seq items n,slots:=sl }/\
   R (.ok (.ret (.ref s.heap.objs.size))) { s with heap:=s.heap.push { cls:= .type "tuple",data:= .seq #[] } }):=
 .of_wp λprog w A R s h=>by
  intros hp g d tk os s;intros hl q h;have f1:=AutoSeq1.idx_int
  wp_walk using wpAny_loadPart' hl
  rw[if_neg h1]
  wp_walk using wpAny_loadPart' hl
  exact{(),q}
section
variable {X:Cx}
def ax7:cQ X (binaryOp .Mult) (λx y H Q=>∃l k xs,x = .ref l/\y = .int k/\aq X.K H l xs/\0<=k/\k<1000/\xs.length*k.toNat<=10000/\(xs=[]∨k=1->Q (.ref l) H)/\
  (xs≠[]->k≠1->∀p,H p=none->Q (.ref p) (upd H p (.tup (aX k.toNat xs).flatten)))):=by
 intro pins s σ H x y v u Q I rx ry h;intros l k xs rfl rfl hq k1 k2 hz q1 q2 h;cases rx;intros t rfl ry;obtain⟨its,r,p,_⟩:=I.tuple hq;obtain⟨⟨cls,dd,data,sl⟩,ho,hc,n,hd⟩:=id p;simp only at hc hd;subst hc hd;have hl:=r.length;have sz:its.toArray.size=xs.length:=by rw[fD,hl]
 have f1:¬(decide (k < -(2^63))||decide (k≥2^63))=true:=by simp;lia
 refine wpAny_binaryOp_repeat_ref (T:= "tuple") (U:= "int") ∅ {_,ho,rfl} (λs'=>typeIs_int s' k t) aJf Zf Jl aMT Qn.lookup
  (call_meets Jl (typeIs_int s k t) ak6 (adP _ _) (axQ k t l its.toArray n dd sl) {ho,rfl,{_,ho,rfl},?_})
 by_cases e:its=[]
 .exact call_meets Bw {_,ho,rfl} Mx (MQ _ _) (ap5 k t l its.toArray n dd sl f1 (by simp[e])) {ho,{.ref l,H,I,rfl,q1 (.inl (r.wG.mp e))}}
 by_cases e1:k=1
 .exact call_meets Bw {_,ho,rfl} Mx (MQ _ _) (ap5 k t l its.toArray n dd sl f1 (by simp[e1])) {ho,{.ref l,H,I,rfl,q1 (.inr e1)}}
 by_cases e0:k=0
 .refine call_meets Bw {_,ho,rfl} Mx (MQ _ _) (aFC k t l its.toArray n dd sl f1 (by simp[e,e1]) (by simp[e0])) {ho,?_};have hq2:=q2 (λz=>e (r.wG.mpr z)) e1 _ I.fresh;rw[e0]at hq2;refine{.ref s.heap.objs.size,_,I.laid (t':=s.toks) (o:= .tup []) (λb ob q=>Heap.get?_push_of_some _ q) (bK _) ?_,rfl,hq2};exact{fJ _,_,.nil,IsTup.new _ _}
 .have hnew:nP (λx1 x2=>x1++x2) #[] (aX k.toNat its.toArray)=(aX k.toNat its).flatten.toArray:=by
   have:=foldl_rep its k.toNat [];rw[Fq]at this;exact this
  have hb:(xs.length:Int)*k<=10000:=by
   have e1:((k.toNat:Nat):Int)=k:=Int.toNat_of_nonneg ⋯;have e2:((xs.length*k.toNat:Nat):Int)<=((10000:Nat):Int):=aaJ.mpr hz;rw[Int.natCast_mul,e1]at e2;exact Int.le_trans e2 ∅
  have f6:((aX k.toNat its).flatten).length<=sizeLine:=by
   rw[len_rep,<-hl,Ho];exact eV hz ∅
  refine call_meets Bw {_,ho,rfl} Mx (MQ _ _) (aJS k t l its.toArray n dd sl f1 (by simp[e];lia) (by simp[e];lia) (by rw[sz];lia) (by
   rw[sz];show ¬decide ((xs.length:Int)*k>(sizeLine:Int))=true;have:(10000:Int)<=(sizeLine:Int):=∅;exactλz=>absurd (of_decide_eq_true z) ⋯) (by rw[hnew,fD];exact f6)) {ho,?_}
  rw[hnew];refine{.ref s.heap.objs.size,_,I.laid (t':=s.toks) (o:= .tup (aX k.toNat xs).flatten) (λb ob q=>Heap.get?_push_of_some _ q) (bK _) ?_,rfl,q2 (λz=>e (r.wG.mpr z)) e1 _ I.fresh};exact{by rw[len_rep,Ho];exact eV hz ∅,_,r.rep k.toNat,IsTup.new _ _}
def aa8(K:aD):R2:=λx y H Q=>match x,y with
 |.int i,.int j=>IntMulOk i j/\Q (.int (i*j)) H
 |.ref l,.int k=>∃xs,aq K H l xs/\0<=k/\k<1000/\xs.length*k.toNat<=10000/\(xs=[]∨k=1->Q (.ref l) H)/\(xs≠[]->k≠1->∀p,H p=none->Q (.ref p) (upd H p (.tup (aX k.toNat xs).flatten)))
 |_,_=>False
def aCd(K:aD)(hK:X.K=K:=by rfl):cQ X (binaryOp .Mult) (aa8 K):=by
 subst hK;refine(adM.or ax7).imp λx y H Q h=>?_;unfold aa8 at h;split at h
 .exact .inl {"",h.1,h.2}
 .intros xs h h;exact .inr {_,_,xs,rfl,rfl,h}
 .exact h.elim
def aRM{K:aD}{H:Hp}{l:Addr}{xs:List V}{k:Int}{Q:VK}(hq:aq K H l xs)(h1:0<=k)(h2:k<1000)(hz:xs.length*k.toNat<=10000)
  (q:∀s H1,Same H H1->aq K H1 s (aX k.toNat xs).flatten->Q (.ref s) H1):aa8 K (.ref l) (.int k) H Q:=
 {xs,hq,h1,h2,hz,λe=>q l H (Same.refl _) (by
  rcases e with e|e
  .have e0:(aX k.toNat xs).flatten=[]:=by rw[e];simp
   rw[e0,<-e];exact hq
  .rw[e];have e0:(aX (1:Int).toNat xs).flatten=xs:=by simp
   rw[e0];exact hq),λ_ _ p hp=>q p _ (Same.new hp _) (aq.of ao)}
def aqO{J:It}{xs:List V}{ix:List (Option Nat)}{te:TE}{σ:St}{H1:Hp}{Q:VK}(I:j8 J xs H1)(hz:xs.length<=sizeLine){rest:St}(hst:cst ix σ=none::rest)(R:V->V->Hp->Prop)(hR:∀x y (H' H2:Hp),(∀b ts,H' b=some (.tup ts)->H2 b=some (.tup ts))->R x y H'->R x y H2)
  (he:∀(H':Hp) (x:V),Same H1 H'->x∈xs->∀k:VK,(∀y H2,Same H' H2->R x y H2->k y H2)->te (some x::rest) H' k)
  (hQ:∀D H' ys,H1 D=none->Same H1 H'->H' D=some (.lst ys)->ys.length=xs.length->(∀y∈ys,∃x∈xs,R x y H')->Q (.ref D) H'):
  lO ix (iw 0) nj te σ Q J H1:=by
 constructor;intro D hD;refine{λi m σ' H'=>m=xs.length-i/\i<=xs.length/\(∃o,σ'=o::rest)/\Same H1 H'/\∃ys,H' D=some (.lst ys)/\ys.length=i/\∀y∈ys,∃x∈xs,R x y H',{xs.length,by simp,fJ _,{none,(hst)},Same.new hD _,[],ao,rfl,λ_ h=>nomatch h},?_};rintro i m σ' H' ⟨rfl,hi,⟨o,rfl⟩,g,ys,hl,hn,hy⟩;by_cases hlt:i<xs.length
 .refine .inr {I.go i _ g hlt,λx H2 y=>?_};obtain⟨rfl,hx⟩:=I.iV i _ x H2 g y;have hm:x∈xs:=List.mem_of_getElem? (hx hlt);change te (some x::rest) H2 _;refine he H2 x g hm _ λy H3 g3 r3=>{ys,g3 _ _ hl,⋯,xs.length-(i+1),⋯,rfl,hlt,{()},Same.upd (g.trans g3) hD _,ys++[y],ao,by simp[hn],λz hz'=>?_};have up:∀x z,R x z H3->R x z (upd H3 D (.lst (ys++[y]))):=λx z r=>hR x z H3 _ (λb ts e=>by
   rw[bY λq=>by rw[q,g3 _ _ hl]at e;cases e];exact e) r
  rcases oF.mp hz' with h|h
  .obtain⟨x',hx',r'⟩:=hy z h;exact{x',hx',up _ _ (hR _ _ _ _ (λb ts e=>g3 _ _ e) r')}
  .rw[kO.mp h];exact{x,hm,up _ _ r3}
 .have e:i=xs.length:=⋯;exact .inl {I.stop _ _ g ⋯,hQ D H' ys hD g hl ⋯ hy}
end
section
variable {X:Cx}
end
end L2
namespace Ml
open PySem PySem.W PySem.Calls PyProof.Rows
def aK1{ns:List Int}(h:WData.layableAll [WData.list (ns.map WData.int)]=true):∀x∈ns,Builtin.Int.intBits x<=1048576:=by
 intro x hx;obtain⟨h1,_,h3⟩:=layableW_iff.mp (layW_cons h).1;simp only[WData.canLay]at h1;simp only[WData.weight]at h3;have hm:WData.int x∈ns.map WData.int:=fM.mpr {x,hx,(rfl)};have hc:WData.canLayAll (ns.map WData.int)=true:=by simpa using h1
 obtain⟨_,_,c⟩:=items_part hm hc;have e:WData.weight (.int x)=Builtin.Int.intBits x:=rfl;rw[e]at c;have:(2:Nat)^20=1048576:=∅;lia
def aLy{l:OpenLaw}{n:Nat}{q:Program}{loose:List Str}{XP:(Str->Option Value)->Heap->Prop}{YP:World->Heap->Prop}{d:DefRec}
  (hn:l.most=some n) (hdf:d.params.defaults=[])
  (call:∀(w:World) (s₀ s₁:Shared) (mg mb:Str->Option Value) (fa:Addr) (o:Obj) (pm cd doc:Value) (a:Addr) (vs:List Value) (ns:List Int),
   Ground q loose [] XP w s₀ mg mb s₁.heap->YP w s₁.heap->
   s₁.heap.get? fa=some o->o.data = .func (docDef d.name d.params d.body d.scope pm cd doc)->s₁.heap.CodeRec cd d.name->mg d.name=some (.ref fa)->
   s₁.heap.get? a=some { cls:= .type "list",data:= .seq vs.toArray }->IntsAre vs ns->ns.length<=n->(∀x∈ns,Builtin.Int.intBits x<=1048576)->s₁.gens=#[]->
   codeAny (model l.prog w) callerA (.call (.ref fa) {[.ref a],[]}) (λr s'=>r = .ok (.ret (.bool true))/\OldK s₁.heap s'.heap/\s'.os=s₁.os/\AllBare s'.gens) s₁):
  WalkO q loose XP YP l.row.toRowW d [] (λf vs=>ael f vs):=by
 intro w s₀ s₁ mg mb G Y fa o pm cd doc dV kV ho hd hcd hD hmg hg args vals as hpre hlay hrd hwl hlo;obtain rfl:dV = .none:=Dflts.none hD hdf;obtain rfl:kV = .none:=Dflts.noKw hD;obtain⟨a,vs,ns,rfl,rfl,hobj,hints,hlen⟩:=aR5 hn hpre hwl;refine enter_call (codeAny_mono (call w s₀ s₁ mg mb fa o pm cd doc a vs ns G Y ho (fd_plain hd) hcd hmg hobj hints hlen (aK1 hlay) hg) λr s' hq=>?_);intros rfl h2 h3 h4 hq;exact{.inl {.bool true,.bool true,[],rfl,λ_=>rfl,.bool true,aFd l _,λ_=>{aLV,λ_ hm=>(nomatch hm)}},h2,h3,h4}
end Ml
namespace L2
open PySem PySem.Spec PyProof.Rows
def azY{l:W.OpenLaw}{n k:Nat}{q:Program}{loose:List Str}{XP:(Str->Option Value)->Heap->Prop}{YP:World->Heap->Prop}{d:DefRec}{K:Params->aD}{CX:World->oH}{sp:World->Sp}{x:Str}
  (hn:l.most=some n) (hn2:n<=sizeLine) (hdf:d.params.defaults=[]) (hr:cT k callerA) (hIm:importsNone q=true) (htr:l.prog.given.tree=none)
  (hY:∀(w:World) (h:Heap),YP w h->(K w.params).In h)
  (F:∀(w:World) (mg:Str->Option Value) (fa:Addr) (h:Heap),(K w.params).In h->h.Ns mainGlobals mg->mg d.name=some (.ref fa)->
   ∃fd:FuncData,(∀(s:Shared) (u:Value),BindsTo s fd {[u],([])} [(x,u)])/\
    ∀base:Heap,(K w.params).In base->base.Ns mainGlobals mg->jh l.prog w (K w.params) mg base (CX w) k fa fd [x] (sp w))
  (hsp:∀(w:World) (H:Hp) (a:Addr) (ns:List Int),ns.length<=n->(∀x∈ns,Builtin.Int.intBits x<=1048576)->Only H->aj (K w.params) H a (ns.map V.int)->sp w [.ref a] H (λv _=>v = .bl true) λ_ _ _=>False)
  (Pg:∀(w:World) (H:Hp) (s:Shared) (e:Value) (s':Shared),CX w [] H s (λ_ _ _=>False) e s'->False):
  W.WalkO q loose XP YP l.row.toRowW d [] (λf vs=>ael f vs):=by
 refine Ml.aLy hn hdf λw s₀ s₁ mg mb fa o pm cd doc a vs ns G Y ho hd hcd hmg hobj hints hlen aF4 hg=>?_;have KX:=hY w _ Y;obtain⟨fd,hb,hF⟩:=F w mg fa _ KX G.T.g hmg;exact axI KX G.T.g G.T.b G.T.builtins G.T.nolimit G.T.nodigits (G.T.seer hIm) htr hg hobj hints (eV hlen hn2) hr hF hb (λH hO hS=>hsp w H a ns hlen aF4 hO hS) λH e s'=>Pg w H s₁ e s'
section
variable {X:Cx}
def aeh:V->List V->Hp->VK->Prop:=λx vs H Q=>∃n:Int,x = .int n/\vs=[]/\Q (.int (Builtin.Int.intBits n:Nat)) H
def aOS:tM X "int.bit_length" aeh:=by
 intro pins s σ H x vs v us Q I rx rv h;intros n rfl rfl q h;intros t rfl rx;cases rv;exact call_gives F.slot_int_bit_length (typeIs_int s n t) F.entry_int_bit_length (F.args_int_bit_length_1 _) (AutoIntG2.int_bit_length_int_0 n t) {.int _,H,I.tok _,{()},q}
def aw1(K:aD){o:Expr}{to:TE}{apos cpos:Pos}(ho:PE X o to)(hK:X.K=K:=by rfl)(hbase:attributeBase o "bit_length" X.env (eval o X.env)=eval o X.env:=by rfl)(hline:(apos.endLine==cpos.line)=true:=by rfl):
  PE X (.Call (.Attribute o "bit_length" apos) [] [] cpos) (ah6 K "int" aeh to):=by
 subst hK;exact aJn PySem.F.plainAttrs_int PySem.F.slot_int_bit_length PySem.F.type_int_bit_length aOS ho hbase hline
end
def aNL{X:Cx}(hc:X.calm=true):gY X (.type "str") (λxs H Q=>∃i:Int,xs=[.int i]/\i.natAbs<10^4300/\Q (.str (toString i)) H):=by
 intro pins s σ H xs us Q I r h;intros i rfl hz q h;obtain⟨u,rfl,t,rfl⟩:=vals1 r;exact str_of_int_or (I.ok.hd hc) (I.ok.mod.digits.keeps I.bk) (λ_=>{.str _,H,I.tok _,{()},q}) (λh=>absurd hz (ab0.mpr h))
section
variable {X:Cx}
def boot_any:bootBuiltins "any" = some (.builtin "any"):=by decide +kernel
def v_any(hc:X.calm=true):gY X (.builtin "any") (λxs H Q=>∃(l:Addr) (bs:List Bool),xs=[.ref l]/\aj X.K H l (bs.map V.bl)/\Q (.bl (bs.any id)) H):=by
 intro pins s σ H xs us Q I r h;intros l bs rfl hl q h;intros u rfl ru r.one;cases ru;obtain⟨its,rv,pl,hz⟩:=I.list hl;have eb:=OD rv;subst eb;have hl':=pl.isList;have hlt:l<s.heap.objs.size:=by intros _ e _ hl';exact cP e
 refine call_any_walk (wpAny_pyIter_list hl' ?_);refine{s.heap.objs.size,[s.heap.objs.size,l],[s.heap.objs.size],(bs.map Value.bool).toArray.size,_,_,λi=>(bs[i]?).getD false,rfl,Walks.list (A:=X.A.in1) (I.ok.hd hc) _ l (gw hlt) (bs.map Value.bool).toArray,
  {{_,Heap.get?_push_size _ rfl,rfl,rfl},hl'.push _},λi v s' Q' E' hP hQ=>?_,λh' tk hk=>?_}
 .have hP':(bs.map Value.bool)[i]?=some v:=by simpa using hP
  rw[List.getElem?_map]at hP';cases e:bs[i]? with
  |none=>rw[e]at hP';cases hP'
  |some b=>
   rw[e]at hP';cases hP';dsimp only at hQ;rw[e]at hQ;exact wpAny_truthy_bool hQ
 .have e2:((fK (bs.map Value.bool).toArray.size).any λi=>(bs[i]?).getD false)=bs.any id:=by
   rw[fD,bG];rw[Ad,aaO,aaO];constructor
   .rintro⟨i,hi,e⟩;have hi':=jj.mp hi;rw[List.getElem?_eq_getElem hi']at e;exact{_,uh hi',e}
   .rintro⟨x,hx,e⟩;obtain⟨i,hi,e'⟩:=abq.mp hx;exact{i,jj.mpr hi,by rw[List.getElem?_eq_getElem hi,e'];exact e}
  have fin:EP X pins σ Q (.bool (bs.any id)) { s with heap:=h',toks:=tk }:={.bl _,H,I.kept (ahD hk),rfl,q};first|(rw[e2];exact fin)|(simpa[e2]using fin)
def Tq(K:aD)(hc:X.calm=true)(hK:X.K=K:=by rfl):gY X (.builtin "any") (λxs H Q=>∃(l:Addr) (bs:List Bool),xs=[.ref l]/\aj K H l (bs.map V.bl)/\Q (.bl (bs.any id)) H):=by subst hK;exact v_any hc
end
def aRX:typeLookup (.type "list_reverseiterator") "__len__" = pure none:=by rw[typeLookup_type,builtinLookup_eq_fast];kernel_rfl
def aww:typeLookup (.type "list_reverseiterator") "__length_hint__" = pure (some (.builtin "list_reverseiterator.__length_hint__")):=by rw[typeLookup_type,builtinLookup_eq_fast];kernel_rfl
def aj4:bootBuiltins "reversed" = some (.type "reversed"):=by decide +kernel
section
variable {X:Cx} {pins:List (Addr×Obj)} {σ:St} {H:Hp} {s:Shared} {h':Heap}
def Inv.aEa{p:Addr}{o:HO}(I:Inv X pins σ H s)(f:jW X pins H p)(new:eO X.prog X.w (upd H p o) s.heap p o):Inv X pins σ (upd H p o) s:=by
 intros f0 f1 _ f3 f4 f5 f;refine I.step (g':=s.gens) (d':=s.drawn) (t':=s.toks) (h':=s.heap) (ch:=[p]) (λb hb=>?_) (λb o _ _ hc e _=>e) (λb o _ _ hc e _=>{o.slots,(e)}) (λb _ hc _ n=>?_)
  (λb o hc e=>{o,(e)}) (λb xs e=>?_) (λb xs _ e=>?_) (λb ps e=>{#[],?_}) (λm hm=>hm) (λb u e=>?_) I.bare
 .have e:b=p:=by simpa using hb
  subst e;exact{f3,f1,f4,(f5)}
 .rw[bY λz=>hc (by simp[z])];exact n
 .rw[bY (fU e f0)];exact e
 .rw[bY (fU e f0)];exact e
 .rw[bY (fU e f0),e];simp
 .by_cases hb:b=p
  .subst hb;rw[ao]at e;cases e;exact new
  .rw[bY hb]at e;exact(I.hok b u e).stay (λc v _ q=>q) (λc q=>by rw[bY (fU q f0)];exact q) λc xs q=>by rw[bY (fU q f0)];exact q
end
def uM(n i:Nat):Int:=if i<n then((n-1-i:Nat):Int)else -1
def Uy(K:aD)(a:Addr)(n:Nat):It:=
 {λi H=>∃xs x,aj K H a xs/\i<n/\xs[n-1-i]?=some x,λi H x H'=>H'=H/\∀xs,aj K H a xs->xs[n-1-i]?=some x,λi _=>n<=i}
def atv{P:Program}{w:World}{K:aD}{tg:Expr}(a it:Addr)(n:Nat):Turn P w K tg (Uy K a n) [it] it (λi h=>h.IsRevIter it a (uM n i)) where
 mem:=by simp
 obj:=λi h st b hb=>by
  have e:b=it:=by simpa using hb
  subst e;intros o e c d st;exact{o,e,λv z=>by rw[d]at z;cases z}
 keep:=λi h h' st k=>st.at λo e=>k it (by simp) o e
 item:=by
  intro X hP hw hK hc i pins s σ H E I hf st hg;subst hP hw hK;intros xs x hq hi hx hg;obtain⟨its,rv,p,hz⟩:=I.list hq;obtain⟨u,hu,ru⟩:=rv.get hx;obtain⟨f0,f1,f2,f3,f4,f5⟩:=hf it (by simp);have e:uM n i=((n-1-i:Nat):Int):=if_pos hi;rw[e]at st;refine wpAny_pyNext_rev_item st p.isList (x:=u) (by simpa using hu) λh' st' sb=>?_;have e2:((n-1-i:Nat):Int)-1=uM n (i+1):=by unfold uM;split<;>lia
  rw[e2]at st';have I1:Inv X pins σ H { s with heap:=h' }:=I.turned (t':=s.toks) (λb o hb e=>(sb.2 b hb).trans e) f0 f1 f3 f4 f5;obtain⟨o,e,c,d⟩:=id st';exact{u,rfl,vf (s:={ s with heap:=h' }) e c d ∅ {x,H,I1,ru,{rfl,λys hy=>by rw[I.Mv hy hq];exact hx},st',λb hb=>(hf b hb).1}}
 done:=by
  intro X hP hw hK hc i pins s σ H E I hf st hg;subst hP hw hK;have hg:n<=i:=hg;obtain⟨f0,f1,f2,f3,f4,f5⟩:=hf it (by simp);have e:uM n i=-1:=if_neg ⋯;rw[e]at st;exact wpAny_pyNext_rev_end (I.ok.hd hc) st λh' eb=>{rfl,I.turned (t':=s.toks) (λb o hb e=>eb b o hb e) f0 f1 f3 f4 f5}
 self:=λ_ _ _ _ _ st h=>wpAny_pyIter_revIter st h
section
variable {X:Cx}
def aE9(K:aD)(ta:TA):TI:=λσ H R=>ta σ H λvs H1=>∃a xs,vs=[.ref a]/\aj K H1 a xs/\R (Uy K a xs.length) H1
def avI(K:aD){tg e1:Expr}{ta:TA}{p pos:Pos}(hg:Gl X "reversed")(hm:X.mg "reversed" = none)(ha:PA X [e1] ta)(hK:X.K=K:=by rfl)
  (hs:starEach [e1] X.env=[(false,eval e1 X.env)]:=by rfl):PI X tg (.Call (.Name "reversed" p) [e1] [] pos) (aE9 K ta):=by
 subst hK;intro pins s σ H R I h;refine Call_ (qJ I hg hm aj4 (uR (aR (ha pos pins s σ H _ I h) λus s1 ⟨vs,H1,I1,r1,q1⟩=>?_) hs rfl));intros a xs e hq q q1;subst e;cases r1 with
 |cons r rr=>
  cases rr;cases r;obtain⟨its,rv,p1,_⟩:=I1.list hq;have hl:=rv.length;refine call_reversed_list p1.isList ?_;have st:(s1.heap.push (revObj a ((its.toArray.size:Int)-1))).IsRevIter s1.heap.objs.size a (uM xs.length 0):={_,Heap.get?_push_size _ rfl,rfl,by
   show Data.fields #[.ref a,rawInt ((its.toArray.size:Int)-1)]=_;have e:(its.toArray.size:Int)-1=uM xs.length 0:=by unfold uM;simp;split<;>lia
   rw[e]}
  have I2:Inv X pins σ H1 { s1 with heap:=s1.heap.push (revObj a ((its.toArray.size:Int)-1)) }:=I1.kept (t':=s1.toks) λb o e=>Heap.get?_push_of_some _ e;refine wpAny_pyIter_revIter (s:={ s1 with heap:=s1.heap.push (revObj a ((its.toArray.size:Int)-1)) }) st {_,[s1.heap.objs.size],_,_,H1,rfl,I2,atv a _ _,st,λc hc=>?_,q};have e:c=s1.heap.objs.size:=by simpa using hc
  subst e;exact I1.mL (bK _) (I1.hok.fresh (bK _))
def aFQ{K:aD}{a:Addr}{xs:List V}{H1:Hp}(h:aj K H1 a xs):j8 (Uy K a xs.length) xs.reverse H1:=by
 refine{λi H' g hi=>?_,λi H' x H2 g y=>{y.1,λhi=>?_},λi H' g hi=>?_}
 .rw[HD]at hi;exact{xs,xs[xs.length-1-i]'⋯,g.seq h,hi,List.getElem?_eq_getElem ⋯}
 .rw[HD]at hi;rw[List.getElem?_reverse hi];exact y.2 xs (g.seq h)
 .rw[HD]at hi;exact hi
end
section
variable {prog:Program} {w:World} {A:Around} {E:Value->Shared->Prop} {s:Shared} {I:Addr} {fp wr:List Addr} {G:Array GenState->Array GenState->Prop} {n:Nat} {P:Nat->Value->Prop} {St:Nat->Shared->Prop} {R:Result->Shared->Prop}
def aJg(W:WalksS prog w A.in1 I fp wr G n P St)(hT:∀i s,St i s->s.TypeIs (.ref I) "list_reverseiterator")(S:Addr)(c0:Nat)(hst:St 0 s)(hSf:S∉fp)(hI:I∈fp)
  (hS:s.heap.get? S=some { cls:= .type "list",data:= .seq #[] c0 })
  (hR:∀s' acc' c',Moved (S::wr) G s s'->s'.heap.get? S=some { cls:= .type "list",dict:=none,data:= .seq acc' c',slots:=#[] }->ItemsOf P acc' n->R (.ok (.ret .none)) s') (hn:n<=sizeLine):
  wpAny (model prog w) A.in1 (Builtin.List.listExtendWith (.ref S) (.ref I) .none)
   (λfin s'=>match fin with | .done f=>R (.ok f) s' | .again c'=>c'.quiet=true/\codeAny (model prog w) A c' R s') (λe s'=>R (.error e) s') s:=by
 have hSI:S≠I:=λe=>hSf (e▸hI);have h1:Builtin.List.listSameRef (.ref S) (.ref I)=false:=by simp[Builtin.List.listSameRef,hSI]
 unfold Builtin.List.listExtendWith;refine wpAny_bind (wpAny_typeOf (hT 0 _ hst) ?_);rw[if_neg (by rw[h1];decide)];refine wpAny_bind (W.self 0 _ _ _ hst ?_);refine wpAny_bind (wpAny_holding ?_);unfold Builtin.List.listLengthHint;refine wpAny_bind (wpAny_specialOf (hT 0 _ hst) aRX ?_);show wpAny _ A.in1 (specialOf (Value.ref I) (Str.ofString "__length_hint__")>>=_) _ _ _;refine wpAny_bind (wpAny_specialOf (hT 0 _ hst) aww ?_)
 (generalize hid:("list_reverseiterator.__length_hint__" : String)=id0;(fail_if_success (clear hid id0));wp_delta;rw[show splitId id0=some ("list_reverseiterator","__length_hint__")from by subst hid;decide +kernel];subst hid)
 refine wpAny_bind (wpAny_isInstance (b:=true) (hT 0 _ hst) (by rw[isSubtype_type];kernel_rfl) ?_);refine wpAny_pure ?_;rw[if_neg ∅];exact wpAny_pure {plainId_quiet F.plain_extend_loop _,codeAny_extend_loopS W hn _ hSf _ n 0 _ _ _ rfl (fJ _) hst hS (ItemsOf.nil P) λs' acc' c' hm hS' hacc=>hR s' acc' c' hm hS' hacc}
def azv(W:WalksS prog w A.in1 I fp wr G n P St)(hT:∀i s,St i s->s.TypeIs (.ref I) "list_reverseiterator")(S:Addr)(hst:St 0 s)(hSf:S∉fp)(hI:I∈fp)
  (hS:s.heap.get? S=some { cls:= .type "list",data:= .seq #[] })
  (hR:∀s' acc' c',Moved (S::wr) G s s'->s'.heap.get? S=some { cls:= .type "list",dict:=none,data:= .seq acc' c',slots:=#[] }->ItemsOf P acc' n->R (.ok (.ret .none)) s') (hn:n<=sizeLine):
  wpAny (model prog w) A.in1 (Builtin.«list.__init__» {[.ref S,.ref I],[]})
   (λfin s'=>match fin with | .done f=>R (.ok f) s' | .again c'=>c'.quiet=true/\codeAny (model prog w) A c' R s') (λe s'=>R (.error e) s') s:=by
 show wpAny _ A.in1 (Builtin.List.listItems (.ref S)>>=λold=>Builtin.List.listUpdate (.ref S) (λ_=>#[])>>=λ_=>letGo old.toList.reverse>>=λ_=>Builtin.List.listExtendWith (.ref S) (.ref I) .none) _ _ s;refine wpAny_bind ?_;unfold Builtin.List.listItems;refine wpAny_bind (wpAny_seqItems hS rfl (wpAny_pure ?_));refine wpAny_bind (wpAny_updateSeq hS rfl ?_);have hS2:=Heap.get?_update_self (wA (λ_=>(#[]:Array Value))) hS rfl;have oth:∀b o,b≠S->s.heap.get? b=some o->(s.heap.update S (wA (λ_=>(#[]:Array Value)))).get? b=some o:=
  λb o hb e=>(Heap.get?_update_other _ _ (dw hb)).trans e
 refine wpAny_bind (wpAny_letGo ?_);refine aJg W hT S _ (W.frame 0 s _ s.toks hst (bK _) λb hb o e=>oth b o (λh=>hSf (h▸hb)) e) hSf hI hS2 (λs' acc' c' hm hS' hacc=>?_) hn;exact hR s' acc' c' (Moved.trans W.gtrans ((Moved.refl W.grefl).then_heap (bK _) λb o hb e=>oth b o (λh=>hb (h▸wN)) e) hm) hS' hacc
def aCn{Q:Value->Shared->Prop}(W:WalksS prog w A.in1.in1 I fp wr G n P St)(hT:∀i s,St i s->s.TypeIs (.ref I) "list_reverseiterator")(hst:St 0 s)(hfp:∀b∈fp,b<s.heap.objs.size)(hI:I∈fp)
  (hQ:∀s' acc' c',Moved (s.heap.objs.size::wr) G { s with heap:=s.heap.push { cls:= .type "list",data:= .seq #[] } } s'->
   s'.heap.get? s.heap.objs.size=some { cls:= .type "list",dict:=none,data:= .seq acc' c',slots:=#[] }->ItemsOf P acc' n->Q (.ref s.heap.objs.size) s') (hn:n<=sizeLine):
  wpAny (model prog w) A (call (.type "list") [.ref I]) Q E s:=by
 have hSf:s.heap.objs.size∉fp:=λhm=>j4 _ (hfp _ hm);refine callType_codes (Q₁:=λobj s₁=>obj = .ref s.heap.objs.size/\s₁={ s with heap:=s.heap.push { cls:= .type "list",data:= .seq #[] } }) F.called_list (F.typeCall_list_1 _) F.entry_list_init
  (code_list_new _ {rfl,(rfl)}) λobj s₁ h₁=>?_
 intros rfl rfl h₁;have hS:(s.heap.push { cls:= .type "list",data:= .seq #[] }).get? s.heap.objs.size=some { cls:= .type "list",data:= .seq #[] }:=Heap.get?_push_size _ rfl;refine{{_,hS,rfl},F.args_list_init_2 _ _,azv W hT _ (W.frame 0 s _ s.toks hst (bK _) λb _ o e=>Heap.get?_push_of_some _ e) hSf hI hS (λs' acc' c' hm hS' hacc=>?_) hn};exact{rfl,hQ s' acc' c' hm hS' hacc}
end
section
variable {X:Cx}
def auo(te:TA):TE:=λσ H Q=>te σ H λvs H1=>∃(l:Addr) (xs:List V),vs=[.ref l]/\H1 l=some (.lst xs)/\∀l',H1 l'=none->Q (.ref l') (upd H1 l' (.lst xs.reverse))
def auC{a:Expr}{ta:TA}{p p2 pos pos2:Pos}(hc:X.calm=true)(hg:Gl X "list")(hm:X.mg "list" = none)(hg2:Gl X "reversed")(hm2:X.mg "reversed" = none)(ha:PA X [a] ta)
  (hs2:starEach [a] X.env=[(false,eval a X.env)]:=by rfl)
  (hs:starEach [.Call (.Name "reversed" p2) [a] [] pos2] X.env=[(false,eval (.Call (.Name "reversed" p2) [a] [] pos2) X.env)]:=by rfl):
  PE X (.Call (.Name "list" p) [.Call (.Name "reversed" p2) [a] [] pos2] [] pos) (auo ta):=by
 intro pins s σ H Q I h;refine wpAny_Call_Name_kw (qJ I hg hm boot_list ?_ ∅ ∅);refine uR ?_ hs rfl;rw[hs];show wpAny _ _ (spliced ((false,eval (.Call (.Name "reversed" p2) [a] [] pos2) X.env)::backTo pos [])) _ _ s;refine wQ ?_;refine Call_ (qJ I hg2 hm2 aj4 (uR (aR (ha pos2 pins s σ H _ I h) λus s1 ⟨vs,H1,I1,r1,q1⟩=>?_) hs2 rfl));intros l xs e hl q q1;subst e;cases r1 with
 |cons r rr=>
  cases rr;cases r;obtain⟨z,its,nn,rv,hlen,eo⟩:=I1.qK hl;have hil:s1.heap.IsList l its.toArray:={_,eo,rfl,()};refine call_reversed_list hil ?_;refine Hg ?_;have hln:l≠s1.heap.objs.size:=λe=>absurd (cP eo) (by rw[e];exact j4 _);have hh:=I1.ok.hd hc;have hle:its.toArray.size=xs.length:=by have:=rv.length;simp;lia
  have key:(s1.heap.push (revObj l ((its.toArray.size:Int)-1))).IsRevIter s1.heap.objs.size l ((its.toArray.size:Int)-1-((0:Nat):Int)):={_,Heap.get?_push_size _ rfl,rfl,by simp[revObj]};have W:=(Walks.listRev (prog:=X.prog) (w:=X.w) (A:=X.A.in1.in1) hh s1.heap.objs.size l hln its.toArray).toS;have hsz2:(s1.heap.push (revObj l ((its.toArray.size:Int)-1))).objs.size=s1.heap.objs.size+1:=by simp[Heap.push]
  refine aCn (s:={ s1 with heap:=s1.heap.push (revObj l ((its.toArray.size:Int)-1)) }) W (λi s' st=>st.2.1.typeIs) {fJ _,key,hil.push _} (λb hb=>?_) (by simp) (λs' acc' c' hm' hS' hacc=>?_) (by rw[hle];exact z)
  .have hb':b=s1.heap.objs.size∨b=l:=by simpa using hb
   have:=cP eo;show b<(s1.heap.push (revObj l ((its.toArray.size:Int)-1))).objs.size;rcases hb' with z|z
   .rw[z,hsz2];exact vN _
   .rw[z,hsz2];exact Nat.lt_succ_of_lt this
  .have I3:Inv X pins σ H1 { s1 with heap:=s1.heap.push (revObj l ((its.toArray.size:Int)-1)) }:=I1.kept (t':=s1.toks) λb o e=>Heap.get?_push_of_some _ e;obtain⟨f0,f1,f2,f3,f4,f5⟩:=I1.mL (H':=H1) (bK _) I1.fresh;have hfree:H1 (s1.heap.push (revObj l ((its.toArray.size:Int)-1))).objs.size=none:=I3.hok.fresh (bK _);have hfp:=I3.mL (H':=H1) (bK _) hfree;have hv:Vals xs.reverse acc'.toList:=by
    have e:acc'.toList=its.reverse:=by
     intros h1 h2 hacc;refine List.ext_getElem? λj=>?_;have hs1:acc'.toList.length=its.length:=by simpa using h1
     by_cases hj:j<its.length
     .have a1:acc'[j]?=some (acc'[j]'(by simpa using(hs1▸hj:j<acc'.toList.length))):=Array.getElem?_eq_getElem _;have a2:=h2 j _ a1;rw[List.getElem?_reverse hj,Array.getElem?_toList,a1,<-a2];simp
     .rw[List.getElem?_eq_none ⋯,List.getElem?_eq_none (by rw[HD];lia)]
    rw[e];exact rv.reverse
   intros hp' g' d' t'' o' s';have eg:g'=s1.gens:=hm'.gens;have ed:d'=s1.drawn:=hm'.drawn;have eo':o'=s1.os:=hm'.os;subst eg ed eo';have I5:=I3.turned (h':=hp') (it:=s1.heap.objs.size) (t':=t'') (λb o hb e=>hm'.heap b o (by
    have hlt:=cP e;have:b≠(s1.heap.push (revObj l ((its.toArray.size:Int)-1))).objs.size:=gw hlt;simp only[dz,iY,or_false,not_or];exact{this,(hb)}) (Heap.get?_push_of_some _ e)) f0 f1 f3 f4 f5
   refine{.ref _,_,I5.aEa (o:= .lst xs.reverse) hfp ?_,rfl,q _ hfree};exact{by rw[HD];exact z,acc'.toList,c',hv,by simpa using hS'}
end
section
variable {X:Cx}
def tFn(mg:Str->Option Value)(x:Str):TE:=λ_ H Q=>∀g,mg x=some (.ref g)->Q (.ref g) H
def v9{x:Str}{k:Nat}{ps:List Str}{sp:Sp}{pos:Pos}(C:kJ X.prog X.w X.K X.mg X.base x k ps sp)(hg:Gl X x)(hd:(x==("__debug__" : Str))=false:=by decide):PE X (.Name x pos) (tFn X.mg x):=by
 intros g gd hm _ _ _ C.ex;intro pins s σ H Q I h;exact Mr (v:= .ref g) hg hm rfl hd pins s σ H Q I (h g hm)
def aOL(mg:Str->Option Value)(x:Str)(sp:Sp)(tv:TE)(t:TA):TE:=λσ H Q=>tv σ H λv H1=>(∃g,mg x=some (.ref g)/\v = .ref g)/\t σ H1 λvs H2=>sp vs H2 Q E0
def aG4{mg:Str->Option Value}{x y:Str}{k k':Nat}{ps:List Str}{sp:Sp}{p pos:Pos}{e:Expr}{es:List Expr}{tv:TE}{t:TA}(C:kJ X.prog X.w X.K mg X.base x k ps sp)(hr:cT k' X.A)(hv:PE X (.Name y p) tv)(ha:PA X (e::es) t)
  (hmg:X.mg=mg:=by rfl) (hk:k<=k':=by decide) (he:starEach (e::es) X.env=(false,eval e X.env)::starEach es X.env:=by rfl) (hpl:(backTo pos (starEach es X.env)).any (·.1)=false:=by rfl):PE X (.Call (.Name y p) (e::es) [] pos) (aOL mg x sp tv t):=by
 subst hmg;intros g gd hm hkp hb F C.ex;intro pins s σ H Q I h;refine wpAny_Call_Name_kw (aR (hv pins s σ H _ I h) λu s1 ⟨v,H1,I1,r,⟨g',hm',ev⟩,q⟩=>?_);subst ev;obtain rfl:u=Value.ref g':=r;rw[hm]at hm';cases hm';refine Ar (h₀:=X.base) I1.ok.mod.tZ hkp (aR (ha pos pins s1 σ H1 _ I1 q) λus s2 ⟨vs,H2,I2,r2,q2⟩=>{I2.dj,?_}) he hpl;refine DV F (hr.mono hk) hb .nil Je I2 r2 ?_;rw[qC];exact q2
end
section
variable {X:Cx}
theorem J6:∀{xs:List Str} {its:List Value},Vals (xs.map V.str) its->∃l:List (Str×Tok),its=strValues l/\l.map (·.1)=xs
 |[],_,h=>by cases h;exact{[],rfl,(rfl)}
 |x::xs,_,h=>by
  cases h with
  |cons r t=>
   intros tk rfl r;obtain⟨l,rfl,e⟩:=J6 t;exact{(x,tk)::l,rfl,by rw[fB,e]}
theorem ahO:∀(l:List (Str×Tok)),Vals ((l.map (·.1)).map V.str) (strValues l)
 |[]=> .nil
 |p::l=> .cons {p.2,(rfl)} (ahO l)
theorem YT:∀(l:List (Str×Tok)),StrsAre (strValues l) (l.map (·.1))
 |[]=> .nil
 |p::l=> .cons p.1 p.2 (YT l)
def adb(z y:Str):(Txt.split z y).length<=z.length+2/\(Builtin.Str.partsBetween z (Builtin.Str.occurrences z y 0 z.length (z.length+1)) y.length).length<=z.length+2:=by
 have hn:=StrLaws.occ_length_le z y 0 z.length (z.length+1);have h2:(Builtin.Str.partsBetween z (Builtin.Str.occurrences z y 0 z.length (z.length+1)) y.length).length<=z.length+2:=by
  rw[length_partsBetween];lia
 refine{?_,h2};unfold Txt.split;split
 .simp
 .split
  .simp
  .exact h2
def aK7:V->List V->Hp->VK->Prop:=λx vs H Q=>∃z y,x = .str z/\vs=[.str y]/\(y.length==0)=false/\z.length<=100000/\∀p,H p=none->Q (.ref p) (upd H p (.lst ((Txt.split z y).map V.str)))
def V2:tM X "str.split" aK7:=by
 intro pins s σ H x vs v us Q I rx rv h;intros z y rfl rfl hy hz q h;intros t rfl rx;intros u rfl ru rv.one;intros t' rfl ru;have h100:(200000:Nat)<=sizeLine:=∅;have hsz:z.length<=sizeLine:=⋯;obtain⟨f1,f2⟩:=adb z y;have fin:∀(l:List (Str×Tok)) (k:Nat),l.map (·.1)=Txt.split z y->EP X pins σ Q (.ref s.heap.objs.size) { s with heap:=s.heap.push { cls:= .type "list",data:= .seq (strValues l).toArray },toks:=k }:=λl k e=>
  {.ref s.heap.objs.size,_,I.JV (t':=k) (ys:=(Txt.split z y).map V.str) (by rw[<-e];exact ahO l) (by rw[bG];lia),rfl,q _ I.fresh}
 cases h1:(decide (z.length<y.length)||decide (Builtin.Str.strKind z<Builtin.Str.strKind y))
 .cases hf:(Builtin.Str.occurrences z y 0 z.length (z.length+1)).isEmpty
  .refine call_meets ab9 (typeIs_str _ _ _) YL (UZ _ _) (meets_str_split_sep z y t t' h1 hy hf hsz ⋯) ?_;show wants _ _ _ { s with toks:=_,heap:=s.heap.push { cls:= .type "list",data:= .seq (strsFrom s.toks (Builtin.Str.partsBetween z (Builtin.Str.occurrences z y 0 z.length (z.length+1)) y.length)).toArray } };rw[strsFrom_eq];exact fin (numbered s.toks _) _ ((numbered_texts _ _).trans ((if_neg (ne_true_of_eq_false h1)).trans (if_neg (ne_true_of_eq_false hf))).symm)
  .exact call_meets ab9 (typeIs_str _ _ _) YL (UZ _ _) (meets_str_split_not_found z y t t' h1 hy hf)
    (fin [(z,t)] s.toks ((if_neg (ne_true_of_eq_false h1)).trans (if_pos hf)).symm)
 .exact call_meets ab9 (typeIs_str _ _ _) YL (UZ _ _) (meets_str_split_cannot_occur z y t t' h1)
   (fin [(z,t)] s.toks (if_pos h1).symm)
def rJoin:V->List V->Hp->VK->Prop:=λx vs H Q=>∃(sep:Str) (l:Addr) (xs:List Str),x = .str sep/\vs=[.ref l]/\H l=some (.lst (xs.map V.str))/\JoinOk sep xs=true/\Q (.str (Str.join sep xs)) H
def yx:tM X "str.join" rJoin:=by
 intro pins s σ H x vs v us Q I rx rv h;intros sep l xs rfl rfl hH hok q h;intros t rfl rx;intros u rfl ru rv.one;cases ru;obtain⟨z,its,n,r,hl,e⟩:=I.qK hH;obtain⟨l',rfl,e'⟩:=J6 r;rw[<-StrLaws.glued_eq_join]at q;exact SC.join {_,e,rfl,()} e' hok λt' k=>{.str _,H,I.tok k,{()},q}
def aL8:V->List V->Hp->VK->Prop:=λx vs H Q=>∃z y,x = .str z/\vs=[.str y]/\Q (.bl (Txt.startswith z y)) H
def alj:tM X "str.startswith" aL8:=by
 intro pins s σ H x vs v us Q I rx rv h;intros z y rfl rfl q h;intros t rfl rx;intros u rfl ru rv.one;intros t' rfl ru;exact SC.startswith {.bl _,H,I,rfl,q}
def aJD:V->List V->Hp->VK->Prop:=λx vs H Q=>∃(l:Addr) (xs:List Str) (y:Str),x = .ref l/\vs=[.str y]/\H l=some (.lst (xs.map V.str))/\Q (.int (xs.count y:Nat)) H
theorem aom(x:Str):∀l:List Str,countIn (.str x) (l.map PyData.str)=((l.count x:Nat):Int)
 |[]=>rfl
 |a::r=>by
  rw[countIn_strs_sum,fB,List.sum_cons,<-countIn_strs_sum,aom x r,List.count_cons];split<;>simp<;>lia
def aQn:tM X "list.count" aJD:=by
 intro pins s σ H x vs v us Q I rx rv h;intros l xs y rfl rfl hH q h;cases rx;intros u rfl ru rv.one;intros t' rfl ru;obtain⟨z,its,n,r,hl,e⟩:=I.qK hH;obtain⟨l',rfl,e'⟩:=J6 r;refine count_list_strs {_,e,rfl,()} (YT l') {.int _,H,I.tok _,{()},?_};rw[e',aom];exact q
def aOB:V->List V->Hp->VK->Prop:=λx vs H Q=>∃(l:Addr) (xs:List Str) (y:Str) (j:Nat),x = .ref l/\vs=[.str y]/\H l=some (.lst (xs.map V.str))/\xs[j]?=some y/\(∀m,m<j->xs[m]?≠some y)/\Q (.int (j:Int)) H
def aqf(l:List (Str×Tok)){m:Nat}(h:m<(strValues l).toArray.size)(y:Str):aft y (strValues l).toArray[m]=decide ((l.map (·.1))[m]?=some y):=by
 have hm:m<l.length:=by simpa[strValues]using h
 have e:(strValues l).toArray[m] = .str l[m].1 l[m].2:=by simp[strValues]
 rw[e,List.getElem?_map,List.getElem?_eq_getElem hm];show(l[m].1==y)=_;by_cases c:l[m].1=y
 .simp[c]
 .simp[c]
def aNJ:tM X "list.index" aOB:=by
 intro pins s σ H x vs v us Q I rx rv h;intros l xs y j rfl rfl hH hj hno q h;cases rx;intros u rfl ru rv.one;intros t rfl ru;obtain⟨z,its,nn,r,hl,e⟩:=I.qK hH;obtain⟨l',rfl,e'⟩:=J6 r;subst e';have hjl:j<l'.length:=by
  have:=(List.getElem?_eq_some_iff.mp hj).1;simpa using this
 have hs:(strValues l').toArray.size=l'.length:=by simp[strValues]
 have hsl:l'.length<=sizeLine:=by simpa using z
 have aSF:sizeLine<2^62:=∅;refine call_meets F.slot_list_index {_,e,rfl} F.entry_list_index (F.args_list_index_2 _ _) (SeqAt.list_indexAt l (strValues l').toArray nn none #[] (.str y t) (aft y) j ⋯ ⋯ (by rw[aqf];exact decide_eq_true hj) (λm hm h2=>by rw[aqf];exact decide_eq_false (hno m h2))) {e,λw hw=>?_,?_}
 .exact(eq_isStrOf y t (YT l') w (by simpa using hw)).at _ _
 .exact{.int _,H,I.tok _,{()},q}
def aeI{x:Str}{i:Str}{pos:Pos}(hg:Gl X x)(hm:∃t,X.mg x=some (.str i t))(hd:(x==("__debug__" : Str))=false:=by decide):PE X (.Name x pos) (tC (.str i)):=by
 intros t e hm;exact Mr hg e {t,(rfl)} hd
def Tg:cQ X (binaryOp .Pow) (rI (λi j=>0<=j/\(zM i:Int)*j<=2^27) λi j=> .int (i^j.toNat)):=C1 λ_ _ _ _ _ _ _ hc q=>pow_int hc.1 hc.2 q
def azZ:gY X (.type "int") (λxs H Q=>∃z n,xs=[.str z]/\intText? z=some n/\z.length<=640/\Q (.int n) H):=by
 intro pins s σ H xs us Q I r h;intros z n rfl hn hl q h;obtain⟨u,rfl,t,rfl⟩:=vals1 r;exact W.KIN.call_text hn hl {.int _,H,I.tok _,{()},q}
def aPy:V->Option Int->Option Int->Hp->VK->Prop:=λx lo hi H Q=>∃z,x = .str z/\z.length<=sizeLine/\Q (.str (Txt.slice z lo hi)) H
def Ks:mz X aPy:=by
 intro pins s σ H x v vl vu lo hi sl Q I rx hs pl pu h;intros z rfl hz q h;intros t rfl rx;exists "str",_,F.slot_str_getitem.lookup,typeIs_str _ _ _;have fin:∀t' k,EP X pins σ Q (.str (Txt.slice z lo hi) t') { s with toks:=k }:=λt' k=>{.str _,H,I.tok k,{()},q};cases pl with
 |none=>cases pu with
  |none=>exact wpAny_getItem_str_slice (l:=none) (u:=none) (st:=none) hs rfl (post_val_or_str {eV (Txt.slice_le z _ _) hz,fin})
  |int j tj=>exact wpAny_getItem_str_slice (l:=none) (u:=some (j,tj)) (st:=none) hs rfl (post_val_or_str {eV (Txt.slice_le z _ _) hz,fin})
 |int i ti=>cases pu with
  |none=>exact wpAny_getItem_str_slice (l:=some (i,ti)) (u:=none) (st:=none) hs rfl (post_val_or_str {eV (Txt.slice_le z _ _) hz,fin})
  |int j tj=>exact wpAny_getItem_str_slice (l:=some (i,ti)) (u:=some (j,tj)) (st:=none) hs rfl (post_val_or_str {eV (Txt.slice_le z _ _) hz,fin})
def Its(z:Str):It:={λi _=>i<z.length,λi H x H'=>H'=H/\∃c,z.cps.toList[i]?=some c/\x = .str {(#[c])},λi _=>z.length<=i}
def aeP{z:Str}{H1:Hp}:j8 (Its z) (z.cps.toList.map λc=>V.str {(#[c])}) H1:=by
 have hl:z.cps.toList.length=z.length:=by simp[Str.length]
 refine{λi H' g h=>?_,λi H' x H2 g y=>{y.1,λh=>?_},λi H' g h=>?_}
 .rw[bG,hl]at h;exact h
 .intros _ c e rfl y;rw[List.getElem?_map,e];rfl
 .rw[bG,hl]at h;exact h
def axJ{P:Program}{w:World}{K:aD}{tg:Expr}(z:Str)(t:Tok)(it:Addr):Turn P w K tg (Its z) [it] it (λi h=>h.IsStrIter it (strIterType z) z t i) where
 mem:=by simp
 obj:=λi h st b hb=>by
  have e:b=it:=by simpa using hb
  subst e;intros o e c d st;exact{o,e,λv z=>by rw[d]at z;cases z}
 keep:=λi h h' st k=>by
  intros o e c d st;exact{o,k it (by simp) o e,c,d}
 item:=by
  intro X hP hw hK hc i pins s σ H E I hf st hg;subst hP hw hK;obtain⟨f0,f1,f2,f3,f4,f5⟩:=hf it (by simp);have hl:z.cps.toList.length=z.length:=by simp[Str.length]
  have hi:i<z.length:=hg;obtain⟨c,hc'⟩:∃c,z.cps.toList[i]?=some c:={_,List.getElem?_eq_getElem ⋯};have hc2:z.cps[i]?=some c:=by simpa using hc'
  cases ha:z.cps.all (· < 128)
  .have et:strIterType z = "str_iterator" := by unfold strIterType;rw[ha];rfl
   rw[et]at st;refine wpAny_pyNext_wide_item st hc2 λh' st' sb=>?_;have I1:Inv X pins σ H { s with heap:=h',toks:=s.toks+1 }:=I.turned (t':=s.toks+1) (λb o hb e=>(sb.2 b hb).trans e) f0 f1 f3 f4 f5;obtain⟨o,e,c',d⟩:=id st';exact{.str {(#[c])} s.toks,rfl,vf (s:={ s with heap:=h',toks:=s.toks+1 }) e c' d ∅ {.str {(#[c])},H,I1,{()},{rfl,c,hc',(rfl)},by rw[et];exact st',λb hb=>(hf b hb).1}}
  .have et:strIterType z = "str_ascii_iterator" := by unfold strIterType;rw[ha];rfl
   rw[et]at st;refine wpAny_pyNext_ascii_item st hc2 λh' st' sb=>?_;have I1:Inv X pins σ H { s with heap:=h',toks:=s.toks+1 }:=I.turned (t':=s.toks+1) (λb o hb e=>(sb.2 b hb).trans e) f0 f1 f3 f4 f5;obtain⟨o,e,c',d⟩:=id st';exact{.str {(#[c])} s.toks,rfl,vf (s:={ s with heap:=h',toks:=s.toks+1 }) e c' d ∅ {.str {(#[c])},H,I1,{()},{rfl,c,hc',(rfl)},by rw[et];exact st',λb hb=>(hf b hb).1}}
 done:=by
  intro X hP hw hK hc i pins s σ H E I hf st hg;subst hP hw hK;obtain⟨f0,f1,f2,f3,f4,f5⟩:=hf it (by simp);have hi:z.length<=i:=hg;have hc2:z.cps[i]?=none:=Array.getElem?_eq_none hi;cases ha:z.cps.all (· < 128)
  .have et:strIterType z = "str_iterator" := by unfold strIterType;rw[ha];rfl
   rw[et]at st;exact wpAny_pyNext_wide_end (I.ok.hd hc) st hc2 λh' eb=>{rfl,I.turned (t':=s.toks) (λb o hb e=>eb b o hb e) f0 f1 f3 f4 f5}
  .have et:strIterType z = "str_ascii_iterator" := by unfold strIterType;rw[ha];rfl
   rw[et]at st;exact wpAny_pyNext_ascii_end (I.ok.hd hc) st hc2 λh' eb=>{rfl,I.turned (t':=s.toks) (λb o hb e=>eb b o hb e) f0 f1 f3 f4 f5}
 self:=λ_ _ _ _ _ st h=>by
  revert st;unfold strIterType;split
  .exactλst=>wpAny_pyIter_striter_ascii st h
  .exactλst=>wpAny_pyIter_striter_wide st h
def aud(tl:TE):TI:=λσ H R=>tl σ H λx H1=>∃z,x = .str z/\R (Its z) H1
def aqC{tg l:Expr}{tl:TE}(hl:PE X l tl):PI X tg l (aud tl):=by
 intro pins s σ H R I h;refine aR (hl pins s σ H _ I h) λv s1 ⟨x,H1,I1,r1,q1⟩=>?_;intros z rfl q q1;intros t rfl r1;refine wpAny_pyIter_strU ?_;refine{s1.heap.objs.size,[s1.heap.objs.size],_,_,H1,rfl,I1.kept (t':=s1.toks) λb o e=>Heap.get?_push_of_some _ e,axJ z t _,{_,Heap.get?_push_size _ rfl,rfl,rfl},λb hb=>?_,q};have e:b=s1.heap.objs.size:=by simpa using hb
 subst e;exact I1.mL (bK _) (I1.hok.fresh (bK _))
section
variable (K:aD)
def lE{T id:String}{r:V->List V->Hp->VK->Prop}{name:Str}{o e:Expr}{to:TE}{te:TE}{apos cpos:Pos}(pa:PlainAttrs T)(slot:Slot T name id)(hty:typeOf (.builtin id)=pure (.type "method_descriptor"))(hm:tM X id r)(ho:PE X o to)(he:PE X e te)(hK:X.K=K:=by rfl)
  (hbase:attributeBase o name X.env (eval o X.env)=eval o X.env:=by rfl)
  (hfew:((backTo cpos (starEach [e] X.env)).all (λx=>!x.1)&&(backToKw cpos (keywordEach [] X.env)).all (λx=>x.1.isSome)
   && decide ([e].length+([]:List Keyword).length+(if([]:List Keyword).isEmpty then 0 else 1)<30))=true:=by rfl)
  (hline:(apos.endLine==cpos.line)=true:=by rfl) (hs:starEach [e] X.env=(false,eval e X.env)::starEach [] X.env:=by rfl):
  PE X (.Call (.Attribute o name apos) [e] [] cpos) (Ld K T r to (nH te pJ)):=by
 subst hK;exact Zh pa slot hty hm ho (rT he iB hs) hbase hfew hline hs rfl
end
end
section
variable {X:Cx}{E:XK}{sc:Scope}{N:List Str}{cl:List (Str×Addr)}{C:Addr}{s₀:Shared}{H₀:Hp}{ex:List Addr}
theorem aoH{h base base':Heap}(k:∀b o,base'.get? b=some o->base.get? b=some o):∀{l:List Env},h.FunFrames base l->h.FunFrames base' l
 |[],_=>trivial
 |env::r,⟨a,⟨L,o,b,c,d,e⟩,f⟩=>by
  have c':base'.get? L=none:=by
   cases q:base'.get? L with
   |none=>rfl
   |some o'=>rw[k L o' q]at c;cases c
  exact{a,{L,o,b,c',d,(e)},aoH k f}
theorem aeN{h h' base:Heap}:∀{l:List Env},(∀b∈frs l,h'.get? b=h.get? b)->h.FunFrames base l->h'.FunFrames base l
 |[],_,_=>trivial
 |env::r,k,⟨a,⟨L,o,b,c,d,e⟩,f⟩=>{a,{L,o,b,c,(k L (by show L∈(env::r).filterMap (·.frame);rw[DN,b];exact wN)).trans d,e},aeN (λx hx=>k x (by
   show x∈(env::r).filterMap (·.frame);rw[DN,b];exact jt _ hx)) f}
def Lets(X:Cx)(E:XK):Prop:=∀(pins:List (Addr×Obj)) (σ:St) (H:Hp) (s:Shared) (C:Addr) (m:Str->Option Value) (e:Value) (s':Shared),Inv X pins σ H s->s.heap.Ns C m->jW X pins H C->iI X.prog X.w X.stack H s E e s'->
 wpAny (model X.prog X.w) X.A (noteFrame e X.env) (λ_ s''=>∃m,s''.heap.Ns C m/\∀h',uN C s''.heap h'->∀cenv:Env,cenv.locals=C->wpAny (model X.prog X.w) X.A (acE "comprehension.variables-let-go" e cenv:Sem Value) (λ_ _=>False) X.xe { s'' with heap:=h' }) (λ_ _=>False) s'
def Kr(X:Cx)(E:XK)(sc:Scope)(N:List Str)(cl:List (Str×Addr))(C:Addr)(s₀:Shared)(H₀:Hp)(ex:List Addr)(e:Value)(s':Shared):Prop:=∃oB σ' H' s1,Inv (dR X sc N cl C s₀ H₀ ex) oB σ' H' s1/\iI X.prog X.w X.stack H' s1 E e s'
def pC(X:Cx)(E:XK)(sc:Scope)(N:List Str)(cl:List (Str×Addr))(C:Addr)(s₀:Shared)(H₀:Hp)(ex:List Addr):Cx:=
 (dR X sc N cl C s₀ H₀ ex).wish (Kr X E sc N cl C s₀ H₀ ex)
def aDd:Passes (iI X.prog X.w) (pC X E sc N cl C s₀ H₀ ex) E:=λpins σ H s _ _ I h=>{pins,σ,H,s,I.nM,(h)}
def pN{x:Str}{k k':Nat}{ps:List Str}{sp:Sp}{p pos:Pos}{e:Expr}{es:List Expr}{t:TA}(Cc:kJ X.prog X.w X.K X.mg X.base x k ps sp)(hr:cT k' X.A)(hg:Gl (pC X E sc N cl C s₀ H₀ ex) x)
  (ha:PA (pC X E sc N cl C s₀ H₀ ex) (e::es) t) (hk:k<=k':=by decide) (hd:(x==("__debug__" : Str))=false:=by decide)
  (he:starEach (e::es) (pC X E sc N cl C s₀ H₀ ex).env=(false,eval e (pC X E sc N cl C s₀ H₀ ex).env)::starEach es (pC X E sc N cl C s₀ H₀ ex).env:=by rfl)
  (hpl:(backTo pos (starEach es (pC X E sc N cl C s₀ H₀ ex).env)).any (·.1)=false:=by rfl):
  PE (pC X E sc N cl C s₀ H₀ ex) (.Call (.Name x p) (e::es) [] pos) (wV sp [] E t):=by
 intros g gd hm hkp hb F Cc.ex;exact aap (X:=pC X E sc N cl C s₀ H₀ ex) F (hr.mono hk) hg hm hkp hb .nil aDd ha hd he hpl
def am7(sZ:Lets X E){sc:Scope}{N:List Str}{pins:List (Addr×Obj)}{σ:St}{use:Option (Value->Sem Unit)}{QQ:Value->Shared->Prop}(cl:List (Str×Addr))(D C:Addr)(s₀:Shared)(H₀:Hp)(ex:List Addr)(x:Value)(s':Shared)(hx:Kr X E sc N cl C s₀ H₀ ex x s')
  (k:∀{oB σ' H' s1},Inv (dR X sc N cl C s₀ H₀ ex) oB σ' H' s1->Inv X pins σ H' s1/\jW X pins H' C):notedBy (model X.prog X.w) X.A (zu sc cl C X.env) (λx s'=>compPost (model X.prog X.w) X.A X.xe use QQ (.ref D) C (.error x) s') x s':=by
 intros oB σ' H' s1 I6 fl hx;obtain⟨m,hn,_⟩:=id I6.loc;refine wpAny_mono (sZ pins σ H' s1 C m x s' (k I6).1 hn (k I6).2 fl) (λ_ s11 h11=>?_) λ_ _ z=>z.elim;cases use with
 |none=>exact h11
 |some _=>exact h11
def yW(sZ:Lets X E){tg iter elt:Expr}{ifs:List Expr}{scope sc:Scope}{pos:Pos}{wi:TI}{g:TG}{tc:TT}{te:TE}{N:List Str}{ix:List (Option Nat)}(O:vA X scope sc N ix)(hc:X.calm=true)(hi:PI X tg iter wi)
  (hb:∀cl C s₀ H₀ ex,PG (dR X sc N cl C s₀ H₀ ex) tg g/\qF (dR X sc N cl C s₀ H₀ ex) ifs tc/\PE (pC X E sc N cl C s₀ H₀ ex) elt te)
  (hs:∀x,foldedSetIterable iter X.env x=pure x:=by intro _;rfl):PE X (.ListComp elt [{tg,iter,ifs,(0)}] scope pos) (vV ix wi g tc te):=by
 intro pins s σ H Q I h;rw[eval_ListComp];exact Ub (cm:=λX=>X.calm=true) (wx:=Kr X E sc N) (use:=none) (QQ:=EP X pins σ Q) O hc (λ_ _ _ _=>hc) hi (λcl C s₀ H₀ ex _=>hb cl C s₀ H₀ ex) hs I h (am7 sZ) λD C s6 H5 m I7 hn f q=>{m,hn,λh' hs'=>{.ref D,H5,I7.turned (it:=C) (t':=s6.toks) (λb o hb e=>(hs'.2 b hb).trans e) f.1 f.2.1 f.2.2.2.1 f.2.2.2.2.1 f.2.2.2.2.2,rfl,q}}
end
section
variable {X:Cx} {pins:List (Addr×Obj)} {σ:St} {H:Hp} {s:Shared}
def Inv.aIU(I:Inv X pins σ H s)(hex:X.ex=[]){C:Addr}(hC:X.s₀.heap.objs.size<=C){H':Hp}{h':Heap}(keep:∀b o,b≠C->s.heap.get? b=some o->H b=none->b∉frs X.stack->h'.get? b=some o)
  (slot:∀b o,b≠C->s.heap.get? b=some o->H b=none->b∈X.fs->∃sl,h'.get? b=some { o with slots:=sl }) (free:∀b o,s.heap.get? b=some o->H b=none->H' b=none) (there:∀b o,b≠C->s.heap.get? b=some o->∃o',h'.get? b=some o')
  (tups:∀b xs,H b=some (.tup xs)->H' b=some (.tup xs)) (iC:∀b o u,H b=some (.fO o u)->H' b=some (.fO o u)) (jf:∀b ps,H b=some (.nK ps)->∃more,H' b=some (.nK (ps++more))):
  Un (frs X.outer) [] X.H₀ H' X.s₀.heap h':=by
 have nx:∀b:Addr,b∉X.ex:=λb=>by rw[hex];simp
 have nc:∀b o,X.s₀.heap.get? b=some o->b≠C:=λb o e z=>absurd (cP e) (by rw[z];exact ab0.mpr hC);refine{λb o e n hb _=>?_,λb o e n hb _=>?_,λb o e n _=>?_,λb o e _=>?_,λb xs e=>tups b xs (I.base.tups b xs e),λb o u e=>iC b o u (I.base.iC b o u e),λb ps e=>?_}
 .exact keep b o (nc b o e) (I.base.keep b o e n hb (nx b)) (I.base.free b o e n (nx b)) (I.C9 e hb)
 .obtain⟨sl,e1⟩:=I.base.slot b o e n hb (nx b);obtain⟨sl',e2⟩:=slot b _ (nc b o e) e1 (I.base.free b o e n (nx b)) hb;exact{sl',(e2)}
 .obtain⟨o',e1⟩:=I.base.there b o e (nx b);exact free b o' e1 (I.base.free b o e n (nx b))
 .obtain⟨o',e1⟩:=I.base.there b o e (nx b);exact there b o' (nc b o e) e1
 .obtain⟨m1,e1⟩:=I.base.jf b ps e;obtain⟨m2,e2⟩:=jf b _ e1;exact{m1++m2,by rw[e2,abW]}
end
def rm{P:Program}{w:World}{K:aD}{mg:Str->Option Value}{base:Heap}{N:List Str}{qual:Str}{scope:Scope}{f:Addr}{cdv:Value}{A:Around}{outer:List Env}{s₀:Shared}{H₀:Hp}{E:XK}:Lets (dI P w K mg base N qual scope f cdv A outer s₀ H₀ E) E:=by
 intro pins σ H s C m e s' I hn fC h;intros ea Cc a0 B H' rfl os bare fl hok un old q h.ex;intros ea' ee kk h.k2;cases ee;intros c0 c1 c2 c3 c4 c5 fC;have hC:s₀.heap.objs.size<=C:=by
  rcases c3 with z|z
  .cases z
  .exact z
 have cS:C∉frs (envOfC qual scope s₀.heap.objs.size f cdv::outer):=λz=>by
  rcases dz.mp (I.Dh C z)with z|z
  .exact c1 z
  .exact c2 z
 intros oC es ep hoC hdC hkC hn;have aDR:s'.heap.get? C=some oC:=un.keep C oC hoC c0 cS (by simp);intros f1 f2 f3 f4 fl;have sub:∀b o,(nZ B [C]).get? b=some o->B.get? b=some o:=λb o e=>Qy [C] e;have Qx:(nZ B [C]).get? C=none:=Heap.hide_self B C;have alc:∀b,B.get? b=none->(nZ B [C]).get? b=none:=λb e=>by
  cases q:(nZ B [C]).get? b with
  |none=>rfl
  |some o=>rw[sub b o q]at e;cases e
 have trB:∀{hh:Heap} {ff:Value},hh.TracedAtW B ea (.ref Cc) a0 ff->hh.TracedAtW (nZ B [C]) ea (.ref Cc) a0 ff:=λ⟨oe,vs,T,oT,ts,a1,a2,a3,a4,a5,a6⟩=>{oe,vs,T,oT,ts,a1,a2,a3,a4,alc T a5,a6};refine Rr (L:=s₀.heap.objs.size) I.ok.frames (aoH sub f3) rfl (trB f4) (λb o e=>f1 b o (sub b o e)) (alc _ f2) kk λh1 ⟨k1,k2,k3,k4⟩ u1 kk1=>?_;have QY:∀vs,oC.data≠ .fields vs:=λvs z=>by rw[hdC]at z;cases z
 obtain⟨sl1,sy⟩:=u1 C oC aDR QY;refine{m,{_,es,ep,sy,hdC,hkC},λh2 sb cenv _=>?_};have at2:∀b,b≠C->h2.get? b=h1.get? b:=λb hb=>sb.2 b hb;have nEa:ea≠C:=λz=>by
  intros oe vs T oT ts a1 a2 a3 _ k4;rw[z,sy]at a1;cases a1;exact QY vs a3
 have tr2:h2.TracedAtW (nZ B [C]) ea (.ref Cc) a0 (rawInt s₀.heap.objs.size):=by
  intros oe vs T oT ts a1 a2 a3 a4 a5 a6 a7 a8 a9 k4;have n1:=nEa;have n2:T≠C:=λz=>by rw[z,sy]at a7;cases a7;exact QY ts a8
  exact{oe,vs,T,oT,ts,(at2 _ n1).trans a1,a2,a3,a4,a5,a6,(at2 _ n2).trans a7,a8,a9}
 refine aRW (s:={ s' with heap:=h2 }) (λb o e=>(at2 b λz=>by rw[z,Qx]at e;cases e).trans (k1 b o e)) (aeN (λb hb=>at2 b λz=>cS (z▸hb)) k3) tr2 (kk1.at (at2 ea nEa)) λh3 fl3 s3 ff3 t3 u3 kk3=>?_;refine aeb (s:={ s' with heap:=h3 }) (L:=s₀.heap.objs.size) I.ok.frames ff3 rfl t3 s3 k2 kk3 λh4 Vk u4 Xq=>?_;have up:∀b o,b≠C->s'.heap.get? b=some o->(∀vs,o.data≠ .fields vs)->∃sl,h4.get? b=some { o with slots:=sl }:=λb o hb e hd=>by
  obtain⟨sl1,e1⟩:=u1 b o e hd;have e2:=(at2 b hb).trans e1;exact(u3.trans u4) b { o with slots:=sl1 } e2 hd
 have inB:∀b o,s.heap.get? b=some o->b∉frs (envOfC qual scope s₀.heap.objs.size f cdv::outer)->∃o',B.get? b=some o'/\s'.heap.get? b=some o':=λb o e hb=>by
  rcases old b o e with z|⟨o',z⟩
  .exact absurd z hb
  .exact{o',z,f1 b o' z}
 have upF:∀b o,s'.heap.get? b=some o->b∈frs (envOfC qual scope s₀.heap.objs.size f cdv::outer)->∃sl,h4.get? b=some { o with slots:=sl }:=λb o e hb=>by
  obtain⟨_,o',ho',hd⟩:=f3.mem hb;rw[e]at ho';cases ho';exact up b o (λz=>cS (z▸hb)) e hd
 have JH:∀b o,b≠C->B.get? b=some o->(nZ B [C]).get? b=some o:=λb o hb e=>Uz [C] e (by simpa using hb);have hC':H' C=none:=un.free C oC hoC c0 (by simp);have hok':eY P w H' (nZ B [C]):=λb o e=>
  (hok b o e).stay (λc u hc qq=>JH c u (λz=>by
   rcases hc with rfl|hc
   .rw[z,hC']at e;cases e
   .rw[z,hC']at hc;cases hc) qq) (λ_ qq=>qq) λ_ _ qq=>qq
 refine{{ea,Cc,a0,_,H',rfl,os.trans I.os,bare,Vk,hok',I.aIU rfl hC (λb o hb e n hs=>?_) (λb o hb e n hs=>?_) (λb o e n=>un.free b o e n (by simp)) (λb o hb e=>?_) un.tups un.iC un.jf,λb o e=>?_,q},ea,rfl,Xq}
 .obtain⟨o',e1,e2⟩:=inB b o e hs;have e3:=un.keep b o e n hs (by simp);rw[e2]at e3;cases e3;exact Vk.1 b _ (JH b _ hb e1)
 .obtain⟨sl,e1⟩:=un.slot b o e n (jt _ hs) (by simp);obtain⟨sl',e2⟩:=upF b _ e1 (jt _ hs);exact{sl',(e2)}
 .by_cases hs:b∈frs (envOfC qual scope s₀.heap.objs.size f cdv::outer)
  .obtain⟨o',e1⟩:=un.there b o e (by simp);obtain⟨sl,e2⟩:=upF b o' e1 hs;exact{_,e2}
  .obtain⟨o',e1,_⟩:=inB b o e hs;exact{o',Vk.1 b o' (JH b o' hb e1)}
 .by_cases hb:b∈frs outer
  .exact .inl hb
  .have nc:b≠C:=λz=>absurd (cP e) (by rw[z];exact ab0.mpr hC);obtain⟨o',e1⟩:=I.base.there b o e (by intro z;cases z);obtain⟨o2,e2,_⟩:=inB b o' e1 (I.C9 e hb);exact .inr {o2,JH b o2 nc e2}
def Uu{X:Cx}{E:XK}(sZ:Lets X E){i:Nat}{y:Str}{py spos:Pos}{tg iter elt:Expr}{ifs:List Expr}{scope sc:Scope}{pos:Pos}{wi:TI}{g:TG}{tc:TT}{te:TE}{N:List Str}{ix:List (Option Nat)}(hN:X.N.Nodup)(hi':X.N[i]?=some y)(hx:Loc X.env.scope y)
  (O:vA X scope sc N ix) (hc:X.calm=true) (hi:PI X tg iter wi)
  (hb:∀cl C s₀ H₀ ex,PG (dR X sc N cl C s₀ H₀ ex) tg g/\qF (dR X sc N cl C s₀ H₀ ex) ifs tc/\PE (pC X E sc N cl C s₀ H₀ ex) elt te)
  (hs:∀x,foldedSetIterable iter X.env x=pure x:=by intro _;rfl) (hsw:swapsWith (.ListComp elt [{tg,iter,ifs,(0)}] scope pos) (some (.Name y py)) spos.line X.env=pure true:=by rfl)
  (hf:X.fn y=true∨X.env.scope.names.lookup y=some .local:=by first|exact .inl rfl|exact .inr rfl|assumption):
  PS X (.Assign [.Name y py] (.ListComp elt [{tg,iter,ifs,(0)}] scope pos) spos) (v8 (vV ix wi g tc te) (iw i)):=
 Pk (cm:=λX=>X.calm=true) (wx:=Kr X E sc N) hN hi' hx O hc (λ_ _ _ _=>hc) hi (λcl C s₀ H₀ ex _=>hb cl C s₀ H₀ ex) (am7 sZ) hs hsw hf
def cT.hu{k:Nat}{A:Around}(r:cT k A):A.units+1<cLine:=by have:=r.un;lia
end L2
namespace PySem.SeqAt
open AutoSeq1 (wpAny_loadPart')
open MeetsSeq MeetsSeq2 MeetsSeq3 SeqRoads2
end PySem.SeqAt
namespace L2
open PySem PySem.Spec PyProof.Rows
section
open Classical
variable {X:Cx}
def aS4(H:Hp)(c:List Int):Value->Bool:=λv=>match v with
 |.ref t=>decide (H t=some (.lst (c.map V.int)))
 |_=>false
end
def Ou(K:aD){X:Cx}(hK:X.K=K:=by rfl):cQ X (compareOp .In) (rIn K false):=by subst hK;exact aq2
end L2
namespace PyProof.Rows
open PySem
section
variable {prog:Program} {w:World} {A:Around} {E:Value->Shared->Prop} {s:Shared}
section
variable {t:Addr}{items:Array Value}{Q:Unit->Shared->Prop}
theorem agp{it t:Addr}{items:Array Value}(hne:t≠it):∀(n i:Nat) (s:Shared) (Q:List Value->Shared->Prop),s.heap.IsListIter it t i->s.heap.IsList t items->i+n<=items.size->
  (∀h':Heap,h'.IsListIter it t (i+n)->uN it s.heap h'->Q ((items.toList.drop i).take n) { s with heap:=h' })->wpAny (model prog w) A (draw (.ref it) n) Q E s
 |0,i,s,Q,hit,_,_,hQ=>by
  show wpAny _ _ (pure []) Q E s;exact wpAny_pure (by simpa using hQ s.heap hit (avf ..))
 |n+1,i,s,Q,hit,ht,hle,hQ=>by
  have hlt:i<items.size:=⋯;show wpAny _ _ (pyNext (.ref it)>>=_) Q E s;refine wpAny_bind (wpAny_pyNext_list_item hit ht (x:=items[i]) (by simp[hlt]) λh₁ hit₁ hs₁=>?_);refine wpAny_bind (wpAny_holding (agp hne n (i+1) _ _ hit₁ (ht.extBut hs₁.extBut hne) ⋯ λh₂ hit₂ hs₂=>wpAny_pure ?_));have hd:items.toList.drop i=items[i]::items.toList.drop (i+1):=by simp[List.drop_eq_getElem_cons,hlt]
  have:=hQ h₂ (by rw[(⋯:i+(n+1)=i+1+n)];exact hit₂) (hs₁.trans hs₂);rw[hd,agK]at this;exact this
def aI7{Q:List Value->Shared->Prop}(hh:A.handled=none)(ht:s.heap.IsList t items)
  (hQ:∀h',wM s.heap.objs.size s.heap h'->Q items.toList { s with heap:=h' }):wpAny (model prog w) A (unpackItems (.ref t) items.size none) Q E s:=by
 have hlt:t≠s.heap.objs.size:=by intros o ho _ ht;exact gw (cP ho)
 unfold unpackItems;refine wpAny_bind ?_
 .unfold notIterableAtAll;refine wpAny_bind (wpAny_specialOf ht.typeIs slot_list_iter.lookup ?_);refine wpAny_pure ?_;simp only[Gz,if_false];refine wpAny_bind (wpAny_holding (wpAny_pyIter_list ht ?_));refine wpAny_bind (wpAny_holding (agp hlt items.size 0 _ _ {_,Heap.get?_push_size _ rfl,rfl,rfl} (ht.push _) ⋯ λh₁ hit₁ hs₁=>?_));have hall:List.take items.size (List.drop 0 items.toList)=items.toList:=by
   rw[Br];exact yP (by simp)
  rw[hall];rw[if_neg (by simp)];have ht₁:h₁.IsList t items:=(ht.push _).extBut hs₁.extBut hlt;refine wpAny_bind (wpAny_holding (wpAny_pyNext_list_end hh hit₁ ht₁ (by simp) λh₂ he₂=>?_));simp only[alv,Gz,if_false];refine wpAny_pure (hQ h₂ λb o hb e=>he₂ b o hb (hs₁.extBut b o hb (Heap.get?_push_of_some _ e)))
def aFM{targets:List (Bool×(Value->Sem Unit))}(hh:A.handled=none)(ht:s.heap.IsList t items)
  (hn:targets.length=items.size) (hstar:targets.findIdx? (·.1)=none)
  (h:∀h',wM s.heap.objs.size s.heap h'->wpAny (model prog w) A (assignInOrder (targets.map (·.2)) items.toList) Q E { s with heap:=h' }):
  wpAny (model prog w) A (unpack (.ref t) targets) Q E s:=by
 unfold unpack;rw[hn,hstar];exact wpAny_bind (wpAny_holding (aI7 hh ht h))
def aAb{env:Env}{elts:List Expr}{x1}{pos:Pos}(hh:A.handled=none)(ht:s.heap.IsList t items)
  (hn:(assignEach elts env).length=items.size) (hstar:(assignEach elts env).findIdx? (·.1)=none)
  (h:∀h',wM s.heap.objs.size s.heap h'->wpAny (model prog w) A (assignInOrder ((assignEach elts env).map (·.2)) items.toList) Q E { s with heap:=h' }):
  wpAny (model prog w) A (assign (.Tuple elts x1 pos) env (.ref t)) Q E s:=by
 rw[assign_Tuple];exact wpAny_bind (wpAny_standAt (aFM hh ht hn hstar h))
end
end
end PyProof.Rows
namespace L2
open PySem PySem.Spec PyProof.Rows
section
variable {X:Cx} {pos:Pos}
def aDU(K:aD)(n:Nat)(t:nY):TG:=λv σ H Q=>∃a xs,v = .ref a/\aj K H a xs/\xs.length=n/\t xs σ H Q
def XO(K:aD){es:List Expr}{k:Nat}{t:nY}{n:Nat}(hc:X.calm=true)(h:uz X es t)(hK:X.K=K:=by rfl)
  (hn:(assignEach es X.env).length=n:=by rfl) (hst:(assignEach es X.env).findIdx? (·.1)=none:=by rfl):PG X (.Tuple es k pos) (aDU K n t):=by
 subst hK;intro pins s σ H v u Q I r hw;intros a xs e1 hq hl hw hw;subst e1;cases r;obtain⟨its,rv,⟨o,n,eo,ec,_,ed⟩,hz⟩:=I.list hq;refine aAb (I.ok.hd hc) {o,eo,ec,n,(ed)} (by simp[hn,<-hl,rv.length]) hst λh' hx=>?_;have I1:Inv X pins σ H { s with heap:=h' }:=I.kept (t':=s.toks) λb o e=>hx b o (gw (cP e)) e;exact h pins _ σ H xs _ Q I1 (by simpa using rv) hw
end
section
variable {X:Cx} {pins:List (Addr×Obj)} {σ:St} {H:Hp} {s:Shared}
end
def ax2:entryFor table "proto.unchain" = some Builtin.«proto.unchain»:=entryFor_of_tree (by kernel_rfl)
structure Quiet(A:Around)(h:Heap):Prop where
 ex:∃x ox vx,A.handled=some (.ref x)/\h.get? x=some ox/\ox.data = .fields vx/\vx[2]?=some .none
section
variable {α:Type} {prog:Program} {w:World} {A:Around} {E:Value->Shared->Prop} {s:Shared}
section
variable {Q:α->Shared->Prop}{it t:Addr}{i:Nat}{items:Array Value}
def atn{a x:Addr}{oa ox:Obj}{va vx:Array Value}(hh:A.handled=some (.ref x))(hx:s.heap.get? x=some ox)(dx:ox.data = .fields vx)(kx:vx[2]?=some .none)
  (ha:s.heap.get? a=some oa) (da:oa.data = .fields va) (sa:2<va.size) (ne:x≠a) (q:E (.ref a) { s with heap:=s.heap.update a (uU (·.setIfInBounds 2 (.ref x))) }):wpAny (model prog w) A (raiseNew (.ref a):Sem α) Q E s:=by
 unfold raiseNew;refine wpAny_bind (wpAny_handled ?_);rw[hh];have e:(Value.ref x != Value.ref a)=true:=by simpa using ne
 show wpAny _ _ (if(Value.ref x != Value.ref a)=true then _ else _) _ _ _;rw[if_pos e];refine wpAny_bind (wpAny_holding (runValue_entry ax2 ?_));show wpAny _ _ (field (.ref x) 2>>=_) _ _ s;refine wpAny_bind (wpAny_field hx dx kx ?_);refine wpAny_pure {(),?_};unfold updateField;refine wpAny_bind (wpAny_bind (wpAny_load ha ?_));rw[da];show wpAny _ _ (if 2<va.size then _ else _) _ _ _;rw[if_pos sa];exact wpAny_update ha (wpAny_throw q)
def aiI(hq:Quiet A s.heap)(q:∀(n:Addr) (h':Heap),(∀b o,s.heap.get? b=some o->h'.get? b=some o)->(∃oe,h'.get? n=some oe/\oe.cls = .type "StopIteration")->E (.ref n) { s with heap:=h' }):
  wpAny (model prog w) A (newExc (.type "StopIteration") []>>=λe=>(raiseNew e:Sem α)) Q E s:=by
 intros x ox vx hh hx dx kx hq.ex;refine wpAny_bind ?_;simp only[newTuple,newExc];refine wpAny_bind (wpAny_newObj_type ?_ (by size_fits));refine wpAny_bind (m:=firstArgMember _ _) (wpAny_of_eq (a:=Value.none) rfl (wpAny_newObj_type ?_ (by size_fits)));generalize eo:({ cls:= .type "StopIteration",dict:=none,data:= .fields _ }:Obj)=oe;generalize et:({ cls:= .type "tuple",dict:=none,data:=_ }:Obj)=ot;have ge:=Heap.get?_push_size (s.heap.push ot) (o:=oe) (by rw[<-eo];rfl);have keep:∀b o,s.heap.get? b=some o->((s.heap.push ot).push oe).get? b=some o:=λb o e=>Heap.get?_push_of_some _ (Heap.get?_push_of_some _ e);have ne:x≠(s.heap.push ot).objs.size:=λz=>by
  have:=cP (Heap.get?_push_of_some ot hx);rw[z]at this;exact j4 _ this
 refine atn hh (keep x ox hx) dx kx ge (by rw[<-eo]) (by show 2<6;decide) ne (q _ _ (λb o e=>?_) ?_)
 .have hb:(s.heap.push ot).objs.size≠b:=λz=>by
   have:=cP (Heap.get?_push_of_some ot e);rw[<-z]at this;exact j4 _ this
  exact(Heap.get?_update_other _ _ hb).trans (keep b o e)
 .exact{_,Heap.get?_update_self _ ge (DM (xM (by rw[<-eo]) _)),(abl ..).trans (by rw[<-eo])}
def aBU{l:Addr}{Q:Option Value->Shared->Prop}(hq:Quiet A s.heap)(ni:∀x,A.handled=some (.ref x)->x≠it)(hit:s.heap.IsListIter it l i)(hl:s.heap.IsList l items)(z0:items[i]?=none)
  (q:∀h',wM it s.heap h'->Q none { s with heap:=h' }):wpAny (model prog w) A (pyNext (.ref it)) Q E s:=by
 obtain⟨u1,u2,u3,u4⟩:=id hit;intros y1 y2 _ y3 y4 hl;unfold pyNext;refine wpAny_bind (wpAny_attempt (wpAny_callSpecial?_slot (name:=Str.ofString "__next__") hit.typeIs slot_listiter_next (wpAny_call_entry slot_listiter_next hit.typeIs entry_listiter_next ?_ (args_listiter_next _))));refine wpAny_bind (m:=field (.ref it) 0) (wpAny_field u2 u4 (x:= .ref l) rfl ?_);refine wpAny_bind (m:=field (.ref it) 1) (wpAny_field u2 u4 (x:= .int i 0) rfl ?_);refine wpAny_bind (m:=seqItems? (.ref l)) (wpAny_seqItems y2 y4 ?_);simp only[z0,gR];refine wpAny_bind (wpAny_rule (wpAny_bind (wpAny_setField u2 u4 (by simp) ?_)));refine aiI (A:=A.in1) ?_ λn h' keep ⟨oe,ge,ce⟩=>?_
 .intros x ox vx hh hx dx kx hq.ex;exact{x,ox,vx,hh,(Heap.get?_update_other _ _ (dw (ni x hh))).trans hx,dx,kx}
 .refine wpAny_bind (wpAny_isInstance (T:= "StopIteration") (b:=true) {oe,ge,(ce)} isSubtype_stop ?_);exact wpAny_pure (q h' λb o hb e=>keep b o ((Heap.get?_update_other _ _ (dw hb)).trans e))
def aMb{Q:Option Value->Shared->Prop}(hq:Quiet A s.heap)(ni:∀x,A.handled=some (.ref x)->x≠it)(hit:IsTupIter s.heap it t i)(ht:IsTup s.heap t items)(z0:items[i]?=none)
  (q:∀h',wM it s.heap h'->Q none { s with heap:=h' }):wpAny (model prog w) A (pyNext (.ref it)) Q E s:=by
 obtain⟨u1,u2,u3,u4⟩:=id hit;intros y1 y2 _ y3 y4 ht;unfold pyNext;refine wpAny_bind (wpAny_attempt (wpAny_callSpecial?_slot (name:=Str.ofString "__next__") hit.typeIs slot_tupleiter_next (wpAny_call_entry slot_tupleiter_next hit.typeIs entry_tupleiter_next ?_ (args_tupleiter_next _))));refine wpAny_bind (m:=field (.ref it) 0) (wpAny_field u2 u4 (x:= .ref t) rfl ?_);refine wpAny_bind (m:=field (.ref it) 1) (wpAny_field u2 u4 (x:= .int i 0) rfl ?_);refine wpAny_bind (m:=seqItems? (.ref t)) (wpAny_seqItems y2 y4 ?_);simp only[z0,gR];refine wpAny_bind (wpAny_rule (wpAny_bind (wpAny_setField u2 u4 (by simp) ?_)));refine aiI (A:=A.in1) ?_ λn h' keep ⟨oe,ge,ce⟩=>?_
 .intros x ox vx hh hx dx kx hq.ex;exact{x,ox,vx,hh,(Heap.get?_update_other _ _ (dw (ni x hh))).trans hx,dx,kx}
 .refine wpAny_bind (wpAny_isInstance (T:= "StopIteration") (b:=true) {oe,ge,(ce)} isSubtype_stop ?_);exact wpAny_pure (q h' λb o hb e=>keep b o ((Heap.get?_update_other _ _ (dw hb)).trans e))
def auS{env:Env}{elts:List Expr}{x1}{pos:Pos}{Q:Unit->Shared->Prop}(hq:Quiet A s.heap)(ht:IsTup s.heap t items)(hn:(assignEach elts env).length=items.size)(hstar:(assignEach elts env).findIdx? (·.1)=none)
  (h:∀h',wM s.heap.objs.size s.heap h'->wpAny (model prog w) A (assignInOrder ((assignEach elts env).map (·.2)) items.toList) Q E { s with heap:=h' }):wpAny (model prog w) A (assign (.Tuple elts x1 pos) env (.ref t)) Q E s:=by
 have hlt:t≠s.heap.objs.size:=by intros o ho _ ht;exact gw (cP ho)
 rw[assign_Tuple];refine wpAny_bind (wpAny_standAt ?_);unfold unpack;rw[hn,hstar];refine wpAny_bind (wpAny_holding ?_);unfold unpackItems notIterableAtAll;refine wpAny_bind (wpAny_bind (wpAny_specialOf ht.typeIs slot_tuple_iter.lookup (wpAny_pure ?_)));simp only[if_false,Gz];refine wpAny_bind (wpAny_holding (iter_tuple ht (wpAny_bind (wpAny_holding (draw_tuple hlt items.size 0 _ _ {_,Heap.get?_push_size _ rfl,rfl,rfl} (ht.push _) ⋯ λh₁ hit₁ hs₁=>?_)))));rw[show List.take items.size (List.drop 0 items.toList)=items.toList by rw[Br];exact yP (by simp),if_neg (by simp)];have keep:∀b o,b≠s.heap.objs.size->s.heap.get? b=some o->h₁.get? b=some o:=λb o hb e=>hs₁.extBut b o hb (Heap.get?_push_of_some _ e);intros x ox vx hh hx dx kx hq.ex;have nx:x≠s.heap.objs.size:=gw (cP hx);refine wpAny_bind (wpAny_holding (aMb {x,ox,vx,hh,keep x ox nx hx,dx,kx} (λy hy=>by rw[hh]at hy;cases hy;exact nx) hit₁ ((ht.push _).extBut hs₁.extBut hlt) (by simp) λh₂ he₂=>?_));simp only[if_false,Gz,alv];exact wpAny_pure (h h₂ λb o hb e=>he₂ b o hb (keep b o hb e))
end
end
def QX(X:Cx):Prop:=∃x ob u,X.A.handled=some (.ref x)/\X.H₀ x=some (.fO ob u)/\Cd ob
section
variable {X:Cx} {pins:List (Addr×Obj)} {σ:St} {H:Hp} {s:Shared}
def QX.now(q:QX X)(I:Inv X pins σ H s):Quiet X.A s.heap/\∀x,X.A.handled=some (.ref x)->H x≠none:=by
 intros x ob u hh hx vs d k q;have h1:=I.base.iC x ob u hx;refine{{x,ob,vs,hh,(show eO X.prog X.w H s.heap x (.fO ob u)from I.hok x _ h1).1,d,k},λy hy=>?_};rw[hh]at hy;cases hy;rw[h1];exactλz=>nomatch z
def QX.up(q:QX X){sc:Scope}{N:List Str}(cl:List (Str×Addr))(C:Addr)(fp:List Addr)(I:Inv X pins σ H s):QX (dR X sc N cl C s H fp):=by
 intros x ob u hh hx c q;exact{x,ob,u,hh,I.base.iC x ob u hx,c}
end
section
variable {X:Cx} (K:aD)
def aRE{es:List Expr}{k:Nat}{t:nY}{n:Nat}{pos:Pos}(hc:QX X)(h:uz X es t)(hK:X.K=K:=by rfl)
  (hn:(assignEach es X.env).length=n:=by rfl) (hst:(assignEach es X.env).findIdx? (·.1)=none:=by rfl):PG X (.Tuple es k pos) (Nu K n t):=by
 subst hK;intro pins s σ H v u Q I r hw;intros a xs e1 hq hl hw hw;subst e1;cases r;obtain⟨its,rv,ht,hz⟩:=I.tuple hq;refine auS (hc.now I).1 ht (by simp[hn,<-hl,rv.length]) hst λh' hx=>?_;exact h pins _ σ H xs _ Q (I.kept (t':=s.toks) λb o e=>hx b o (gw (cP e)) e) (by simpa using rv) hw
def aC9{P:Program}{w:World}{K:aD}{tg:Expr}(a it:Addr):Turn P w K tg (uW K a) [it] it (λi h=>h.IsListIter it a i) QX where
 mem:=by simp
 obj:=(MN (P:=P) (w:=w) (K:=K) (tg:=tg) a it).obj
 keep:=(MN (P:=P) (w:=w) (K:=K) (tg:=tg) a it).keep
 item:=by
  intro X e1 e2 e3 hc i pins s σ H E I hf st ⟨xs,x,hq,hx⟩;subst e1 e2 e3;obtain⟨its,rv,p,hz⟩:=I.list hq;obtain⟨u,hu,ru⟩:=rv.get hx;obtain⟨f0,f1,f2,f3,f4,f5⟩:=hf it (by simp);refine wpAny_pyNext_list_item st p.isList (x:=u) (by simpa using hu) λh' st' sb=>?_;obtain⟨o,e,c,d⟩:=id st';exact{u,rfl,vf (s:={ s with heap:=h' }) e c d ∅ {x,H,I.turned (t':=s.toks) (λb o hb e=>(sb.2 b hb).trans e) f0 f1 f3 f4 f5,ru,{rfl,λys hy=>by rw[I.Mv hy hq];exact hx},st',λb hb=>(hf b hb).1}}
 done:=by
  intro X e1 e2 e3 hc i pins s σ H E I hf st ⟨xs,hq,hx⟩;subst e1 e2 e3;obtain⟨its,rv,p,hz⟩:=I.list hq;obtain⟨f0,f1,f2,f3,f4,f5⟩:=hf it (by simp);have hl:=rv.length;obtain⟨q1,q2⟩:=hc.now I;exact aBU q1 (λy hy z=>q2 y hy (by rw[z];exact f0)) st p.isList (by simp;lia) λh' eb=>{rfl,I.turned (t':=s.toks) (λb o hb e=>eb b o hb e) f0 f1 f3 f4 f5}
 self:=(MN (P:=P) (w:=w) (K:=K) (tg:=tg) a it).self
def auw(K:aD)(tl:TE):TI:=λσ H R=>tl σ H λx H1=>∃a,x = .ref a/\(∃xs,aj K H1 a xs)/\R (uW K a) H1
def aCc{tg l:Expr}{tl:TE}(hl:PE X l tl)(hK:X.K=K:=by rfl):Ft QX X tg l (auw K tl):=by
 subst hK;intro pins s σ H R I h;refine aR (hl pins s σ H _ I h) λv s1 ⟨x,H1,I1,r1,a,e,⟨xs,hq⟩,q⟩=>?_;subst e;cases r1;obtain⟨its,rv,p,hz⟩:=I1.list hq;refine wpAny_pyIter_list p.isList ?_;refine{s1.heap.objs.size,[s1.heap.objs.size],_,_,H1,rfl,I1.kept (t':=s1.toks) λb o e=>Heap.get?_push_of_some _ e,aC9 a _,{_,Heap.get?_push_size _ rfl,rfl,rfl},λb hb=>?_,q};obtain rfl:b=s1.heap.objs.size:=by simpa using hb
 exact I1.mL (bK _) (I1.hok.fresh (bK _))
end
section
variable {X:Cx}{pos:Pos}{N ps:List Str}{P:Program}{w:World}{K:aD}{mg:Str->Option Value}{x:Str}{k:Nat}{sp:Sp}{a:Addr}
def ayA{i:Nat}{y:Str}{py spos:Pos}{tg iter elt:Expr}{ifs:List Expr}{scope sc:Scope}{wi:TI}{g:TG}{tc:TT}{te:TE}{ix:List (Option Nat)}(hN:X.N.Nodup)(hi':X.N[i]?=some y)(hx:Loc X.env.scope y)
  (O:vA X scope sc N ix) (hc:QX X) (hi:Ft QX X tg iter wi)
  (hb:∀cl C s₀ H₀ ex,QX (dR X sc N cl C s₀ H₀ ex)->PG (dR X sc N cl C s₀ H₀ ex) tg g/\qF (dR X sc N cl C s₀ H₀ ex) ifs tc/\PE (dR X sc N cl C s₀ H₀ ex) elt te)
  (hs:∀x,foldedSetIterable iter X.env x=pure x:=by intro _;rfl) (hsw:swapsWith (.ListComp elt [{tg,iter,ifs,(0)}] scope pos) (some (.Name y py)) spos.line X.env=pure true:=by rfl)
  (hf:X.fn y=true∨X.env.scope.names.lookup y=some .local:=by first|exact .inl rfl|exact .inr rfl|assumption):
  PS X (.Assign [.Name y py] (.ListComp elt [{tg,iter,ifs,(0)}] scope pos) spos) (v8 (vV ix wi g tc te) (iw i)):=
 Pk (cm:=QX) (wx:=λ_ _ _ _ _ _ _=>False) hN hi' hx O hc (λcl C fp I=>hc.up cl C fp I) hi hb (λ_ _ _ _ _ _ _ _ z=>z.elim) hs hsw hf
structure agu(k:Nat)(A:Around)(x:Addr):Prop where
 hd:A.handled=some (.ref x)
 dp:A.depth+3*k+105<recursionLimit
structure aPI(P:Program)(w:World)(K:aD)(mg:Str->Option Value)(base:Heap)(k:Nat)(f:Addr)(fd:FuncData)(ps:List Str)(sp:Sp):Prop where
 len:∀vs H Q E,sp vs H Q E->vs.length=ps.length
 run:∀(A:Around) (outer:List Env) (s:Shared) (H:Hp) (args:Args) (us:List Value) (vs:List V) (Q:VK) (x:Addr) (ob:Obj) (u:HO),agu k A x->H x=some (.fO ob u)->Cd ob->uE P w K mg base A outer s H->BindsTo s fd args (ps.zip us)->Vals vs us->sp vs H Q E0->
  codeAny (model P w) A (.call (.ref f) args) (CR (iI P w) outer P w H s Q E0) s
abbrev cxQ(P:Program)(w:World)(K:aD)(mg:Str->Option Value)(base:Heap)(N:List Str)(qual:Str)(scope:Scope)(f:Addr)(cdv:Value)(A:Around)(outer:List Env)(s:Shared)(H:Hp):Cx:=Cx.pK { dI P w K mg base N qual scope f cdv A outer s H E0 with calm:=false }
structure OB(P:Program)(w:World)(K:aD)(mg:Str->Option Value)(base:Heap)(x:Str)(k:Nat)(ps:List Str)(sp:Sp):Prop where
 ex:∃(g:Addr) (gd:FuncData),mg x=some (.ref g)/\lU K (.ref g)=true/\Binds K gd ps []/\aPI P w K mg base k g gd ps sp
def Fn.aDN{base:Heap}{st:Stmt}(F:Fn K mg x st ps)(S:aK N ps (aC st))(len:∀vs H Q E,sp vs H Q E->vs.length=ps.length)
  (hbody:∀(f:Addr) (cdv:Value) (A:Around) (outer:List Env) (s:Shared) (H:Hp) (vs:List V) (Q:VK),QX (cxQ P w K mg base N x (aC st) f cdv A outer s H)->sp vs H Q E0->
   ∃t,iT (cxQ P w K mg base N x (aC st) f cdv A outer s H) (gG st) t/\t { nx:=λ_ H'=>Q .non H',rt:=Q } (start N vs) H):OB P w K mg base x (k+1) ps sp:=by
 intros f fd F m b F.ex;have hkp:=F.kp;intros oc od kV doc pm an cdv ct osl rfl lk hcd F.ex;refine{f,_,m,hkp,b,len,λA outer s H args us vs Q x0 ob u hr hx hcm e0 hb r hsp=>?_};have keep:∀b o,base.get? b=some o->s.heap.get? b=some o:=λb o e=>(e0.bs b o e).1;have KX:K.In s.heap:=e0.mod.tZ.keeps keep;have hkind:∀y∈ps.zip us,(aC st).names.lookup y.1=some .local∨((aC st).names.lookup y.1=some .cell/\((cellsFrom (s.heap.objs.size+1) (aC st).names []).lookup y.1).isSome=true):=λ⟨n,v⟩ hy=>
  (S.par n (K7 hy).1).imp id λz=>{z,Zy _ _ _ (.inl z)}
 refine codeAny_call_function (by have:=hr.dp;lia) (KX _ _ lk) rfl S.co S.gen rfl (W.codeRec_of KX hcd) (hb _ _ _ _ (wpAny_newFunctionEnv_cells S.kind hkind λenv he s1 x1=>?_));subst he;refine{(e0.mod.nolimit.keeps keep).keeps x1.toInCall.keep,codeAny_func ?_};obtain⟨t,ht,hq⟩:=hbody f cdv A outer s H vs Q {x0,ob,u,hr.hd,hx,(hcm)} hsp;have I:=(aep (CX:=iI P w) (E:=E0) (cb:=false) S (λz=>nomatch z) e0 (len _ _ _ _ hsp) r x1).wish λ_ _=>False;refine wpAny_mono (ht [] s1 (start N vs) H _ I hq) (λfl s' hs=>?_) λe s' hs=>hs.elim;cases fl with
 |ret u=>
  intros v σ' H' J rv q hs;exact{v,H',J.os,J.bare,J.base,J.hok,rv,(q)}
 |next=>
  intros σ' H' J q hs;exact{.non,H',J.os,J.bare,J.base,J.hok,rfl,q}
 |brk=>intros _ _ _ q hs;exact False.elim q
 |cont=>intros _ _ _ q hs;exact False.elim q
def aI5(a:Addr)(sp:Sp)(t:TA):TE:=λσ H Q=>t σ H λvs H1=>∃ob u,H1 a=some (.fO ob u)/\Cd ob/\sp vs H1 Q E0
def azD{k':Nat}{p:Pos}{e:Expr}{es:List Expr}{t:TA}(C:OB X.prog X.w X.K X.mg X.base x k ps sp)(hr:cT k' X.A)(hg:Gl (pU X a) x)(ha:PA (pU X a) (e::es) t)
  (hk:k<=k':=by decide) (hd:(x==("__debug__" : Str))=false:=by decide)
  (he:starEach (e::es) X.env=(false,eval e X.env)::starEach es X.env:=by rfl) (hpl:(backTo pos (starEach es X.env)).any (·.1)=false:=by rfl):PE (pU X a) (.Call (.Name x p) (e::es) [] pos) (aI5 a sp t):=by
 intros g gd hm hkp hb F C.ex;intro pins s σ H Q I h;refine wpAny_Call_Name_kw (oE I hg hm ?_ hd);refine Ar (h₀:=X.base) I.ok.mod.tZ hkp (aR (ha pos pins s σ H _ I h) λus s1 ⟨vs,H1,I1,r,ob,u,h1,h2,q⟩=>{I1.dj,?_}) he hpl;have hl:(us++[]).length=ps.length:=by rw[qC,<-r.length];exact F.len _ _ _ _ q
 have hroom:agu k (pU X a).A a:={rfl,by have:=hr.dp;show X.A.depth+3*k+105<_;lia};refine wpAny_call (codeAny_mono (F.run _ X.stack s1 H1 {us,([])} (us++[]) vs Q a ob u hroom h1 h2 I1.env0 (hb s1 us I1.dj hl) (by rw[qC];exact r) q) λrs s2 hq=>?_);cases rs with
 |ok fl=>
  cases fl with
  |ret u=>exact I1.after hq
  |next=>exact False.elim hq
  |brk=>exact False.elim hq
  |cont=>exact False.elim hq
 |error ev=>exact(Qd hq).elim
def sY:Value->Str | .str s _=>s|_=>Str.empty
def B5:Value->Nat | .str _ t=>t|_=>0
structure KD(w:World)(K:aD)(mg:Str->Option Value)(x:Str)(a:Addr):Prop where
 ex:∃es ep,K.lookup a=some {.type "dict",none,.dict {(es)} ep,#[]}/\es.map (λe=>({Cq w.params (sY e.key),.str (sY e.key) (B5 e.key),e.val}:DictEntry))=es
 ns:(a==sysModules)=false
 mg:mg x=some (.ref a)
def Cg(D:KD w K mg x a){h:Heap}(X:K.In h):∃f,Heap.MapOf (gZ P w) h a f/\∀s o,bI K a s=some o->f (.inr s)=o:=by
 intros es ep hl hk D.ex;refine{findBy qO {(es)},{_,_,_,X a _ hl,{rfl,rfl,(rfl)},rfl,λe he=>?_,λ_=>rfl},λs o ho=>?_}
 .have he':e∈es:=by simpa using he
  rw[<-hk]at he';obtain⟨e0,_,rfl⟩:=fM.mp he';exact{.inr (sY e0.key),amz _ (B5 e0.key),rfl}
 .unfold bI at ho;rw[hl]at ho;unfold findBy;rw[show(({(es)}:Array DictEntry).find? λe=>qO (.inr s) e.key)=es.find? λe=>qO (.inr s) e.key by simp];have ef:(es.find? λe=>qO (.inr s) e.key)=es.find? λe=>e.key.isStr s:=by
   congr 1
   funext e
   show Value.isStrOf s e.key=e.key.isStr s;cases e.key<;>rfl
  rw[ef];cases z:es.find? λe=>e.key.isStr s with
  |some e=>simp only[z]at ho;cases ho;rfl
  |none=>
   simp only[z]at ho;split at ho
   .cases ho
   .cases ho;rfl
end
section
variable {X:Cx} {i:Expr} {ty:TE} {p pos:Pos} {x:Str} {a:Addr}
def ac7{w:World}{K:aD}{mg:Str->Option Value}(D:KD w K mg x a){s:Shared}(X:K.In s.heap):s.TypeIs (.ref a) "dict" := by
 obtain⟨f,m,_⟩:=Cg (P:=default) D X;exact m.typeIs
def afB(K:aD)(a:Addr)(ty:TE):TE:=λσ H Q=>ty σ H λy H1=>∃s v,y = .str s/\bI K a s=some (some (.ref v))/\Q (.ref v) H1
def aGG{K:aD}(D:KD X.w X.K X.mg x a)(hg:Gl X x)(hi:PE X i ty)(hK:X.K=K)(hs:Cr i)(hd:(x==("__debug__" : Str))=false):PE X (.Subscript (.Name x p) i pos) (afB K a ty):=by
 subst hK;intro pins s σ H Q I h;refine Xw UW.lookup hs (oE I hg D.mg (aR (hi pins s σ H _ I h) λiv s2 ⟨y,H2,I2,ry,k,v,ey,hv,q⟩=>?_) hd);subst ey;obtain⟨t,rfl⟩:=(show ∃t,iv=Value.str k t from ry);obtain⟨f,m,hf⟩:=Cg (P:=X.prog) D I2.dj;exact{ac7 D I2.dj,wpAny_getItem_of (Ep _ _ k t) m (hf k _ hv) {.ref v,H2,I2.tok _,rfl,q}}
def avs(D:KD X.w X.K X.mg x a)(K:aD)(hg:Gl X x)(hi:PE X i ty)(hs:Cr i)(hK:X.K=K:=by rfl)(hd:(x==("__debug__" : Str))=false:=by decide):PE X (.Subscript (.Name x p) i pos) (afB K a ty):=aGG D hg hi hK hs hd
def aeR(K:aD)(a:Addr)(g:Bool->Bool)(ty:TE):TE:=λσ H Q=>ty σ H λy H1=>∃s o,y = .str s/\bI K a s=some o/\Q (.bl (g o.isSome)) H1
def amq(D:KD X.w X.K X.mg x a)(K:aD)(hg:Gl X x)(hi:PE X i ty)(hK:X.K=K:=by rfl)(hd:(x==("__debug__" : Str))=false:=by decide):PC X .In i (.Name x p) (aeR K a id ty):=by
 subst hK;intro pins s σ H Q I h;refine aR (hi pins s σ H _ I h) λiv s1 ⟨y,H1,I1,ry,k,o,ey,ho,q⟩=>oE I1 hg D.mg ?_ hd;subst ey;obtain⟨t,rfl⟩:=(show ∃t,iv=Value.str k t from ry);obtain⟨f,m,hf⟩:=Cg (P:=X.prog) D I1.dj;refine wpAny_in_of (Ep _ _ k t) D.ns m ?_;rw[hf k o ho];exact{.bl _,H1,I1.tok _,rfl,q}
def atX(D:KD X.w X.K X.mg x a)(K:aD)(hg:Gl X x)(hi:PE X i ty)(hK:X.K=K:=by rfl)(hd:(x==("__debug__" : Str))=false:=by decide):PC X .NotIn i (.Name x p) (aeR K a not ty):=by
 subst hK;intro pins s σ H Q I h;refine aR (hi pins s σ H _ I h) λiv s1 ⟨y,H1,I1,ry,k,o,ey,ho,q⟩=>oE I1 hg D.mg ?_ hd;subst ey;obtain⟨t,rfl⟩:=(show ∃t,iv=Value.str k t from ry);obtain⟨f,m,hf⟩:=Cg (P:=X.prog) D I1.dj;refine wpAny_notIn_of (Ep _ _ k t) D.ns m ?_;rw[hf k o ho];exact{.bl _,H1,I1.tok _,rfl,q}
end
def agO(P:Program)(w:World)(K:aD)(mg:Str->Option Value)(base:Heap)(a:Addr)(k:Nat)(ps:List Str)(T:List (Str×Str))(sp:Str->Sp):Prop:=
 ∀s∈T.map (·.1),∃g gd,bI K a s=some (some (.ref g))/\lU K (.ref g)=true/\Binds K gd ps []/\jh P w K mg base (iI P w) k g gd ps (sp s)
section
variable {P:Program} {w:World} {K:aD} {mg:Str->Option Value} {base:Heap} {a:Addr} {k:Nat} {ps:List Str} {sp:Str->Sp}
structure Kz(K:aD)(mg:Str->Option Value)(a:Addr)(T:List (Str×Str)):Prop where
 at_:∀p∈T,∀g,mg p.2=some (.ref g)->bI K a p.1=some (some (.ref g))
 is_:∀s∈T.map (·.1),∃v,bI K a s=some (some v)
def aj7{h:Heap}(X:K.In h)(G:h.Ns mainGlobals mg){T:List (Str×Str)}(e:T.map (λp=>bI K a p.1)=T.map λp=>bI K mainGlobals p.2)(hs:(T.all λp=>match bI K a p.1 with|some (some _)=>true|_=>false)=true):Kz K mg a T:=by
 have some_:∀p∈T,∃v,bI K a p.1=some (some v):=λp hp=>by
  have h1:=gK.mp hs p hp;cases z:bI K a p.1 with
  |none=>rw[z]at h1;cases h1
  |some o=>
   cases o with
   |none=>rw[z]at h1;cases h1
   |some v=>exact{v,(rfl)}
 refine{λp hp g hg=>?_,λs hs=>?_}
 .obtain⟨v,z⟩:=some_ p hp;have e1:bI K a p.1=bI K mainGlobals p.2:=List.map_inj_left.mp e p hp;have:=fG X G (e1.symm.trans z);rw[this]at hg;cases hg;exact z
 .obtain⟨p,hp,rfl⟩:=fM.mp hs;exact some_ p hp
def d7(P:Program)(w:World)(K:aD)(mg:Str->Option Value)(base:Heap)(k:Nat)(ps:List Str)(T:List (Str×Str))(sp:Str->Sp):Prop:=∀p∈T,∃j,j<=k/\kJ P w K mg base p.2 j ps (sp p.1)
def d7.nil:d7 P w K mg base k ps [] sp:=λ_ h=>nomatch h
def d7.cons{j:Nat}{s f:Str}{T:List (Str×Str)}(C:kJ P w K mg base f j ps (sp s))(r:d7 P w K mg base k ps T sp)(hk:j<=k:=by decide):d7 P w K mg base k ps ((s,f)::T) sp:=λp hp=>by
 rcases dz.mp hp with rfl|hp
 .exact{j,hk,(C)}
 .exact r p hp
def d7.of{T:List (Str×Str)}(F:Kz K mg a T)(C:d7 P w K mg base k ps T sp):agO P w K mg base a k ps T sp:=λs hs=>by
 obtain⟨p,hp,rfl⟩:=fM.mp hs;obtain⟨j,hk,C⟩:=C p hp;intros g gd m c d e C.ex;exact{g,gd,F.at_ p hp g m,c,d,e.mono hk}
structure MK(K:aD)(a:Addr)(l:List Str):Prop where
 at_:∀s∈l,bI K a s=some none
def abf{l:List Str}(h:(l.all λs=>match bI K a s with|some none=>true|_=>false)=true):MK K a l:={λs hs=>by
 have h1:=gK.mp h s hs;cases z:bI K a s with
 |none=>rw[z]at h1;cases h1
 |some o=>
  cases o with
  |none=>rfl
  |some v=>rw[z]at h1;cases h1}
def uZ:List Value->Option (List Str)
 |[]=>some []
 |.str s _::r=>(uZ r).map (s :: ·)
 |_=>none
theorem ao9:∀{l:List Value} {xs:List Str},uZ l=some xs->Vals (xs.map V.str) l
 |[],_,h=>by cases h;exact .nil
 |v::r,xs,h=>by
  cases v<;>first|cases h|skip
  rename_i s t
  cases z:uZ r with
  |none=>rw[show uZ (.str s t::r)=(uZ r).map (s :: ·)from rfl,z]at h;cases h
  |some ys=>
   rw[show uZ (.str s t::r)=(uZ r).map (s :: ·)from rfl,z]at h;cases h;exact .cons {t,(rfl)} (ao9 z)
structure KDT(K:aD)(a:Addr)(T:List (Str×List Str)):Prop where
 at_:∀p∈T,∃t,bI K a p.1=some (some (.ref t))/\∀H,aq K H t (p.2.map V.str)
def U0(K:aD)(a:Addr)(p:Str×List Str):Bool:=match bI K a p.1 with
 |some (some (.ref t))=>match K.lookup t with
  |some ⟨.type "tuple",_,.seq its _,_⟩=>decide (uZ its.toList=some p.2)&&decide (its.size<=1000)
  |_=>false
 |_=>false
def aPQ{T:List (Str×List Str)}(h:T.all (U0 K a)=true):KDT K a T:={λp hp=>by
 have h1:=gK.mp h p hp;unfold U0 at h1;split at h1
 .rename_i t e
  split at h1
  .rename_i its n sl e2
   rw[cW,decide_eq_true_eq,decide_eq_true_eq]at h1;exact{t,e,λH=> .inr {_,its,_,e2,rfl,rfl,eV h1.2 (by rw[sizeLine_eq];decide),ao9 h1.1}}
  .cases h1
 .cases h1}
def atp(T:List (Str×Str))(sp:Str->Sp)(E:XK)(ty:TE)(t:TA):TE:=λσ H Q=>ty σ H λy H1=>∃s,y = .str s/\s∈T.map (·.1)/\t σ H1 λvs H2=>sp s vs H2 Q E
def adB{N:List Str}{qual:Str}{scope:Scope}{f:Addr}{cdv:Value}{A:Around}{outer:List Env}{s₀:Shared}{H₀:Hp}{E:XK}{x:Str}{T:List (Str×Str)}{i e:Expr}{es:List Expr}{p p' pos:Pos}{ty:TE}{t:TA}
  (D:KD w K mg x a) (C:agO P w K mg base a k ps T sp) (hr:cT k (dI P w K mg base N qual scope f cdv A outer s₀ H₀ E).A) (hg:Gl (dI P w K mg base N qual scope f cdv A outer s₀ H₀ E) x) (hi:PE (dI P w K mg base N qual scope f cdv A outer s₀ H₀ E) i ty) (hs:Cr i) (ha:PA (dI P w K mg base N qual scope f cdv A outer s₀ H₀ E) (e::es) t)
  (hd:(x==("__debug__" : Str))=false:=by decide)
  (he:starEach (e::es) (dI P w K mg base N qual scope f cdv A outer s₀ H₀ E).env=(false,eval e (dI P w K mg base N qual scope f cdv A outer s₀ H₀ E).env)::starEach es (dI P w K mg base N qual scope f cdv A outer s₀ H₀ E).env:=by rfl) (hpl:(backTo pos (starEach es (dI P w K mg base N qual scope f cdv A outer s₀ H₀ E).env)).any (·.1)=false:=by rfl):
  PE (dI P w K mg base N qual scope f cdv A outer s₀ H₀ E) (.Call (.Subscript (.Name x p) i p') (e::es) [] pos) (atp T sp E ty t):=by
 intro pins s σ H Q I h;show wpAny _ _ (do
  let fv<-eval (.Subscript (.Name x p) i p') (dI P w K mg base N qual scope f cdv A outer s₀ H₀ E).env
  callWith pos fv [] (backTo pos (starEach (e::es) (dI P w K mg base N qual scope f cdv A outer s₀ H₀ E).env)) (backToKw pos (keywordEach [] (dI P w K mg base N qual scope f cdv A outer s₀ H₀ E).env))) _ _ s
 refine wpAny_bind (Xw UW.lookup hs (oE I hg D.mg (aR (hi pins s σ H _ I h) λiv s2 ⟨y,H2,I2,ry,z,ey,hz,q⟩=>?_) hd));subst ey;obtain⟨u,rfl⟩:=(show ∃u,iv=Value.str z u from ry);obtain⟨g,gd,hv,hkp,hb,F⟩:=C z hz;obtain⟨m,hm,hf⟩:=Cg (P:=P) D I2.dj;refine{ac7 D I2.dj,wpAny_getItem_of (Ep _ _ z u) hm (hf z _ hv) ?_};refine Ar (h₀:=base) I.ok.mod.tZ hkp (aR (ha pos pins _ σ H2 _ (I2.tok _) q) λus s3 ⟨vs,H3,I3,r,q3⟩=>{I3.dj,?_}) he hpl;refine DV F hr hb .nil ajM I3 r ?_;rw[qC];exact q3
end
structure su(K:aD)(C:Addr)(m qual:Str)(st:Stmt)(ps:List Str):Prop where
 ex:∃(f:Addr) (fd:FuncData),qj K m qual st f fd/\Meth K C m f/\Binds K fd ps []
structure yX(P:Program)(w:World)(K:aD)(mg:Str->Option Value)(base:Heap)(C:Addr)(m:Str)(k:Nat)(ps:List Str)(sp:Sp):Prop where
 ex:∃(f:Addr) (fd:FuncData),Meth K C m f/\Binds K fd ps []/\jh P w K mg base (iI P w) k f fd ps sp
section
variable {P:Program} {w:World} {K:aD} {mg:Str->Option Value} {base:Heap} {C:Addr} {m qual:Str} {st:Stmt} {ps:List Str}
def su.cH{N:List Str}{k:Nat}{sp:Sp}(F:su K C m qual st ps)(S:aK N ps (aC st))(len:∀vs H Q E,sp vs H Q E->vs.length=ps.length)
  (hbody:∀(f:Addr) (cdv:Value) (A:Around) (outer:List Env) (s:Shared) (H:Hp) (vs:List V) (Q:VK) (E:XK),cT k (A.deeper (envOfC qual (aC st) s.heap.objs.size f cdv))->sp vs H Q E->
   ∃t,iT (dI P w K mg base N qual (aC st) f cdv A outer s H E) (gG st) t/\t { nx:=λ_ H'=>Q .non H',rt:=Q } (start N vs) H):yX P w K mg base C m (k+1) ps sp:=by
 intros f fd F m b F.ex;exact{f,fd,m,b,F.U3 S len λcdv A outer s H vs Q E hr h=>hbody f cdv A outer s H vs Q E hr h}
def su.cal{N:List Str}{k:Nat}{sp:Sp}(F:su K C m qual st ps)(S:aK N ps (aC st))(len:∀vs H Q E,sp vs H Q E->vs.length=ps.length)
  (hbody:∀(f:Addr) (cdv:Value) (A:Around) (outer:List Env) (s:Shared) (H:Hp) (vs:List V) (Q:VK) (E:XK),cT k (A.deeper (envOfC qual (aC st) s.heap.objs.size f cdv))->sp vs H Q E->
   ∃t,iT (dI P w K mg base N qual (aC st) f cdv A outer s H E).pK (gG st) t/\t { nx:=λ_ H'=>Q .non H',rt:=Q } (start N vs) H):yX P w K mg base C m (k+1) ps sp:=
 F.cH S len λf cdv A outer s H vs Q E hr h=>let⟨t,a,b⟩:=hbody f cdv A outer s H vs Q E hr h;{t,a.pK,(b)}
def aPa{f:Addr}{oc:Value}{od:Option Addr}{kV doc pm:Value}{an:Option Addr}{cdv ct:Value}{sl:Array (Option Value)}(a:dF K (.ref C) m=some (some (.ref f)))(i:W.isFn K (.ref f)=true)
  (l:K.lookup f=some {oc,od,.func (mO m qual (jH st) (gG st) (aC st) .none kV doc pm an cdv ct),sl}) (c:Ak K cdv qual=true) (k:lU K (.ref f)=true)
  (hb:∀(us:List Value),us.length=ps.length->bindArgs (mO m qual (jH st) (gG st) (aC st) .none kV doc pm an cdv ct) {us,([])}=pure (ps.zip us):=by
   intro us hl;first
    |(obtain⟨_,rfl⟩:=L2.Ph hl;rfl)
    |(obtain⟨_,_,rfl⟩:=L2.XF hl;rfl)):su K C m qual st ps:=
 {f,_,ab7 (st:=st) l c k,{a,i,(k)},.all hb}
structure ClM(K:aD)(mg:Str->Option Value)(x:Str)(C:Addr):Prop where
 cl:Cls K C
 makes:K9 K C=true
 kp:lU K (.ref C)=true
 mg:mg x=some (.ref C)
end
section
variable {X:Cx} {C:Addr} {sp:Sp}
def aN9{x:Str}{k k':Nat}{p pos:Pos}(M:ClM X.K X.mg x C)(I:yX X.prog X.w X.K X.mg X.base C "__init__" k ["self"] sp)(hr:cT k' X.A)(hg:Gl X x)(hk:k+1<=k':=by decide)(hdb:(x==("__debug__" : Str))=false:=by decide):PE X (.Call (.Name x p) [] [] pos) (aqH C sp [] E0 pJ):=by
 intros f fd m b F I.ex;exact awC {M.makes,m.at_,m.fn,(M.kp)} F (hr.mono hk) hg M.mg b .nil Je hdb
def aSs{m:Str}{k k':Nat}{ps:List Str}{o e:Expr}{es:List Expr}{ta:TE}{t:TA}{apos pos:Pos}{pl:Sem Bool}(c:Cls X.K C)(M:yX X.prog X.w X.K X.mg X.base C m k ps sp)(hr:cT k' X.A)(ho:PE X.pK o ta)(ha:PA X.pK (e::es) t)(hk:k<=k':=by decide)
  (hst:starEach (e::es) X.env=(false,eval e X.env)::starEach es X.env:=by rfl) (hpl:(backTo pos (starEach es X.env)).any (·.1)=false:=by rfl)
  (ht:eval (.Call (.Attribute o m apos) (e::es) [] pos) X.env=(do
   let ov<-eval o X.env
   standAt apos.atName
   let(f,first)<-holding [ov] (getMethod ov m pl)
   callWith pos f first (backTo pos (starEach (e::es) X.env)) (backToKw pos (keywordEach [] X.env))):=by rfl):
  PT2 X (.Call (.Attribute o m apos) (e::es) [] pos) (λσ H Q E=>ta σ H λx H1=>∃a dx fs,x = .ref a/\H1 a=some (.ins C dx fs)/\fs.lookup m=none/\t σ H1 λvs H2=>sp (x::vs) H2 Q E):=by
 intro pins s σ H Q E I h;intros f fd hm b F M.ex;refine W.methodCall_KW (pl:=pl) (wpAny_mono (ho pins s σ H _ (I.wish _) h) (λu s1 ⟨x,H1,I1,rx,a,dx,fs,ex,ea,l,q⟩=>?_) λ_ _ z=>z.elim) ht;subst ex;obtain rfl:u=Value.ref a:=rx;refine aPJ I1.nM ea c hm l ?_;refine Ar (first:=[.ref a]) (h₀:=X.base) I.ok.mod.tZ hm.kp (wpAny_mono (ha pos pins s1 σ H1 _ I1 q) (λus s2 ⟨vs,H2,I2,r,q2⟩=>{I2.dj,?_}) λ_ _ z=>z.elim) hst hpl
 exact aD0 (us:= .ref a::us) (vs:= .ref a::vs) F (hr.mono hk) b I2.nM (.cons rfl r) q2
end
section
variable {X:Cx}{M:Model}{p:Pos}{s s':Shared}{n:Nat}
def UN(K:aD){e:Expr}{f:Str}{pos:Pos}{ta:TE}(he:PE X e ta)(hb:attributeBase e f X.env (eval e X.env)=eval e X.env)(hK:X.K=K:=by rfl):PE X (.Attribute e f pos) (aez K ta f):=by subst hK;exact aNQ he hb
def aJo:cQ X (binaryOp .Mult) (λx y H Q=>∃(i:Str) (k:Nat),x = .int (k:Int)/\y = .str i/\2<=k/\k<=1000/\1<=i.length/\i.length<=1000/\Q (.str {(aX k i.cps).foldl (·++·) #[]}) H):=by
 intro pins s σ H x y v u Q I rx ry h;intros i k rfl rfl h1 h2 h3 h4 q h;obtain⟨t,rfl⟩:=(show ∃t,v=Value.int (k:Int) t from rx);obtain⟨t',rfl⟩:=(show ∃t,u=Value.str i t from ry);have hm:i.length*k<=1000*1000:=Jp h4 h2;have e:((k:Int)==1||i.length==0)=false:=by
  rw[aot,beq_eq_false_iff_ne,beq_eq_false_iff_ne];exact{⋯,⋯}
 refine lm_binaryOp_repeat_right (T:= "str") (U:= "int") ∅ (λs'=>typeIs_int s' _ t) (typeIs_str s i t') Zf noFill_str_mul akg lm_noRepeat_int repeat_str Qn.lookup
  (call_gives akg (typeIs_int s _ t) F.entry_int_mul (F.args_int_mul_2 _ _) (AutoIntG3.int___mul___int_str_0 _ t i t')
   {rfl,typeIs_str s i t',call_gives F.slot_str_mul (typeIs_str s i t') F.entry_str_mul (F.args_str_mul_2 _ _) (gives_str_mul i (k:Int) t' t (by rw[decide_eq_false ⋯,decide_eq_false ⋯];rfl) (λ_ _=>?_) (λ_ _=>?_)) ?_})
 .have:(1000:Int)<=(2^63-1)/(k:Int):=(af9 ⋯).mpr ⋯;lia
 .unfold ajQ sizeLine;rw[gR];exact decide_eq_false ⋯
 .rw[if_neg ⋯,if_neg (by rw[e];exact fu),gR];refine{?_,{.str _,H,I.tok _,{()},q}};show tE _<=sizeLine;have hz:∀(n:Nat) (a:Array Nat),((aX n i.cps).foldl (·++·) a).size=a.size+n*i.cps.size:=by
   intro n;induction n with
   |zero=>intro a;simp
   |succ n ih=>
    intro a;rw[mU,vo,ih,Dj,QH];lia
  have e2:sizeLine=16777216:=∅;have:=hz k #[];show((aX k i.cps).foldl (·++·) #[]).size<=sizeLine;rw[this,e2,Ho];have:i.cps.size=i.length:=rfl;rw[this];have e3:(#[]:Array Nat).size=0:=rfl;lia
def Ov{Γ:Ti}{t:Sem Fin}{fs:List Frame}{e:End}(h:Runs M Γ p t fs s e s'):s.toks<=s'.toks:=by
 induction h<;>first|exact bK _|assumption|(exact eV (Nat.le_succ _) (by assumption))|(exact eV (by assumption) (by assumption))
def azi{Γ:Ti}{g:Nat}{r:Resume}{res:GenResult}(h:Wakes M Γ p g r s res s'):s.toks<=s'.toks:=by
 unfold Wakes at h;split at h
 .exact h.elim
 .split at h
  .intros _ _ hr _ _ rfl h;have:=Ov hr;exact this
  .rw[h.2];exact bK _
  .rw[h.2];exact bK _
 .intros _ _ hr _ _ rfl h;have:=Ov hr;exact this
 .rw[h.2];exact bK _
 .rw[h.2];exact bK _
def wp_toks{α:Type}{Γ:Ti}{Q:α->Pos->Shared->Prop}{E:Value->Pos->Shared->Prop}(t:Sem α):
  ∀(p:Pos) (s:Shared),n<=s.toks->Sem.wp M Γ t Q E p s->Sem.wp M Γ t (λa p' s'=>Q a p' s'/\n<=s'.toks) E p s:=by
 induction t with
 |pure a=>intro p s hn h;exact{h,(hn)}
 |raise e=>intro p s hn h;exact h
 |unsupported w=>intro p s hn h;exact h
 |finish e=>intro p s hn h;exact h
 |rule t k ih=>intro p s hn h;exact ih _ p s hn h
 |«at» p' k ih=>intro p s hn h;exact ih _ p' s hn h
 |load a q k ih=>intro p s hn h;exact h.elim λo ho=>{o,ho.1,ih _ p s hn ho.2}
 |update a q f k ih=>intro p s hn h;exact{h.1,ih _ p _ hn h.2}
 |alloc o k ih=>intro p s hn h;exact ih _ p _ hn h
 |loadIfAlive a k ih=>intro p s hn h;exact ih _ p s hn h
 |point l k ih=>intro p s hn h;exact ih _ p s hn h
 |register a k ih=>intro p s hn h;exact h
 |fresh k ih=>intro p s hn h;exact ih _ p _ (Nat.le_succ_of_le hn) h
 |ask k ih=>intro p s hn h;exact ih _ p s hn h
 |choose src m k ih=>intro p s hn h;exact{h.1,ih _ p _ hn h.2}
 |os q l k ih=>intro p s hn h;exact ih _ p _ hn h
 |call c hd g l k ih=>intro p s hn h;exact h.elim λr h=>h.elim λs1 h=>{r,s1,h.1,ih r p s1 (eV hn (Ov h.1)) h.2}
 |handled own k ih=>intro p s hn h;exact ih _ p s hn h
 |newGen c k ih=>intro p s hn h;exact ih _ p _ hn h
 |genState g k ih=>intro p s hn h;exact h.elim λst h=>{st,h.1,ih _ p s hn h.2}
 |resume g r l k ih=>intro p s hn h;exact h.elim λr h=>h.elim λs1 h=>{r,s1,h.1,ih r p s1 (eV hn (azi h.1)) h.2}
 |«yield» v g l k ih=>intro p s hn h;exact h
 |stack k ih=>intro p s hn h;exact ih _ p s hn h
 |fork c k ih=>intro p s hn h;exact h
 |thread k ih=>intro p s hn h;exact ih _ p s hn h
 |await a t d l k ih=>intro p s hn h;exact h
def wpAny_toks{α:Type}{A:Around}{t:Sem α}{Q:α->Shared->Prop}{E:Value->Shared->Prop}(hn:n<=s.toks)(h:wpAny M A t Q E s):wpAny M A t (λa s'=>Q a s'/\n<=s'.toks) E s:=
 λΓ p hΓ=>wp_toks t p s hn (h Γ p hΓ)
def Mj(X:Cx)(e:Expr)(t:TE):Prop:=
 ∀(pins:List (Addr×Obj)) (s:Shared) (σ:St) (H:Hp) (Q:VK),Inv X pins σ H s->t σ H Q->wpAny (model X.prog X.w) X.A (eval e X.env) (λu s'=>EP X pins σ Q u s'/\1<=s'.toks) X.xe s
end
section
variable {X:Cx} {pos:Pos}
def aCe{a b:Expr}{ta tb:TE}(ha:PE X a ta)(hb:PE X b tb):Mj X (.BinOp a .Mod b pos) (oY (rI (λ_ j=>0<j) λi j=> .int (i%j)) ta tb):=by
 intro pins s σ H Q I h;refine wpAny_BinOp (Js ha hb I h λv u s2 x y H2 I2 rx ry q=>?_);intros i j rfl rfl hc q q;intros t rfl rx;intros t' rfl ry;have h1:(0:Int)<j:=hc;refine mod_int' ⋯ ?_;rw[aew i ⋯];exact{{.int (i%j),H2,I2.tok _,{()},q},Nat.succ_le_succ (fJ _)}
def aOf{a b:Expr}{ta tb:TE}{r:R2}(hr:kj X r)(ha:PE X a ta)(hb:Mj X b tb)(hs:Qv b):Mj X (.Subscript a b pos) (oY r ta tb):=by
 intro pins s σ H Q I h;refine Subscript_ (aR (ha pins s σ H _ I h) λv s1 ⟨x,H1,I1,r1,q1⟩=>aR (hb pins s1 σ H1 _ I1 q1) λu s2 ⟨⟨y,H2,I2,r2,q2⟩,hp⟩=>?_);exact wpAny_toks hp (hr a b pins s2 σ H2 x y v u Q I2 r1 r2 q2 (hs _ _))
def aCl{K:aD}{h:Heap}{a:Addr}{m:Str->Option Value}{x:Str}(k:K.In h)(g:h.Ns a m)(e:bI K a x=some none):m x=none:=by
 intros ob es ep h1 h2 _ h4 g;rw[<-h4];unfold bI at e;cases q:K.lookup a with
 |none=>rw[q]at e;cases e
 |some o2=>
  have z:=k a o2 q;rw[h1]at z;cases z;rw[q]at e;intros c d dt sl ob;cases h2;dsimp only at e;cases f:es.toList.find? λu=>u.key.isStr x with
  |some u=>rw[f]at e;cases e
  |none=>
   unfold nsFind findBy;rw[<-Array.find?_toList,f];rfl
def arp(y z0:Str)(to tz:TE):TE:=λσ H Q=>to σ H λx H1=>∃w:Str,x = .str w/\w.length<=1000/\tz σ H1 λz H2=>∃n:Str,z = .str n/\1<=z0.length/\1<=n.length/\z0.length+n.length<=1000/\Q (.str (Txt.replace w y (z0++n))) H2
def aMc{o ze:Expr}{to tz:TE}{y z0:Str}{j1 j2:Nat}{p1 p2 p4 apos cpos:Pos}(hbk:bI X.K cStatics sharingNotToldKey=some none)(ho:Mj X o to)(hz:PE X ze tz)
  (hbase:attributeBase o "replace" X.env (eval o X.env)=eval o X.env:=by rfl)
  (hfew:((backTo cpos (starEach [.Constant (.str y) j1 p1,.BinOp (.Constant (.str z0) j2 p2) .Add ze p4] X.env)).all (λx=>!x.1)&&(backToKw cpos (keywordEach [] X.env)).all (λx=>x.1.isSome)
   && decide (([.Constant (.str y) j1 p1,.BinOp (.Constant (.str z0) j2 p2) .Add ze p4]:List Expr).length+([]:List Keyword).length+(if([]:List Keyword).isEmpty then 0 else 1)<30))=true:=by rfl)
  (hline:(apos.endLine==cpos.line)=true:=by rfl) (hs:starEach [.Constant (.str y) j1 p1,.BinOp (.Constant (.str z0) j2 p2) .Add ze p4] X.env=[(false,eval (.Constant (.str y) j1 p1) X.env),(false,eval (.BinOp (.Constant (.str z0) j2 p2) .Add ze p4) X.env)]:=by rfl):
  PE X (.Call (.Attribute o "replace" apos) [.Constant (.str y) j1 p1,.BinOp (.Constant (.str z0) j2 p2) .Add ze p4] [] cpos) (arp y z0 to tz):=by
 intro pins s σ H Q I h;refine wpAny_Call_method_late hbase hfew hline rfl (aR (ho pins s σ H _ I h) λv s1 ⟨⟨x,H1,I1,r1,q1⟩,hp1⟩=>?_);intros w rfl hw q q1;intros t rfl r1;refine{"str","str.replace",m6,F.slot_str_replace,F.type_str_replace,typeIs_str _ _ _,(λ_ e=>nomatch e),?_};rw[hs];refine GD (by rfl) (Jg ?_);show wpAny _ _ (spliced ((false,eval (.Constant (.str y) j1 p1) X.env)::(false,_)::[])) _ _ s1;refine wQ (YZ ?_);refine wQ ?_;refine wpAny_BinOp (YZ (aR (wpAny_toks (n:=s1.toks+1+1) (bK _) (hz pins _ σ H1 _ ((I1.tok _).tok _) q)) λu s3 ⟨⟨z,H2,I2,r2,n,ez,hz0,hn,hl,q⟩,hp3⟩=>?_));subst ez;intros t2 rfl r2;refine P.add_str ?_;rw[if_neg (by rw[beq_iff_eq];lia),if_neg (by rw[beq_iff_eq];lia)];refine{?_,Hg ?_}
 .show(z0.cps++n.cps).size<=sizeLine;rw[Dj];have e2:sizeLine=16777216:=∅;have:z0.cps.size=z0.length:=rfl;have:n.cps.size=n.length:=rfl;lia
 have lz:(z0++n).length<=1000:=by
  show(z0.cps++n.cps).size<=1000;rw[Dj];exact hl
 obtain⟨mc,m1,_⟩:=I2.ok.mod.digits.keeps I2.bk;have n1:s1.toks≠0:=⋯;have n2:s3.toks≠0:=⋯;have n3:s1.toks≠s3.toks:=⋯;refine SC.replaceA n1 n2 n3 ?_ (λt' k=>{.str _,H2,(I2.tok _).tok k,{()},q}) {mc,m1,aCl I2.dj m1 hbk};have:(w.length+1)*(z0++n).length<=1001*1000:=Jp ⋯ lz;lia
def u9:cQ X (binaryOp .Mult) (λx y H Q=>∃(i:Str) (k:Nat),x = .str i/\y = .int (k:Int)/\2<=k/\k<=5000/\1<=i.length/\i.length<=1000/\Q (.str {(aX k i.cps).foldl (·++·) #[]}) H):=by
 intro pins s σ H x y v u Q I rx ry h;intros i k rfl rfl h1 h2 h3 h4 q h;intros t rfl rx;intros t' rfl ry;have hm:i.length*k<=1000*5000:=Jp h4 h2;have e:((k:Int)==1||i.length==0)=false:=by
  rw[aot,beq_eq_false_iff_ne,beq_eq_false_iff_ne];exact{⋯,⋯}
 refine P.mul_str (by rw[decide_eq_false ⋯,decide_eq_false ⋯];rfl) (λ_ _=>?_) (λ_ _=>?_) ?_
 .have:(1000:Int)<=(2^63-1)/(k:Int):=(af9 ⋯).mpr ⋯;lia
 .unfold ajQ sizeLine;rw[gR];exact decide_eq_false ⋯
 .rw[if_neg ⋯,if_neg (by rw[e];exact fu),gR];refine{?_,{.str _,H,I.tok _,{()},q}};show tE _<=sizeLine;have hz:∀(n:Nat) (a:Array Nat),((aX n i.cps).foldl (·++·) a).size=a.size+n*i.cps.size:=by
   intro n;induction n with
   |zero=>intro a;simp
   |succ n ih=>
    intro a;rw[mU,vo,ih,Dj,QH];lia
  have e2:sizeLine=16777216:=∅;have:=hz k #[];show((aX k i.cps).foldl (·++·) #[]).size<=sizeLine;rw[this,e2,Ho];have:i.cps.size=i.length:=rfl;rw[this];have e3:(#[]:Array Nat).size=0:=rfl;lia
def aqV(mg:Str->Option Value)(T:List (Str×Str))(sp:Str->Sp)(tv:TE)(t:TA):TE:=λσ H Q=>tv σ H λv H1=>∃p∈T,(∃g,mg p.2=some (.ref g)/\v = .ref g)/\t σ H1 λvs H2=>sp p.1 vs H2 Q E0
def aO0{mg:Str->Option Value}{T:List (Str×Str)}{sp:Str->Sp}{k:Nat}{ps:List Str}{fe ie e:Expr}{es:List Expr}{p' pos:Pos}{tv:TE}{t:TA}(C:d7 X.prog X.w X.K mg X.base k ps T sp)(hr:cT k X.A)(hv:PE X (.Subscript fe ie p') tv)(ha:PA X (e::es) t)
  (hmg:X.mg=mg:=by rfl) (he:starEach (e::es) X.env=(false,eval e X.env)::starEach es X.env:=by rfl) (hpl:(backTo pos (starEach es X.env)).any (·.1)=false:=by rfl):PE X (.Call (.Subscript fe ie p') (e::es) [] pos) (aqV mg T sp tv t):=by
 subst hmg;intro pins s σ H Q I h;show wpAny _ _ (do
  let fv<-eval (.Subscript fe ie p') X.env
  callWith pos fv [] (backTo pos (starEach (e::es) X.env)) (backToKw pos (keywordEach [] X.env))) _ _ s
 refine wpAny_bind (aR (hv pins s σ H _ I h) λu s1 ⟨v,H1,I1,r,p,hp,⟨g',hm',ev⟩,q⟩=>?_);subst ev;obtain rfl:u=Value.ref g':=r;obtain⟨j,hk,C⟩:=C p hp;intros g gd hm hkp hb F C.ex;rw[hm]at hm';cases hm';refine Ar (h₀:=X.base) I1.ok.mod.tZ hkp (aR (ha pos pins s1 σ H1 _ I1 q) λus s2 ⟨vs,H2,I2,r2,q2⟩=>{I2.dj,?_}) he hpl;refine DV F (hr.mono hk) hb .nil Je I2 r2 ?_;rw[qC];exact q2
end
def j5(t:Bool)(h:Heap)(it l:Addr)(i:Nat):Prop:=∃o,h.get? it=some o/\o.cls = .type (if t then "tuple_iterator" else "list_iterator")/\o.data = .fields #[.ref l,.int i 0]
def jw(t:Bool)(h:Heap)(l:Addr)(items:Array Value):Prop:=∃o,h.get? l=some o/\o.cls = .type (if t then "tuple" else "list")/\∃n,o.data = .seq items n
def j5.at{t:Bool}{h h':Heap}{it l:Addr}{i:Nat}(x:j5 t h it l i)(e:∀o,h.get? it=some o->h'.get? it=some o):j5 t h' it l i:=let⟨o,ho,r⟩:=x;{o,e o ho,r}
def jw.at{t:Bool}{h h':Heap}{l:Addr}{xs:Array Value}(x:jw t h l xs)(e:∀o,h.get? l=some o->h'.get? l=some o):jw t h' l xs:=let⟨o,ho,r⟩:=x;{o,e o ho,r}
section
variable {prog:Program} {w:World} {A:Around} {E:Value->Shared->Prop} {s:Shared}
section
variable {t t1 t2:Bool}{it l z TI TO i1 i2 l1 l2:Addr}{i k1 k2:Nat}{items xs ys:Array Value}{x y a b:Value}{Q:Value->Shared->Prop}
def aco(h1:j5 t s.heap it l i)(h2:jw t s.heap l items)(hx:items[i]?=some x)
  (k:∀h',j5 t h' it l (i+1)->uN it s.heap h'->Q x { s with heap:=h' }):wpAny (model prog w) A (Builtin.SmallTypes.nextOf (.ref it)) Q E s:=by
 cases t with
 |false=>exact wpAny_nextOf_list_item h1 h2 hx k
 |true=>
  obtain⟨o,ho,hc,hd⟩:=id h1;obtain⟨ol,hol,_,nl,hdl⟩:=id h2;have ty:s.TypeIs (.ref it) "tuple_iterator" := {o,ho,(hc)};unfold Builtin.SmallTypes.nextOf;refine wpAny_bind (wpAny_callSpecial?_slot (name:=Str.ofString "__next__") ty Nk (wpAny_call_entry Nk ty aqw ?_ (ahr _)));show wpAny _ _ (field (.ref it) 0>>=_) _ _ s;refine wpAny_bind (wpAny_field ho hd (x:=Value.ref l) rfl ?_);show wpAny _ _ (if(Value.ref l==Value.none)=true then _ else _) _ _ s;rw[if_neg (show ¬((Value.ref l==Value.none)=true)fromλq=>fu q)];refine wpAny_bind (wpAny_field ho hd (x:=Value.int i 0) rfl ?_);refine wpAny_bind (wpAny_seqItems hol hdl (Q:=_) ?_);simp only[hx,gR];refine wpAny_bind (wpAny_setField ho hd (by simp) (wpAny_pure {x,rfl,wpAny_pure (k _ {_,Heap.get?_update_self _ ho (DM (xM hd _)),?_,?_} (aha ..))}))
  .exact(abl ..).trans hc
  .rw[xM hd];simp[rawInt]
def anc(hh:A.handled=none)(h1:j5 t s.heap it l i)(h2:jw t s.heap l items)(hx:items[i]?=none)
  (k:∀h' e,wM it s.heap h'->(∃o,h'.get? e=some o/\o.cls = .type "StopIteration")->E (.ref e) { s with heap:=h' }):wpAny (model prog w) A (Builtin.SmallTypes.nextOf (.ref it)) Q E s:=by
 cases t with
 |false=>exact wpAny_nextOf_list_end hh h1 h2 hx k
 |true=>
  obtain⟨o,ho,hc,hd⟩:=id h1;obtain⟨ol,hol,_,nl,hdl⟩:=id h2;have ty:s.TypeIs (.ref it) "tuple_iterator" := {o,ho,(hc)};unfold Builtin.SmallTypes.nextOf;refine wpAny_bind (wpAny_callSpecial?_slot (name:=Str.ofString "__next__") ty Nk (wpAny_call_entry Nk ty aqw ?_ (ahr _)));show wpAny _ _ (field (.ref it) 0>>=_) _ _ s;refine wpAny_bind (wpAny_field ho hd (x:=Value.ref l) rfl ?_);show wpAny _ _ (if(Value.ref l==Value.none)=true then _ else _) _ _ s;rw[if_neg (show ¬((Value.ref l==Value.none)=true)fromλq=>fu q)];refine wpAny_bind (wpAny_field ho hd (x:=Value.int i 0) rfl ?_);refine wpAny_bind (wpAny_seqItems hol hdl (Q:=_) ?_);simp only[hx,gR];refine wpAny_bind (wpAny_rule (wpAny_bind (wpAny_setField ho hd (by simp) (Q:=_) ?_)));show wpAny _ _ (newExc (.type "StopIteration") []>>=_) _ _ _;refine wpAny_bind ?_;simp only[newTuple,newExc];refine wpAny_bind (wpAny_newObj_type (Q:=_) ?_ (by size_fits));refine wpAny_bind (m:=firstArgMember _ _) (wpAny_of_eq (a:=Value.none) (by first|rfl|(simp only[firstArgMember];done)) ?_)
  refine wpAny_newObj_type (Q:=_) ?_ (by size_fits);simp only[raiseNew];refine wpAny_bind (wpAny_handled (Q:=_) ?_);first|rw[hh]|rw[show A.in1.handled=Yh from hh]
  refine wpAny_bind (wpAny_pure (wpAny_throw (k _ _ (((aha ..).extBut.push _).push _) {_,Heap.get?_push_size _ rfl,rfl})))
structure Apart(z TI TO i1 i2 l1 l2:Addr):Prop where
 own:[z,TI,TO,i1,i2].Nodup
 aSH:l1∉[z,TI,TO,i1,i2]
 aSG:l2∉[z,TI,TO,i1,i2]
def Apart.ne(D:Apart z TI TO i1 i2 l1 l2):
  (TI≠z/\TO≠z/\i1≠z/\i2≠z)/\(TI≠TO/\TI≠i1/\TI≠i2)/\(TO≠i1/\TO≠i2/\i1≠i2)/\(l1≠z/\l1≠TO/\l1≠i1/\l1≠i2)/\(l2≠z/\l2≠TO/\l2≠i1/\l2≠i2):=by
 intros a b c D;simp only[yL,dz,iY,or_false,not_or,List.nodup_nil,and_true,not_false_eq_true]at a b c;obtain⟨⟨a1,a2,a3,a4⟩,⟨a5,a6,a7⟩,⟨a8,a9⟩,a10⟩:=a;exact{{dw a1,dw a2,dw a3,dw a4},{a5,a6,(a7)},{a8,a9,(a10)},{b.1,b.2.2.1,b.2.2.2.1,(b.2.2.2.2)},{c.1,c.2.2.1,c.2.2.2.1,(c.2.2.2.2)}}
def asr(D:Apart z TI TO i1 i2 l1 l2)
  (hz:IsZip s.heap z TI TO .none) (hI:IsPair s.heap TI (.ref i1) (.ref i2)) (hO:IsPair s.heap TO a b)
  (h1:j5 t1 s.heap i1 l1 k1) (h2:j5 t2 s.heap i2 l2 k2) (q1:jw t1 s.heap l1 xs) (q2:jw t2 s.heap l2 ys) (hx:xs[k1]?=some x) (hy:ys[k2]?=some y)
  (k:∀h',IsZip h' z TI TO (rawInt s.heap.objs.size)->IsPair h' TO x y->j5 t1 h' i1 l1 (k1+1)->j5 t2 h' i2 l2 (k2+1)->IsPair h' s.heap.objs.size x y->
   (∀c o,c∉[z,TO,i1,i2]->s.heap.get? c=some o->h'.get? c=some o)->Q (.ref s.heap.objs.size) { s with heap:=h' }):
  wpAny (model prog w) A (Builtin.«zip.__next__» {[.ref z],[]}) (λfin s'=>∃v,fin = .done (.ret v)/\Q v s') E s:=by
 obtain⟨⟨DP,sX,qg,uO⟩,⟨Sq,WQ,Px⟩,⟨Cj,Gg,MJ⟩,⟨Lb,aCM,e11,e12⟩,⟨e2z,aaj,e21,e22⟩⟩:=D.ne;show wpAny _ _ (field (.ref z) 2>>=_) _ _ _;refine wpAny_bind (wpAny_field hz rfl (x:=Value.bool false) rfl ?_);show wpAny _ _ (field (.ref z) 3>>=_) _ _ _;refine wpAny_bind (wpAny_field hz rfl (x:=Value.ref TI) rfl ?_);refine wpAny_bind (wpAny_seqItems hI rfl (Q:=_) ?_);show wpAny _ _ (Builtin.SmallTypes.ownedTupleIsFree (.ref z)>>=_) _ _ _;refine wpAny_bind ?_;unfold Builtin.SmallTypes.ownedTupleIsFree;refine wpAny_bind (wpAny_field hz rfl (x:=Value.none) rfl (wpAny_pure (Q:=_) ?_));simp only[if_true];refine wpAny_bind (wpAny_rule (Q:=_) ?_);refine wpAny_bind (wpAny_field hz rfl (x:=Value.ref TO) rfl ?_);refine wpAny_bind (wpAny_setField_rec hz (by simp) λg1 z1 m1=>?_);replace z1:IsZip g1 z TI TO .ellipsis:=z1;refine wpAny_bind ?_;simp only[HZ,apo,aed,al2];refine wpAny_bind (wpAny_bind (wpAny_onRaise (Q:=_) ?_));show wpAny _ _ (Builtin.SmallTypes.nextOf (.ref i1)>>=_) _ _ _;refine wpAny_bind (aco (h1.at λo e=>m1.extBut _ _ qg e) (q1.at λo e=>m1.extBut _ _ Lb e) hx λg2 n2 m2=>wpAny_pure (Q:=_) ?_);have O2:IsPair g2 TO a b:=m2.extBut _ _ Cj (m1.extBut _ _ sX hO);refine wpAny_bind (wpAny_seqItems O2 rfl (Q:=_) ?_);refine wpAny_bind (wpAny_updateSeq_pair O2 λg3 O3 m3=>?_);replace O3:IsPair g3 TO x b:=O3;refine wpAny_bind (wpAny_letGo (wpAny_pure (Q:=_) ?_));refine wpAny_bind (wpAny_bind (wpAny_onRaise (Q:=_) ?_));show wpAny _ _ (Builtin.SmallTypes.nextOf (.ref i2)>>=_) _ _ _;refine wpAny_bind (aco (h2.at λo e=>m3.extBut _ _ (dw Gg) (m2.extBut _ _ (dw MJ) (m1.extBut _ _ uO e))) (q2.at λo e=>m3.extBut _ _ aaj (m2.extBut _ _ e21 (m1.extBut _ _ e2z e))) hy λg4 n4 m4=>wpAny_pure (Q:=_) ?_);have O4:IsPair g4 TO x b:=m4.extBut _ _ Gg O3;refine wpAny_bind (wpAny_seqItems O4 rfl (Q:=_) ?_);refine wpAny_bind (wpAny_updateSeq_pair O4 λg5 O5 m5=>?_);replace O5:IsPair g5 TO x y:=O5;refine wpAny_bind (wpAny_letGo (wpAny_pure (wpAny_pure (Q:=_) ?_)));refine wpAny_bind (wpAny_seqItems O5 rfl (Q:=_) ?_);refine wpAny_bind (wpAny_newTuple (Q:=_) ?_);have sz:g5.objs.size=s.heap.objs.size:=by rw[m5.1,m4.1,m3.1,m2.1,m1.1]
 have Z5:IsZip g5 z TI TO .ellipsis:=m5.extBut _ _ (dw sX) (m4.extBut _ _ (dw uO) (m3.extBut _ _ (dw sX) (m2.extBut _ _ (dw qg) z1)));have N1:j5 t1 g5 i1 l1 (k1+1):=n2.at λo e=>m5.extBut _ _ (dw Cj) (m4.extBut _ _ MJ (m3.extBut _ _ (dw Cj) e));have N2:j5 t2 g5 i2 l2 (k2+1):=n4.at λo e=>m5.extBut _ _ (dw Gg) e;have K5:∀c o,c∉[z,TO,i1,i2]->s.heap.get? c=some o->g5.get? c=some o:=λc o hc e=>by
  simp only[dz,iY,or_false,not_or]at hc;intros c1 c2 c3 c4 hc;exact m5.extBut _ _ c2 (m4.extBut _ _ c4 (m3.extBut _ _ c2 (m2.extBut _ _ c3 (m1.extBut _ _ c1 e))))
 have zl:z<g5.objs.size:=cP Z5;show wpAny _ _ (Builtin.SmallTypes.ownedTupleHandOut (.ref z) (.ref g5.objs.size)>>=_) _ _ _;refine wpAny_bind ?_;unfold Builtin.SmallTypes.ownedTupleHandOut;have Z6:IsZip (g5.push { cls:= .type "tuple",data:= .seq #[x,y] }) z TI TO .ellipsis:=Heap.get?_push_of_some _ Z5;refine wpAny_bind (wpAny_setField_rec Z6 (by simp) λg7 Z7 m7=>?_);replace Z7:IsZip g7 z TI TO (rawInt g5.objs.size):=Z7;refine wpAny_setField_rec Z7 (by simp) λg8 Z8 m8=>?_;replace Z8:IsZip g8 z TI TO (rawInt g5.objs.size):=Z8;have up:∀c o,c≠z->g5.get? c=some o->g8.get? c=some o:=λc o c1 e=>m8.extBut _ _ c1 (m7.extBut _ _ c1 (Heap.get?_push_of_some _ e));have T8:IsPair g8 g5.objs.size x y:=m8.extBut _ _ (Lh zl) (m7.extBut _ _ (Lh zl) (Heap.get?_push_size _ rfl));rw[sz]at Z8 T8;refine wpAny_pure {(),?_};show Q (.ref g5.objs.size) _;rw[sz];exact k g8 Z8 (up _ _ sX O5) (N1.at λo e=>up _ o qg e) (N2.at λo e=>up _ o uO e) T8 λc o hc e=>up c o (λq=>hc (by simp[q])) (K5 c o hc e)
def aNZ{Q:Fin->Shared->Prop}(hh:A.handled=none)(D:Apart z TI TO i1 i2 l1 l2)
  (hz:IsZip s.heap z TI TO .none) (hI:IsPair s.heap TI (.ref i1) (.ref i2)) (hO:IsPair s.heap TO a b)
  (h1:j5 t1 s.heap i1 l1 k1) (h2:j5 t2 s.heap i2 l2 k2) (q1:jw t1 s.heap l1 xs) (q2:jw t2 s.heap l2 ys) (he:ys[k2]?=none∨xs[k1]?=none)
  (k:∀h' e,(∀c o,c∉[z,TO,i1,i2]->s.heap.get? c=some o->h'.get? c=some o)->(∃o,h'.get? e=some o/\o.cls = .type "StopIteration")->E (.ref e) { s with heap:=h' }):
  wpAny (model prog w) A (Builtin.«zip.__next__» {[.ref z],[]}) Q E s:=by
 obtain⟨⟨DP,sX,qg,uO⟩,⟨Sq,WQ,Px⟩,⟨Cj,Gg,MJ⟩,⟨Lb,aCM,e11,e12⟩,⟨e2z,aaj,e21,e22⟩⟩:=D.ne;have far:∀{c:Addr},c∉[z,TO,i1,i2]->c≠z/\c≠TO/\c≠i1/\c≠i2:=λhc=>by simpa only[dz,iY,or_false,not_or]using hc
 show wpAny _ _ (field (.ref z) 2>>=_) _ _ _;refine wpAny_bind (wpAny_field hz rfl (x:=Value.bool false) rfl ?_);show wpAny _ _ (field (.ref z) 3>>=_) _ _ _;refine wpAny_bind (wpAny_field hz rfl (x:=Value.ref TI) rfl ?_);refine wpAny_bind (wpAny_seqItems hI rfl (Q:=_) ?_);show wpAny _ _ (Builtin.SmallTypes.ownedTupleIsFree (.ref z)>>=_) _ _ _;refine wpAny_bind ?_;unfold Builtin.SmallTypes.ownedTupleIsFree;refine wpAny_bind (wpAny_field hz rfl (x:=Value.none) rfl (wpAny_pure (Q:=_) ?_));simp only[if_true];refine wpAny_bind (wpAny_rule (Q:=_) ?_);refine wpAny_bind (wpAny_field hz rfl (x:=Value.ref TO) rfl ?_);refine wpAny_bind (wpAny_setField_rec hz (by simp) λg1 z1 m1=>?_);replace z1:IsZip g1 z TI TO .ellipsis:=z1;refine wpAny_bind ?_;simp only[HZ,apo,aed,al2];refine wpAny_bind (wpAny_bind (wpAny_onRaise (Q:=_) ?_));show wpAny _ _ (Builtin.SmallTypes.nextOf (.ref i1)>>=_) _ _ _;cases hx:xs[k1]? with
 |none=>
  refine wpAny_bind (anc hh (h1.at λo e=>m1.extBut _ _ qg e) (q1.at λo e=>m1.extBut _ _ Lb e) hx λg2 e m2 ⟨u,hu,cu⟩=>?_);have z2:IsZip g2 z TI TO .ellipsis:=m2 _ _ (dw qg) z1;have ez:e≠z:=λq=>by subst q;rw[z2]at hu;cases hu;simp at cu
  exact wpAny_setField_rec z2 (by simp) λg3 _ m3=>k g3 e (λc o hc q=>let⟨c1,_,c3,_⟩:=far hc;m3.extBut _ _ c1 (m2 _ _ c3 (m1.extBut _ _ c1 q))) {u,m3.extBut _ _ ez hu,cu}
 |some x=>
  have hy:ys[k2]?=none:=he.elim id λq=>by rw[hx]at q;cases q
  refine wpAny_bind (aco (h1.at λo e=>m1.extBut _ _ qg e) (q1.at λo e=>m1.extBut _ _ Lb e) hx λg2 n2 m2=>wpAny_pure (Q:=_) ?_);have O2:IsPair g2 TO a b:=m2.extBut _ _ Cj (m1.extBut _ _ sX hO);refine wpAny_bind (wpAny_seqItems O2 rfl (Q:=_) ?_);refine wpAny_bind (wpAny_updateSeq_pair O2 λg3 O3 m3=>?_);refine wpAny_bind (wpAny_letGo (wpAny_pure (Q:=_) ?_));refine wpAny_bind (wpAny_bind (wpAny_onRaise (Q:=_) ?_));show wpAny _ _ (Builtin.SmallTypes.nextOf (.ref i2)>>=_) _ _ _;refine wpAny_bind (anc hh (h2.at λo e=>m3.extBut _ _ (dw Gg) (m2.extBut _ _ (dw MJ) (m1.extBut _ _ uO e))) (q2.at λo e=>m3.extBut _ _ aaj (m2.extBut _ _ e21 (m1.extBut _ _ e2z e))) hy λg4 e m4 ⟨u,hu,cu⟩=>?_);have z4:IsZip g4 z TI TO .ellipsis:=m4 _ _ (dw uO) (m3.extBut _ _ (dw sX) (m2.extBut _ _ (dw qg) z1));have ez:e≠z:=λq=>by subst q;rw[z4]at hu;cases hu;simp at cu
  exact wpAny_setField_rec z4 (by simp) λg5 _ m5=>k g5 e (λc o hc q=>let⟨c1,c2,c3,c4⟩:=far hc;m5.extBut _ _ c1 (m4 _ _ c4 (m3.extBut _ _ c2 (m2.extBut _ _ c3 (m1.extBut _ _ c1 q))))) {u,m5.extBut _ _ ez hu,cu}
structure Ia(t1 t2:Bool)(z TI TO i1 i2 l1 l2:Addr)(i:Nat)(h:Heap)(f0:Value):Prop where
 zz:IsZip h z TI TO f0
 ti:IsPair h TI (.ref i1) (.ref i2)
 to:∃a b,IsPair h TO a b
 w1:j5 t1 h i1 l1 i
 w2:j5 t2 h i2 l2 i
def asf{Q:Option Value->Shared->Prop}(D:Apart z TI TO i1 i2 l1 l2)(Z:Ia t1 t2 z TI TO i1 i2 l1 l2 i s.heap .none)
  (q1:jw t1 s.heap l1 xs) (q2:jw t2 s.heap l2 ys) (hx:xs[i]?=some x) (hy:ys[i]?=some y)
  (k:∀h',Ia t1 t2 z TI TO i1 i2 l1 l2 (i+1) h' (rawInt s.heap.objs.size)->IsPair h' s.heap.objs.size x y->(∀c o,c∉[z,TO,i1,i2]->s.heap.get? c=some o->h'.get? c=some o)->Q (some (.ref s.heap.objs.size)) { s with heap:=h' }):
  wpAny (model prog w) A (pyNext (.ref z)) Q E s:=by
 obtain⟨zz,ti,⟨a,b,to⟩,w1,w2⟩:=Z;have ty:s.TypeIs (.ref z) "zip" := {_,zz,rfl};obtain⟨⟨DP,_,_,_⟩,⟨Sq,WQ,Px⟩,_⟩:=D.ne;unfold pyNext;refine wpAny_bind (wpAny_attempt (wpAny_callSpecial?_slot (name:=Str.ofString "__next__") ty Lz (wpAny_call_entry Lz ty akU ?_ (aey _))));exact asr D zz ti to w1 w2 q1 q2 hx hy λh' b1 b2 b3 b4 b5 b6=>wpAny_pure (k h' {b1,b6 _ _ (by simp[DP,Sq,WQ,Px]) ti,{_,_,b2},b3,b4} b5 b6)
def aCm{Q:Option Value->Shared->Prop}(hh:A.handled=none)(D:Apart z TI TO i1 i2 l1 l2)(Z:Ia t1 t2 z TI TO i1 i2 l1 l2 i s.heap .none)
  (q1:jw t1 s.heap l1 xs) (q2:jw t2 s.heap l2 ys) (he:ys[i]?=none∨xs[i]?=none)
  (k:∀h',(∀c o,c∉[z,TO,i1,i2]->s.heap.get? c=some o->h'.get? c=some o)->Q none { s with heap:=h' }):wpAny (model prog w) A (pyNext (.ref z)) Q E s:=by
 obtain⟨zz,ti,⟨a,b,to⟩,w1,w2⟩:=Z;have ty:s.TypeIs (.ref z) "zip" := {_,zz,rfl};unfold pyNext;refine wpAny_bind (wpAny_attempt (wpAny_callSpecial?_slot (name:=Str.ofString "__next__") ty Lz (wpAny_call_entry Lz ty akU ?_ (aey _))));refine aNZ hh D zz ti to w1 w2 q1 q2 he λh' e b1 ⟨u,hu,cu⟩=>?_;exact wpAny_bind (wpAny_isInstance (T:= "StopIteration") (b:=true) {u,hu,(cu)} isSubtype_stop (wpAny_pure (k _ b1)))
abbrev zA(t1:Bool)(h:Heap)(l1:Addr):Heap:=h.push { cls:= .type (if t1 then "tuple_iterator" else "list_iterator"),data:= .fields #[.ref l1,.int 0 0] }
abbrev zB(t1 t2:Bool)(h:Heap)(l1 l2:Addr):Heap:=zA t2 (zA t1 h l1) l2
abbrev zC(t1 t2:Bool)(h:Heap)(l1 l2:Addr):Heap:=(zB t1 t2 h l1 l2).push { cls:= .type "tuple",data:= .seq #[.ref h.objs.size,.ref (zA t1 h l1).objs.size] }
abbrev zD(t1 t2:Bool)(h:Heap)(l1 l2:Addr):Heap:=(zC t1 t2 h l1 l2).push { cls:= .type "tuple",data:= .seq #[.none,.none] }
abbrev zE(t1 t2:Bool)(h:Heap)(l1 l2:Addr):Heap:=(zD t1 t2 h l1 l2).push { cls:= .type "zip",data:= .fields #[.none,.bool false,.bool false,.ref (zB t1 t2 h l1 l2).objs.size,.ref (zC t1 t2 h l1 l2).objs.size] }
def aDX(l1 l2:Addr)(xs ys:Array Value):
  Meets (Builtin.«zip.__new__» {[.type "zip",.ref l1,.ref l2],[]}) (λ_ R s=>s.heap.IsList l1 xs/\s.heap.IsList l2 ys/\
   R (.ok (.ret (.ref (zD false false s.heap l1 l2).objs.size))) { s with heap:=zE false false s.heap l1 l2 }):=
 .of_wp λprog w A R s h=>by
  intros hp g d tk os s;intros m1 m2 h h;have sub:=sub_zip;have c1:Mz (vM {hp,g,d,tk,(os)}) l1 xs:=m1;have c2:Mz (vM {hp.push { cls:= .type "list_iterator",data:= .fields #[.ref l1,.int 0 0] },g,d,tk,os}) l2 ys:=by
   intros o ho r m2;exact{o,Heap.get?_push_of_some _ ho,r}
  wp_walk using wpAny_pyIter_list c1,wpAny_pyIter_list c2
  exact{(),h}
def aRx(l1 l2:Addr)(xs ys:Array Value):
  Meets (Builtin.«zip.__new__» {[.type "zip",.ref l1,.ref l2],[]}) (λ_ R s=>s.heap.IsList l1 xs/\s.heap.IsTuple l2 ys/\
   R (.ok (.ret (.ref (zD false true s.heap l1 l2).objs.size))) { s with heap:=zE false true s.heap l1 l2 }):=
 .of_wp λprog w A R s h=>by
  intros hp g d tk os s;intros m1 m2 h h;have sub:=sub_zip;have c1:Mz (vM {hp,g,d,tk,(os)}) l1 xs:=m1;have c2:Jo (vM {hp.push { cls:= .type "list_iterator",data:= .fields #[.ref l1,.int 0 0] },g,d,tk,os}) l2 ys:=by
   intros o ho r m2;exact{o,Heap.get?_push_of_some _ ho,r}
  wp_walk using wpAny_pyIter_list c1,wpAny_pyIter_tuple c2
  exact{(),h}
def at7(l1 l2:Addr)(xs ys:Array Value):
  Meets (Builtin.«zip.__new__» {[.type "zip",.ref l1,.ref l2],[]}) (λ_ R s=>s.heap.IsTuple l1 xs/\s.heap.IsList l2 ys/\
   R (.ok (.ret (.ref (zD true false s.heap l1 l2).objs.size))) { s with heap:=zE true false s.heap l1 l2 }):=
 .of_wp λprog w A R s h=>by
  intros hp g d tk os s;intros m1 m2 h h;have sub:=sub_zip;have c1:Jo (vM {hp,g,d,tk,(os)}) l1 xs:=m1;have c2:Mz (vM {hp.push { cls:= .type "tuple_iterator",data:= .fields #[.ref l1,.int 0 0] },g,d,tk,os}) l2 ys:=by
   intros o ho r m2;exact{o,Heap.get?_push_of_some _ ho,r}
  wp_walk using wpAny_pyIter_tuple c1,wpAny_pyIter_list c2
  exact{(),h}
def aub(l1 l2:Addr)(xs ys:Array Value):
  Meets (Builtin.«zip.__new__» {[.type "zip",.ref l1,.ref l2],[]}) (λ_ R s=>s.heap.IsTuple l1 xs/\s.heap.IsTuple l2 ys/\
   R (.ok (.ret (.ref (zD true true s.heap l1 l2).objs.size))) { s with heap:=zE true true s.heap l1 l2 }):=
 .of_wp λprog w A R s h=>by
  intros hp g d tk os s;intros m1 m2 h h;have sub:=sub_zip;have c1:Jo (vM {hp,g,d,tk,(os)}) l1 xs:=m1;have c2:Jo (vM {hp.push { cls:= .type "tuple_iterator",data:= .fields #[.ref l1,.int 0 0] },g,d,tk,os}) l2 ys:=by
   intros o ho r m2;exact{o,Heap.get?_push_of_some _ ho,r}
  wp_walk using wpAny_pyIter_tuple c1,wpAny_pyIter_tuple c2
  exact{(),h}
def atj(t1 t2:Bool)(l1 l2:Addr)(xs ys:Array Value):
  Meets (Builtin.«zip.__new__» {[.type "zip",.ref l1,.ref l2],[]}) (λ_ R s=>jw t1 s.heap l1 xs/\jw t2 s.heap l2 ys/\
   R (.ok (.ret (.ref (zD t1 t2 s.heap l1 l2).objs.size))) { s with heap:=zE t1 t2 s.heap l1 l2 }):=
 match t1,t2 with
 |false,false=>aDX l1 l2 xs ys
 |false,true=>aRx l1 l2 xs ys
 |true,false=>at7 l1 l2 xs ys
 |true,true=>aub l1 l2 xs ys
def aAl(m1:jw t1 s.heap l1 xs)(m2:jw t2 s.heap l2 ys)
  (k:∀h',Ia t1 t2 (s.heap.objs.size+4) (s.heap.objs.size+2) (s.heap.objs.size+3) s.heap.objs.size (s.heap.objs.size+1) l1 l2 0 h' .none->
   (∀c o,s.heap.get? c=some o->h'.get? c=some o)->Q (.ref (s.heap.objs.size+4)) { s with heap:=h' }):
  wpAny (model prog w) A (call (.type "zip") [.ref l1,.ref l2]) Q E s:=by
 refine callType_new F.called_zip ∅ (F.typeCall_zip_2 _ _) (F.newCall_zip_2 _ _) (λobj=>F.args_object_init_3 obj _ _) F.entry_zip_new (atj t1 t2 l1 l2 xs ys) {m1,m2,?_};have y1:(zA t1 s.heap l1).objs.size=s.heap.objs.size+1:=BD ..;have y2:(zB t1 t2 s.heap l1 l2).objs.size=s.heap.objs.size+2:=by rw[BD,y1]
 have y3:(zC t1 t2 s.heap l1 l2).objs.size=s.heap.objs.size+3:=by rw[BD,y2]
 have y4:(zD t1 t2 s.heap l1 l2).objs.size=s.heap.objs.size+4:=by rw[BD,y3]
 have up:∀{h:Heap} {o1:Obj} {c:Addr} {o:Obj},h.get? c=some o->(h.push o1).get? c=some o:=λe=>Heap.get?_push_of_some _ e;have o5:(zE t1 t2 s.heap l1 l2).get? (zD t1 t2 s.heap l1 l2).objs.size=some _:=Heap.get?_push_size _ rfl;have o4:(zE t1 t2 s.heap l1 l2).get? (zC t1 t2 s.heap l1 l2).objs.size=some _:=up (Heap.get?_push_size _ rfl);have o3:(zE t1 t2 s.heap l1 l2).get? (zB t1 t2 s.heap l1 l2).objs.size=some _:=up (up (Heap.get?_push_size _ rfl));have o2:(zE t1 t2 s.heap l1 l2).get? (zA t1 s.heap l1).objs.size=some _:=up (up (up (Heap.get?_push_size _ rfl)));have o1:(zE t1 t2 s.heap l1 l2).get? s.heap.objs.size=some _:=up (up (up (up (Heap.get?_push_size _ rfl))));show _/\_;rw[y2,y3,y4]at o5;rw[y3]at o4;rw[y1,y2]at o3;rw[y1]at o2;rw[y4];exact{{_,o5,rfl},k _ {o5,o3,{_,_,o4},{_,o1,rfl,rfl},{_,o2,rfl,rfl}} λc o e=>up (up (up (up (up e))))}
end
end
section
variable {X:Cx} {pins:List (Addr×Obj)} {σ:St} {H:Hp} {s:Shared} {h':Heap}
def Inv.ag4{t':Nat}{ch:List Addr}(I:Inv X pins σ H s)(hf:∀b∈ch,jW X pins H b)(k:∀b o,b∉ch->s.heap.get? b=some o->h'.get? b=some o):Inv X pins σ H { s with heap:=h',toks:=t' }:=by
 have far:∀b u,H b=some u->b∉ch:=λb u e z=>by rw[(hf b z).1]at e;cases e
 refine I.step (g':=s.gens) (d':=s.drawn) (ch:=ch) (λb hb=>?_) (λb o _ _ hc e _=>k b o hc e) (λb o _ _ hc e _=>{o.slots,k b o hc e}) (λ_ _ _ _ n=>n)
  (λb o hc e=>{o,k b o hc e}) (λ_ _ e=>e) (λ_ _ _ e=>e) (λb ps e=>{#[],by rw[e];simp}) (λm hm=>?_) (λb u e=>?_) I.bare
 .obtain⟨_,f1,_,f3,f4,f5⟩:=hf b hb;exact{f3,f1,f4,(f5)}
 .intros o es ep ho r hm;exact{o,es,ep,k _ o (λz=>(hf _ z).2.1 rfl) ho,r}
 .refine(I.hok b u e).stay (λc v hc q=>k c v ?_ q) (λ_ q=>q) λ_ _ q=>q;rcases hc with z|z
  .rw[z];exact far b u e
  .exact far c _ z
def Inv.adopt{p:Addr}{o:HO}(I:Inv X pins σ H s)(f:jW X pins H p)(new:eO X.prog X.w (upd H p o) s.heap p o):Inv X pins σ (upd H p o) s:=by
 intros f0 f1 _ f3 f4 f5 f;refine I.step (g':=s.gens) (d':=s.drawn) (t':=s.toks) (h':=s.heap) (ch:=[p]) (λb hb=>?_) (λb o _ _ hc e _=>e) (λb o _ _ hc e _=>{o.slots,(e)}) (λb _ hc _ n=>?_)
  (λb o hc e=>{o,(e)}) (λb xs e=>?_) (λb xs _ e=>?_) (λb ps e=>{#[],?_}) (λm hm=>hm) (λb u e=>?_) I.bare
 .have e:b=p:=by simpa using hb
  subst e;exact{f3,f1,f4,(f5)}
 .rw[bY λz=>hc (by simp[z])];exact n
 .rw[bY (fU e f0)];exact e
 .rw[bY (fU e f0)];exact e
 .rw[bY (fU e f0),e];simp
 .by_cases hb:b=p
  .subst hb;rw[ao]at e;cases e;exact new
  .rw[bY hb]at e;exact(I.hok b u e).stay (λc v _ q=>q) (λc q=>by rw[bY (fU q f0)];exact q) λc xs q=>by rw[bY (fU q f0)];exact q
def mV(K:aD)(t:Bool)(H:Hp)(a:Addr)(xs:List V):Prop:=match t with
 |true=>aq K H a xs
 |false=>aj K H a xs
def Inv.zm{t:Bool}{a:Addr}{xs:List V}(I:Inv X pins σ H s)(q:mV X.K t H a xs):∃its:List Value,Vals xs its/\jw t s.heap a its.toArray/\xs.length<=sizeLine:=by
 cases t with
 |false=>obtain⟨its,r,p,z⟩:=I.list q;exact{its,r,p.isList,(z)}
 |true=>obtain⟨its,r,p,z⟩:=I.tuple q;exact{its,r,p,(z)}
def Inv.ahX{t:Bool}{a:Addr}{xs ys:List V}(I:Inv X pins σ H s)(q:mV X.K t H a xs)(q':mV X.K t H a ys):xs=ys:=by
 cases t with
 |false=>exact I.Mv q q'
 |true=>exact I.afl q q'
def CM(K:aD)(t1 t2:Bool)(a b:Addr):It:=
 {λi H=>∃xs ys x y,mV K t1 H a xs/\mV K t2 H b ys/\xs[i]?=some x/\ys[i]?=some y,
 λi H v H'=>∃p x y,v = .ref p/\H p=none/\H'=upd H p (.tup [x,y])/\(∀xs,mV K t1 H a xs->xs[i]?=some x)/\∀ys,mV K t2 H b ys->ys[i]?=some y,
 λi H=>∃xs ys,mV K t1 H a xs/\mV K t2 H b ys/\(ys.length<=i∨xs.length<=i)}
def axT{P:Program}{w:World}{K:aD}{es:List Expr}{x1:Nat}{pos:Pos}{t1 t2:Bool}{z TI TO i1 i2 a b:Addr}(D:Apart z TI TO i1 i2 a b):
  Turn P w K (.Tuple es x1 pos) (CM K t1 t2 a b) [z,TI,TO,i1,i2] z (λi h=>Ia t1 t2 z TI TO i1 i2 a b i h .none) where
 mem:=by simp
 obj:=λi h Z c hc=>by
  obtain⟨zz,ti,⟨u,v,to⟩,⟨o1,h1,_,d1⟩,⟨o2,h2,_,d2⟩⟩:=Z;simp only[dz,iY,or_false]at hc;rcases hc with rfl|rfl|rfl|rfl|rfl
  .exact{_,zz,λv q=>by cases q}
  .exact{_,ti,λv q=>by cases q}
  .exact{_,to,λv q=>by cases q}
  .exact{_,h1,λv q=>by rw[d1]at q;cases q}
  .exact{_,h2,λv q=>by rw[d2]at q;cases q}
 keep:=λi h h' Z k=>by
  obtain⟨zz,ti,⟨u,v,to⟩,w1,w2⟩:=Z;exact{k _ (by simp) _ zz,k _ (by simp) _ ti,{u,v,k _ (by simp) _ to},w1.at λo e=>k _ (by simp) o e,w2.at λo e=>k _ (by simp) o e}
 item:=by
  intro X hP hw hK hc i pins s σ H E I hf Z hg;subst hP hw hK;intros xs ys x y hq1 hq2 hx hy hg;obtain⟨ahq,r1,p1,_⟩:=I.zm hq1;obtain⟨its2,r2,p2,_⟩:=I.zm hq2;obtain⟨u1,hu1,ru1⟩:=r1.get hx;obtain⟨u2,hu2,ru2⟩:=r2.get hy;refine asf D Z p1 p2 (x:=u1) (y:=u2) (by simpa using hu1) (by simpa using hu2) λg Z1 T1 k1=>{(),?_};have zl:z≠s.heap.objs.size:=gw (cP Z.zz);obtain⟨zz,ti,⟨v1,v2,to⟩,w1,w2⟩:=Z1;obtain⟨⟨DP,sX,qg,uO⟩,_⟩:=D.ne;refine wpAny_letOwnedTupleGo_zip zz λg' zz' m'=>?_;have T2:IsPair g' s.heap.objs.size u1 u2:=m'.extBut _ _ (dw zl) T1;have I1:Inv X pins σ H { s with heap:=g' }:=I.ag4 (t':=s.toks) (ch:=[z,TI,TO,i1,i2]) hf λc o hc e=>
   m'.extBut _ _ (λq=>hc (by simp[q])) (k1 c o (λq=>hc (by
    simp only[dz,iY,or_false]at q⊢;rcases q with q|q|q|q<;>simp[q])) e)
  have I2:Inv X pins σ (upd H s.heap.objs.size (.tup [x,y])) { s with heap:=g' }:=I1.adopt (I.mL (bK _) I.fresh)
   {by simp[sizeLine],[u1,u2],.cons ru1 (.cons ru2 .nil),{_,T2,rfl,()}}
  refine{.ref s.heap.objs.size,_,I2,rfl,{_,x,y,rfl,I.fresh,rfl,λxs' q=>by rw[I.ahX q hq1];exact hx,λys' q=>by rw[I.ahX q hq2];exact hy},
   {zz',m'.extBut _ _ DP ti,{v1,v2,m'.extBut _ _ sX to},w1.at λo e=>m'.extBut _ _ qg e,w2.at λo e=>m'.extBut _ _ uO e},λc hc=>?_}
  rw[bY]
  .exact(hf c hc).1
  .intro q;obtain⟨o,ho,_⟩:∃o,s.heap.get? c=some o/\True:=by
    obtain⟨zz,ti,⟨u,v,to⟩,⟨o1,h1,_,d1⟩,⟨o2,h2,_,d2⟩⟩:=Z;simp only[dz,iY,or_false]at hc;rcases hc with rfl|rfl|rfl|rfl|rfl
    .exact{_,zz,trivial}
    .exact{_,ti,trivial}
    .exact{_,to,trivial}
    .exact{_,h1,trivial}
    .exact{_,h2,trivial}
   exact absurd (cP ho) (by rw[q];exact j4 _)
 done:=by
  intro X hP hw hK hc i pins s σ H E I hf Z hg;subst hP hw hK;intros xs ys hq1 hq2 hend hg;obtain⟨ahq,r1,p1,_⟩:=I.zm hq1;obtain⟨its2,r2,p2,_⟩:=I.zm hq2;have n1:=r1.length;have n2:=r2.length;refine aCm (I.ok.hd hc) D Z p1 p2 (hend.imp (λq=>by simp;lia) (λq=>by simp;lia)) λg k1=>{rfl,I.ag4 (t':=s.toks) (ch:=[z,TI,TO,i1,i2]) hf λc o hc e=>k1 c o (λq=>hc (by
    simp only[dz,iY,or_false]at q⊢;rcases q with q|q|q|q<;>simp[q])) e}
 self:=λ_ _ _ _ _ Z h=>wpAny_pyIter_zip Z.zz h
def aCa(K:aD)(ta:TA):TI:=λσ H R=>ta σ H λvs H1=>∃t1 t2 a b xs ys,vs=[.ref a,.ref b]/\mV K t1 H1 a xs/\mV K t2 H1 b ys/\R (CM K t1 t2 a b) H1
def aFw(K:aD){e1 e2:Expr}{es:List Expr}{x1:Nat}{pos':Pos}{ta:TA}{p pos:Pos}(hg:Gl X "zip")(hm:X.mg "zip" = none)(ha:PA X [e1,e2] ta)(hK:X.K=K:=by rfl)
  (hs:starEach [e1,e2] X.env=[(false,eval e1 X.env),(false,eval e2 X.env)]:=by rfl) (hs2:starEach [e2] X.env=[(false,eval e2 X.env)]:=by rfl):
  PI X (.Tuple es x1 pos') (.Call (.Name "zip" p) [e1,e2] [] pos) (aCa K ta):=by
 subst hK;intro pins s σ H R I h;refine Call_ (qJ I hg hm boot_zip (uR (aR (ha pos pins s σ H _ I h) λus s1 ⟨vs,H1,I1,r1,q1⟩=>?_) (by rw[hs,hs2]) (by rw[hs2];rfl)));intros t1 t2 a b xs ys e hq1 hq2 q q1;subst e;cases r1 with
 |cons r rr=>
  cases rr with
  |cons r' rr=>
   cases rr;cases r;cases r';obtain⟨ahq,v1,p1,_⟩:=I1.zm hq1;obtain⟨its2,v2,p2,_⟩:=I1.zm hq2;refine aAl p1 p2 λh' Z k=>?_;have I2:Inv X pins σ H1 { s1 with heap:=h' }:=I1.kept (t':=s1.toks) k;have lt1:a<s1.heap.objs.size:=by intros o ho _ p1;exact cP ho
   have lt2:b<s1.heap.objs.size:=by intros o ho _ p2;exact cP ho
   have D:Apart (s1.heap.objs.size+4) (s1.heap.objs.size+2) (s1.heap.objs.size+3) s1.heap.objs.size (s1.heap.objs.size+1) a b:=by
    have bad:∀{c:Addr} (n:Nat),c<s1.heap.objs.size->c≠s1.heap.objs.size+n:=λn h q=>absurd (ig h (CB _ n)) (by rw[q];exact j4 _);exact{by simp,by simp[bad _ lt1,show a≠s1.heap.objs.size from bad 0 lt1],by simp[bad _ lt2,show b≠s1.heap.objs.size from bad 0 lt2]}
   refine wpAny_pyIter_zip Z.zz {_,_,_,_,H1,rfl,I2,axT D,Z,λc hc=>?_,q};have hc':s1.heap.objs.size<=c:=by
    simp only[dz,iY,or_false]at hc;rcases hc with rfl|rfl|rfl|rfl|rfl
    .exact CB _ _
    .exact CB _ _
    .exact CB _ _
    .exact bK _
    .exact CB _ _
   exact I1.mL hc' (I1.hok.fresh hc')
end
end L2
namespace Rm
def tk(b n:Int):Int:=if b=0 then n else n%b
def aB6(n:Int):tk 0 n=n:=if_pos rfl
def aa9{b:Int}(h:b≠0)(n:Int):tk b n=n%b:=if_neg h
def S(rule:List Int)(f:Nat->Int)(n:Nat):Nat->Int
 |0=>0
 |m+1=>S rule f n m+rule.getD m 0*f (n-1-m)
def row(b:Int)(rule starts:List Int):Nat->List Int
 |0=>[]
 |n+1=>row b rule starts n++[if n<starts.length then starts.getD n 0 else tk b (S rule (λi=>(row b rule starts n).getD i 0) n rule.length)]
theorem qQ(b:Int)(rule starts:List Int):∀n,(row b rule starts n).length=n
 |0=>rfl
 |n+1=>by simp[row,qQ b rule starts n]
def at_(b:Int)(rule starts:List Int)(n:Nat):Int:=(row b rule starts (n+1)).getD n 0
def ahk(b:Int)(rule starts:List Int)(n:Nat):at_ b rule starts n=if n<starts.length then starts.getD n 0 else tk b (S rule (λi=>(row b rule starts n).getD i 0) n rule.length):=by
 unfold at_;have hl:=qQ b rule starts n;show(row b rule starts n++_).getD n 0=_;rw[List.getD_eq_getElem?_getD,List.getElem?_append_right ⋯,hl];simp
def auc{b:Int}{rule starts:List Int}{n:Nat}(h:n<starts.length):at_ b rule starts n=starts.getD n 0:=by
 rw[ahk,if_pos h]
def aEf(b:Int)(rule starts:List Int)(n:Nat):row b rule starts (n+1)=row b rule starts n++[at_ b rule starts n]:=by
 rw[ahk];rfl
theorem Yx{b:Int}{rule starts:List Int}:∀{n:Nat},n<=starts.length->row b rule starts n=starts.take n
 |0,_=>by simp[row]
 |n+1,h=>by
  rw[aEf,Yx ⋯,auc ⋯,J7,List.getD_eq_getElem?_getD,List.getElem?_eq_getElem ⋯];rfl
def Bd(n:Nat)(x:Int):Prop:=x.natAbs<2^n
end Rm
namespace Pm
open Rm
def co(p:List Int)(k:Nat):Int:=p.getD k 0
def wU(k:Nat):co [] k=0:=by simp[co]
def zY(x:Int)(r:List Int):co (x::r) 0=x:=by simp[co]
def xT(x:Int)(r:List Int)(k:Nat):co (x::r) (k+1)=co r k:=by simp[co]
def aph{p:List Int}{k:Nat}(h:p.length<=k):co p k=0:=by
 rw[co,List.getD_eq_getElem?_getD,List.getElem?_eq_none h];rfl
def gW(n:Nat)(f:Nat->Int):List Int:=(fK n).map f
def Nz(n:Nat)(f:Nat->Int):(gW n f).length=n:=by simp[gW]
def aRB(n:Nat)(f:Nat->Int):gW (n+1) f=gW n f++[f n]:=by
 rw[gW,JL,gC];rfl
def aNp(p q:List Int)(k:Nat):co (p++q) k=if k<p.length then co p k else co q (k-p.length):=by
 unfold co;by_cases h:k<p.length
 .rw[if_pos h,List.getD_eq_getElem?_getD,List.getElem?_append_left h,<-List.getD_eq_getElem?_getD]
 .rw[if_neg h,List.getD_eq_getElem?_getD,List.getElem?_append_right ⋯,<-List.getD_eq_getElem?_getD]
def trim:List Int->List Int
 |[]=>[]
 |x::r=>if x=0/\trim r=[]then[]else x::trim r
theorem aki:∀(p:List Int) (k:Nat),co (trim p) k=co p k
 |[],k=>rfl
 |x::r,k=>by
  rw[trim];have ih:=aki r;by_cases h:x=0/\trim r=[]
  .rw[if_pos h];rw[h.2]at ih;cases k with
   |zero=>rw[wU,zY,h.1]
   |succ k=>rw[xT,<-ih k,wU,wU]
  .rw[if_neg h];cases k with
   |zero=>rw[zY,zY]
   |succ k=>rw[xT,xT,ih k]
def alr{p:List Int}:trim p=[]↔∀k,co p k=0:=by
 constructor
 .intro h k;rw[<-aki,h,wU]
 .intro h;induction p with
  |nil=>rfl
  |cons x r ih=>
   rw[trim,if_pos {by have:=h 0;rwa [zY]at this,ih λk=>by have:=h (k+1);rwa [xT]at this}]
theorem afx:∀{p q:List Int},(∀k,co p k=co q k)->trim p=trim q
 |[],q,h=>by rw[show trim q=[]from alr.mpr λk=>by rw[<-h k,wU]];rfl
 |x::r,[],h=>by rw[show trim (x::r)=[]from alr.mpr λk=>by rw[h k,wU]];rfl
 |x::r,y::s,h=>by
  have e1:=h 0;rw[zY,zY]at e1;have e2:trim r=trim s:=afx λk=>by have:=h (k+1);rwa [xT,xT]at this
  rw[trim,trim,e1,e2]
def aD8(p:List Int):trim (p++[0])=trim p:=afx λk=>by
 rw[aNp];by_cases h:k<p.length
 .rw[if_pos h]
 .rw[if_neg h,aph (p:=p) ⋯];cases k-p.length with
  |zero=>rfl
  |succ j=>rw[xT,wU]
theorem aeO:∀(p:List Int) {x:Int},x≠0->trim (p++[x])=p++[x]
 |[],x,h=>by simp[trim,h]
 |y::r,x,h=>by
  show trim (y::(r++[x]))=_;rw[trim,aeO r h,if_neg (by simp)];rfl
end Pm
namespace Tx
open PySem PySem.StrLaws PySem.NumText PySem.Builtin PySem.Builtin.Str
def one(c:Nat):Str:={(#[c])}
def take_one(l:List Nat)(c i:Nat):((l.drop i).take 1==[c])=decide (l[i]?=some c):=by
 rw[<-List.head?_drop];cases l.drop i with
 |nil=>simp
 |cons a r=>
  simp only[agK,List.take_zero,List.head?_cons,Option.some.injEq];by_cases h:a=c<;>simp[h]
def subAt_one(x:Str)(c i:Nat):subAt x (one c) i=decide (x.cps.toList[i]?=some c):=by
 rw[subAt_eq];exact take_one ..
def tR(x:Str)(c i:Nat):Bool:=decide (x.cps.toList[i]?=some c)
theorem OG(x:Str)(c lim:Nat)(hl:lim=x.length+1):∀(n i:Nat) (st:Array Nat×Nat),i+n=x.length+1->st.1.size<=i->st.2<=i->
  (forIn (JC i n) st (occBody x (one c) x.length lim)).run.fst.toList=st.1.toList++(JC i n).filter (tR x c)
 |0,i,st,_,_,_=>by simp
 |n+1,i,st,h1,h2,h3=>by
  rw[aj5,HZ];unfold occBody;have hx:x.cps.toList.length=x.length:=by simp[Str.length]
  by_cases hh:tR x c i=true
  .have hi:i<x.length:=by
    have:=of_decide_eq_true hh;obtain⟨h,_⟩:=List.getElem?_eq_some_iff.mp this;lia
   rw[if_pos {{{⋯,h3},by show i+1<=_;lia},by rw[subAt_one];exact hh}];have ih:=OG x c lim hl n (i+1) (st.1.push i,i+1) ⋯ (by simp;lia) (bK _);unfold occBody at ih;rw[uc,if_pos hh];refine Qj ih ?_;simp
  .have hh':tR x c i=false:=by simpa using hh
   rw[if_neg λz=>by rw[subAt_one]at z;exact hh z.2];have ih:=OG x c lim hl n (i+1) st ⋯ ⋯ ⋯;unfold occBody at ih;rw[uc,if_neg hh];exact ih
def av2(x:Str)(c:Nat):occurrences x (one c) 0 x.length (x.length+1)=(JC 0 (x.length+1)).filter (tR x c):=by
 rw[occ_eq,Ky];have:=OG x c _ rfl (x.length+1) 0 (#[],0) ⋯ (by simp) (bK _);rw[this];simp
def alk{x:Str}{c a j:Nat}(h:∀k,a<=k->k<j->tR x c k=false):c∉(strSub x a j).cps.toList:=λhm=>by
 rw[strSub_toList]at hm;obtain⟨k,hk,e⟩:=abq.mp hm;rw[nO,tW]at hk;have e1:x.cps.toList[a+k]?=some c:=by
  rw[List.getElem_take,List.getElem_drop]at e;rw[List.getElem?_eq_getElem ⋯,e]
 have:=h (a+k) ⋯ ⋯;unfold tR at this;rw[e1]at this;simp at this
theorem UY(x:Str)(c:Nat):∀(n i a:Nat),i+n=x.length+1->a<=i->(∀k,a<=k->k<i->tR x c k=false)->∀p∈partsFrom x 1 a ((JC i n).filter (tR x c)),c∉p.cps.toList
 |0,i,a,h1,_,h3,p,hp=>by
  rw[kO.mp hp];exact alk λk k1 k2=>h3 k k1 ⋯
 |n+1,i,a,h1,h2,h3,p,hp=>by
  rw[aj5,uc]at hp;by_cases hh:tR x c i=true
  .rw[if_pos hh]at hp;rcases dz.mp hp with e|e
   .rw[e];exact alk h3
   .exact UY x c n (i+1) (i+1) ⋯ (bK _) (λk k1 k2=>absurd k2 ⋯) p e
  .rw[if_neg hh]at hp;refine UY x c n (i+1) a ⋯ ⋯ (λk k1 k2=>?_) p hp;by_cases e:k=i
   .rw[e];simpa using hh
   .exact h3 k k1 ⋯
def aRY(x:Str){c:Nat}(hc:c<256):¬Builtin.Str.strKind x<Builtin.Str.strKind (one c):=by
 have:Builtin.Str.strKind (one c)=1:=by
  unfold Builtin.Str.strKind;rw[if_pos];simp[one,hc]
 rw[this];unfold Builtin.Str.strKind;split
 .lia
 .split<;>lia
def Nt(x:Str){c:Nat}(hc:c<256):∀p∈Txt.split x (one c),c∉p.cps.toList:=by
 intro p hp;unfold Txt.split at hp;have key:∀p∈partsBetween x (occurrences x (one c) 0 x.length (x.length+1)) (one c).length,c∉p.cps.toList:=by
  rw[partsBetween_eq,av2];exact UY x c (x.length+1) 0 0 ⋯ (bK _) (λk _ k2=>absurd k2 (aoZ _))
 split at hp
 .rename_i h
  have hl:x.length<1:=by
   simp only[qD,decide_eq_true_eq]at h;rcases h with h|h
   .exact h
   .exact absurd h (aRY x hc)
  rw[kO.mp hp];have:x.cps.toList=[]:=Dg (by show x.cps.toList.length=0;have:x.cps.toList.length=x.length:=(by simp[Str.length]);lia);rw[this];simp
 .split at hp
  .rename_i h1 h2
   rw[List.isEmpty_iff]at h2;rw[kO.mp hp];refine key x ?_;rw[h2,partsBetween_eq];show x∈[strSub x 0 x.length];rw[sub_whole];simp
  .exact key p hp
def jn(c:Nat):List (List Nat)->List Nat
 |[]=>[]
 |[p]=>p
 |p::q::r=>p++c::jn c (q::r)
theorem za(c:Nat):∀ws:List Str,(Str.join (one c) ws).cps.toList=jn c (ws.map λw=>w.cps.toList)
 |[]=>rfl
 |[_]=>rfl
 |p::q::r=>by
  have ih:=za c (q::r);show(p++one c++Str.join (one c) (q::r)).cps.toList=p.cps.toList++c::jn c ((q::r).map λw=>w.cps.toList);rw[<-ih];simp[Str.cps_append,one]
theorem amh{c:Nat}:∀{p q u v:List Nat},c∉p->c∉q->p++c::u=q++c::v->p=q/\u=v
 |[],[],_,_,_,_,h=>{rfl,(Ij h).2}
 |[],b::q,_,_,_,h2,h=>by
  have:=(Ij h).1;exact absurd (by rw[this];simp) h2
 |a::p,[],_,_,h1,_,h=>by
  have:=(Ij h).1;exact absurd (by rw[this];simp) h1
 |a::p,b::q,u,v,h1,h2,h=>by
  obtain⟨e1,e2⟩:=Ij h;obtain⟨e3,e4⟩:=amh (λz=>h1 (jt _ z)) (λz=>h2 (jt _ z)) e2;exact{by rw[e1,e3],e4}
theorem amW{c:Nat}:∀{ps qs:List (List Nat)},ps≠[]->qs≠[]->(∀p∈ps,c∉p)->(∀q∈qs,c∉q)->jn c ps=jn c qs->ps=qs
 |[],_,h,_,_,_,_=>absurd rfl h
 |_,[],_,h,_,_,_=>absurd rfl h
 |[p],[q],_,_,_,_,e=>by rw[show p=q from e]
 |[p],q::q'::r,_,_,h1,_,e=>by
  have:p=q++c::jn c (q'::r):=e;exact absurd (by rw[this];simp) (h1 p (by simp))
 |p::p'::r,[q],_,_,_,h2,e=>by
  have:p++c::jn c (p'::r)=q:=e;exact absurd (by rw[<-this];simp) (h2 q (by simp))
 |p::p'::r,q::q'::t,_,_,h1,h2,e=>by
  obtain⟨e1,e2⟩:=amh (h1 p (by simp)) (h2 q (by simp)) (show p++c::jn c (p'::r)=q++c::jn c (q'::t)from e);have:=amW (by simp) (by simp) (λz hz=>h1 z (jt _ hz)) (λz hz=>h2 z (jt _ hz)) e2;rw[e1,this]
theorem map_toList_inj:∀{ws vs:List Str},(ws.map λw=>w.cps.toList)=(vs.map λw=>w.cps.toList)->ws=vs
 |[],[],_=>rfl
 |[],_::_,h=>by simp at h
 |_::_,[],h=>by simp at h
 |a::r,b::t,h=>by
  simp only[fB,List.cons.injEq]at h;rw[Str.ext' (Ni.mp h.1),map_toList_inj h.2]
def En(x y:Str):Txt.split x y≠[]:=by
 unfold Txt.split;split
 .simp
 .split
  .simp
  .rw[partsBetween_eq];obtain⟨p,r,e⟩:=partsFrom_ne x y.length 0 (occurrences x y 0 x.length (x.length+1));rw[e];simp
def Jy{c:Nat}(hc:c<256){ws:List Str}(hn:ws≠[])(h:∀w∈ws,c∉w.cps.toList):Txt.split (Str.join (one c) ws) (one c)=ws:=by
 refine map_toList_inj (amW (c:=c) (by simpa using En _ _) (by simpa using hn) ?_ ?_ ?_)
 .intro p hp;obtain⟨w,hw,rfl⟩:=fM.mp hp;exact Nt _ hc w hw
 .intro p hp;obtain⟨w,hw,rfl⟩:=fM.mp hp;exact h w hw
 .rw[<-za,<-za,StrLaws.join_split]
def ado(s:String):(Str.ofString s).cps.toList=s.toList.map Char.toNat:=aMh s
def gb(n:Int):Str:=Str.ofString (toString n)
def Dm(m:Nat):List Nat:=(Nat.toDigits 10 m).map Char.toNat
def anP(m:Nat):(gb (m:Int)).cps.toList=Dm m:=by
 rw[gb,ado];show(Nat.repr m).toList.map Char.toNat=_;rw[aox];rfl
def aJM{m:Nat}(h:0<m):(gb (-(m:Int))).cps.toList=45::Dm m:=by
 obtain⟨k,rfl⟩:∃k,m=k+1:={m-1,⋯};rw[gb,ado];have e:toString (-((k+1:Nat):Int)) = "-" ++ Nat.repr (k+1):=rfl;rw[e,String.toList_append,aox];simp[Dm]
def Yb(cs:List Nat):Prop:=cs=[48]∨∃c r,cs=c::r/\49<=c
def toNat_ofNat{cs:List Nat}(h:AllDigits cs):(cs.map Char.ofNat).map Char.toNat=cs:=by
 rw[iz]
 conv=>rhs;rw[<-JD cs]
 refine vK λc hc=>?_;have:=h c hc;show(Char.ofNat c).toNat=c;have v:c.isValidChar:=ju ⋯;rw[Char.ofNat,dif_pos v];rfl
def ac0{cs:List Nat}(h:AllDigits cs)(hn:Yb cs):Dm (digitsVal cs)=cs:=by
 have hp:cs≠[]:=by rcases hn with e|⟨c,r,e,_⟩<;>rw[e]<;>simp
 have hl:0<cs.length:=Rz.mpr hp;unfold Dm;rw[toDigits_digitsVal (cs.length-1) cs ⋯ h,toNat_ofNat h];rcases hn with e|e
 .exact .inl (by rw[e];rfl)
 .exact .inr e
def aF9:∀(cs:List Nat),AllDigits cs->digitsVal cs<10^cs.length:=by
 intro cs;induction hn:cs.length generalizing cs with
 |zero=>intro _;rw[Dg hn];decide
 |succ n ih=>
  intro h;have hne:cs≠[]:=by intro e;rw[e]at hn;simp at hn
  have e:=List.dropLast_concat_getLast hne;generalize cs.dropLast=ini at e;generalize cs.getLast hne=c at e;subst e;rw[gF,ah9]at hn;have hi:AllDigits ini:=λd hd=>h d (aaF _ hd);have hc:=h c (mC _ (kO.mpr rfl));have:=ih ini ⋯ hi;rw[digitsVal_snoc,afi];lia
def Wr(w:Str):Prop:=∃(s:Bool) (cs:List Nat),w.cps.toList=(if s then 45::cs else cs)/\AllDigits cs/\1<=cs.length/\cs.length<=60/\Yb cs/\(s=true->cs≠[48])
def aun{cs:List Nat}(hn:Yb cs)(h:cs≠[48]):0<digitsVal cs:=by
 rcases hn with e|⟨c,r,e,hc⟩
 .exact absurd e h
 .rw[e];exact digitsVal_pos hc
def Wr.reads{w:Str}(h:Wr w):∃n:Int,intText? w=some n/\gb n=w/\n.natAbs<10^60:=by
 intros s cs e hd l1 l2 hn hs h;have hne:cs≠[]:=Rz.mp l1;have hp:=aF9 cs hd;have hp2:10^cs.length<=10^60:=amN ∅ l2;have hwl:w.length=w.cps.toList.length:=by simp[Str.length]
 cases s with
 |false=>
  have e':w.cps.toList=cs:=e;refine{_,intText_digits (by rw[e'];exact hd) (by rw[e'];exact hne) (by rw[hwl,e'];lia),?_,?_}
  .refine Str.ext' (Ni.mp ?_);rw[e',anP,ac0 hd hn]
  .rw[e'];show digitsVal cs<_;lia
 |true=>
  have e':w.cps.toList=45::cs:=e;have hv:=aun hn (hs rfl);refine{_,intText_neg e' hd hne (by rw[hwl,e'];simp;lia),?_,?_}
  .refine Str.ext' (Ni.mp ?_);rw[e',aJM hv,ac0 hd hn]
  .show(-((digitsVal cs:Nat):Int)).natAbs<_;lia
def bar:Str:=one 124
def zp:Str:={(#[98,121])}
def Bx(b:Int):List Str:=if b>0 then[zp,gb b]else[]
end Tx
namespace Tx
open PySem PySem.StrLaws PySem.NumText PySem.Builtin PySem.Builtin.Str
def aOs{S T:Int}{a b:Nat}(hS:S=(a:Int))(hT:T=(b:Int)):sliceRange S T 1=(fK (b-a)).map λk=>a+k:=by
 subst hS hT;unfold sliceRange;simp only[show(1:Int)>0 from ∅,if_true];by_cases hlt:(a:Int)<b
 .have e3:(((b:Int)-a+1-1)/1).toNat=b-a:=by rw[GP];lia
  simp only[hlt,if_true,e3];refine vK λk _=>?_;lia
 .have:b-a=0:=⋯;simp[hlt,this]
def aAO(l u:Option Nat)(n:Nat):strSliceIndices (l.map λa=>(a:Int)) (u.map λa=>(a:Int)) 1 n=(fK (min (u.getD n) n-min (l.getD 0) n)).map (λk=>min (l.getD 0) n+k):=by
 unfold strSliceIndices;cases l<;>cases u<;>refine aOs ?_ ?_<;>simp<;>lia
def agn(x:Str)(l u:Option Nat):(Txt.slice x (l.map λa=>(a:Int)) (u.map λa=>(a:Int))).cps.toList=(x.cps.toList.drop (min (l.getD 0) x.length)).take (min (u.getD x.length) x.length-min (l.getD 0) x.length):=by
 have hx:x.cps.toList.length=x.length:=by simp[Str.length]
 unfold Txt.slice;rw[aAO];split
 .rename_i h
  simp only[beq_self_eq_true,Nx,beq_iff_eq,bG,Bf]at h;rw[yP (by rw[tW,hx];lia),(⋯:min (l.getD 0) x.length=0),Br]
 .have p:=picks x.cps.toList (min (u.getD x.length) x.length-min (l.getD 0) x.length) (min (l.getD 0) x.length) (by rw[hx];lia);simpa using p
def ahK(x:Str)(a:Nat):(Txt.slice x (some (a:Int)) none).cps.toList=x.cps.toList.drop a:=by
 have hx:x.cps.toList.length=x.length:=by simp[Str.length]
 have:=agn x (some a) none;refine Qj this ?_;simp only[akV,LK];by_cases h:a<=x.length
 .rw[anl h,Nat.min_self,yP (by rw[tW,hx];lia)]
 .rw[acL ⋯,Nb ⋯,Nb ⋯,ahU]
def ahZ(x:Str)(b:Nat):(Txt.slice x none (some (b:Int))).cps.toList=x.cps.toList.take b:=by
 have hx:x.cps.toList.length=x.length:=by simp[Str.length]
 have:=agn x none (some b);refine Qj this ?_;simp only[akV,LK,Nat.zero_min,Br,Ky];rw[<-hx,ajP];lia
def aeo(x:Str)(c:Nat):Txt.startswith x (one c)=decide (x.cps.toList.head?=some c):=by
 have hx:x.cps.toList.length=x.length:=by simp[Str.length]
 unfold Txt.startswith;rw[subAt_one,List.head?_eq_getElem?];show(decide (0+1<=x.length)&&_)=_;by_cases h:1<=x.length
 .rw[decide_eq_true ⋯,Nx]
 .rw[decide_eq_false ⋯,ao2,List.getElem?_eq_none ⋯];rfl
def fR(w:Str):List Nat:=if w.cps.toList.head?=some 45 then w.cps.toList.drop 1 else w.cps.toList
noncomputable def oG:List Nat:=[48,49,50,51,52,53,54,55,56,57]
def adN(c:Nat):c∈oG↔48<=c/\c<=57:=by
 unfold oG;simp only[dz,iY,or_false];lia
def aLC(w:Str):Wr w↔(1<=(fR w).length/\(fR w).length<=60/\(∀c∈fR w,c∈oG)/\(w.cps.toList=[48]∨¬(fR w).head?=some 48)):=by
 constructor
 .rintro⟨s,cs,e,hd,l1,l2,hn,hs⟩;have ef:fR w=cs:=by
   unfold fR;cases s with
   |true=>rw[e];rfl
   |false=>
    rw[e];refine if_neg λz=>?_;cases cs with
    |nil=>cases z
    |cons a r=>
     have:=hd a (by simp);have:a=45:=jT z;lia
  rw[ef];refine{l1,l2,λc hc=>(adN c).mpr (hd c hc),?_};rcases hn with z|⟨c,r,z,hc⟩
  .cases s with
   |true=>exact absurd z (hs rfl)
   |false=>left;rw[e];exact z
  .right;rw[z];intro y;have:c=48:=jT y;lia
 .rintro⟨l1,l2,hd,h0⟩;have hd':AllDigits (fR w):=λc hc=>(adN c).mp (hd c hc);have hne:fR w≠[]:=Rz.mp l1;by_cases c:w.cps.toList.head?=some 45
  .have ef:fR w=w.cps.toList.drop 1:=if_pos c;have ew:w.cps.toList=45::fR w:=by
    rw[ef];cases h:w.cps.toList with
    |nil=>rw[h]at c;cases c
    |cons a r=>rw[h]at c;rw[jT c];rfl
   have h1:¬(fR w).head?=some 48:=by
    rcases h0 with z|z
    .rw[z]at c;cases c
    .exact z
   have hn:∃a r,fR w=a::r/\49<=a:=by
    cases h:fR w with
    |nil=>exact absurd h hne
    |cons a r=>
     have:=hd' a (by rw[h];simp);exists a,r,rfl;have:a≠48:=λz=>h1 (by rw[h,z];rfl);lia
   exact{true,fR w,ew,hd',l1,l2,.inr hn,λ_ z=>h1 (by rw[z];rfl)}
  .have ef:fR w=w.cps.toList:=if_neg c;refine{false,fR w,by rw[ef];rfl,hd',l1,l2,?_,λz=>by cases z};rcases h0 with z|z
   .exact .inl (by rw[ef];exact z)
   .right;cases h:fR w with
    |nil=>exact absurd h hne
    |cons a r=>
     have:=hd' a (by rw[h];simp);exists a,r,rfl;have:a≠48:=λy=>z (by rw[h,y];rfl);lia
end Tx
namespace K54
open PySem L2
open Pm Rm Tx
seal PA PE PS iT PT PW PI PG uz PO qF
set_option hygiene false
local macro_rules | `(#[$e])=>`(rT $e iB)
local macro_rules | `(#[$e,$x,*])=>`(rT $e #[$x,*])
local macro_rules | `(#[-$i:num])=>`(rT (aQ K (pv $i) aU) iB)
local macro_rules | `(#[-$i:num,$x,*])=>`(rT (aQ K (pv $i) aU) #[$x,*])
local macro_rules | `(#[""])=>`(Ju cX iB)
local macro_rules | `(#["",$x,*])=>`(Ju cX #[$x,*])
local macro_rules | `(#[_])=>`(Ju aU iB)
local macro_rules | `(#[_,$x,*])=>`(Ju aU #[$x,*])
local macro_rules | `(#[$i:num])=>`(akM (pv $i) iB)
local macro_rules | `(#[$i:num,$x,*])=>`(akM (pv $i) #[$x,*])
local macro_rules | `(#[(),$a,$c])=>`(ahu $a (aM $c))
local macro_rules | `(#[(),$a,$c,$x,*])=>`(ahu $a #[(),$c,$x,*])
local macro_rules | `(($e :))=>`($e)
local macro_rules | `((($e) :))=>`(($e :))
local macro_rules | `((_ :))=>`(aU)
local macro_rules | `(("" :))=>`(cX)
local macro_rules | `(($i:num :))=>`(pv $i)
local macro_rules | `((-$i:num :))=>`(aQ K (pv $i) aU)
local macro_rules | `(($a+$b :))=>`(pad K ($a :) ($b :))
local macro_rules | `(($a-$b :))=>`(jg axb ($a :) ($b :))
local macro_rules | `(($a*$b :))=>`(jg v_mul ($a :) ($b :))
local macro_rules | `(($a/$b :))=>`(jg aKM ($a :) ($b :))
local macro_rules | `(($a%$b :))=>`(jg aDc ($a :) ($b :))
local macro_rules | `(($a==$b :))=>`(yc (oO K hr) ($a :) ($b :))
local macro_rules | `(($(a) != $(b) :))=>`(yc (xne K hr) ($a :) ($b :))
local macro_rules | `(($a<$b :))=>`(yc LN ($a :) ($b :))
local macro_rules | `(($a>$b :))=>`(yc ar5 ($a :) ($b :))
local macro_rules | `(($a<=$b :))=>`(yc ad0 ($a :) ($b :))
local macro_rules | `(($a>=$b :))=>`(yc ad7 ($a :) ($b :))
set_option hygiene true
def top(i:Nat):Stmt:=PySem.Challenge.pw_nextbyrule_k54_desk_refuses.main.body.getD i (.Pass {0,0,0,(0)})
abbrev aag:Stmt:=top 12
abbrev Yi:Stmt:=top 13
abbrev PV:Stmt:=top 14
abbrev Ur:Stmt:=top 15
abbrev Oj:Stmt:=top 16
abbrev Ye:Stmt:=top 17
abbrev aay:Stmt:=top 18
abbrev RJ:Stmt:=top 22
abbrev Y0:Stmt:=top 23
abbrev WW:Stmt:=top 24
abbrev Ob:Stmt:=top 25
abbrev Ve:Stmt:=top 26
abbrev abr:Stmt:=top 27
abbrev aax:Stmt:=top 28
abbrev Yu:Stmt:=top 29
abbrev XU:Stmt:=top 31
abbrev Q0:Stmt:=top 32
abbrev SG:Stmt:=top 33
abbrev WR:Stmt:=top 34
abbrev SV:Stmt:=top 35
abbrev XH:Stmt:=top 36
abbrev PN:Stmt:=top 37
abbrev QN:Stmt:=top 38
abbrev abJ:Stmt:=top 39
abbrev VR:Stmt:=top 42
abbrev acn:Stmt:=top 43
abbrev Ze:Stmt:=top 44
abbrev acf:Stmt:=top 45
abbrev abC:Stmt:=top 46
abbrev Wj:Stmt:=top 47
abbrev Wq:Stmt:=top 48
abbrev acB:Stmt:=top 50
abbrev WK:Stmt:=top 51
abbrev Zr:Stmt:=top 52
abbrev Oa:Stmt:=top 54
abbrev VZ:Stmt:=top 56
abbrev Qf:Stmt:=top 57
abbrev QT:Stmt:=top 58
abbrev SJ:Stmt:=top 62
abbrev Rg:Stmt:=top 63
abbrev Ym:Stmt:=top 64
abbrev Pb:Stmt:=top 65
abbrev XE:Stmt:=top 66
abbrev ZK:Stmt:=top 67
abbrev abz:Stmt:=top 68
abbrev Xu:Stmt:=top 69
abbrev YQ:Stmt:=top 70
abbrev Vb:Stmt:=top 71
abbrev Z2:Stmt:=top 72
abbrev Ww:Stmt:=top 73
abbrev YF:Stmt:=top 74
abbrev Oh:Stmt:=top 75
abbrev acF:Stmt:=top 76
abbrev Sh:Stmt:=top 78
abbrev abG:Stmt:=top 79
abbrev acS:Stmt:=top 80
abbrev SQ:Stmt:=top 81
abbrev RM:Stmt:=top 82
abbrev abe:Stmt:=top 83
abbrev Y7:Stmt:=top 84
abbrev acU:Stmt:=top 85
abbrev Zx:Stmt:=top 86
abbrev QZ:Stmt:=top 88
abbrev Us:Stmt:=top 89
abbrev YS:Stmt:=top 91
abbrev abT:Stmt:=top 92
abbrev aaw:Stmt:=top 93
abbrev OX:Stmt:=top 94
abbrev Sv:Stmt:=top 97
abbrev aaH:Stmt:=top 98
abbrev Sd:Stmt:=top 99
abbrev Tw:Stmt:=top 100
abbrev aas:Stmt:=top 101
abbrev Yg:Stmt:=top 104
abbrev XQ:Stmt:=top 105
abbrev P0:Stmt:=top 106
abbrev Q9:Stmt:=top 107
abbrev R6:Stmt:=top 108
abbrev WY:Stmt:=top 109
abbrev abL:Stmt:=top 110
abbrev Rk:Stmt:=top 111
abbrev acM:Stmt:=top 112
abbrev Wi:Stmt:=top 115
abbrev ach:Stmt:=top 116
abbrev Xx:Stmt:=top 117
abbrev Y6:Stmt:=top 118
abbrev TX:Stmt:=top 119
abbrev Oq:Stmt:=top 123
abbrev VL:Stmt:=top 124
abbrev RV:Stmt:=top 125
abbrev O8:Stmt:=top 126
abbrev Vm:Stmt:=top 127
abbrev abj:Stmt:=top 128
abbrev Oz:Stmt:=top 129
abbrev QF:Stmt:=top 130
abbrev acg:Stmt:=top 136
abbrev PF:Stmt:=top 137
abbrev Xb:Stmt:=top 138
abbrev Yo:Stmt:=top 139
abbrev RK:Stmt:=top 140
abbrev abF:Stmt:=top 141
abbrev aa1:Stmt:=top 142
abbrev Za:Stmt:=top 143
abbrev abk:Stmt:=top 144
abbrev abB:Stmt:=top 145
abbrev X7:Stmt:=top 146
abbrev Pu:Stmt:=top 147
abbrev Ql:Stmt:=top 148
abbrev SX:Stmt:=top 149
abbrev abh:Stmt:=top 150
abbrev aah:Stmt:=top 151
abbrev acd:Stmt:=top 152
abbrev Vq:Stmt:=top 153
abbrev ZY:Stmt:=top 154
abbrev XD:Stmt:=top 155
abbrev ZD:Stmt:=top 156
abbrev aaq:Stmt:=top 157
abbrev Py:Stmt:=top 158
abbrev acC:Stmt:=top 159
abbrev WT:Stmt:=top 160
abbrev W4:Stmt:=top 161
abbrev Yz:Stmt:=inClass (top 164) 0
abbrev Qw:Stmt:=inClass (top 164) 1
abbrev V6:Stmt:=top 166
abbrev Q6:Stmt:=top 167
abbrev YB:Stmt:=top 168
abbrev OJ:Stmt:=top 169
abbrev aad:Stmt:=top 170
abbrev PX:Stmt:=top 171
abbrev Tp:Stmt:=top 172
abbrev QJ:Stmt:=top 173
abbrev TR:Stmt:=top 174
abbrev Ui:Stmt:=top 175
abbrev aaE:Stmt:=top 176
abbrev abV:Stmt:=top 177
abbrev Zg:Stmt:=top 178
abbrev yt:Stmt:=top 179
def arv:aK ["thing"] ["thing"] (aC aag):=aN
def Yv:aK ["number","divisor"] ["number"] (aC Yi):=aN
def aH6:aK ["thing"] ["thing"] (aC PV):=aN
def aJx:aK ["by","thing"] ["by","thing"] (aC Ur):=aN
def ayh:aK ["by","number"] ["by","number"] (aC Oj):=aN
def wO:aK ["prime","number","power","square","left"] ["prime","number"] (aC Ye):=aN
def at4:aK ["by","one","other"] ["by","one","other"] (aC aay):=aN
def aLK:aK ["by","thing"] ["by","thing"] (aC RJ):=aN
def JY:aK ["thing","by","rule","starts"] ["thing"] (aC Y0):=aN
def aQV:aK ["one","other"] ["one","other"] (aC WW):=aN
def aFv:aK ["row"] ["row"] (aC Ob):=aN
def Ko:aK ["by","rule","before","total","k"] ["by","rule","before"] (aC Ve):=aN
def E8:aK ["row","count","by","rule","starts","found"] ["row","count"] (aC abr):=aN
def aAL:aK ["n"] ["n"] (aC aax):=aN
def aJT:aK ["row","count"] ["row","count"] (aC Yu):=aN
def Tv:aK ["numbers","end"] ["numbers"] (aC XU):=aN
def aBt:aK ["poly","k"] ["poly","k"] (aC Q0):=aN
def J8:aK ["by","one","other","total","i","k"] ["by","one","other"] (aC SG):=aN
def xZ:aK ["by","one","other","top","often","left","shift","factor","k"] ["by","one","other"] (aC WR):=aN
def aei:aK ["prime","poly","last"] ["prime","poly"] (aC SV):=aN
def zH:aK ["by","one","other","great","small","left"] ["by","one","other"] (aC XH):=aN
def Xf:aK ["by","rule","length","numbers"] ["by","rule"] (aC PN):=aN
def anM:aK ["by","poly","length"] ["by","poly"] (aC QN):=aN
def aIk:aK ["by","poly","found","n"] ["by","poly","found","n"] (aC abJ):=aN
def VW:aK ["number","found"] ["number"] (aC VR):=aN
def awp:aK ["monic_one","poly"] ["monic_one","poly"] (aC acn):=aN
def aur:aK ["prime","poly"] ["prime","poly"] (aC Ze):=aN
def aiG:aK ["modulus","number","rest"] ["modulus","number"] (aC acf):=aN
def aL4:aK ["modulus","number","prime","rest","more"] ["modulus","number","prime","rest"] (aC abC):=aN
def lZ:aK ["one","other","told","modulus","prime","ripe","seen","before"] ["one","other"] (aC Wj):=aN
def azP:aK ["by","one","other"] ["by","one","other"] (aC Wq):=aN
def zj:aK ["row","poly","by","starts","top","k","parts"] ["row","poly"] (aC acB):=aN
def JZ:aK ["row","by","poly","top"] ["row"] (aC WK):=aN
def Y4:aK ["row","least","rule"] ["row"] (aC Zr):=aN
def CF:aK ["one","other","count","ours","theirs","n"] ["one","other"] (aC Oa):=aN
def aqG:aK ["rule","sums","k","reach"] ["rule","sums","k"] (aC VZ):=aN
def J2:aK ["rule","count","sums","k","own"] ["rule","count"] (aC Qf):=aN
def Ul:aK ["sums","rule","k"] ["sums"] (aC QT):=aN
def aRa:aK ["length"] ["length"] (aC SJ):=aN
def axF:aK ["start","step"] ["start","step"] (aC Rg):=aN
def QD:aK ["by","rule","starts","rule_taken","starts_taken"] ["by","rule","starts"] (aC Ym):=aN
def asQ:aK ["ours","theirs","n"] ["ours","theirs","n"] (aC Pb):=aN
def axO:aK ["ours","theirs","n"] ["ours","theirs","n"] (aC XE):=aN
def aPL:aK ["ours","theirs","n"] ["ours","theirs","n"] (aC ZK):=aN
def JB:aK ["one","other","rule","pair_place","length","ours","theirs"] ["one","other","rule","pair_place"] (aC abz):=aN
def IZ:aK ["one","other","pair_place","by","ours","theirs","poly"] ["one","other","pair_place"] (aC Xu):=aN
def aQf:aK ["one","other"] ["one","other"] (aC YQ):=aN
def avT:aK ["one","other"] ["one","other"] (aC Vb):=aN
def yr:aK ["one","other","ours","theirs","length","our_sums","their_sums","rule"] ["one","other"] (aC Z2):=aN
def aF1:aK ["row","number"] ["row","number"] (aC Ww):=aN
def aQQ:aK ["row","by","least","length","poly","found"] ["row"] (aC YF):=aN
def yI:aK ["row","start","step","least","length","sums","found","rule"] ["row","start","step"] (aC Oh):=aN
def Qe:aK ["row","numbers","least","rule"] ["row","numbers"] (aC acF):=aN
def aMn:aK ["by","line"] ["by","line"] (aC Sh):=aN
def adI:aK ["lines","begin","column","i"] ["lines","begin","column"] (aC abG):=aN
def amt:aK ["by","lines","at","top","down"] ["by","lines","at","top"] (aC acS):=aN
def aq5:aK ["by","line","head","column","last","pivot","factor","mixed","share"] ["by","line","head","column","last"] (aC SQ):=aN
def uG:aK ["by","wide","lines","heads","last","column","top","at","i"] ["by","wide","lines"] (aC RM):=aN
def zV:aK ["one","other","great","small","left"] ["one","other"] (aC abe):=aN
def DF:aK ["by","bottom","tops","top","divisor"] ["by","bottom","tops"] (aC Y7):=aN
def aGm:aK ["by","wide","lines","heads","last","column","free","i"] ["by","wide","lines","heads","last"] (aC acU):=aN
def vq:aK ["by","wide","table","wished","lines","i","cleared","heads","last","tops","low"] ["by","wide","table","wished"] (aC Zx):=aN
def aGU:aK ["by","wide","table","wished","turned","goal"] ["by","wide","table","wished"] (aC QZ):=aN
def ah2:aK ["by","wide","table","wished","found"] ["by","wide","table","wished"] (aC Us):=aN
def aLi:aK ["row","divisor","rule","starts"] ["row","divisor"] (aC YS):=aN
def Mg:aK ["row","divisor","start"] ["row"] (aC abT):=aN
def Kd:aK ["row","divisor","start","step","length","rests","k"] ["row","divisor","start","step"] (aC aaw):=aN
def aMi:aK ["row","prime"] ["row","prime"] (aC OX):=aN
def aHR:aK ["by","n"] ["by","n"] (aC Sv):=aN
def Al:aK ["by","poly","n","left","figure","doubled"] ["by","poly","n"] (aC aaH):=aN
def Kh:aK ["row","n","by","rule","left"] ["row","n"] (aC Sd):=aN
def ayW:aK ["row","n"] ["row","n"] (aC Tw):=aN
def CJ:aK ["row","n","by","numbers","near","starts"] ["row","n"] (aC aas):=aN
def ayb:aK ["poly"] ["poly"] (aC Yg):=aN
def DX:aK ["number","small","great","tried"] ["number"] (aC XQ):=aN
def J9:aK ["poly","low","above","below"] ["poly"] (aC P0):=aN
def wC:aK ["poly","root","often","left","tried"] ["poly","root"] (aC Q9):=aN
def Ba:aK ["poly","roots","left","root","found"] ["poly"] (aC R6):=aN
def Ny:aK ["number","exponent","product","turn"] ["number","exponent"] (aC WY):=aN
def YJ:aK ["roots","n","line","pair"] ["roots","n"] (aC abL):=aN
def Bc:aK ["roots","tops","parts","begin","pair","end"] ["roots","tops"] (aC Rk):=aN
def Ai:aK ["row","found","roots","length","table","answer"] ["row"] (aC acM):=aN
def aH0:aK ["prime","length","windows","turn"] ["prime","length"] (aC Wi):=aN
def apY:aK ["row","least"] ["row"] (aC ach):=aN
def aRK:aK ["row","by","rule","window","seen","begin"] ["row"] (aC Xx):=aN
def aSo:aK ["row"] ["row"] (aC Y6):=aN
def vD:aK ["row","number","least","found","begin","length","numbers","early","starts"] ["row","number"] (aC TX):=aN
def aM2:aK [] [] (aC Oq):=aN
def azB:aK ["number"] ["number"] (aC VL):=aN
def ap8:aK ["row","words"] ["row"] (aC RV):=aN
def afh:aK ["word","figures"] ["word"] (aC O8):=aN
def awV:aK ["word"] ["word"] (aC Vm):=aN
def aiO:aK ["word","prime"] ["word"] (aC abj):=aN
def Np:aK ["rule_words","start_words","by","rule","starts","row"] ["rule_words","start_words","by"] (aC Oz):=aN
def Ek:aK ["text","words","bar","behind","end"] ["text"] (aC QF):=aN
def ajU:aK ["text","words"] ["text"] (aC acg):=aN
def Lj:aK ["words","kinds","count"] ["words"] (aC PF):=aN
def aQW:aK ["word"] ["word"] (aC Xb):=aN
def ap7:aK ["kept","word","name"] ["kept","word"] (aC Yo):=aN
def aFt:aK ["kept","kind","word"] ["kept","kind","word"] (aC RK):=aN
def aue:aK ["said"] ["said"] (aC abF):=aN
def aw0:aK ["said"] ["said"] (aC aa1):=aN
def aMa:aK ["said"] ["said"] (aC Za):=aN
def aME:aK ["said"] ["said"] (aC abk):=aN
def aOv:aK ["said"] ["said"] (aC abB):=aN
def aCE:aK ["said"] ["said"] (aC X7):=aN
def auN:aK ["said"] ["said"] (aC Pu):=aN
def aAQ:aK ["said"] ["said"] (aC Ql):=aN
def aHj:aK ["said"] ["said"] (aC SX):=aN
def aw7:aK ["said"] ["said"] (aC abh):=aN
def aPD:aK ["said"] ["said"] (aC aah):=aN
def ays:aK ["numbers"] ["numbers"] (aC acd):=aN
def aAt:aK ["said"] ["said"] (aC Vq):=aN
def aOQ:aK ["said"] ["said"] (aC ZY):=aN
def aAV:aK ["said"] ["said"] (aC XD):=aN
def ama:aK ["said","place"] ["said"] (aC ZD):=aN
def aDw:aK ["said"] ["said"] (aC aaq):=aN
def aao:aK ["said","found","words"] ["said"] (aC Py):=aN
def Yj:aK ["said","form","parts"] ["said"] (aC acC):=aN
def aAo:aK ["said"] ["said"] (aC WT):=aN
def afd:aK ["said","k"] ["said"] (aC W4):=aN
def aKJ:aK ["self"] ["self"] (aC Yz):=aN
def Kq:aK ["self","row","words","kinds","said"] ["self","row"] (aC Qw):=aN
def aKl:aK ["_law_script","_law_k"] ["_law_script","_law_k"] (aC V6):=aN
def nW:aK ["_law_cell","_law_turn","_law_signs","_law_size","_law_spots","_law_k","_law_word_here","_law_at","_law_found","_law_sign"] ["_law_cell","_law_turn"] (aC Q6):=aN
def aSv:aK ["_law_cell","_law_k"] ["_law_cell","_law_k"] (aC YB):=aN
def Hu:aK ["_law_e","_law_some","_law_words"] ["_law_e"] (aC OJ):=aN
def Jd:aK ["_law_desk","_law_text","_law_found","_law_word_here","_law_e"] ["_law_desk","_law_text"] (aC aad):=aN
def ao0:aK ["_law_text","_law_names","_law_known"] ["_law_text","_law_names"] (aC PX):=aN
def B7:aK ["_law_number","_law_some"] ["_law_number"] (aC Tp):=aN
def Bq:aK ["_law_number","_law_some"] ["_law_number"] (aC QJ):=aN
def yG:aK ["_law_number","_law_some","_law_name"] ["_law_number"] (aC TR):=aN
def tY:aK ["_law_number","_law_far","_law_bys","_law_fars","_law_some"] ["_law_number"] (aC Ui):=aN
def acq:aK ["_law_names","_law_way","_law_number","_law_text","_law_due"] ["_law_names","_law_way","_law_number"] (aC aaE):=aN
def Iv:aK ["_law_desk","_law_d","_law_rows","_law_text"] ["_law_desk","_law_d"] (aC abV):=aN
def abY:aK ["_law_desk","_law_d","_law_grown","_law_rows"] ["_law_desk","_law_d"] (aC Zg):=aN
def lu:aK ["_law_script","_law_names","_law_a","_law_b","_law_c","_law_d","_law_desk","_law_texts","_law_name","_law_text","_law_j","_law_number","_law_due"] ["_law_script"] (aC yt):=aN
abbrev aH9:=cN [(".0",.local),("part",.local),("is_number",.globalImplicit),("by",.cell)]
abbrev aQ1:=cN [(".0",.local),("number",.local),("over",.globalImplicit),("last",.cell),("prime",.cell)]
abbrev aJi:=cN [(".0",.local),("k",.local),("taken",.globalImplicit),("by",.cell),("length",.cell),("rule",.cell)]
abbrev aQX:=cN [(".0",.local),("k",.local),("taken",.globalImplicit),("by",.cell),("length",.cell),("poly",.cell)]
abbrev aEd:=cN [(".0",.local),("k",.local),("found",.cell),("n",.cell),("poly",.cell)]
abbrev aDz:=cN [(".0",.local),("number",.local),("taken",.globalImplicit),("prime",.cell)]
abbrev aDg:=cN [(".0",.local),("rest",.local),("nearest",.globalImplicit),("prime",.cell)]
abbrev axr:=cN [(".0",.local),("k",.local),("joined",.globalImplicit),("before",.cell),("modulus",.cell),("prime",.cell),("seen",.cell)]
abbrev axw:=cN [(".0",.local),("j",.local),("k",.cell),("poly",.cell),("starts",.cell)]
abbrev aHr:=cN [(".0",.local),("i",.local),("k",.cell),("rule",.cell),("sums",.cell)]
abbrev aH3:=cN [(".0",.local),("number",.local),("taken",.globalImplicit),("by",.cell)]
abbrev aMF:=cN [(".0",.local),("number",.local),("taken",.globalImplicit),("by",.cell)]
abbrev aBT:=cN [(".0",.local),("n",.local),("ours",.cell),("pair_place",.cell),("theirs",.cell)]
abbrev aIC:=cN [(".0",.local),("k",.local),("our_sums",.cell),("their_sums",.cell)]
abbrev atA:=cN [(".0",.local),("k",.local),("step",.cell),("sums",.cell)]
abbrev ayF:=cN [(".0",.local),("k",.local),("found",.cell),("start",.cell),("step",.cell)]
abbrev aCY:=cN [(".0",.local),("number",.local),("taken",.globalImplicit),("by",.cell)]
abbrev aRm:=cN [(".0",.local),("number",.local),("taken",.globalImplicit),("by",.cell)]
abbrev aNg:=cN [(".0",.local),("top",.local),("over",.globalImplicit),("bottom",.cell),("by",.cell)]
abbrev aF0:=cN [(".0",.local),("top",.local),("divisor",.cell)]
abbrev ayP:=cN [(".0",.local),("i",.local),("line_taken",.globalImplicit),("by",.cell),("table",.cell),("wished",.cell)]
abbrev asY:=cN [(".0",.local),("line",.local),("wide",.cell)]
abbrev aw4:=cN [(".0",.local),("i",.local),("number_at",.globalImplicit),("left",.cell)]
abbrev aFT:=cN [(".0",.local),("m",.local),("sum_at",.globalImplicit),("by",.cell),("near",.cell),("numbers",.cell)]
abbrev atr:=cN [(".0",.local),("number",.local),("abs",.globalImplicit),("ABOVE_ALL_NUMBERS",.globalImplicit)]
abbrev aBs:=cN [(".0",.local),("number",.local)]
abbrev aSu:=cN [(".0",.local),("divisor",.local)]
abbrev aHI:=cN [(".0",.local),("j",.local),("power",.globalImplicit),("n",.cell),("pair",.cell)]
abbrev awT:=cN [(".0",.local),("pair",.local)]
abbrev aPZ:=cN [(".0",.local),("pair",.local)]
abbrev aKb:=cN [(".0",.local),("n",.local),("form_line",.globalImplicit),("roots",.cell)]
abbrev aQK:=cN [(".0",.local),("n",.local),("number",.cell),("numbers",.cell)]
abbrev aBp:=cN [(".0",.local),("n",.local),("number",.cell),("numbers",.cell)]
abbrev auP:=cN [(".0",.local),("number",.local),("number_shown",.globalImplicit)]
abbrev aMV:=cN [(".0",.local),("number",.local),("number_shown",.globalImplicit)]
abbrev aMA:=cN [(".0",.local),("figure",.local),("FIGURES",.globalImplicit)]
abbrev aCS:=cN [(".0",.local),("word",.local),("read_number",.globalImplicit)]
abbrev arW:=cN [(".0",.local),("word",.local),("read_number",.globalImplicit)]
abbrev aLD:=cN [(".0",.local),("sign",.local),("NAME_SIGNS",.globalImplicit)]
abbrev aSl:=cN [(".0",.local),("number",.local),("taken",.globalImplicit),("said",.cell)]
abbrev aQY:=cN [(".0",.local),("number",.local),("number_shown",.globalImplicit)]
abbrev as6:=cN [(".0",.local),("n",.local),("number_shown",.globalImplicit)]
abbrev arw:=cN [(".0",.local),("n",.local),("number_shown",.globalImplicit)]
abbrev atm:=cN [(".0",.local),("part",.local),("number_shown",.globalImplicit),("numbers_shown",.globalImplicit)]
abbrev awO:=cN [(".0",.local),("k",.local),("read_word",.globalImplicit),("kinds",.cell),("self",.cell),("words",.cell)]
abbrev aDr:=cN [(".0",.local),("_law_k",.local),("_law_signs",.cell)]
abbrev ayn:=cN [(".0",.local),("_law_k",.local),("_law_word_here",.cell)]
abbrev aJU:=cN [(".0",.local),("_law_said",.local),("_law_word_here",.local)]
abbrev aKC:=cN [(".0",.local),("_law_word_here",.local),("_law_known",.cell)]
abbrev aBa:=cN [(".0",.local),("_law_text",.local)]
abbrev aHl:=cN [(".0",.local),("_law_text",.local)]
abbrev avx:=cN [(".0",.local),("_law_text",.local),("_law_told",.globalImplicit),("_law_desk",.cell)]
abbrev aNN:=cN [(".0",.local),("_law_text",.local),("_law_told",.globalImplicit),("_law_desk",.cell)]
abbrev aAJ:=cN [(".0",.local),("_law_text",.local),("_law_told",.globalImplicit),("_law_desk",.cell)]
abbrev atN:=cN [(".0",.local),("_law_word_here",.local),("_law_told",.globalImplicit),("_law_d",.cell),("_law_desk",.cell)]
abbrev aIf:=cN [(".0",.local),("_law_name",.local),("_law_told",.globalImplicit),("_law_desk",.cell)]
abbrev aLQ:=cN [(".0",.local),("_law_text",.local)]
abbrev aPF:=cN [(".0",.local),("_law_name",.local),("_law_told",.globalImplicit),("_law_desk",.cell)]
structure Bt(mg:Str->Option Value):Prop where
 auK:mg "ValueError" = none
 yU:mg "abs" = none
 aau:mg "all" = none
 UJ:mg "any" = none
 aHp:mg "bool" = none
 anz:mg "int" = none
 jZ:mg "isinstance" = none
 bZ:mg "len" = none
 uJ:mg "list" = none
 aBP:mg "max" = none
 aLs:mg "min" = none
 dY:mg "range" = none
 afn:mg "reversed" = none
 vP:mg "str" = none
 Ma:mg "sum" = none
 lA:mg "tuple" = none
 aul:mg "zip" = none
 aa6:∃t,mg "ABOVE_ALL_BYS" = some (.int 1000 t)
 SD:∃t,mg "ABOVE_ALL_NUMBERS" = some (.int 1000000 t)
 Rj:∃t,mg "BELOW_THE_PRIMES" = some (.int 1000000 t)
 ZS:∃t,mg "FARTHEST" = some (.int 300 t)
 abo:∃t,mg "FARTHEST_BY_0" = some (.int 400 t)
 abt:∃t,mg "FARTHEST_START" = some (.int 100 t)
 aak:∃t,mg "FIGURES" = some (.str "0123456789" t)
 JN:∃t,mg "LONGEST" = some (.int 12 t)
 PB:∃t,mg "LONGEST_NAME" = some (.int 8 t)
 aa3:∃t,mg "MOST_AHEAD" = some (.int 12 t)
 Yn:∃t,mg "MOST_FIGURES_READ" = some (.int 60 t)
 ah1:∃t,mg "MOST_WINDOWS" = some (.int 4096 t)
 abZ:∃t,mg "NAME_SIGNS" = some (.str "abcdefghijklmnopqrstuvwxyz0123456789" t)
 Vp:∃t,mg "WIDEST_STEP" = some (.int 10 t)
structure Ms(P:Program)(w:World)(K:aD)(mg:Str->Option Value)(base:Heap)(bV bU bN bT bW eF bM bO bQ:Addr):Prop where
 aJc:mg "NoBy" = some (.ref bV)
 aDF:mg "NoName" = some (.ref bU)
 aOW:mg "NoNumber" = some (.ref bN)
 aDt:mg "NoRow" = some (.ref bT)
 aJj:mg "NoText" = some (.ref bW)
 aN7:mg "RuleError" = some (.ref eF)
 axa:mg "TooBig" = some (.ref bM)
 aLW:mg "TooFar" = some (.ref bO)
 axn:mg "TooLong" = some (.ref bQ)
 O7:qI mg base "NoBy" bV
 ara:pI base bV eF
 av6:jM K bV
 Yt:aG K (.ref bV) (.ref bV)=some true
 SW:aG K (.ref bV) (.ref bU)=some false
 Ut:aG K (.ref bV) (.ref bN)=some false
 Q8:aG K (.ref bV) (.ref bT)=some false
 abH:aG K (.ref bV) (.ref bW)=some false
 V4:aG K (.ref bV) (.ref bM)=some false
 abu:aG K (.ref bV) (.ref bO)=some false
 Ot:aG K (.ref bV) (.ref bQ)=some false
 UO:aG K (.ref bV) (.type "ValueError")=some true
 am6:qI mg base "NoName" bU
 aFH:pI base bU eF
 aMl:jM K bU
 UC:aG K (.ref bU) (.ref bV)=some false
 R9:aG K (.ref bU) (.ref bU)=some true
 aaW:aG K (.ref bU) (.ref bN)=some false
 Z9:aG K (.ref bU) (.ref bT)=some false
 Tf:aG K (.ref bU) (.ref bW)=some false
 PK:aG K (.ref bU) (.ref bM)=some false
 abv:aG K (.ref bU) (.ref bO)=some false
 Wl:aG K (.ref bU) (.ref bQ)=some false
 ZR:aG K (.ref bU) (.type "ValueError")=some true
 aC8:qI mg base "NoNumber" bN
 aGc:pI base bN eF
 au2:jM K bN
 Sw:aG K (.ref bN) (.ref bV)=some false
 Vs:aG K (.ref bN) (.ref bU)=some false
 QW:aG K (.ref bN) (.ref bN)=some true
 Wf:aG K (.ref bN) (.ref bT)=some false
 abU:aG K (.ref bN) (.ref bW)=some false
 Uc:aG K (.ref bN) (.ref bM)=some false
 QG:aG K (.ref bN) (.ref bO)=some false
 VJ:aG K (.ref bN) (.ref bQ)=some false
 Ss:aG K (.ref bN) (.type "ValueError")=some true
 U9:qI mg base "NoRow" bT
 au4:pI base bT eF
 aEC:jM K bT
 Vv:aG K (.ref bT) (.ref bV)=some false
 Zt:aG K (.ref bT) (.ref bU)=some false
 Vh:aG K (.ref bT) (.ref bN)=some false
 ab5:aG K (.ref bT) (.ref bT)=some true
 Um:aG K (.ref bT) (.ref bW)=some false
 Tr:aG K (.ref bT) (.ref bM)=some false
 abA:aG K (.ref bT) (.ref bO)=some false
 Qs:aG K (.ref bT) (.ref bQ)=some false
 Qm:aG K (.ref bT) (.type "ValueError")=some true
 DB:qI mg base "NoText" bW
 aA9:pI base bW eF
 aDK:jM K bW
 Wc:aG K (.ref bW) (.ref bV)=some false
 Xk:aG K (.ref bW) (.ref bU)=some false
 acW:aG K (.ref bW) (.ref bN)=some false
 abE:aG K (.ref bW) (.ref bT)=some false
 Qa:aG K (.ref bW) (.ref bW)=some true
 WL:aG K (.ref bW) (.ref bM)=some false
 XM:aG K (.ref bW) (.ref bO)=some false
 abN:aG K (.ref bW) (.ref bQ)=some false
 aan:aG K (.ref bW) (.type "ValueError")=some true
 ajz:qI mg base "TooBig" bM
 azf:pI base bM eF
 aIR:jM K bM
 RD:aG K (.ref bM) (.ref bV)=some false
 acJ:aG K (.ref bM) (.ref bU)=some false
 aac:aG K (.ref bM) (.ref bN)=some false
 aa2:aG K (.ref bM) (.ref bT)=some false
 Zn:aG K (.ref bM) (.ref bW)=some false
 aa0:aG K (.ref bM) (.ref bM)=some true
 ZQ:aG K (.ref bM) (.ref bO)=some false
 VX:aG K (.ref bM) (.ref bQ)=some false
 R4:aG K (.ref bM) (.type "ValueError")=some true
 Ke:qI mg base "TooFar" bO
 aFm:pI base bO eF
 aEn:jM K bO
 Ux:aG K (.ref bO) (.ref bV)=some false
 acA:aG K (.ref bO) (.ref bU)=some false
 aaD:aG K (.ref bO) (.ref bN)=some false
 W2:aG K (.ref bO) (.ref bT)=some false
 abM:aG K (.ref bO) (.ref bW)=some false
 Wg:aG K (.ref bO) (.ref bM)=some false
 Qu:aG K (.ref bO) (.ref bO)=some true
 Uo:aG K (.ref bO) (.ref bQ)=some false
 acX:aG K (.ref bO) (.type "ValueError")=some true
 aAE:qI mg base "TooLong" bQ
 aBR:pI base bQ eF
 aOy:jM K bQ
 Vy:aG K (.ref bQ) (.ref bV)=some false
 QS:aG K (.ref bQ) (.ref bU)=some false
 Tn:aG K (.ref bQ) (.ref bN)=some false
 V5:aG K (.ref bQ) (.ref bT)=some false
 Rv:aG K (.ref bQ) (.ref bW)=some false
 Xc:aG K (.ref bQ) (.ref bM)=some false
 ZG:aG K (.ref bQ) (.ref bO)=some false
 Xm:aG K (.ref bQ) (.ref bQ)=some true
 V3:aG K (.ref bQ) (.type "ValueError")=some true
abbrev aP{P:Program}{w:World}{K:aD}{mg:Str->Option Value}{base:Heap}{bV bU bN bT bW eF bM bO bQ:Addr}(M:Ms P w K mg base bV bU bN bT bW eF bM bO bQ)(x:Str)(k:Nat)(ps:List Str)(sp:Sp):=kJ P w K mg base x k ps sp
abbrev ar6{P:Program}{w:World}{K:aD}{mg:Str->Option Value}{base:Heap}{bV bU bN bT bW eF bM bO bQ:Addr}(M:Ms P w K mg base bV bU bN bT bW eF bM bO bQ)(x:Str)(k:Nat)(ps:List Str)(sp:Sp):=OB P w K mg base x k ps sp
abbrev vB:List (Str×List Str):=[("row",["NEW","TEXT"]),("short",["NEW","A"]),("add",["NEW","A","A"]),("multiply",["NEW","A","A"]),("roll",["NEW","A","A"]),("scale",["NEW","A","NUMBER"]),("sum",["NEW","A"]),("every",["NEW","A","NUMBER","NUMBER"]),("ahead",["NEW","A","NUMBER"]),("on",["NEW","A","NUMBER"]),("rest",["NEW","A","BY"]),("drop",["A"]),("show",["A"]),("places",["A","NUMBER"]),("at",["A","NUMBER"]),("part",["A","A"]),("round",["A"]),("where",["A","NUMBER"]),("closed",["A"]),("divisor",["A"]),("divides",["A","NUMBER","NUMBER","NUMBER"])]
abbrev AH:List Str:=["","Show","shown","rows"]
abbrev AF:List (Str×Str):=[("row","make_row"),("short","make_short"),("add","make_add"),("multiply","make_multiply"),("roll","make_roll"),("scale","make_scale"),("sum","make_sum"),("every","make_every"),("ahead","make_ahead"),("on","make_on"),("rest","make_rest")]
abbrev akF:List Str:=["drop","show","places","at","part","round","where","closed","divisor","divides"]
abbrev BP:List (Str×Str):=[("show","tell_show"),("places","tell_places"),("at","tell_at"),("part","tell_part"),("round","tell_round"),("where","tell_where"),("closed","tell_closed"),("divisor","tell_divisor"),("divides","tell_divides")]
abbrev Ly:List Str:=["row","short","add","multiply","roll","scale","sum","every","ahead","on","rest","drop"]
structure Dk(w:World)(K:aD)(mg:Str->Option Value)(nQ mQ m9 cR:Addr):Prop where
 aml:KD w K mg "FORMS" nQ
 ayt:KDT K nQ vB
 Xa:MK K nQ AH
 ag6:KD w K mg "MAKERS" mQ
 adT:Kz K mg mQ AF
 Ox:MK K mQ akF
 ap2:KD w K mg "TELLERS" m9
 apG:Kz K mg m9 BP
 MF:MK K m9 Ly
 bk:bI K cStatics sharingNotToldKey=some none
 zN:ClM K mg "Desk" cR
 J4:wJ K cR "kept"
abbrev VN:Nat:=24
section
variable {A B C D E F G H I J K L M N O:Type}
end
section
variable {X:Cx}{r:Rw}{a:Addr}{pos:Pos}{H H' H1:Hp}{x k y:Int}{p:Prop}{xs:List Int}{m n s l:Nat}{c:Cl}{ix:List (Option Nat)}{te:TE}{σ:St}{Q:VK}{K:aD}{E:XK}{J:It}
def au(i:Nat){x:Str}{e:Expr}{te:TE}{pos pos':Pos}(hN:X.N.Nodup)(he:PE X e te)(hi:X.N[i]?=some x:=by rfl)(hx:Loc X.env.scope x:=by exact ju rfl)(hs:swapsWith e (some (.Name x pos')) pos.line X.env=pure false:=by rfl)
  (hf:X.fn x=true∨X.env.scope.names.lookup x=some .local:=by first|exact .inl rfl|exact .inr rfl|assumption):PS X (.Assign [.Name x pos'] e pos) (v8 te (iw i)):=fj hN hi hx he hs hf
def aY(i:Nat){x:Str}{pos:Pos}(hN:X.N.Nodup)(hi:X.N[i]?=some x:=by rfl)(hx:Loc X.env.scope x:=by exact ju rfl)(hf:X.fn x=true∨X.env.scope.names.lookup x=some .local:=by first|exact .inl rfl|exact .inr rfl|assumption):PG X (.Name x pos) (iw i):=aa7 hN hi hx hf
def aQ(K:aD){a b:Expr}{ta tb:TE}{pos:Pos}(ha:PE X a ta)(hb:PE X b tb)(hK:X.K=K:=by rfl)(hs:Qv b:=by exactλ_ _=>rfl):PE X (.Subscript a b pos) (oY (Ka K) ta tb):=aOE (xix K hK) ha hb hs
def pad(K:aD){a b:Expr}{ta tb:TE}{pos:Pos}(ha:PE X a ta)(hb:PE X b tb)(hK:X.K=K:=by rfl):PE X (.BinOp a .Add b pos) (oY (vI K) ta tb):=jg (avJ K hK) ha hb
def cj(K:aD)(hm:X.mg "len" = none){e:Expr}{es:List Expr}{t:TA}{p pos:Pos}(ha:PA X (e::es) t)(hg:Gl X "len" := by rfl)(hK:X.K=K:=by rfl)
  (he:starEach (e::es) X.env=(false,eval e X.env)::starEach es X.env:=by rfl) (hpl:(backTo pos (starEach es X.env)).any (·.1)=false:=by rfl):PE X (.Call (.Name "len" p) (e::es) [] pos) (MR (Ue K) t):=
 eU (aID K hK) hg hm boot_len ha ∅ ∅ he hpl
def yc{op:CmpOp}{r:R2}{a b:Expr}{ta tb:TE}(ho:cQ X (compareOp op) r)(ha:PE X a ta)(hb:PE X b tb)(hm:behindInMarks op b=false:=by exact mF _):PT X (.Compare a [op] [b] pos) (V1 (oY r ta tb)):=K6 ho ha hb hm
def nw{D:Addr}(h:H D=none)(o:HO):∃H',upd H D o=H'/\Same H H'/\H' D=some o:={(),Same.new h o,ao}
def aH{x:Str}{k k':Nat}{ps:List Str}{sp:Sp}{p:Pos}{e:Expr}{es:List Expr}{t:TA}(C:kJ X.prog X.w X.K X.mg X.base x k ps sp)(hr:cT k' X.A)(ha:PA X (e::es) t)(hg:Gl X x:=by rfl)
  (hk:k<=k':=by decide) (hd:(x==("__debug__" : Str))=false:=by decide)
  (he:starEach (e::es) X.env=(false,eval e X.env)::starEach es X.env:=by rfl) (hpl:(backTo pos (starEach es X.env)).any (·.1)=false:=by rfl):PE X (.Call (.Name x p) (e::es) [] pos) (wV sp [] E0 t):=aER C hr hg ha hk hd he hpl
def aZ(n:Nat)(h:n<=10000:=by decide):n<=sizeLine:=eV h ∅
abbrev MM:Int:=2147483647
def cellAt(ns:List Int)(k:Int):Int:=if k<(ns.length:Int)then ns.getD k.toNat 0 else 0
def Zi(c k:Int):Int:=(c%MM+1)*(48271+7*k)%MM
def aJL(c k:Int):0<=Zi c k:=RZ _ ∅
def iR(a:Int){b:Int}(h:0<b):0<=a%b:=RZ _ ⋯
def iK(a:Int){b:Int}(h:0<b):a%b<b:=afU _ h
def jx{ns:List Int}(h0:0<=k)(h1:k<(ns.length:Int)):iy (ns.map V.int) k=some (.int (ns.getD k.toNat 0)):=by
 have e:k=((k.toNat:Nat):Int):=⋯;have hk:k.toNat<ns.length:=⋯
 conv=>lhs;rw[e]
 exact qd (by rw[List.getElem?_map,List.getElem?_eq_getElem hk,List.getD_eq_getElem?_getD,List.getElem?_eq_getElem hk]<;>rfl)
def Mt{α:Type}{xs:List α}{v:α}(j:Nat)(e:k=(j:Int))(h:xs[j]?=some v):iy xs k=some v:=by rw[e];exact qd h
def dec_true[Decidable p](c:decide p=true):p:=of_decide_eq_true c
def dec_false[Decidable p](c:¬decide p=true):¬p:=of_decide_eq_false (pG.mpr c)
structure Rw where
 b:Int
 rule:List Int
 starts:List Int
deriving DecidableEq
def cY(H:Hp)(v:V)(r:Rw):Prop:=
 ∃a p q,v = .ref a/\H a=some (.tup [.int r.b,.ref p,.ref q])/\H p=some (.tup (r.rule.map V.int))/\H q=some (.tup (r.starts.map V.int))
def cY.same{v:V}(h:cY H v r)(g:Same H H'):cY H' v r:=by
 intros a p q e h1 h2 h3 h;exact{a,p,q,e,g _ _ h1,g _ _ h2,g _ _ h3}
def aEt(h:Bd m x)(h':Bd n y)(hn:m+n<=134217728):IntMulOk x y:=
 IntMulOk.of_le (intBits_le_iff.mpr h) (intBits_le_iff.mpr h') hn
def d8(x:Int):Bool:=decide (x.natAbs<2^60000)
def adU(h:d8 x=true):Bd 60000 x:=of_decide_eq_true (p:=x.natAbs<2^60000) h
def ux(h:d8 x=true)(h':d8 y=true):IntMulOk x y:=aEt (adU h) (adU h') ∅
def rF{L:List Int}(h:L.all d8=true)(k:Nat):d8 (L.getD k 0)=true:=by
 rw[List.getD_eq_getElem?_getD];cases e:L[k]? with
 |none=>exact decide_eq_true (by decide +kernel)
 |some x=>exact gK.mp h x (List.mem_of_getElem? e)
def mR(H:Hp)(Q:VK)(ns:List Int):Prop:=∀p H',Same H H'->H' p=some (.tup (ns.map V.int))->Q (.ref p) H'
def inn(b f:Int)(s:Nat)(M L:List Int):Nat->List Int
 |0=>L
 |t+1=>(inn b f s M L t).set (s+t) (Rm.tk b ((inn b f s M L t).getD (s+t) 0-f*M.getD t 0))
theorem ab2(b f:Int)(s:Nat)(M L:List Int):∀t,(inn b f s M L t).length=L.length
 |0=>rfl
 |t+1=>by rw[inn,LV];exact ab2 b f s M L t
def dv(b:Int)(P M:List Int)(n:Nat):Nat->List Int×List Int
 |0=>(aX n 0,P)
 |i+1=>((dv b P M n i).1.set (n-(i+1)) ((dv b P M n i).2.getD (n-(i+1)+(M.length-1)) 0),inn b ((dv b P M n i).2.getD (n-(i+1)+(M.length-1)) 0) (n-(i+1)) M (dv b P M n i).2 M.length)
def jk(P M:List Int):Nat:=P.length-(M.length-1)
theorem abm(b:Int)(P M:List Int)(n:Nat):∀i,(dv b P M n i).1.length=n/\(dv b P M n i).2.length=P.length
 |0=>{rY,(rfl)}
 |i+1=>{by rw[dv,LV];exact(abm b P M n i).1,by rw[dv,ab2];exact(abm b P M n i).2}
def quo(b:Int)(P M:List Int):List Int:=Pm.trim (dv b P M (jk P M) (jk P M)).1
def rem(b:Int)(P M:List Int):List Int:=Pm.trim (dv b P M (jk P M) (jk P M)).2
def jG(b:Int)(P M:List Int):Bool:=decide (0<=b)&&decide (1<=M.length)&&decide (P.length<=40)&&decide (M.length<=40)&&M.all d8&&(fK (jk P M)).all λi=>d8 ((dv b P M (jk P M) i).2.getD (jk P M-(i+1)+(M.length-1)) 0)
def tV(p:Int):Nat->Int->Int->Int->Int
 |0,w,_,_=>w
 |n+1,w,s,l=>if 0<l then tV p n (if l%2=1 then w*s%p else w) (s*s%p) (l/2)else w
def inv(p a:Int):Int:=tV p 24 1 a (p-2)
def wZ(p:Int)(L:List Int):Bool:=decide (L=[])||(decide (L.length<=40)&&decide (0<L.getD (L.length-1) 0)&&decide (L.getD (L.length-1) 0<p))
def Bb(p:Int)(L:List Int):List Int:=L.map λx=>x*inv p (L.getD (L.length-1) 0)%p
def GN(p:Int):Nat->List Int->List Int->Option (List Int)
 |0,_,_=>none
 |n+1,g,s=>if s=[]then some g else if jG p g s&&wZ p (rem p g s)then GN p n s (Bb p (rem p g s))else none
def cop(p:Int)(P T:List Int):Bool:=decide (2<=p)&&decide (p<4194304)&&wZ p P&&wZ p T&&decide (GN p 16 (Bb p P) (Bb p T)=some [1])
def tkP(p:Int)(P:List Int):List Int:=Pm.trim (P.map (Rm.tk p))
def UQ(r:Rw)(P:List Int):List Int:=Pm.trim (gW r.starts.length λk=>Rm.tk r.b ((gW (P.length-(k+1)) λi=>P.getD (k+1+i) 0*r.starts.getD i 0).sum))
def jm(b:Int)(c:List Int):List Int:=gW c.length (λk=>Rm.tk b (0-c.getD (c.length-1-k) 0))++[1]
def an3(b:Int)(p:List Int):List Int:=gW (p.length-1) (λk=>Rm.tk b (0-p.getD (p.length-1-1-k) 0))
def JR(P T:List Int):Bool:=jG 0 P P&&jG 0 T P&&jG 0 P [1]&&jG 0 T [1]&&decide (rem 0 P P=[])&&decide (rem 0 T P≠[])&&decide (rem 0 P [1]=[])&&decide (rem 0 T [1]=[])&&decide (1<P.length)&&cop 1000003 (tkP 1000003 P) (tkP 1000003 T)
def jK(r:Rw):Bool:=decide (0<=r.b)&&decide (r.rule.length=r.starts.length)&&decide (r.rule.length<=12)&&(jm r.b r.rule).all d8&&r.starts.all d8&&jG r.b (jm r.b r.rule) [1]&&decide (quo r.b (jm r.b r.rule) [1]=jm r.b r.rule)&&decide (an3 r.b (jm r.b r.rule)=r.rule)&&decide (r.rule.map (Rm.tk r.b)=r.rule)&&decide (r.starts.map (Rm.tk r.b)=r.starts)&&
 (if r.b=0 then JR (jm 0 r.rule) (UQ r (jm 0 r.rule))else cop r.b (jm r.b r.rule) (UQ r (jm r.b r.rule)))
def uD(n:Nat):Nat->Nat->Bool
 |0,_=>true
 |f+1,d=>if d*d<=n then(if n%d=0 then false else uD n f (d+1))else true
def qW(n:Int):Bool:=decide (2<=n)&&uD n.toNat 2050 2
def yR(b:Int):Bool:=decide (b<1000)&&(decide (b=0)||qW b)
def BR(b x:Int):Bool:=decide (b=0)||(decide (0<=x)&&decide (x<b))
def Ac(b:Int)(xs:List Int):Bool:=decide (xs.length<=12)&&xs.all (BR b)
def zQ(r:Rw):Bool:=yR r.b&&Ac r.b r.rule&&Ac r.b r.starts&&decide (r.rule.length=r.starts.length)
def Rw.row(r:Rw)(n:Nat):List Int:=Rm.row r.b r.rule r.starts n
theorem Rw.qQ(r:Rw)(n:Nat):(r.row n).length=n:=Rm.qQ ..
def Ej(r:Rw)(c:Nat):Bool:=decide (0<=r.b)&&decide (r.rule.length=r.starts.length)&&decide (r.rule.length<=12)&&r.rule.all d8&&(r.row c).all d8
def aCq{c:Nat}(h:(r.row c).all d8=true):∀{n:Nat},n<=c->(r.row n).all d8=true:=by
 intro n hn;obtain⟨d,rfl⟩:∃d,c=n+d:={c-n,⋯};clear hn;induction d with
 |zero=>exact h
 |succ d ih=>
  refine ih ?_;have e:r.row (n+(d+1))=r.row (n+d)++[if n+d<r.starts.length then r.starts.getD (n+d) 0 else Rm.tk r.b (Rm.S r.rule (λi=>(r.row (n+d)).getD i 0) (n+d) r.rule.length)]:=rfl;rw[e,List.all_append,cW]at h;exact h.1
def wY(b x:Int)(i:Nat)(r L:List Int):Nat->List Int
 |0=>L
 |k+1=>(wY b x i r L k).set (i+k) (Rm.tk b ((wY b x i r L k).getD (i+k) 0+x*r.getD k 0))
theorem Vc(b x:Int)(i:Nat)(r L:List Int):∀t,(wY b x i r L t).length=L.length
 |0=>rfl
 |t+1=>by rw[wY,LV];exact Vc b x i r L t
def wW(b:Int)(p r:List Int):Nat->List Int
 |0=>aX (p.length+r.length) 0
 |i+1=>wY b (p.getD i 0) i r (wW b p r i) r.length
theorem ape(b:Int)(p r:List Int):∀t,(wW b p r t).length=p.length+r.length
 |0=>rY
 |t+1=>by rw[wW,Vc];exact ape b p r t
def Ag(b:Int)(p r:List Int):List Int:=Pm.trim (wW b p r p.length)
def Uh(n:Nat):(aX n [V.int 0]).flatten=(aX n (0:Int)).map V.int:=by rw[ajk,Vf]
def akl(h:0<n)(hn:n<=xs.length):xs.take n=xs.take (n-1)++[xs.getD (n-1) 0]:=by
 obtain⟨m,rfl⟩:∃m,n=m+1:={n-1,⋯};rw[Nat.add_sub_cancel,J7,List.getElem?_eq_getElem ⋯,List.getD_eq_getElem?_getD,List.getElem?_eq_getElem ⋯];rfl
def aJ9(h:0<n)(hn:n<=xs.length)(ht:Pm.trim (xs.take n)=Pm.trim xs)(h0:xs.getD (n-1) 0=0):Pm.trim (xs.take (n-1))=Pm.trim xs:=by
 rw[akl h hn,h0,aD8]at ht;exact ht
def adX(hn:n<=xs.length)(ht:Pm.trim (xs.take n)=Pm.trim xs)(h0:n=0∨xs.getD (n-1) 0≠0):xs.take n=Pm.trim xs:=by
 rcases h0 with h0|h0
 .subst h0;rw[<-ht];rfl
 .by_cases hz:n=0
  .subst hz;rw[<-ht];rfl
  .rw[<-ht,akl ⋯ hn,aeO _ h0]
def ab8{j:Nat}{i:Int}(e:i=(j:Int))(h:j<n):sS n i=some j:=by
 subst e;unfold sS;rw[if_pos ⋯,if_pos ⋯,gR]
def XI(L:List Int)(j:Nat)(x:Int):(L.map V.int).set j (.int x)=(L.set j x).map V.int:=by rw[List.map_set]
def vm(hz:n<=1000){rest:St}(hst:cst ix σ=none::rest)(f:Nat->Int)
  (he:∀H' k,Same H1 H'->k<n->∀kk:VK,kk (.int (f k)) H'->te (some (.int (0+(k:Int)))::rest) H' kk)
  (hQ:∀D,H1 D=none->Q (.ref D) (upd H1 D (.lst ((gW n f).map V.int)))):lO ix (iw 0) nj te σ Q (pZ 0 n) H1:=by
 refine mJ Bk (by rw[bG,Bf];exact jE (gU hz)) hst (λ_=>true) (λx=>match x with | .int k=> .int (f k.toNat)|_=> .non) ?_ ?_ ?_
 .intro H2 x g2 hx k hk;exact hk
 .intro H2 x g2 hx _ k hk;obtain⟨j,hj,rfl⟩:=fM.mp hx;have e1:(0+(j:Int)).toNat=j:=⋯;refine he H2 j g2 (jj.mp hj) k ?_;have hk':k (V.int (f (0+(j:Int)).toNat)) H2:=hk
  rwa [e1]at hk'
 .intro D hD;have el:((((fK n).map λi=>V.int (0+(i:Nat))).filter λ_=>true).map λx=>match x with | .int k=>V.int (f k.toNat)|_=>V.non)=(gW n f).map V.int:=by
   rw[u6.mpr (by simp),iz,gW,iz];refine vK λk _=>?_;show V.int (f (0+(k:Int)).toNat)=V.int (f k);rw[(⋯:(0+(k:Int)).toNat=k)]
  rw[el];exact hQ D hD
def UU(hA:H1 a=some (.tup (xs.map V.int)))(hz:xs.length<=1000){rest:St}(hst:cst ix σ=none::rest)(f:Int->Int)
  (he:∀H' x,Same H1 H'->x∈xs->∀kk:VK,kk (.int (f x)) H'->te (some (.int x)::rest) H' kk)
  (hQ:∀D,H1 D=none->Q (.ref D) (upd H1 D (.lst ((xs.map f).map V.int)))):lO ix (iw 0) nj te σ Q (Jv K a) H1:=by
 refine mJ (pL (aq.of hA)) (by rw[bG];exact jE (gU hz)) hst (λ_=>true) (λx=>match x with | .int k=> .int (f k)|_=> .non) ?_ ?_ ?_
 .intro H2 x g2 hx k hk;exact hk
 .intro H2 x g2 hx _ k hk;obtain⟨y,hy,rfl⟩:=fM.mp hx;exact he H2 y g2 hy k hk
 .intro D hD;have el:(((xs.map V.int).filter λ_=>true).map λx=>match x with | .int k=>V.int (f k)|_=>V.non)=(xs.map f).map V.int:=by
   rw[u6.mpr (by simp),iz,iz];rfl
  rw[el];exact hQ D hD
inductive Cl|number|by_|text|far|long|big|row|name
deriving DecidableEq
def adr(n b t f l g r m:Addr):Cl->Addr
 |.number=>n | .by_=>b | .text=>t | .far=>f | .long=>l | .big=>g | .row=>r | .name=>m
abbrev Ms.ad{P:Program}{w:World}{K:aD}{mg:Str->Option Value}{base:Heap}{bV bU bN bT bW eF bM bO bQ:Addr}(_:Ms P w K mg base bV bU bN bT bW eF bM bO bQ):Cl->Addr:=adr bN bV bW bO bQ bM bT bU
def Rf(ad:Cl->Addr)(c:Cl)(H:Hp)(E:XK):Prop:=∀H',Same H H'->E (.ref (ad c)) none H'
def Rf.now{ad:Cl->Addr}(h:Rf ad c H E):E (.ref (ad c)) none H:=h H (Same.refl _)
def Rt(r:Rw)(H:Hp)(Q:VK):Prop:=∀v H',Same H H'->cY H' v r->Q v H'
def Rt.up(h:Rt r H Q)(g:Same H H'):Rt r H' Q:=λv H2 g2 k=>h v H2 (g.trans g2) k
def Rf.up{ad:Cl->Addr}(h:Rf ad c H E)(g:Same H H'):Rf ad c H' E:=λH2 g2=>h H2 (g.trans g2)
def acp{x:V}(I:j8 J [x] H1){rest:St}(hst:cst ix σ=none::rest)(P:V->Hp->Prop)
  (he:∀(H':Hp),Same H1 H'->∀k:VK,(∀y H5,Same H' H5->P y H5->k y H5)->te (some x::rest) H' k)
  (hQ:∀D y H5,H1 D=none->Same H1 H5->H5 D=some (.lst [])->P y H5->Q (.ref D) (upd H5 D (.lst [y]))):lO ix (iw 0) nj te σ Q J H1:=by
 constructor;intro D hD;exists λi m σ' H'=>Same H1 H'/\(∃o,σ'=o::rest)/\(i=0/\m=1/\H' D=some (.lst [])∨i=1/\m=0/\Q (.ref D) H'),{1,Same.new hD _,{_,hst},.inl {rfl,rfl,(ao)}};rintro i m σ' H' ⟨g,⟨o,rfl⟩,⟨rfl,rfl,hl⟩|⟨rfl,rfl,q⟩⟩
 .refine .inr {I.go 0 _ g (vN 0),λz H2 y=>?_};obtain⟨rfl,hx⟩:=I.iV 0 _ z H2 g y;cases hx (vN 0);change te (some x::rest) H2 _;exact he H2 g _ λy H5 g5 p=>{[],g5 _ _ hl,∅,0,∅,(g.trans g5).upd hD _,{()},.inr {rfl,rfl,hQ D y H5 hD (g.trans g5) (g5 _ _ hl) p}}
 .exact .inl {I.stop 1 _ g (bK 1),q}
def KL{xs:List V}{g:TG}{tb:TS}{D:Ends}(Pv:Nat->St->Hp->Prop)(h0:Pv 0 σ H)(hI:∀i σ' H',Pv i σ' H'->j8 J xs H')
  (hs:∀i x σ' H',xs[i]?=some x->Pv i σ' H'->g x σ' H' λσ2 H2=>tb { D with nx:=Pv (i+1),ct:=Pv (i+1),bk:=D.nx } σ2 H2) (hd:∀σ' H',Pv xs.length σ' H'->D.nx σ' H'):
  ∃W:Nat->Nat->St->Hp->Prop,(∃m,W 0 m σ H)/\∀i m σ H,W i m σ H->
   (J.stop i H/\D.nx σ H)∨(J.go i H/\∃N:St->Hp->Prop,(∀σ' H',N σ' H'->∃m',m'<m/\W (i+1) m' σ' H')/\∀x H',J.iV i H x H'->g x σ H' λσ2 H2=>tb { D with nx:=N,ct:=N,bk:=D.nx } σ2 H2):=by
 refine{λi m σ' H'=>m=xs.length-i/\i<=xs.length/\Pv i σ' H',{xs.length,by simp,fJ _,h0},?_};rintro i m σ' H' ⟨rfl,hi,p⟩;have I:=hI i σ' H' p;by_cases hlt:i<xs.length
 .refine .inr {I.go i _ (Same.refl _) hlt,Pv (i+1),λσ2 H2 p'=>{xs.length-(i+1),⋯,rfl,hlt,p'},λx H2 y=>?_};obtain⟨rfl,hx⟩:=I.iV i _ x H2 (Same.refl _) y;exact hs i x σ' _ (hx hlt) p
 .have e:i=xs.length:=⋯;subst e;exact .inl {I.stop _ _ (Same.refl _) (bK _),hd σ' H' p}
def aqE{xs:List V}(hz:xs.length<=1000){rest:St}(hst:cst ix σ=none::rest)(W:Addr->Nat->List V->Hp->Prop)
  (h0:∀D,H1 D=none->W D 0 [] (upd H1 D (.lst []))) (hI:∀D i ys H',W D i ys H'->j8 J xs H'/\H' D=some (.lst ys)/\ys.length=i)
  (hs:∀D i ys H' x,W D i ys H'->xs[i]?=some x->∀k:VK,(∀y H5,H5 D=some (.lst ys)->W D (i+1) (ys++[y]) (upd H5 D (.lst (ys++[y])))->k y H5)->te (some x::rest) H' k)
  (hq:∀D ys H',W D xs.length ys H'->Q (.ref D) H'):lO ix (iw 0) nj te σ Q J H1:=by
 constructor;intro D hD;refine{λi m σ' H'=>m=xs.length-i/\i<=xs.length/\(∃o,σ'=o::rest)/\∃ys,W D i ys H',{xs.length,by simp,fJ _,{_,hst},[],h0 D hD},?_};rintro i m σ' H' ⟨rfl,hi,⟨o,rfl⟩,ys,w⟩;obtain⟨I,hl,ly⟩:=hI D i ys H' w;by_cases hlt:i<xs.length
 .refine .inr {I.go i _ (Same.refl _) hlt,λz H2 y=>?_};obtain⟨rfl,hx⟩:=I.iV i _ z H2 (Same.refl _) y;change te (some z::rest) H2 _;exact hs D i ys H2 z w (hx hlt) _ λy H5 h5 w5=>{ys,h5,by have:=gU hz;lia,xs.length-(i+1),⋯,rfl,hlt,{()},_,w5}
 .have e:i=xs.length:=⋯;subst e;exact .inl {I.stop _ _ (Same.refl _) (bK _),hq D ys H' w}
def cZ{α β:Type}(G:α->Except Cl β):List α->Except Cl (List β)
 |[]=> .ok []
 |x::r=>match G x with
  |.error c=> .error c
  |.ok d=>match cZ G r with
   |.error c=> .error c
   |.ok ds=> .ok (d::ds)
theorem agr{α β:Type}{G:α->Except Cl β}{x:α}:∀{xs:List α} {ds:List β},cZ G xs = .ok ds->(∀d,G x = .ok d->cZ G (xs++[x]) = .ok (ds++[d]))/\∀c,G x = .error c->∀ys,cZ G (xs++x::ys) = .error c
 |[],ds,h=>by cases h;exact{λd e=>by simp only[Fq,cZ,e],λc e ys=>by simp only[Fq,cZ,e]}
 |a::r,ds,h=>by
  rw[cZ]at h;cases ea:G a with
  |error c=>rw[ea]at h;cases h
  |ok d0=>
   rw[ea]at h;cases er:cZ G r with
   |error c=>rw[er]at h;cases h
   |ok d1=>
    rw[er]at h;cases h;have q:=agr (x:=x) er;exact{λd e=>by simp only[KZ,cZ,ea,q.1 d e],λc e ys=>by simp only[KZ,cZ,ea,q.2 c e ys]}
def yK{α β:Type}{xs:List α}{f:α->V}(ad:Cl->Addr)(I:j8 J (xs.map f) H1)(hz:xs.length<=1000){rest:St}(hst:cst ix σ=none::rest)(G:α->Except Cl β)(R:β->V->Hp->Prop)
  (hR:∀d y (H' H2:Hp),(∀b ts,H' b=some (.tup ts)->H2 b=some (.tup ts))->R d y H'->R d y H2)
  (he:∀(H':Hp) (x:α),Same H1 H'->x∈xs->∀k:VK,(∀d y H2,G x = .ok d->Same H' H2->R d y H2->k y H2)->(∀c,G x = .error c->Rf ad c H' E)->te (some (f x)::rest) H' k)
  (hQ:∀ds D H' ys,cZ G xs = .ok ds->H1 D=none->Same H1 H'->H' D=some (.lst ys)->Paired (λd y=>R d y H') ds ys->Q (.ref D) H')
  (hE:∀c,cZ G xs = .error c->Rf ad c H1 E):lO ix (iw 0) nj te σ Q J H1:=by
 constructor;intro D hD;refine{λi m σ' H'=>m=xs.length-i/\i<=xs.length/\(∃o,σ'=o::rest)/\Same H1 H'/\∃ds ys,H' D=some (.lst ys)/\cZ G (xs.take i) = .ok ds/\Paired (λd y=>R d y H') ds ys/\ys.length=i,{xs.length,by simp,fJ _,{none,(hst)},Same.new hD _,[],[],ao,rfl,.nil,rfl},?_};rintro i m σ' H' ⟨rfl,hi,⟨o,rfl⟩,g,ds,ys,hl,hm,hp,ly⟩;by_cases hlt:i<xs.length
 .refine .inr {I.go i _ g (by rw[bG];exact hlt),λx H2 y=>?_};obtain⟨rfl,hx⟩:=I.iV i _ x H2 g y;have hx:=hx (by rw[bG];exact hlt);rw[List.getElem?_map,List.getElem?_eq_getElem hlt]at hx;cases hx;have sn:=agr (x:=xs[i]) hm;change te (some (f xs[i])::rest) H2 _;refine he H2 xs[i] g (uh hlt) _ (λd y H3 e g3 r3=>{ys,g3 _ _ hl,by have:=gU hz;lia,xs.length-(i+1),⋯,rfl,hlt,{()},Same.upd (g.trans g3) hD _,ds++[d],ys++[y],ao,?_,?_,by rw[gF,ly];rfl}) (λc e=>?_)
  .rw[aqL hlt];exact sn.1 d e
  .have up:∀d z,R d z H3->R d z (upd H3 D (.lst (ys++[y]))):=λd z r=>hR d z H3 _ (λb ts e=>by
    rw[bY λq=>by rw[q,g3 _ _ hl]at e;cases e];exact e) r
   exact Paired.snoc (Paired.FN hp λd z r=>up _ _ (hR _ _ _ _ (λb ts e=>g3 _ _ e) r)) (up _ _ r3)
  .have e2:xs=xs.take i++xs[i]::xs.drop (i+1):=by rw[List.getElem_cons_drop,List.take_append_drop]
   have:=sn.2 c e (xs.drop (i+1));rw[<-e2]at this;exact(hE c this).up g
 .have e:i=xs.length:=⋯;rw[e,yF]at hm;exact .inl {I.stop _ _ g (by rw[bG];lia),hQ ds D H' ys hm hD g hl hp}
def Cy{α β:Type}{F:α->β}{ds:List α}{ys:List β}(h:Paired (λd y=>y=F d) ds ys):ys=ds.map F:=by
 induction h with
 |nil=>rfl
 |cons e _ ih=>rw[e,ih];rfl
theorem Ed{α β:Type}{G:α->Except Cl β}:∀{xs:List α} {ds:List β},cZ G xs = .ok ds->ds.length=xs.length
 |[],ds,h=>by cases h;rfl
 |a::r,ds,h=>by
  rw[cZ]at h;cases ea:G a with
  |error c=>rw[ea]at h;cases h
  |ok d0=>
   rw[ea]at h;cases er:cZ G r with
   |error c=>rw[er]at h;cases h
   |ok d1=>rw[er]at h;cases h;exact congrArg (· + 1) (Ed er)
def anB(xs:List Int)(x:Int):(xs++[x]).map V.int=xs.map V.int++[.int x]:=by rw[gC];rfl
def Told(H:Hp)(Q:VK)(xs:List V):Prop:=∀r H',Same H H'->H r=none->H' r=some (.lst xs)->Q (.ref r) H'
inductive aFs(K:aD)(vs:List V)(H:Hp)(Q:VK)(E:XK):Prop|mk (a:Addr) (ns:List Int) (aV:vs=[.ref a]) (aW:aj K H a (ns.map V.int)) (bB:ns.length<=63) (cG:(∀x∈ns,zM x<=1048576)) (dW:∀H',Q (.bl true) H')
def Xd(K:aD):Sp:=aFs K
def El(xs:List V)(k:Nat):gq xs none (some (k:Int))=xs.take k:=by
 unfold gq;rw[HT.yV,HT.yJ,Br,Ky,ajP];lia
def aoc(xs:List V)(k:Nat):gq xs (some (k:Int)) none=xs.drop k:=by
 unfold gq;rw[HT.yV,HT.yJ];by_cases h:k<=xs.length
 .rw[anl h,yP (by rw[tW];lia)]
 .rw[acL ⋯,Nb (bK _),Nb ⋯,ahU]
def aGv(xs:List V)(i:Nat):gq xs (some ((i:Int)+1)) none=xs.drop (i+1):=aoc xs (i+1)
def Em(hA:H1 a=some (.lst (xs.map V.int)))(hz:xs.length<=1000){rest:St}(hst:cst ix σ=none::rest)(f:Int->Int)
  (he:∀H' x,Same H1 H'->x∈xs->∀kk:VK,kk (.int (f x)) H'->te (some (.int x)::rest) H' kk)
  (hQ:∀D,H1 D=none->Q (.ref D) (upd H1 D (.lst ((xs.map f).map V.int)))):lO ix (iw 0) nj te σ Q (uW K a) H1:=by
 refine mJ (iu (aj.of hA)) (by rw[bG];exact jE (gU hz)) hst (λ_=>true) (λx=>match x with | .int k=> .int (f k)|_=> .non) ?_ ?_ ?_
 .intro H2 x g2 hx k hk;exact hk
 .intro H2 x g2 hx _ k hk;obtain⟨y,hy,rfl⟩:=fM.mp hx;exact he H2 y g2 hy k hk
 .intro D hD;have el:(((xs.map V.int).filter λ_=>true).map λx=>match x with | .int k=>V.int (f k)|_=>V.non)=(xs.map f).map V.int:=by
   rw[u6.mpr (by simp),iz,iz];rfl
  rw[el];exact hQ D hD
inductive aFz(vs:List V)(H:Hp)(Q:VK)(E:XK):Prop|mk (b z:Int) (aV:vs=[.int b,.int z]) (aW:0<=b) (bB:Q (.int (Rm.tk b z)) H)
def aMW:Sp:=aFz
inductive aLe(vs:List V)(H:Hp)(Q:VK)(E:XK):Prop|mk (z:Int) (aV:vs=[.int z]) (aW:z<4194304) (bB:Q (.bl (qW z)) H)
def aym:Sp:=aLe
def aDo:Sp:=λvs H Q _=>vs=[.int 1000000]/\Q (.int 1000003) H
def p1:qW 1000001=false:=by decide +kernel
def p2:qW 1000002=false:=by decide +kernel
def p3:qW 1000003=true:=by decide +kernel
inductive aQF(vs:List V)(H:Hp)(Q:VK)(E:XK):Prop|mk (i:Int) (aV:vs=[.int i]) (aW:Q (.bl true) H)
def aNn:Sp:=aQF
inductive aRz(vs:List V)(H:Hp)(Q:VK)(E:XK):Prop|mk (b:Int) (aV:vs=[.int b]) (aW:Q (.bl (yR b)) H)
def aEZ:Sp:=aRz
inductive aGY(vs:List V)(H:Hp)(Q:VK)(E:XK):Prop|mk (b z:Int) (aV:vs=[.int b,.int z]) (aW:Q (.bl (BR b z)) H)
def auy:Sp:=aGY
inductive aJl(vs:List V)(H:Hp)(Q:VK)(E:XK):Prop|mk (b:Int) (p:Addr) (z:List Int) (aV:vs=[.int b,.ref p]) (aW:H p=some (.tup (z.map V.int))) (bB:z.length<=900) (cG:∀H',Same H H'->Q (.bl (Ac b z)) H')
def aM3:Sp:=aJl
inductive aK2(vs:List V)(H:Hp)(Q:VK)(E:XK):Prop|mk (v:V) (z:Rw) (aV:vs=[v]) (aW:cY H v z) (bB:z.rule.length<=900) (cG:z.starts.length<=900) (dW:∀H',Same H H'->Q (.bl (zQ z)) H')
def ayw:Sp:=aK2
inductive atu(vs:List V)(H:Hp)(Q:VK)(E:XK):Prop|mk (v z:Int) (aV:vs=[.int v,.int z]) (aW:2<=v) (bB:v<4194304) (cG:0<z) (dW:z<v) (iJ:Q (.int (inv v z)) H)
def aPY:Sp:=atu
def awt{p a:Int}(h2:2<=p)(hp:p<4194304)(h0:0<a)(h1:a<p):0<=inv p a/\inv p a<4194304:=by
 have go:∀(n:Nat) (w s l:Int),0<=w->w<4194304->0<=s->s<4194304->0<=tV p n w s l/\tV p n w s l<4194304:=by
  intro n;induction n with
  |zero=>intro w s l a b _ _;exact{a,(b)}
  |succ n ih=>
   intro w s l a b c d;rw[tV];have b1:=iR (s*s) (⋯:0<p);have b2:=iK (s*s) (⋯:0<p);have b3:=iR (w*s) (⋯:0<p);have b4:=iK (w*s) (⋯:0<p);split
   .exact ih _ _ _ (by split<;>lia) (by split<;>lia) b1 ⋯
   .exact{a,(b)}
 exact go _ _ _ _ ∅ ∅ ⋯ ⋯
inductive auU(vs:List V)(H:Hp)(Q:VK)(E:XK):Prop|mk (z one other:Int) (aV:vs=[.int z,.int one,.int other]) (aW:2<=z) (bB:z<4194304) (cG:0<other) (dW:other<z) (iJ:Q (.int (one*inv z other%z)) H)
def aKK:Sp:=auU
inductive aLO(K:aD)(vs:List V)(H:Hp)(Q:VK)(E:XK):Prop|mk (b:Int) (r s:Addr) (rule before:List Int) (aV:vs=[.int b,.ref r,.ref s]) (aW:0<=b) (bB:aq K H r (rule.map V.int)) (cG:aj K H s (before.map V.int)) (dW:rule.length<=before.length) (iJ:rule.length<=24) (tX:before.length<=1000) (yg:rule.all d8=true) (Bv:before.all d8=true) (z_9:Q (.int (Rm.tk b (Rm.S rule (λi=>before.getD i 0) before.length rule.length))) H)
def aP5(K:aD):Sp:=aLO K
inductive aMx(vs:List V)(H:Hp)(Q:VK)(E:XK):Prop|mk (v:V) (r:Rw) (z:Nat) (aV:vs=[v,.int (z:Int)]) (aW:cY H v r) (bB:Ej r z=true) (cG:z<=900) (dW:Told H Q ((r.row z).map V.int))
def aHT:Sp:=aMx
inductive aNO(K:aD)(vs:List V)(H:Hp)(Q:VK)(E:XK):Prop|mk (l:Addr) (z:List Int) (aV:vs=[.ref l]) (aW:aj K H l (z.map V.int)) (bB:mR H Q (Pm.trim z))
def aDD(K:aD):Sp:=aNO K
inductive aO9(vs:List V)(H:Hp)(Q:VK)(E:XK):Prop|mk (a:Addr) (p:List Int) (k:Int) (aV:vs=[.ref a,.int k]) (aW:H a=some (.tup (p.map V.int))) (bB:0<=k) (cG:Q (.int (p.getD k.toNat 0)) H)
def auD:Sp:=aO9
inductive aB2(vs:List V)(H:Hp)(Q:VK)(E:XK):Prop|mk (b:Int) (a c:Addr) (z v:List Int) (aV:vs=[.int b,.ref a,.ref c]) (aW:0<=b) (bB:H a=some (.tup (z.map V.int))) (cG:H c=some (.tup (v.map V.int))) (dW:z.length<=40) (iJ:v.length<=40) (tX:z.all d8=true) (yg:v.all d8=true) (Bv:mR H Q (Ag b z v))
def aPh:Sp:=aB2
def amk(H:Hp)(Q:VK)(b:Int)(P M:List Int):Prop:=∀t x y H',Same H H'->H' t=some (.tup [.ref x,.ref y])->H' x=some (.tup (yw V.int (quo b P M)))->H' y=some (.tup (yw V.int (rem b P M)))->Q (.ref t) H'
inductive aQO(vs:List V)(H:Hp)(Q:VK)(E:XK):Prop|mk (b:Int) (a c:Addr) (P M:List Int) (aV:vs=[.int b,.ref a,.ref c]) (aW:H a=some (.tup (P.map V.int))) (bB:H c=some (.tup (M.map V.int))) (cG:jG b P M=true) (dW:amk H Q b P M)
def axp:Sp:=aQO
def dq1(h:0<m)(hl:s+m<=l):((s:Int)+((m:Int)-1)).toNat=s+(m-1)/\0<=(s:Int)+((m:Int)-1)/\(s:Int)+((m:Int)-1)<(l:Int):=⋯
def dq2{t:Nat}(h:t<m)(hl:s+m<=l):((s:Int)+(0+(t:Int))).toNat=s+t/\0<=(s:Int)+(0+(t:Int))/\(s:Int)+(0+(t:Int))<(l:Int)/\0<=0+(t:Int)/\0+(t:Int)<(m:Int)/\s+t<l/\(0+(t:Int)).toNat=t/\(s:Int)+(0+(t:Int))=((s+t:Nat):Int):=⋯
inductive aI6(vs:List V)(H:Hp)(Q:VK)(E:XK):Prop|mk (z:Int) (a:Addr) (L:List Int) (aV:vs=[.int z,.ref a]) (aW:2<=z) (bB:z<4194304) (cG:H a=some (.tup (L.map V.int))) (dW:wZ z L=true) (iJ:mR H Q (Bb z L))
def ari:Sp:=aI6
inductive aPO(vs:List V)(H:Hp)(Q:VK)(E:XK):Prop|mk (z:Int) (a c:Addr) (P R o:List Int) (aV:vs=[.int z,.ref a,.ref c]) (aW:2<=z) (bB:z<4194304) (cG:H a=some (.tup (P.map V.int))) (dW:H c=some (.tup (R.map V.int))) (iJ:wZ z P=true) (tX:wZ z R=true) (yg:GN z 16 (Bb z P) (Bb z R)=some o) (Bv:mR H Q o)
def aLX:Sp:=aPO
inductive aIQ(vs:List V)(H:Hp)(Q:VK)(E:XK):Prop|mk (b:Int) (a:Addr) (z:List Int) (aV:vs=[.int b,.ref a]) (aW:0<=b) (bB:H a=some (.tup (z.map V.int))) (cG:z.length<=100) (dW:mR H Q (jm b z))
def aGV:Sp:=aIQ
inductive aHE(vs:List V)(H:Hp)(Q:VK)(E:XK):Prop|mk (b:Int) (a:Addr) (z:List Int) (aV:vs=[.int b,.ref a]) (aW:0<=b) (bB:H a=some (.tup (z.map V.int))) (cG:0<z.length) (dW:z.length<=100) (iJ:mR H Q (an3 b z))
def aHW:Sp:=aHE
def aLA{lo:Int}(hz:n<=1000){rest:St}(hst:cst ix σ=none::rest)(f:Nat->Int)
  (he:∀H' k,Same H1 H'->k<n->∀kk:VK,kk (.int (f k)) H'->te (some (.int (lo+(k:Int)))::rest) H' kk)
  (hQ:∀D,H1 D=none->Q (.ref D) (upd H1 D (.lst ((gW n f).map V.int)))):lO ix (iw 0) nj te σ Q (pZ lo n) H1:=by
 refine mJ Bk (by rw[bG,Bf];exact jE (gU hz)) hst (λ_=>true) (λx=>match x with | .int k=> .int (f (k-lo).toNat)|_=> .non) ?_ ?_ ?_
 .intro H2 x g2 hx k hk;exact hk
 .intro H2 x g2 hx _ k hk;obtain⟨j,hj,rfl⟩:=fM.mp hx;have e1:(lo+(j:Int)-lo).toNat=j:=⋯;refine he H2 j g2 (jj.mp hj) k ?_;have hk':k (V.int (f (lo+(j:Int)-lo).toNat)) H2:=hk
  rwa [e1]at hk'
 .intro D hD;have el:((((fK n).map λi=>V.int (lo+(i:Nat))).filter λ_=>true).map λx=>match x with | .int k=>V.int (f (k-lo).toNat)|_=>V.non)=(gW n f).map V.int:=by
   rw[u6.mpr (by simp),iz,gW,iz];refine vK λk _=>?_;show V.int (f (lo+(k:Int)-lo).toNat)=V.int (f k);rw[(⋯:(lo+(k:Int)-lo).toNat=k)]
  rw[el];exact hQ D hD
def aBX:Sp:=λvs H Q _=>vs=[.int 1000003,.int 1]/\Q (.int 1) H
inductive aPw(vs:List V)(H:Hp)(Q:VK)(E:XK):Prop|mk (z:Int) (a:Addr) (P:List Int) (aV:vs=[.int z,.ref a]) (aW:0<=z) (bB:H a=some (.tup (P.map V.int))) (cG:P.length<=100) (dW:mR H Q (tkP z P))
def aAY:Sp:=aPw
inductive aH1(vs:List V)(H:Hp)(Q:VK)(E:XK):Prop|mk (m a:Addr) (M P:List Int) (aV:vs=[.ref m,.ref a]) (aW:H m=some (.tup (M.map V.int))) (bB:H a=some (.tup (P.map V.int))) (cG:jG 0 P M=true) (dW:∀H',Same H H'->Q (.bl (decide (rem 0 P M=[]))) H')
def aCJ:Sp:=aH1
def pB:Sp:=λ_ _ _ _=>False
inductive aAK(vs:List V)(H:Hp)(Q:VK)(E:XK):Prop|mk (a c:Addr) (P T:List Int) (aV:vs=[.ref a,.ref c]) (aW:H a=some (.tup (P.map V.int))) (bB:H c=some (.tup (T.map V.int))) (cG:JR P T=true) (dW:mR H Q [1])
def aLa:Sp:=aAK
inductive aP3(vs:List V)(H:Hp)(Q:VK)(E:XK):Prop|mk (b:Int) (a c:Addr) (P T:List Int) (aV:vs=[.int b,.ref a,.ref c]) (aW:H a=some (.tup (P.map V.int))) (bB:H c=some (.tup (T.map V.int))) (cG:(if b=0 then JR P T else cop b P T)=true) (dW:mR H Q [1])
def aJ6:Sp:=aP3
inductive aML(vs:List V)(H:Hp)(Q:VK)(E:XK):Prop|mk (v:V) (z:Rw) (a:Addr) (P:List Int) (aV:vs=[v,.ref a]) (aW:cY H v z) (bB:0<=z.b) (cG:P.length=z.starts.length+1) (dW:z.starts.length<=12) (iJ:P.all d8=true) (tX:z.starts.all d8=true) (yg:H a=some (.tup (P.map V.int))) (Bv:mR H Q (UQ z P))
def azt:Sp:=aML
inductive aBL(vs:List V)(H:Hp)(Q:VK)(E:XK):Prop|mk (v:V) (r:Rw) (aV:vs=[v]) (aW:cY H v r) (bB:jK r=true) (cG:mR H Q (jm r.b r.rule))
def ayB:Sp:=aBL
def Oe(b:Int)(c:List Int):(jm b c).length=c.length+1:=by rw[jm,gF,Nz];rfl
inductive asZ(vs:List V)(H:Hp)(Q:VK)(E:XK):Prop|mk (v:V) (r:Rw) (aV:vs=[v]) (aW:cY H v r) (bB:jK r=true) (cG:∀v' H',Same H H'->cY H' v' r->Q v' H')
def aC2:Sp:=asZ
inductive aOO(ad:Cl->Addr)(vs:List V)(v:Hp)(Q:VK)(z:XK):Prop|mk (v1 v2:V) (r1 r2:Rw) (aV:vs=[v1,v2]) (aW:cY v v1 r1) (bB:cY v v2 r2) (cG:(r1.b=r2.b->Q (.int r1.b) v)) (dW:(r1.b≠r2.b->Rf ad .by_ v z))
def atR(ad:Cl->Addr):Sp:=aOO ad
inductive aCP(ad:Cl->Addr)(vs:List V)(u:Hp)(Q:VK)(z:XK):Prop|mk (v:V) (r:Rw) (aV:vs=[v]) (aW:cY u v r) (bB:(r.b=0->Q .non u)) (cG:(r.b≠0->Rf ad .by_ u z))
def auJ(ad:Cl->Addr):Sp:=aCP ad
inductive aL5(ad:Cl->Addr)(vs:List V)(v:Hp)(Q:VK)(z:XK):Prop|mk (n:Int) (aV:vs=[.int n]) (aW:(n<=12->Q .non v)) (bB:(12<n->Rf ad .long v z))
def aBj(ad:Cl->Addr):Sp:=aL5 ad
def BF(s e:Int):Bool:=decide (s<0)||decide (s>100)||decide (e<1)||decide (e>10)
inductive awJ(ad:Cl->Addr)(vs:List V)(H:Hp)(Q:VK)(E:XK):Prop|mk (s e:Int) (aV:vs=[.int s,.int e]) (aW:BF s e=true) (bB:Rf ad .far H E)
def aQo(ad:Cl->Addr):Sp:=awJ ad
def Ints(H:Hp)(a:Addr)(xs:List Int):Prop:=H a=some (.lst (xs.map V.int))∨H a=some (.tup (xs.map V.int))
inductive aHg(vs:List V)(H:Hp)(Q:VK)(E:XK):Prop|mk (b:Int) (a e:Addr) (ns ms:List Int) (aV:vs=[.int b,.ref a,.ref e]) (aW:H a=some (.lst (ns.map V.int))) (bB:H e=some (.lst (ms.map V.int))) (cG:jK {b,ns,(ms)}=true) (dW:Rt {b,ns,(ms)} H Q)
def aHY:Sp:=aHg
inductive aKR(vs:List V)(H:Hp)(Q:VK)(E:XK):Prop|mk (l1 l2:Addr) (x y:Int) (aV:vs=[.ref l1,.ref l2,.int 0]) (aW:H l1=some (.lst [.int x])) (bB:H l2=some (.lst [.int y])) (cG:d8 x=true) (dW:d8 y=true) (iJ:Q (.int (x*y)) H)
def aMy:Sp:=aKR
inductive aus(mg:Str->Option Value)(vs:List V)(H:Hp)(Q:VK)(E:XK):Prop|mk (v1 v2:V) (t g:Addr) (x y z:Int) (aV:vs=[v1,v2,.ref t,.ref g]) (aW:mg "product_place" = some (.ref g)) (bB:cY H v1 {0,[x],([y])}) (cG:cY H v2 {0,[x],([y])}) (dW:H t=some (.lst [.int z])) (iJ:d8 x=true) (tX:d8 y=true) (yg:jK {0,[z],([y*y])}=true) (Bv:Rt {0,[z],([y*y])} H Q)
def aRT(mg:Str->Option Value):Sp:=aus mg
def adV(hx:d8 x=true)(hy:d8 y=true):Ej {0,[x],([y])} 1=true:=by
 show(decide _&&decide _&&decide _&&List.all [x] d8&&List.all [y] d8)=true;simp[hx,hy]
inductive as4(ad:Cl->Addr)(vs:List V)(H:Hp)(Q:VK)(E:XK):Prop|mk (v1 v2:V) (g:Addr) (r s:Rw) (aV:vs=[v1,v2,.ref g]) (aW:cY H v1 r) (bB:cY H v2 s) (cG:r.b≠s.b) (dW:Rf ad .by_ H E)
def aMg(ad:Cl->Addr):Sp:=as4 ad
inductive azN(ad:Cl->Addr)(vs:List V)(H:Hp)(Q:VK)(E:XK):Prop|mk (v1 v2:V) (r s:Rw) (aV:vs=[v1,v2]) (aW:cY H v1 r) (bB:cY H v2 s) (cG:r.b≠s.b) (dW:Rf ad .by_ H E)
def aaN(ad:Cl->Addr):Sp:=azN ad
inductive aMo(vs:List V)(H:Hp)(Q:VK)(E:XK):Prop|mk (a c:Addr) (rule:List Int) (aV:vs=[.ref a,.ref c,.int 1]) (aW:Ints H a rule) (bB:rule.length<=12) (cG:∀H',Same H H'->Q (.int 0) H')
def aRj:Sp:=aMo
inductive az9(vs:List V)(H:Hp)(Q:VK)(E:XK):Prop|mk (a:Addr) (x:Int) (aV:vs=[.ref a,.int 1]) (aW:H a=some (.tup [.int x])) (bB:∀z H',Same H H'->H' z=some (.lst [.int x])->Q (.ref z) H')
def aCZ:Sp:=az9
inductive arA(vs:List V)(H:Hp)(Q:VK)(E:XK):Prop|mk (c:Addr) (x:Int) (aV:vs=[.ref c]) (aW:H c=some (.lst [.int x])) (bB:∀z H',Same H H'->H' z=some (.lst [.int x])->Q (.ref z) H')
def aCI:Sp:=arA
def Yr(x y:Int):Bool:=jK {0,[x],([y])}&&jK {0,[x*x],([y*y])}&&d8 x&&d8 y
inductive arM(ad:Cl->Addr)(vs:List V)(v:Hp)(Q:VK)(z:XK):Prop|mk (v1 v2:V) (r s:Rw) (aV:vs=[v1,v2]) (aW:cY v v1 r) (bB:cY v v2 s) (cG:((r.b≠s.b/\Rf ad .by_ v z)∨∃x y,r={0,[x],([y])}/\s={0,[x],([y])}/\Yr x y=true/\Rt {0,[x*x],([y*y])} v Q))
def az4(ad:Cl->Addr):Sp:=arM ad
inductive auY(ad:Cl->Addr)(vs:List V)(H:Hp)(Q:VK)(E:XK):Prop|mk (v:V) (s e:Int) (aV:vs=[v,.int s,.int e]) (aW:BF s e=true) (bB:Rf ad .far H E)
def aw2(ad:Cl->Addr):Sp:=auY ad
def NQ(r:Rw)(ns:List Int):Rw:={r.b,r.rule++aX ns.length 0,ns++r.starts}
inductive aCV(ad:Cl->Addr)(vs:List V)(u:Hp)(Q:VK)(z:XK):Prop|mk (v:V) (t:Rw) (ln:Addr) (ns:List Int) (aV:vs=[v,.ref ln]) (aW:cY u v t) (bB:jK t=true) (cG:u ln=some (.lst (ns.map V.int))) (dW:ns.length<=12) (iJ:((12<t.rule.length+ns.length/\Rf ad .long u z)∨(t.rule.length+ns.length<=12/\jK (NQ t ns)=true/\Rt (NQ t ns) u Q)))
def aG9(ad:Cl->Addr):Sp:=aCV ad
def pQ(b n:Int):Bool:=decide (n<0)||(decide (b=0)&&decide (n>400))
inductive aQ2(ad:Cl->Addr)(vs:List V)(v:Hp)(Q:VK)(z:XK):Prop|mk (b n:Int) (aV:vs=[.int b,.int n]) (aW:(pQ b n=false->Q .non v)) (bB:(pQ b n=true->Rf ad .far v z))
def aPo(ad:Cl->Addr):Sp:=aQ2 ad
def zx(b:Int)(n k:Nat)(l:List Int):List Int:=if n/2^k%2=1 then Ag b (Ag b l l) [0,1]else Ag b l l
def nF(b:Int)(P:List Int)(n B:Nat):Nat->List Int
 |0=>rem b [1] P
 |i+1=>rem b (zx b n (B-(i+1)) (nF b P n B i)) P
def YM(l:List Int):Bool:=decide (l.length<=40)&&l.all d8
def K8(b:Int)(P:List Int)(n B:Nat):Bool:=decide (0<=b)&&decide (B<=400)&&jG b [1] P&&(fK B).all λi=>YM (nF b P n B i)&&YM (Ag b (nF b P n B i) (nF b P n B i))&&jG b (zx b n (B-(i+1)) (nF b P n B i)) P
def pX(n:Nat):Nat:=zM (n:Int)
inductive aFR(vs:List V)(H:Hp)(Q:VK)(E:XK):Prop|mk (b:Int) (a:Addr) (P:List Int) (z:Nat) (aV:vs=[.int b,.ref a,.int z]) (aW:H a=some (.tup (P.map V.int))) (bB:K8 b P z (pX z)=true) (cG:mR H Q (nF b P z (pX z) (pX z)))
def aQ4:Sp:=aFR
def BZ(r:Rw)(n:Nat):List Int:=gW r.rule.length λi=>(nF r.b (jm r.b r.rule) n (pX n) (pX n)).getD i 0
def Lq(r:Rw)(n:Nat):Bool:=decide (r.rule.length<=12)&&K8 r.b (jm r.b r.rule) n (pX n)
inductive aG6(ad:Cl->Addr)(vs:List V)(H:Hp)(Q:VK)(E:XK):Prop|mk (v:V) (u:Rw) (n:Int) (aV:vs=[v,.int n]) (aW:cY H v u) (bB:(pQ u.b n=true/\Rf ad .far H E∨pQ u.b n=false/\∃z:Nat,n=(z:Int)/\Lq u z=true/\mR H Q (BZ u z)))
def ax8(ad:Cl->Addr):Sp:=aG6 ad
def smF(b:Int)(p f:List Int):Int:=Rm.tk b (gW p.length λk=>p.getD k 0*f.getD k 0).sum
inductive awL(vs:List V)(H:Hp)(Q:VK)(E:XK):Prop|mk (b:Int) (a l:Addr) (z f:List Int) (aV:vs=[.int b,.ref a,.ref l,.int 0]) (aW:0<=b) (bB:H a=some (.tup (z.map V.int))) (cG:H l=some (.tup (f.map V.int))) (dW:z.length<=f.length) (iJ:z.length<=1000) (tX:z.all d8=true) (yg:f.all d8=true) (Bv:∀H',Same H H'->Q (.int (smF b z f)) H')
def aDB:Sp:=awL
def SM(r:Rw)(m:Nat):Bool:=Lq r m&&decide (0<=r.b)&&decide (r.rule.length=r.starts.length)&&(BZ r m).all d8&&r.starts.all d8
inductive auZ(ad:Cl->Addr)(vs:List V)(H:Hp)(Q:VK)(E:XK):Prop|mk (v:V) (u:Rw) (n:Int) (aV:vs=[v,.int n]) (aW:cY H v u) (bB:(pQ u.b n=true/\Rf ad .far H E∨pQ u.b n=false/\∃z:Nat,n=(z:Int)/\SM u z=true/\∀H',Same H H'->Q (.int (smF u.b (BZ u z) u.starts)) H'))
def aE6(ad:Cl->Addr):Sp:=auZ ad
inductive aIv(ad:Cl->Addr)(vs:List V)(H:Hp)(Q:VK)(E:XK):Prop|mk (v:V) (r:Rw) (n:Int) (aV:vs=[v,.int n]) (aW:cY H v r) (bB:pQ r.b n=true) (cG:Rf ad .far H E)
def aq0(ad:Cl->Addr):Sp:=aIv ad
def Bh(n:Int):Bool:=decide (0<=n)&&decide (n<=300)
inductive aKf(ad:Cl->Addr)(vs:List V)(v:Hp)(Q:VK)(z:XK):Prop|mk (n:Int) (aV:vs=[.int n]) (aW:(Bh n=true->Q .non v)) (bB:(Bh n=false->Rf ad .far v z))
def aL0(ad:Cl->Addr):Sp:=aKf ad
inductive aCw(ad:Cl->Addr)(vs:List V)(H:Hp)(Q:VK)(E:XK):Prop|mk (v:V) (r:Rw) (c:Int) (aV:vs=[v,.int c]) (aW:cY H v r) (bB:(Bh c=false/\Rf ad .far H E∨∃z:Nat,c=(z:Int)/\z<=300/\Ej r z=true/\Told H Q ((r.row z).map V.int)))
def aGL(ad:Cl->Addr):Sp:=aCw ad
def KP:Nat->Int->Int->Option Int
 |0,_,_=>none
 |n+1,g,s=>if 0<s then KP n s (g%s)else some g
def cd(x y:Int):Option Int:=KP 4 (if x<0 then -x else x) (if y<0 then -y else y)
inductive aM6(vs:List V)(H:Hp)(Q:VK)(E:XK):Prop|mk (x y d:Int) (aV:vs=[.int x,.int y]) (aW:cd x y=some d) (bB:Q (.int d) H)
def ayy:Sp:=aM6
inductive aBm(ad:Cl->Addr)(vs:List V)(H:Hp)(Q:VK)(E:XK):Prop|mk (v:V) (r:Rw) (aV:vs=[v]) (aW:cY H v r) (bB:(r.b≠0/\Rf ad .by_ H E∨∃x y d:Int,r={0,[x],([y])}/\cd 0 y=some d/\Q (.int d) H))
def aHL(ad:Cl->Addr):Sp:=aBm ad
inductive aLw(ad:Cl->Addr)(vs:List V)(H:Hp)(Q:VK)(E:XK):Prop|mk (v:V) (r:Rw) (x s e:Int) (aV:vs=[v,.int x,.int s,.int e]) (aW:cY H v r) (bB:r.b=0) (cG:BF s e=true) (dW:Rf ad .far H E)
def azb(ad:Cl->Addr):Sp:=aLw ad
inductive aq3(ad:Cl->Addr)(vs:List V)(H:Hp)(Q:VK)(E:XK):Prop|mk (v x:V) (r:Rw) (aV:vs=[v,x]) (aW:cY H v r) (bB:r.b≠0) (cG:Rf ad .by_ H E)
def auI(ad:Cl->Addr):Sp:=aq3 ad
inductive avy(ad:Cl->Addr)(vs:List V)(H:Hp)(Q:VK)(E:XK):Prop|mk (v:V) (r:Rw) (aV:vs=[v]) (aW:cY H v r) (bB:r.b=0) (cG:Rf ad .by_ H E)
def apb(ad:Cl->Addr):Sp:=avy ad
inductive aNE(ad:Cl->Addr)(vs:List V)(H:Hp)(Q:VK)(E:XK):Prop|mk (v x:V) (r:Rw) (aV:vs=[v,x]) (aW:cY H v r) (bB:r.b=0) (cG:Rf ad .by_ H E)
def aQa(ad:Cl->Addr):Sp:=aNE ad
def Nr(P:List Int):Bool:=(P.map λk=>decide ((1000000:Int)<=(if k<0 then -k else k))).any id
inductive aQU(ad:Cl->Addr)(vs:List V)(v:Hp)(Q:VK)(z:XK):Prop|mk (a:Addr) (P:List Int) (aV:vs=[.ref a]) (aW:v a=some (.tup (P.map V.int))) (bB:P.length<=40) (cG:(Nr P=false->∀u,Same v u->Q .non u)) (dW:(Nr P=true->Rf ad .big v z))
def ars(ad:Cl->Addr):Sp:=aQU ad
def aIS:Sp:=λvs H Q _=>vs=[.int 1]/\∀l H',Same H H'->H' l=some (.lst [.int 1])->Q (.ref l) H'
inductive aMw(vs:List V)(H:Hp)(Q:VK)(E:XK):Prop|mk (a:Addr) (aV:vs=[.ref a]) (aW:H a=some (.tup [.int (-1),.int 1])) (bB:∀z H',Same H H'->H' z=some (.lst [.int (-1),.int 0,.int 1])->Q (.ref z) H')
def arf:Sp:=aMw
def qe(root:Int):Nat->Int->List Int->Option (Int×List Int)
 |0,_,_=>none
 |n+1,k,L=>if jG 0 L [0-root,1]then(if rem 0 L [0-root,1]=[]then qe root n (k+1) (quo 0 L [0-root,1])else some (k,L))else none
inductive axo(vs:List V)(H:Hp)(Q:VK)(E:XK):Prop|mk (a:Addr) (L L':List Int) (root k:Int) (aV:vs=[.ref a,.int root]) (aW:H a=some (.tup (L.map V.int))) (bB:qe root 3 0 L=some (k,L')) (cG:∀t l H',Same H H'->H' t=some (.tup [.int k,.ref l])->H' l=some (.tup (L'.map V.int))->Q (.ref t) H')
def azw:Sp:=axo
def do1:qe (-1) 3 0 [-1,1]=some (0,[-1,1]):=by decide +kernel
def do2:qe 0 3 0 [-1,1]=some (0,[-1,1]):=by decide +kernel
def do3:qe 1 3 0 [-1,1]=some (1,[1]):=by decide +kernel
inductive aDV(ad:Cl->Addr)(vs:List V)(H:Hp)(Q:VK)(E:XK):Prop|mk (a:Addr) (P:List Int) (aV:vs=[.ref a]) (aW:H a=some (.tup (P.map V.int))) (bB:P.length<=40) (cG:(Nr P=true/\Rf ad .big H E∨P=[-1,1]/\∀t l lt e H',Same H H'->H' t=some (.tup [.ref l,.ref lt])->H' l=some (.lst [.ref e])->H' e=some (.tup [.int 1,.int 1])->H' lt=some (.tup [.int 1])->Q (.ref t) H'))
def aDY(ad:Cl->Addr):Sp:=aDV ad
inductive avw(vs:List V)(H:Hp)(Q:VK)(E:XK):Prop|mk (x:Int) (aV:vs=[.int x,.int 0]) (aW:Q (.int 1) H)
def aKO:Sp:=avw
inductive aAG(vs:List V)(H:Hp)(Q:VK)(E:XK):Prop|mk (l e:Addr) (aV:vs=[.ref l,.int 0]) (aW:H l=some (.lst [.ref e])) (bB:H e=some (.tup [.int 1,.int 1])) (cG:∀t H',Same H H'->H' t=some (.lst [.int 1])->Q (.ref t) H')
def avi:Sp:=aAG
inductive azJ(vs:List V)(H:Hp)(Q:VK)(E:XK):Prop|mk (l e lt:Addr) (x:Int) (aV:vs=[.ref l,.ref lt]) (aW:H l=some (.lst [.ref e])) (bB:H e=some (.tup [.int 1,.int 1])) (cG:H lt=some (.lst [.int x])) (dW:∀t p lx H',Same H H'->H' t=some (.lst [.ref p])->H' p=some (.tup [.int 1,.ref lx])->H' lx=some (.lst [.int x])->Q (.ref t) H')
def ash:Sp:=azJ
inductive aRv(vs:List V)(H:Hp)(Q:VK)(E:XK):Prop|mk (l:Addr) (x:Int) (aV:vs=[.int 0,.ref l]) (aW:H l=some (.lst [.int 1,.int x])) (bB:∀t H',Same H H'->H' t=some (.lst [.int 1,.int x])->Q (.ref t) H')
def aEs:Sp:=aRv
inductive aSb(vs:List V)(H:Hp)(Q:VK)(E:XK):Prop|mk (l l1:Addr) (x:Int) (aV:vs=[.ref l,.int 0,.int 0]) (aW:H l=some (.lst [.ref l1])) (bB:H l1=some (.lst [.int 1,.int x])) (cG:Q (.int 0) H)
def aHH:Sp:=aSb
inductive asS(vs:List V)(H:Hp)(Q:VK)(E:XK):Prop|mk (l:Addr) (aV:vs=[.int 0,.ref l,.int 0,.int 0]) (aW:Q .non H)
def atM:Sp:=asS
inductive aPj(vs:List V)(H:Hp)(Q:VK)(E:XK):Prop|mk (l l1:Addr) (x:Int) (aV:vs=[.int 0,.int 1,.ref l]) (aW:H l=some (.lst [.ref l1])) (bB:H l1=some (.lst [.int 1,.int x])) (cG:∀t lh H',Same H H'->H' t=some (.tup [.ref lh,.int 1])->H' lh=some (.lst [.int 0])->Q (.ref t) H')
def aPN:Sp:=aPj
inductive aLP(vs:List V)(H:Hp)(Q:VK)(E:XK):Prop|mk (l:Addr) (x:Int) (aV:vs=[.int 0,.int 1,.ref l]) (aW:H l=some (.lst [.int x])) (bB:cd 1 x=some 1) (cG:∀t l2 H',Same H H'->H' t=some (.tup [.int 1,.ref l2])->H' l2=some (.lst [.int x])->Q (.ref t) H')
def aIG:Sp:=aLP
inductive aJa(vs:List V)(H:Hp)(Q:VK)(E:XK):Prop|mk (lt l1 lw:Addr) (x:Int) (aV:vs=[.int 0,.int 1,.ref lt,.ref lw]) (aW:H lt=some (.lst [.ref l1])) (bB:H l1=some (.lst [.int 1])) (cG:H lw=some (.lst [.int x])) (dW:cd 1 x=some 1) (iJ:∀t l2 H',Same H H'->H' t=some (.tup [.str ("one" : Str),.int 1,.ref l2])->H' l2=some (.lst [.int x])->Q (.ref t) H')
def aqo:Sp:=aJa
def Mu(r:Rw):Bool:=decide (r.b=0)&&jK r&&Nr (jm 0 r.rule)
def clO(x:Int):Bool:=jK {0,[1],([x])}&&decide (cd 1 x=some 1)
inductive aIA(ad:Cl->Addr)(vs:List V)(H:Hp)(Q:VK)(E:XK):Prop|mk (v:V) (r:Rw) (aV:vs=[v]) (aW:cY H v r) (bB:(r.b≠0/\Rf ad .by_ H E∨Mu r=true/\Rf ad .big H E∨∃x,r={0,[1],([x])}/\clO x=true/\∀t l p lx H',Same H H'->H' t=some (.tup [.int 1,.ref l])->H' l=some (.lst [.ref p])->H' p=some (.tup [.int 1,.ref lx])->H' lx=some (.lst [.int x])->Q (.ref t) H'))
def aCX(ad:Cl->Addr):Sp:=aIA ad
def ams:(jl "|")=Tx.bar:=by decide +kernel
def ale:(jl "by")=zp:=by decide +kernel
def jN:(jl " ")=Tx.one 32:=by decide +kernel
def aQJ:(jl "-")=Tx.one 45:=by decide +kernel
def aCk:(jl "0")=Tx.one 48:=by decide +kernel
def aNC:(jl "0123456789").cps.toList=oG:=by decide +kernel
def Ah(w:Str):Bool:=decide (1<=(fR w).length)&&decide ((fR w).length<=60)&&(fR w).all (λc=>decide (c∈oG))&&(decide (w=Tx.one 48) || !decide ((fR w).head?=some 48))
def mK(w:Str):Except Cl Int:=if Ah w then .ok ((intText? w).getD 0)else .error .text
def NS(w:Str):Except Cl Int:=match mK w with
 |.error c=> .error c
 |.ok n=>if n=0 then .error .text else if yR n then .ok n else .error .text
def EA(b:Int)(rs ss:List Str):Except Cl Rw:=match cZ mK rs,cZ mK ss with
 |.ok r,.ok s=>if zQ {b,r,(s)}then .ok {b,r,(s)}else .error .text
 |_,_=> .error .text
def aeT(ws:List Str):Except Cl Rw:=
 if ws.count Tx.bar=1 then
  if 2<=(ws.drop (ws.idxOf Tx.bar+1)).length/\(ws.drop (ws.idxOf Tx.bar+1))[(ws.drop (ws.idxOf Tx.bar+1)).length-2]?=some zp then
   match NS ((ws.drop (ws.idxOf Tx.bar+1))[(ws.drop (ws.idxOf Tx.bar+1)).length-1]?.getD Tx.bar)with
   |.error c=> .error c
   |.ok p=>EA p (ws.take (ws.idxOf Tx.bar)) ((ws.drop (ws.idxOf Tx.bar+1)).take ((ws.drop (ws.idxOf Tx.bar+1)).length-2))
  else EA 0 (ws.take (ws.idxOf Tx.bar)) (ws.drop (ws.idxOf Tx.bar+1))
 else .error .text
def Yq(t:Str):Except Cl Rw:=aeT (mj t (Tx.one 32))
def Ex(ad:Cl->Addr){α:Type}(o:Except Cl α)(q:α->Prop)(H:Hp)(E:XK):Prop:=(∀x,o = .ok x->q x)/\∀c,o = .error c->Rf ad c H E
def aNe{w:Str}(h:mK w = .error c):c = .text:=by
 unfold mK at h;split at h
 .cases h
 .cases h;rfl
theorem Oc{c:Cl}:∀{ws:List Str},cZ mK ws = .error c->c = .text
 |[],h=>by cases h
 |w::r,h=>by
  rw[cZ]at h;cases e:mK w with
  |error d=>rw[e]at h;cases h;exact aNe e
  |ok d=>
   rw[e]at h;cases e2:cZ mK r with
   |error d2=>rw[e2]at h;cases h;exact Oc e2
   |ok d2=>rw[e2]at h;cases h
def zR(n:Int):Prop:=n.natAbs<10^4000
end
instance (n:Int):Decidable (zR n):=inferInstanceAs (Decidable (_<_))
def iG(n:Int):Except Cl Str:=if zR n then .ok (gb n)else .error .big
def O6(r:Rw):Except Cl Str:=match cZ iG r.rule,cZ iG r.starts with
 |.ok p,.ok q=> .ok (Str.join (Tx.one 32) (p++Tx.bar::(q++Bx r.b)))
 |_,_=> .error .big
def Vj(r:Rw):Bool:=decide (0<=r.b)&&decide (r.b<1000)&&decide (r.rule.length<=12)&&decide (r.starts.length<=12)&&(match cZ iG r.rule,cZ iG r.starts with
 |.ok p,.ok q=>nB (Tx.one 32) (p++Tx.bar::(q++Bx r.b))
 |_,_=>true)
def Ge(ns:List Int):Except Cl Str:=match cZ iG ns with
 |.ok p=> .ok (Str.join (Tx.one 32) p)
 |.error c=> .error c
def aNk{n:Int}{c:Cl}(h:iG n = .error c):c = .big:=by
 unfold iG at h;split at h
 .cases h
 .cases h;rfl
theorem Rh{c:Cl}:∀{ns:List Int},cZ iG ns = .error c->c = .big
 |[],h=>by cases h
 |w::r,h=>by
  rw[cZ]at h;cases e:iG w with
  |error d=>rw[e]at h;cases h;exact aNk e
  |ok d=>
   rw[e]at h;cases e2:cZ iG r with
   |error d2=>rw[e2]at h;cases h;exact Rh e2
   |ok d2=>rw[e2]at h;cases h
def aA5:(zM ((10:Int)^(50:Int).toNat):Int)*8<=2^27:=by decide +kernel
def ayp:(zM (((10:Int)^(50:Int).toNat)^(8:Int).toNat):Int)*10<=2^27:=by decide +kernel
def ajY:((((10:Int)^50)^8)^10)=((10^4000:Nat):Int):=by decide +kernel
def aSw:Sp:=λvs H Q _=>vs=[]/\Q (.int (((10^50)^8)^10)) H
def aMd{n:Int}(h:zR n):n.natAbs<10^4300:=ig h (amN ∅ ∅)
inductive aJC(ad:Cl->Addr)(vs:List V)(H:Hp)(Q:VK)(E:XK):Prop|mk (n:Int) (aV:vs=[.int n]) (aW:Ex ad (iG n) (λt=>Q (.str t) H) H E)
def aHa(ad:Cl->Addr):Sp:=aJC ad
inductive asF(ad:Cl->Addr)(vs:List V)(H:Hp)(Q:VK)(E:XK):Prop|mk (l:Addr) (ns:List Int) (aV:vs=[.ref l]) (aW:H l=some (.lst (ns.map V.int))) (bB:ns.length<=1000) (cG:(∀p,cZ iG ns = .ok p->nB (Tx.one 32) p=true)) (dW:Ex ad (Ge ns) (λt=>∀H',Same H H'->Q (.str t) H') H E)
def avO(ad:Cl->Addr):Sp:=asF ad
inductive aIh(ad:Cl->Addr)(vs:List V)(H:Hp)(Q:VK)(E:XK):Prop|mk (v:V) (r:Rw) (aV:vs=[v]) (aW:cY H v r) (bB:Vj r=true) (cG:Ex ad (O6 r) (λt=>∀H',Same H H'->Q (.str t) H') H E)
def aGj(ad:Cl->Addr):Sp:=aIh ad
def asn{w:Str}(h:Ah w=true):Tx.Wr w:=by
 simp only[Ah,cW,qD,decide_eq_true_eq,gK,aar,decide_eq_false_iff_not]at h;obtain⟨⟨⟨h1,h2⟩,h3⟩,h4⟩:=h;exact(aLC w).mpr {h1,h2,h3,h4.imp (λe=>by rw[e];rfl) id}
def Wr.len{w:Str}(h:Tx.Wr w):w.length<=61:=by
 intros s cs e _ _ l _ _ h;have:w.length=w.cps.toList.length:=by simp[tE]
 rw[this,e];cases s
 .show cs.length<=61;lia
 .show cs.length+1<=61;lia
def axc(w:Str):(fR w).length<=w.length:=by
 have e:w.length=w.cps.toList.length:=by simp[tE]
 rw[e];unfold fR;split
 .rw[tW];lia
 .exact bK _
inductive avp(vs:List V)(H:Hp)(Q:VK)(E:XK):Prop|mk (w:Str) (aV:vs=[.str w]) (aW:w.length<=100000) (bB:∀H',Same H H'->Q (.bl (Ah w)) H')
def aJI:Sp:=avp
inductive auh(ad:Cl->Addr)(vs:List V)(H:Hp)(Q:VK)(E:XK):Prop|mk (w:Str) (aV:vs=[.str w]) (aW:w.length<=100000) (bB:Ex ad (mK w) (λn=>∀H',Same H H'->Q (.int n) H') H E)
def aOK(ad:Cl->Addr):Sp:=auh ad
inductive aO4(ad:Cl->Addr)(vs:List V)(H:Hp)(Q:VK)(E:XK):Prop|mk (w:Str) (aV:vs=[.str w]) (aW:w.length<=100000) (bB:Ex ad (NS w) (λn=>∀H',Same H H'->Q (.int n) H') H E)
def at5(ad:Cl->Addr):Sp:=aO4 ad
inductive awo(ad:Cl->Addr)(vs:List V)(H:Hp)(Q:VK)(E:XK):Prop|mk (a1 a2:Addr) (b:Int) (rs ss:List Str) (aV:vs=[.ref a1,.ref a2,.int b]) (aW:H a1=some (.lst (rs.map V.str))) (bB:H a2=some (.lst (ss.map V.str))) (cG:rs.length<=900) (dW:ss.length<=900) (iJ:(∀w∈rs,w.length<=100000)) (tX:(∀w∈ss,w.length<=100000)) (yg:Ex ad (EA b rs ss) (λr=>Rt r H Q) H E)
def ajB(ad:Cl->Addr):Sp:=awo ad
def aFI{ws:List Str}(h:ws.count Tx.bar=1):ws[ws.idxOf Tx.bar]?=some Tx.bar/\∀m,m<ws.idxOf Tx.bar->ws[m]?≠some Tx.bar:=by
 have hm:Tx.bar∈ws:=List.count_pos_iff.mp ⋯;have hl:=List.idxOf_lt_length_of_mem hm;refine{by rw[List.getElem?_eq_getElem hl,List.getElem_idxOf],λm hm' e=>?_};obtain⟨h1,h2⟩:=List.getElem?_eq_some_iff.mp e;have:=List.not_of_lt_findIdx (p:=(·==Tx.bar)) (xs:=ws) hm';rw[h2]at this;exact absurd this (by simp)
inductive aGJ(ad:Cl->Addr)(vs:List V)(H:Hp)(Q:VK)(E:XK):Prop|mk (t:Str) (aV:vs=[.str t]) (aW:t.length<=800) (bB:(∀w∈mj t (Tx.one 32),w.length<=100000)) (cG:Ex ad (Yq t) (λr=>Rt r H Q) H E)
def aK0(ad:Cl->Addr):Sp:=aGJ ad
inductive Dt|nm|row(r:Rw)|int (i:Int)
deriving DecidableEq
def vG(H:Hp):Dt->V->Prop
 |.nm,_=>True
 |.row r,v=>cY H v r
 |.int i,v=>v = .int i
inductive Wd|row|short|add|multiply|roll|scale|sum|every|ahead|on|rest|drop|M8|places|at_|part|round|where_|closed|divisor|divides
deriving DecidableEq
def Wd.word:Wd->Str
 |.row=> "row" | .short=> "short" | .add=> "add" | .multiply=> "multiply" | .roll=> "roll" | .scale=> "scale" | .sum=> "sum" | .every=> "every" | .ahead=> "ahead" | .on=> "on" | .rest=> "rest" | .drop=> "drop"
 |.M8=> "show" | .places=> "places" | .at_=> "at" | .part=> "part" | .round=> "round" | .where_=> "where" | .closed=> "closed" | .divisor=> "divisor" | .divides=> "divides"
def makes:List Wd:=[.row,.short,.add,.multiply,.roll,.scale,.sum,.every,.ahead,.on,.rest]
def tells:List Wd:=[.M8,.places,.at_,.part,.round,.where_,.closed,.divisor,.divides]
def yC:List Wd:=makes++ .drop::tells
def QM(k:Wd):k∈yC:=by cases k<;>simp[yC,makes,tells]
def aJP:(yC.map Wd.word).Nodup:=by decide +kernel
def jc{k k':Wd}(h:k.word=k'.word):k=k':=by
 have inj:∀{l:List Wd},(l.map Wd.word).Nodup->k∈l->k'∈l->k=k':=λ{l}=>by
  induction l with
  |nil=>intro _ h;cases h
  |cons a l ih=>
   intro hn h1 h2;rw[fB,yL]at hn;rcases dz.mp h1 with e1|h3<;>rcases dz.mp h2 with e2|h4
   .rw[e1,e2]
   .exact absurd (fM.mpr {_,h4,by rw[<-h,e1]}) hn.1
   .exact absurd (fM.mpr {_,h3,by rw[h,e2]}) hn.1
   .exact ih hn.2 h3 h4
 exact inj aJP (QM k) (QM k')
def wI{β:Type}(f:Rw->Option β):List Dt->Option β
 |[.row r]=>f r
 |_=>none
def Av{β:Type}(f:Rw->Rw->Option β):List Dt->Option β
 |[.row r,.row s]=>f r s
 |_=>none
def wj{β:Type}(f:Rw->Int->Option β):List Dt->Option β
 |[.row r,.int i]=>f r i
 |_=>none
def RT{β:Type}(f:Rw->Int->Int->Option β):List Dt->Option β
 |[.row r,.int i,.int j]=>f r i j
 |_=>none
def aa4{β:Type}(f:Rw->Int->Int->Int->Option β):List Dt->Option β
 |[.row r,.int i,.int j,.int k]=>f r i j k
 |_=>none
def AK:List Dt->Option (List Int)
 |[]=>some []
 |.int i::r=>(AK r).map (i :: ·)
 |_=>none
def Wo{β:Type}(f:Rw->List Int->Option β):List Dt->Option β
 |.row r::ds=>match AK ds with
  |some ns=>f r ns
  |none=>none
 |_=>none
section
variable {β:Type} {o:β} {ds:List Dt}
def Fi{f:Rw->Option β}(h:wI f ds=some o):∃r,ds=[.row r]/\f r=some o:=by
 unfold wI at h;split at h
 .exact{(),h}
 .cases h
def N8{f:Rw->Rw->Option β}(h:Av f ds=some o):∃r s,ds=[.row r,.row s]/\f r s=some o:=by
 unfold Av at h;split at h
 .exact{_,(),h}
 .cases h
def CP{f:Rw->Int->Option β}(h:wj f ds=some o):∃r i,ds=[.row r,.int i]/\f r i=some o:=by
 unfold wj at h;split at h
 .exact{_,(),h}
 .cases h
def aHn{f:Rw->Int->Int->Option β}(h:RT f ds=some o):∃r i j,ds=[.row r,.int i,.int j]/\f r i j=some o:=by
 unfold RT at h;split at h
 .exact{_,_,(),h}
 .cases h
def aBl{f:Rw->Int->Int->Int->Option β}(h:aa4 f ds=some o):∃r i j k,ds=[.row r,.int i,.int j,.int k]/\f r i j k=some o:=by
 unfold aa4 at h;split at h
 .exact{_,_,_,(),h}
 .cases h
end
section
variable {o:HO}{s w:Str}{H H' H1:Hp}{M:cV}{N:Nat}{k:Wd}{C a:Addr}{x y z:V}{xs:List V}{ix:List (Option Nat)}{te:TE}{σ:St}{Q:VK}{K:aD}
theorem aem:∀{ds:List Dt} {ns:List Int},AK ds=some ns->ds=ns.map .int
 |[],ns,h=>by cases h;rfl
 |.int i::r,ns,h=>by
  rw[AK]at h;cases e:AK r with
  |none=>rw[e]at h;cases h
  |some l=>rw[e]at h;cases h;rw[aem e];rfl
 |.row _::r,ns,h=>by cases h
 |.nm::r,ns,h=>by cases h
def aMM{β:Type}{o:β}{ds:List Dt}{f:Rw->List Int->Option β}(h:Wo f ds=some o):∃r ns,ds = .row r::ns.map .int/\f r ns=some o:=by
 unfold Wo at h;split at h
 .rename_i r ds
  cases e:AK ds with
  |none=>rw[e]at h;cases h
  |some ns=>rw[e]at h;exact{r,ns,by rw[aem e],h}
 .cases h
def Xz{β:Type}(r s:Rw):Option (Except Cl β):=if r.b≠s.b then some (.error .by_)else none
def ag3(r s:Rw):Option (Except Cl Rw):=if r.b≠s.b then some (.error .by_)else if r={0,[r.rule.headD 0],[r.starts.headD 0]}/\s=r/\Yr (r.rule.headD 0) (r.starts.headD 0)=true then some (.ok {0,[r.rule.headD 0*r.rule.headD 0],[r.starts.headD 0*r.starts.headD 0]})else none
def amI(r:Rw)(ns:List Int):Option (Except Cl Rw):=if 0<=r.b/\jK r=true/\ns.length<=12/\ns.map (Rm.tk r.b)=ns then(if 12<r.rule.length+ns.length then some (.error .long)else if jK (NQ r ns)then some (.ok (NQ r ns))else none)else none
def JM(k:Wd)(ds:List Dt):Option (Except Cl Rw):=match k with
 |.row=>wI (λr=>some (.ok r)) ds
 |.add=>Av Xz ds
 |.roll=>Av Xz ds
 |.multiply=>Av ag3 ds
 |.every=>RT (λ_ s e=>if BF s e then some (.error .far)else none) ds
 |.ahead=>Wo amI ds
 |.on=>wj (λr n=>if pQ r.b n then some (.error .far)else none) ds
 |.rest=>wj (λr _=>if r.b≠0 then some (.error .by_)else none) ds
 |_=>none
def ai1(r:Rw)(n:Int):Bool:=decide (0<=n)&&decide (n<=300)&&Ej r n.toNat&&(match cZ iG (r.row n.toNat)with | .ok p=>nB (Tx.one 32) p|_=>true)
def anh(r:Rw)(n:Int):Option (Except Cl Str):=if Bh n=false then some (.error .far)else if ai1 r n then some (Ge (r.row n.toNat))else none
def atF(r:Rw)(n:Int):Option (Except Cl Str):=if pQ r.b n then some (.error .far)else if 0<=n/\SM r n.toNat=true then some (iG (smF r.b (BZ r n.toNat) r.starts))else none
def ao6(r:Rw):Option (Except Cl Str):=if r.b≠0 then some (.error .by_)else if Mu r then some (.error .big)else if r={0,[1],[r.starts.headD 0]}/\clO (r.starts.headD 0)=true/\¬zR (r.starts.headD 0)then some (.error .big)else none
def apV(r:Rw):Option (Except Cl Str):=if r.b≠0 then some (.error .by_)else if r={0,[r.rule.headD 0],[r.starts.headD 0]}then(match cd 0 (r.starts.headD 0)with|some d=>some (iG d)|none=>none)else none
def aqg(r:Rw)(n s e:Int):Option (Except Cl Str):=if r.b≠0 then some (.error .by_)else if n<1 then some (.error .number)else if BF s e then some (.error .far)else none
def M5(k:Wd)(ds:List Dt):Option (Except Cl Str):=match k with
 |.M8=>wI (λr=>if Vj r then some (O6 r)else none) ds
 |.places=>wj anh ds
 |.at_=>wj atF ds
 |.part=>Av Xz ds
 |.round=>wI (λr=>if r.b=0 then some (.error .by_)else none) ds
 |.where_=>wj (λr _=>if r.b=0 then some (.error .by_)else none) ds
 |.closed=>wI ao6 ds
 |.divisor=>wI apV ds
 |.divides=>aa4 aqg ds
 |_=>none
noncomputable def jV:List Nat:=[97,98,99,100,101,102,103,104,105,106,107,108,109,110,111,112,113,114,115,116,117,118,119,120,121,122,48,49,50,51,52,53,54,55,56,57]
def adH:(jl "abcdefghijklmnopqrstuvwxyz0123456789").cps.toList=jV:=by decide +kernel
def dN(w:Str):Bool:=decide (1<=w.length)&&decide (w.length<=8)&&w.cps.toList.all λc=>decide (c∈jV)
def tQ(h:dN s=true):32∉s.cps.toList:=λz=>by
 simp only[dN,cW,gK,decide_eq_true_eq]at h;exact absurd (h.2 _ z) ∅
abbrev cV:=Str->Option Rw
def pO(nm:Str->Bool)(M:cV)(k w:Str):Except Cl Dt:=
 if k = "NEW" then(if nm w then .ok .nm else .error .name)
 else if k = "A" then(if nm w then(match M w with|some r=> .ok (.row r)|none=> .error .name)else .error .name)
 else if k = "NUMBER" then(match mK w with | .ok n=> .ok (.int n) | .error c=> .error c)
 else if k = "BY" then(match NS w with | .ok n=> .ok (.int n) | .error c=> .error c)
 else(match Yq w with | .ok r=> .ok (.row r) | .error c=> .error c)
abbrev uq:Str:= "row"
abbrev JF:Str:= "NUMBER"
def u0(ws:List Str):List Str:=if ws.head?=some uq/\2<ws.length then ws.take 2++[Str.join (Tx.one 32) (ws.drop 2)]else ws
def qm(w:Str)(n:Nat):Option (List Str):=match vB.find? λp=>decide (p.1=w)with
 |none=>none
 |some p=>if w = "ahead" /\ p.2.length<n/\n<p.2.length+12 then some (p.2++aX (n-p.2.length) JF)else if n=p.2.length then some p.2 else none
structure iW(H:Hp)(d:Addr)(M:cV)(N:Nat):Prop where
 ex:∃kvs:List (Key×V),H d=some (.dK kvs)/\kvs.length<=N/\(∀kv∈kvs,∃s,kv.1 = .inr s)/\∀s,match dX kvs (.inr s),M s with
  |some v,some r=>cY H v r
  |none,none=>True
  |_,_=>False
def cV.put(M:cV)(n:Str)(r:Rw):cV:=λs=>if s=n then some r else M s
def cV.drop(M:cV)(n:Str):cV:=λs=>if s=n then none else M s
def dH(d:Addr)(H H':Hp):Prop:=∀b o,b≠d->H b=some o->H' b=some o
theorem Same.d{d:Addr}{H H':Hp}(g:Same H H'):dH d H H':=λb o _ e=>g b o e
def dH.row{d:Addr}(g:dH d H H')(hd:∀ts,H d≠some (.tup ts)){v:V}{r:Rw}(h:cY H v r):cY H' v r:=by
 intros a p q e h1 h2 h3 h;have k:∀b ts,H b=some (.tup ts)->H' b=some (.tup ts):=λb ts z=>g b _ (λe=>by rw[e]at z;exact hd _ z) z;exact{a,p,q,e,k _ _ h1,k _ _ h2,k _ _ h3}
def iW.get{d:Addr}(h:iW H d M N)(s:Str):(∃v r,lD H d (.str s) (some v)/\M s=some r/\cY H v r)∨(lD H d (.str s) none/\M s=none):=by
 intros kvs hd _ _ hk h.ex;have q:=hk s;have g:lD H d (.str s) (dX kvs (.inr s)):=lD.k (k:=oN s) hd;cases e:dX kvs (.inr s)with
 |none=>
  rw[e]at q g;cases e2:M s with
  |none=>exact .inr {g,(rfl)}
  |some r=>rw[e2]at q;exact q.elim
 |some v=>
  rw[e]at q g;cases e2:M s with
  |none=>rw[e2]at q;exact q.elim
  |some r=>rw[e2]at q;exact .inl {v,r,g,rfl,(q)}
theorem iW.same{H H':Hp}{d:Addr}{M:cV}{N:Nat}(h:iW H d M N)(g:Same H H'):iW H' d M N:=by
 intros kvs hd h1 h2 hk h.ex;refine{kvs,g _ _ hd,h1,h2,λs=>?_};have q:=hk s;revert q;cases dX kvs (.inr s)<;>cases M s<;>intro q
 .exact q
 .exact q
 .exact q
 .exact cY.same q g
def iW.auv{d e:Addr}(h:iW H d M N)(ne:d≠e)(g:dH e H H')(he:∀ts,H e≠some (.tup ts)):iW H' d M N:=by
 intros kvs hd h1 h2 hk h.ex;refine{kvs,g _ _ ne hd,h1,h2,λs=>?_};have q:=hk s;revert q;cases dX kvs (.inr s)<;>cases M s<;>intro q
 .exact q
 .exact q
 .exact q
 .exact g.row he q
def zU{d:Addr}:dH d H (upd H d o):=λb u hb e=>by rw[bY hb];exact e
theorem iW.put{H:Hp}{d:Addr}{M:cV}{N:Nat}(h:iW H d M N)(hN:N<=100){n:Str}{v:V}{r:Rw}(hR:cY H v r):∃H',vZ H d (.str n) v H'/\dH d H H'/\iW H' d (M.put n r) (N+1):=by
 intros kvs hd h1 h2 hk h.ex;refine{_,vZ.k (k:=oN n) hd (gU ⋯),zU,_,ao,eV (Kl kvs _ _) ⋯,λkv hkv=>?_,λs=>?_}
 .unfold putK at hkv;split at hkv
  .obtain⟨kv',h',rfl⟩:=fM.mp hkv;split
   .exact h2 kv' h'
   .exact h2 kv' h'
  .rcases oF.mp hkv with h'|h'
   .exact h2 _ h'
   .rw[kO.mp h'];exact{n,(rfl)}
 .rw[K1];unfold cV.put;by_cases e:s=n
  .rw[if_pos e,if_pos (by rw[e])];exact zU.row (λ_ z=>by rw[hd]at z;cases z) hR
  .rw[if_neg e,if_neg (λz=>e (Nq z))];have q:=hk s;revert q;cases dX kvs (.inr s)<;>cases M s<;>intro q
   .exact q
   .exact q
   .exact q
   .exact zU.row (λ_ z=>by rw[hd]at z;cases z) q
def ayS{kvs:List (Key×V)}{k j:Key}:dX (jY kvs k) j=if j=k then none else dX kvs j:=by
 induction kvs with
 |nil=>unfold jY;split<;>rfl
 |cons p l ih=>
  by_cases e:p.1=k
  .rw[azI e,ih];by_cases e2:j=k
   .rw[if_pos e2,if_pos e2]
   .rw[if_neg e2,if_neg e2,lF (by rw[e];exactλz=>e2 z.symm)]
  .rw[aOw e];by_cases e2:p.1=j
   .rw[mW e2,if_neg (by rw[<-e2];exact e),mW e2]
   .rw[lF e2,ih,lF e2]
theorem iW.drop{H:Hp}{d:Addr}{M:cV}{N:Nat}(h:iW H d M N){n:Str}{r:Rw}(hn:M n=some r):∃kvs v,H d=some (.dK kvs)/\dX kvs (.inr n)=some v/\dH d H (upd H d (.dK (jY kvs (.inr n))))/\iW (upd H d (.dK (jY kvs (.inr n)))) d (M.drop n) N:=by
 intros kvs hd h1 h2 hk h.ex;have q:=hk n;rw[hn]at q;cases e:dX kvs (.inr n)with
 |none=>rw[e]at q;exact q.elim
 |some v=>
  refine{kvs,v,hd,e,zU,_,ao,eV (adl kvs _) h1,λkv hkv=>h2 kv (aA0 hkv),λs=>?_};rw[ayS];unfold cV.drop;by_cases e:s=n
  .rw[if_pos e,if_pos (by rw[e])];exact True.intro
  .rw[if_neg e,if_neg (λz=>e (Nq z))];have q:=hk s;revert q;cases dX kvs (.inr s)<;>cases M s<;>intro q
   .exact q
   .exact q
   .exact q
   .exact zU.row (λ_ z=>by rw[hd]at z;cases z) q
def iW.none_{d:Addr}(h:H d=some (.dK [])):iW H d (λ_=>none) 0:={[],h,bK _,(λ_ z=>nomatch z),λ_=>True.intro}
structure fV(C:Addr)(H:Hp)(p d:Addr)(M:cV)(N:Nat):Prop where
 ob:∃dx,H p=some (.ins C dx (jo "kept" (.ref d) []))
 kp:iW H d M N
def RL{d:Addr}:(jo "kept" (.ref d) []:List (Str×V)).lookup ("kept" : Str)=some (.ref d):=by rw[MV,if_pos rfl]
def aiQ{d:Addr}:(jo "kept" (.ref d) []:List (Str×V)).lookup ("say" : Str)=none:=by
 rw[MV,if_neg (by decide +kernel)];rfl
theorem fV.same{C:Addr}{H H':Hp}{p d:Addr}{M:cV}{N:Nat}(h:fV C H p d M N)(g:Same H H'):fV C H' p d M N:=by
 obtain⟨⟨dx,h1⟩,h2⟩:=h;exact{{dx,g _ _ h1},h2.same g}
def fV.ne{p d:Addr}(h:fV C H p d M N):p≠d:=by
 obtain⟨⟨dx,h1⟩,h2⟩:=h;intros kvs h3 _ h2.ex;exact aiE h1 h3 (by intro z;cases z)
def at0:iy (x::xs) 0=some x:=qd (j:=0) rfl
def at1:iy (x::y::xs) 1=some y:=qd (j:=1) rfl
def at2:iy (x::y::z::xs) 2=some z:=qd (j:=2) rfl
def at3{u:V}:iy (x::y::z::u::xs) 3=some u:=qd (j:=3) rfl
def WB(xs:List V)(k:Nat):gq xs (some (k:Int)) none=xs.drop k:=aoc xs k
def aOV(H:Hp)(Q:VK)(ws:List Str):Prop:=∀l H',Same H H'->H' l=some (.lst (ws.map V.str))->Q (.ref l) H'
def Eb(H:Hp)(v:V):Prop:=v = .non∨(∃i,v = .int i)∨(∃b,v = .bl b)∨∃l xs,v = .ref l/\H l=some (.lst xs)
theorem vG.tup{H H':Hp}(g:∀b ts,H b=some (.tup ts)->H' b=some (.tup ts)){d:Dt}{v:V}(h:vG H d v):vG H' d v:=by
 cases d with
 |nm=>exact True.intro
 |row r=>obtain⟨a,p,q,e,h1,h2,h3⟩:=(show cY H v r from h);exact{a,p,q,e,g _ _ h1,g _ _ h2,g _ _ h3}
 |int i=>exact h
def eZ:∀{α β:Type} {F:α->β->Prop} {a:α} {l:List α} {ys:List β},Paired F (a::l) ys->∃y r,ys=y::r/\F a y/\Paired F l r:=λh=>by
 cases h with
 |cons z r=>exact{_,(),z,r}
def pr0:∀{α β:Type} {F:α->β->Prop} {ys:List β},Paired F [] ys->ys=[]:=λh=>by cases h;rfl
inductive aRb(ad:Cl->Addr)(vs:List V)(H:Hp)(Q:VK)(E:XK):Prop|mk (v:V) (aV:vs=[v]) (aW:(Eb H v/\Rf ad .row H E∨∃(t:Str) (ws:List Str),v = .str t/\t.length<=100000/\mj t (Tx.one 32)=ws/\(ws.head?=some uq->nB (Tx.one 32) (ws.drop 2)=true)/\aOV H Q (u0 ws)))
def aHX(ad:Cl->Addr):Sp:=aRb ad
inductive aNI(K:aD)(ad:Cl->Addr)(vs:List V)(v:Hp)(Q:VK)(E:XK):Prop|mk (l:Addr) (u:Str) (ws:List Str) (aV:vs=[.ref l]) (aW:v l=some (.lst ((u::ws).map V.str))) (bB:ws.length<=900) (cG:(u∈vB.map (·.1)∨u∈AH)) (dW:(∀ks,qm u ws.length=some ks->∀t H',Same v H'->aq K H' t (ks.map V.str)->Q (.ref t) H')) (iJ:(qm u ws.length=none->Rf ad .row v E))
def aqU(K:aD)(ad:Cl->Addr):Sp:=aNI K ad
def aDG:∀p∈vB,p.2.length<=4/\p.2≠[]:=∅
inductive aNl(ad:Cl->Addr)(vs:List V)(v:Hp)(Q:VK)(E:XK):Prop|mk (u:Str) (aV:vs=[.str u]) (aW:u.length<=100000) (bB:(dN u=true->∀H',Same v H'->Q (.str u) H')) (cG:(dN u=false->Rf ad .name v E))
def awm(ad:Cl->Addr):Sp:=aNl ad
inductive aCG(ad:Cl->Addr)(vs:List V)(v:Hp)(u:VK)(E:XK):Prop|mk (d:Addr) (s:Str) (M:cV) (N:Nat) (aV:vs=[.ref d,.str s]) (aW:s.length<=100000) (bB:iW v d M N) (cG:(dN s=true->∀r,M s=some r->Rt r v u)) (dW:(dN s=false∨M s=none->Rf ad .name v E))
def aO5(ad:Cl->Addr):Sp:=aCG ad
inductive azA(ad:Cl->Addr)(vs:List V)(t:Hp)(Q:VK)(E:XK):Prop|mk (d:Addr) (n m:Str) (p:cV) (N:Nat) (aV:vs=[.ref d,.str n,.str m]) (aW:m.length<=800) (bB:(∀u∈mj m (Tx.one 32),u.length<=100000)) (cG:iW t d p N) (dW:(∀l,pO dN p n m = .ok l->∀v r,Same t r->vG r l v->Q v r)) (iJ:∀c,pO dN p n m = .error c->Rf ad c t E)
def asO(ad:Cl->Addr):Sp:=azA ad
inductive aEL(ad:Cl->Addr)(w:Str)(vs:List V)(v:Hp)(u:VK)(E:XK):Prop|mk (k:Wd) (ds:List Dt) (o:Except Cl Rw) (l:Addr) (t:List V) (aV:vs=[.ref l]) (aW:k.word=w) (bB:v l=some (.lst t)) (cG:Paired (vG v) ds t) (dW:JM k ds=some o) (iJ:Ex ad o (λr=>Rt r v u) v E)
def n6(ad:Cl->Addr)(w:Str):Sp:=aEL ad w
inductive aIb(ad:Cl->Addr)(w:Str)(vs:List V)(v:Hp)(Q:VK)(E:XK):Prop|mk (k:Wd) (ds:List Dt) (o:Except Cl Str) (l:Addr) (u:List V) (aV:vs=[.ref l]) (aW:k.word=w) (bB:v l=some (.lst u)) (cG:Paired (vG v) ds u) (dW:M5 k ds=some o) (iJ:Ex ad o (λt=>∀H',Same v H'->Q (.str t) H') v E)
def ql(ad:Cl->Addr)(w:Str):Sp:=aIb ad w
def rD{p:Prop}[Decidable p]{α:Type}{c:Cl}{o:Except Cl α}(h:(if p then some (.error c)else none)=some o):p/\o = .error c:=by
 split at h
 .cases h;exact{by assumption,rfl}
 .cases h
def Ex.er{ad:Cl->Addr}{α:Type}{c:Cl}{q:α->Prop}{E:XK}(h:Ex ad (.error c) q H E):Rf ad c H E:=h.2 c rfl
def asG{l:List Int}{ys:List V}(h:Paired (vG H) (l.map .int) ys):ys=l.map V.int:=by
 induction l generalizing ys with
 |nil=>exact pr0 h
 |cons i l ih=>
  obtain⟨y,r,rfl,e,h'⟩:=eZ h;rw[ih h',show y=V.int i from e];rfl
inductive aLJ(C:Addr)(vs:List V)(H:Hp)(Q:VK)(E:XK):Prop|mk (p dx:Addr) (aV:vs=[.ref p]) (aW:H p=some (.ins C dx [])) (bB:∀d H',H d=none->fV C H' p d (λ_=>none) 0->(∀b v,H b=some v->b≠p->H' b=some v)->Q .non H')
def aN8(C:Addr):Sp:=aLJ C
abbrev akm(P w K mg base cR):=yX P w K mg base cR "__init__" 1 ["self"] (aN8 cR)
def Lx(M:cV)(ks ws:List Str)(i:Nat):Except Cl Dt:=pO dN M (ks.getD i "") (ws.getD i "")
inductive Did(C:Addr)(ad:Cl->Addr)(p d:Addr)(M:cV)(N:Nat)(H:Hp)(Q:VK)(E:XK)(ws:List Str):Wd->List Dt->Prop
 |tell {k:Wd} {ds:List Dt} {o:Except Cl Str}:k∈tells->M5 k ds=some o->Ex ad o (λt=>∀H',Same H H'->Q (.str t) H') H E->Did C ad p d M N H Q E ws k ds
 |make {k:Wd} {n:Str} {ds:List Dt} {o:Except Cl Rw}:k∈makes->ws.head?=some n->JM k ds=some o->Ex ad o (λr=>∀H',dH d H H'->fV C H' p d (M.put n r) (N+1)->Q (.str "ok") H') H E->Did C ad p d M N H Q E ws k (.nm::ds)
 |drop {n:Str} {r:Rw} {ds:List Dt}:ws.head?=some n->M n=some r->(∀H',dH d H H'->fV C H' p d (M.drop n) N->Q (.str "ok") H')->Did C ad p d M N H Q E ws .drop ds
structure ar0(C:Addr)(ad:Cl->Addr)(p d:Addr)(M:cV)(N:Nat)(H:Hp)(Q:VK)(E:XK)(w:Str)(ws:List Str):Prop where
 few:ws.length<=900
 sml:∀x∈ws,x.length<=800/\∀u∈mj x (Tx.one 32),u.length<=100000
 known:w∈vB.map (·.1)∨w∈AH
 no:qm w ws.length=none->Rf ad .row H E
 bad:∀ks c,qm w ws.length=some ks->cZ (Lx M ks ws) (fK ks.length) = .error c->Rf ad c H E
 good:∀ks ds,qm w ws.length=some ks->cZ (Lx M ks ws) (fK ks.length) = .ok ds->∃k:Wd,k.word=w/\Did C ad p d M N H Q E ws k ds
inductive aLc(C:Addr)(ad:Cl->Addr)(vs:List V)(H:Hp)(Q:VK)(E:XK):Prop|mk (p d:Addr) (v:V) (M:cV) (N:Nat) (aV:vs=[.ref p,v]) (aW:fV C H p d M N) (bB:N<=100) (cG:(Eb H v/\Rf ad .row H E∨∃(t w:Str) (us ws:List Str),v = .str t/\t.length<=100000/\mj t (Tx.one 32)=us/\(us.head?=some uq->nB (Tx.one 32) (us.drop 2)=true)/\u0 us=w::ws/\ar0 C ad p d M N H Q E w ws))
def Wa(C:Addr)(ad:Cl->Addr):Sp:=aLc C ad
theorem fV.put{C:Addr}{H:Hp}{p d:Addr}{M:cV}{N:Nat}(h:fV C H p d M N)(hN:N<=100){n:Str}{v:V}{r:Rw}(hR:cY H v r):∃H',vZ H d (.str n) v H'/\dH d H H'/\fV C H' p d (M.put n r) (N+1):=by
 obtain⟨H',h1,h2,h3⟩:=h.kp.put hN (n:=n) hR;intros dx e h.ob;exact{H',h1,h2,{dx,h2 _ _ h.ne e},h3}
def dH.of{d:Addr}(g:Same H H1)(g':dH d H1 H'):dH d H H':=λb o hb e=>g' b o hb (g b o e)
def akA{n:Nat}{ks:List Str}(h:qm w n=some ks):ks.length=n:=by
 unfold qm at h;split at h
 .cases h
 .split at h
  .rename_i z
   cases h;rw[gF,rY];have:=z.2.1;lia
  .split at h
   .rename_i z;cases h;exact z.symm
   .cases h
def aaM(h:k∈makes):k.word∈AF.map (·.1)/\k.word∈Ly:=by
 have:∀k∈makes,k.word∈AF.map (·.1)/\k.word∈Ly:=by decide +kernel
 exact this k h
def agL(h:k∈tells):k.word∈BP.map (·.1):=by
 have:∀k∈tells,k.word∈BP.map (·.1):=by decide +kernel
 exact this k h
abbrev aga(P w K mg base cR bV bU bN bT bW bM bO bQ):=yX P w K mg base cR "say" 15 ["self","row"] (Wa cR (adr bN bV bW bO bQ bM bT bU))
def acG{J:It}(I:j8 J xs H1)(hz:xs.length<=sizeLine){rest:St}(hst:cst ix σ=none::rest)(F:V->V)
  (he:∀(H':Hp) (x:V),Same H1 H'->x∈xs->∀k:VK,(∀H2,Same H' H2->k (F x) H2)->te (some x::rest) H' k)
  (hQ:∀D H',H1 D=none->Same H1 H'->H' D=some (.lst (xs.map F))->Q (.ref D) H'):
  lO ix (iw 0) nj te σ Q J H1:=by
 constructor;intro D hD;refine{λi m σ' H'=>m=xs.length-i/\i<=xs.length/\(∃o,σ'=o::rest)/\Same H1 H'/\H' D=some (.lst ((xs.take i).map F)),{xs.length,by simp,fJ _,{none,(hst)},Same.new hD _,by rw[ao];rfl},?_};rintro i m σ' H' ⟨rfl,hi,⟨o,rfl⟩,g,hl⟩;by_cases hlt:i<xs.length
 .refine .inr {I.go i _ g hlt,λx H2 y=>?_};obtain⟨rfl,hx⟩:=I.iV i _ x H2 g y;have hx:=hx hlt;have hm:x∈xs:=List.mem_of_getElem? hx;have et:xs.take (i+1)=xs.take i++[x]:=by rw[J7,hx];rfl
  change te (some x::rest) H2 _;refine he H2 x g hm _ λH3 g3=>{_,g3 _ _ hl,by rw[bG,nO];lia,xs.length-(i+1),⋯,rfl,hlt,{()},Same.upd (g.trans g3) hD _,?_};rw[ao,et,gC];rfl
 .have e:i=xs.length:=⋯;subst e;rw[yF]at hl;exact .inl {I.stop _ _ g (bK _),hQ D H' hD g hl}
inductive aGu(K:aD)(vs:List V)(H:Hp)(Q:VK)(E:XK):Prop|mk (v ns u) (aV:vs=[.ref v,.int u]) (aW:aj K H v (ns.map V.int)) (bB:0<=u) (cG:Q (.int (cellAt ns u)) H)
def aIP(K:aD):Sp:=aGu K
inductive avV(vs:List V)(H:Hp)(Q:VK)(E:XK):Prop|mk (c v) (aV:vs=[.int c,.int v]) (aW:0<=v) (bB:v<=1000) (cG:Q (.int (Zi c v)) H)
def aGR:Sp:=avV
theorem adu:∀ws:List Str,(Jt C4 ws).cps.toList=(ws.map λw=>w.cps.toList).flatten
 |[]=>rfl
 |[w]=>by show w.cps.toList=_;simp
 |w::v::r=>by
  show((w.cps++C4.cps)++(Jt C4 (v::r)).cps).toList=_;rw[Ht,Ht,adu (v::r)];simp[C4]
def aqn:(jl "")=C4:=by decide +kernel
def sgn(k:Int):Nat:=jV.getD k.toNat 0
def alX{k:Int}(h0:0<=k)(h1:k<36):iy (jl "abcdefghijklmnopqrstuvwxyz0123456789").cps.toList k=some (sgn k):=by
 rw[adH];have hk:k.toNat<jV.length:=by show k.toNat<36;lia
 have:=qd (List.getElem?_eq_getElem hk);rw[(⋯:((k.toNat:Nat):Int)=k)]at this;rw[this,sgn,List.getD_eq_getElem?_getD,List.getElem?_eq_getElem hk];rfl
def apW{k:Int}(h0:0<=k)(h1:k<36):sgn k∈jV:=by
 have hk:k.toNat<jV.length:=by show k.toNat<36;lia
 rw[sgn,List.getD_eq_getElem?_getD,List.getElem?_eq_getElem hk];exact uh hk
def aqX:∀i<36,∀j<36,jV.getD i 0=jV.getD j 0->i=j:=by decide +kernel
def aeQ:(jl "abcdefghijklmnopqrstuvwxyz0123456789").length<=sizeLine:=by decide +kernel
def aks(h1:1<=s.cps.toList.length)(h8:s.cps.toList.length<=8)(ha:∀c∈s.cps.toList,c∈jV):dN s=true:=by
 have e:s.length=s.cps.toList.length:=by simp[tE]
 simp only[dN,cW,gK,decide_eq_true_eq,e];exact{{h1,(h8)},ha}
inductive aEY(vs:List V)(H:Hp)(Q:VK)(E:XK):Prop|mk (c t:Int) (aV:vs=[.int c,.int t]) (aW:∀(l:Addr) (H':Hp) (f:Nat->Str),Same H H'->H' l=some (.lst (((fK 8).map f).map V.str))->(∀i,i<8->dN (f i)=true)->(∀i j,i<8->j<8->f i=f j->i=j)->Q (.ref l) H')
def aG1:Sp:=aEY
theorem afK(s:Str):∀(n:Nat) (a:Array Nat),((aX n s.cps).foldl (·++·) a).toList=a.toList++(aX n s.cps.toList).flatten
 |0,a=>by simp
 |n+1,a=>by
  rw[mU,vo,afK s n,mU,xK];simp
def uQ{Dc:Addr}{b:Bool}{rest:St}{k:VK}(hA:Rd H a (uy a C))(hI:jM K C)(hk:aG K (.ref C) (.ref Dc)=some b)(q:∀t H',Same H H'->H' t=some (.tup [.bl b,.str w])->k (.ref t) H'):
  Vd (nH (MR (WV K) (nH (VP 0) (nH (tC (.ref Dc)) pJ))) (nH (tC (.str w)) pJ)) (some (.ref a)::rest) H k:=
 {(),a,C,_,b,rfl,hA,hI,.inl {(),hk},(aZ 2),λt ht=>q t _ (Same.new ht _) ao}
def RG(H:Hp)(p:Bool×Str)(v:V):Prop:=∃t,v = .ref t/\H t=some (.tup [.bl p.1,.str p.2])
def aAa{bw:List (Bool×Str)}{tc:TT}(hA:H1 a=some (.lst xs))(hp:Paired (RG H1) bw xs)(hz:xs.length<=1000){rest:St}(hst:cst ix σ=none::none::rest)
  (ht:∀(H':Hp) (b:Bool) (w:Str) (kk:Bool->Hp->Prop),kk b H'->tc (some (.bl b)::some (.str w)::rest) H' kk) (he:∀(H':Hp) (b:Bool) (w:Str) (kk:VK),kk (.str w) H'->te (some (.bl b)::some (.str w)::rest) H' kk)
  (hQ:∀D H',Same H1 H'->H' D=some (.lst (((bw.filter (·.1)).map (·.2)).map V.str))->Q (.ref D) H'):lO ix (Nu K 2 (Qg (iw 0) (Qg (iw 1) aiH))) tc te σ Q (uW K a) H1:=by
 have I:=iu (K:=K) (aj.of hA);have lx:=hp.length;constructor;intro D hD;refine{λi m σ' H'=>m=xs.length-i/\i<=xs.length/\(∃o o2,σ'=o::o2::rest)/\Same H1 H'/\H' D=some (.lst ((((bw.take i).filter (·.1)).map (·.2)).map V.str)),{xs.length,by simp,fJ _,{none,none,(hst)},Same.new hD _,ao},?_};rintro i m σ' H' ⟨rfl,hi,⟨o,o2,rfl⟩,g,hl⟩;by_cases hlt:i<xs.length
 .refine .inr {I.go i _ g hlt,λx H2 y=>?_};obtain⟨e1,hx⟩:=I.iV i _ x H2 g y;subst e1;have hib:i<bw.length:=⋯;have key:∀{bs:List (Bool×Str)} {vs:List V} {j:Nat} {v:V},Paired (RG H1) bs vs->vs[j]?=some v->∃p,bs[j]?=some p/\RG H1 p v:=λ{bs vs j v} h=>by
   induction h generalizing j with
   |nil=>intro z;cases z
   |cons z _ ih=>
    intro e;cases j with
    |zero=>cases e;exact{(),z}
    |succ j=>rw[List.getElem?_cons_succ]at e ⊢;exact ih e
  obtain⟨p,ep,t,rfl,htp⟩:=key hp (hx hlt);have et:bw.take (i+1)=bw.take i++[p]:=by
   rw[aqL hib];rw[List.getElem?_eq_getElem hib]at ep;cases ep;rfl
  exists t,(),aq.of (g _ _ htp),rfl,_,(),"";refine ht H2 p.1 p.2 _ ?_;cases hb:p.1 with
  |true=>
   refine dM (he H2 true p.2 _ {_,hl,?_,xs.length-(i+1),⋯,rfl,hlt,{_,()},g.upd hD _,?_})
   .rw[bG,bG];have:=V9 (·.1) (bw.take i);rw[nO]at this;have:=gU hz;lia
   .rw[ao,et,Kf,gC,gC,uc,if_pos hb];rfl
  |false=>
   refine bL {xs.length-(i+1),⋯,rfl,hlt,{_,()},g,?_};rw[hl,et,Kf,uc,if_neg (by rw[hb];decide),List.filter_nil,qC]
 .have e:i=bw.length:=⋯;rw[e,yF]at hl;exact .inl {I.stop _ _ g ⋯,hQ D H' g hl}
def kI:Cl->Str
 |.number=> "number" | .by_=> "by" | .text=> "text" | .far=> "far" | .long=> "long" | .big=> "big" | .row=> "row" | .name=> "name"
inductive aFx(ad:Cl->Addr)(vs:List V)(H:Hp)(Q:VK)(E:XK):Prop|mk (a:Addr) (c:Cl) (aV:vs=[.ref a]) (aW:Rd H a (uy a (ad c))) (bB:∀H',Same H H'->Q (.str (kI c)) H')
def aMB(ad:Cl->Addr):Sp:=aFx ad
def qz(g:Same H H')(h:Rd H a o):Rd H' a o:=h.imp (λe=>g _ _ e) λ⟨u,e⟩=>{u,g _ _ e}
def ajv(c:Cl):List Bool:=[Cl.number,.by_,.text,.far,.long,.big,.row,.name].map λx=>decide (c=x)
def alf:List Str:=["number","by","text","far","long","big","row","name"]
def arI(c:Cl):((((ajv c).zip alf).filter (·.1)).map (·.2))=[kI c]:=by cases c<;>rfl
def amn(H:Hp)(Q:VK)(a:Str)(v:V):Prop:=∀t H',Same H H'->H' t=some (.tup [.str a,v])->Q (.ref t) H'
inductive axS(u:Addr)(ad:Cl->Addr)(vs:List V)(H:Hp)(Q:VK)(E:XK):Prop|mk (p:Addr) (v:V) (aV:vs=[.ref p,v]) (aW:(∃dx fs,H p=some (.ins u dx fs)/\fs.lookup ("say" : Str)=none)) (bB:∀(Q':VK) (E':XK),(∀t H',amn H' Q "told" (.str t)->Q' (.str t) H')->(∀c H',amn H' Q "refused" (.str (kI c))->E' (.ref (ad c)) none H')->Wa u ad [.ref p,v] H Q' E')
def ou(C:Addr)(ad:Cl->Addr):Sp:=axS C ad
def alz(c:Cl):¬kI c = "" := by cases c<;>decide +kernel
abbrev KY(P w K mg base cR bV bU bN bT bW bM bO bQ):=kJ P w K mg base "_law_told" 16 ["_law_desk","_law_text"] (ou cR (adr bN bV bW bO bQ bM bT bU))
def abc:List Str:=["A","B","C","D"]
def bJ(a b c d w:Str):Str:=if w = "A" then a else if w = "B" then b else if w = "C" then c else if w = "D" then d else w
def nU{a b c d:Str}(h:w∉abc):bJ a b c d w=w:=by
 simp only[abc,dz,iY,or_false,not_or]at h;unfold bJ;rw[if_neg h.1,if_neg h.2.1,if_neg h.2.2.1,if_neg h.2.2.2]
abbrev pR:=Str->Option (Option Rw)
def LZ(MT:pR)(k w:Str):Option (Except Cl Dt):=
 if k = "NEW" then some (if w∈abc∨dN w=true then .ok .nm else .error .name)
 else if k = "A" then(if w∈abc then(match MT w with|some (some r)=>some (.ok (.row r))|some none=>some (.error .name)|none=>none)else if dN w then(if w = "c" then some (.error .name)else none)else some (.error .name))
 else if w∈abc then none else some (pO dN (λ_=>none) k w)
def wz(G:Str->Str->Except Cl Dt):List Str->List Str->Except Cl (List Dt)
 |k::ks,w::ws=>match G k w with
  |.error c=> .error c
  |.ok d=>match wz G ks ws with
   |.error c=> .error c
   |.ok ds=> .ok (d::ds)
 |_,_=> .ok []
theorem ako{α β γ:Type}{G:β->Except Cl γ}{f:α->β}:∀xs:List α,cZ G (xs.map f)=cZ (λx=>G (f x)) xs
 |[]=>rfl
 |x::r=>by rw[fB,cZ,cZ,ako r]
theorem afS(G:Str->Str->Except Cl Dt):∀{ks ws:List Str},ks.length=ws.length->cZ (λi=>G (ks.getD i "") (ws.getD i "")) (fK ks.length)=wz G ks ws
 |[],[],_=>rfl
 |[],w::ws,h=>by cases h
 |k::ks,[],h=>by cases h
 |k::ks,w::ws,h=>by
  rw[um,List.range_succ_eq_map,cZ,ako];have ih:=afS G (ks:=ks) (ws:=ws) (by simpa using h);have e:(λx=>G ((k::ks).getD (Nat.succ x) "") ((w::ws).getD (Nat.succ x) ""))=λx=>G (ks.getD x "") (ws.getD x ""):=rfl;rw[e,ih,wz,show(k::ks).getD 0 "" = k from rfl,show(w::ws).getD 0 "" = w from rfl];cases G k w with
  |error c=>rfl
  |ok d=>cases wz G ks ws<;>rfl
def yp(MT:pR):List Str->List Str->Option (Except Cl (List Dt))
 |k::ks,w::ws=>match LZ MT k w with
  |none=>none
  |some (.error c)=>some (.error c)
  |some (.ok d)=>match yp MT ks ws with
   |none=>none
   |some (.error c)=>some (.error c)
   |some (.ok ds)=>some (.ok (d::ds))
 |_,_=>some (.ok [])
inductive Res|err(c:Cl)|tell (t:Str)|put (n:Str) (r:Rw)|drop (n:Str)
deriving DecidableEq
def resT:Except Cl Str->Res
 |.ok t=> .tell t
 |.error c=> .err c
def aFL(n:Str):Except Cl Rw->Res
 |.ok r=> .put n r
 |.error c=> .err c
def Xv(k:Wd)(n:Str)(ds:List Dt)(there:Bool):Option Res:=
 if k∈tells then(M5 k ds).map resT
 else if k∈makes then(match ds with | .nm::ds=>(JM k ds).map (aFL n)|_=>none)
 else if there then some (.drop n)else none
def afv(w:Str):Bool:=decide (w∈abc)||(decide (w.length<=800)&&(mj w (Tx.one 32)).all λu=>decide (u.length<=100000))
def evW(MT:pR):List Str->Option Res
 |w::ws=>if decide (ws.length<=900)&&ws.all afv&&(decide (w∈vB.map (·.1))||decide (w∈AH))&&decide (w∉abc)then(match qm w ws.length with
  |none=>some (.err .row)
  |some ks=>match yp MT ks ws with
   |none=>none
   |some (.error c)=>some (.err c)
   |some (.ok ds)=>match yC.find? λk=>decide (k.word=w)with
    |some k=>Xv k (ws.headD "") ds (decide (ws.headD "" ∈ abc)&&((MT (ws.headD "")).bind id).isSome)
    |none=>none)else none
 |[]=>none
def dU(MT:pR)(ws:List Str):Option Res:=if(decide (ws.head?≠some uq)||((ws.drop 2).all (λw=>decide (w∉abc))&&nB (Tx.one 32) (ws.drop 2)&&decide (Str.join (Tx.one 32) (ws.drop 2)∉abc)))&&decide (ws.headD "" ∉ abc)then evW MT (u0 ws)else none
structure Nm(a b c d:Str):Prop where
 ok:∀w∈abc,dN (bJ a b c d w)=true
structure Kp(a b c d:Str)(M:cV)(MT:pR):Prop where
 at_:∀w∈abc,∀x,MT w=some x->M (bJ a b c d w)=x
 no:M "c" = none
end
section
variable {a b c d:Str} {M:cV} {MT:pR}
def aDf(n:Nm a b c d)(h:Kp a b c d M MT){k w:Str}{x:Except Cl Dt}(e:LZ MT k w=some x):pO dN M k (bJ a b c d w)=x:=by
 unfold LZ at e;unfold pO;split at e
 .rename_i k1
  cases e;rw[if_pos k1];by_cases hw:w∈abc
  .rw[if_pos (n.ok w hw),if_pos (.inl hw)]
  .rw[nU hw];by_cases hk:dN w=true
   .rw[if_pos hk,if_pos (.inr hk)]
   .rw[if_neg hk,if_neg (λz=>z.elim hw hk)]
 .rename_i k1
  rw[if_neg k1];split at e
  .rename_i k2
   rw[if_pos k2];split at e
   .rename_i hw
    rw[if_pos (n.ok w hw)];cases em:MT w with
    |none=>rw[em]at e;cases e
    |some x=>
     rw[h.at_ w hw x em];rw[em]at e;cases x<;>(cases e;rfl)
   .rename_i hw
    rw[nU hw];split at e
    .rename_i hk
     rw[if_pos hk];split at e
     .rename_i hc
      cases e;rw[hc,h.no]
     .cases e
    .rename_i hk
     cases e;rw[if_neg hk]
  .rename_i k2
   rw[if_neg k2];split at e
   .cases e
   .rename_i hw
    cases e;rw[nU hw];unfold pO;rw[if_neg k1,if_neg k2]
theorem O9(n:Nm a b c d)(h:Kp a b c d M MT):∀{ks ws:List Str} {x:Except Cl (List Dt)},yp MT ks ws=some x->wz (pO dN M) ks (ws.map (bJ a b c d))=x
 |[],ws,x,e=>by
  have e:some (Except.ok [])=some x:=e;cases e;rfl
 |k::ks,[],x,e=>by
  have e:some (Except.ok [])=some x:=e;cases e;rfl
 |k::ks,w::ws,x,e=>by
  rw[yp]at e;rw[fB,wz];cases e1:LZ MT k w with
  |none=>rw[e1]at e;cases e
  |some y=>
   rw[e1]at e;rw[aDf n h e1];cases y with
   |error c=>cases e;rfl
   |ok d=>
    dsimp only at e⊢;cases e2:yp MT ks ws with
    |none=>rw[e2]at e;cases e
    |some y=>
     rw[e2]at e;rw[O9 n h e2];cases y with
     |error c=>cases e;rfl
     |ok ds=>cases e;rfl
end
section
variable {w a b c d N n t s:Str}{us:List Str}{H H':Hp}{Q:VK}{K:aD}{xs ys:List V}{ps:List (Str×Str)}{g:Bool->Bool}
def aGy{k:Wd}(h:(yC.find? λk=>decide (k.word=w))=some k):k.word=w:=of_decide_eq_true (List.find?_some (p:=λ(k:Wd)=>decide (k.word=w)) h)
def After(C:Addr)(ad:Cl->Addr)(p dd:Addr)(M:cV)(N:Nat)(H:Hp)(Q:VK)(E:XK)(f:Str->Str):Res->Prop
 |.err c=>Rf ad c H E
 |.tell t=>∀H',Same H H'->Q (.str t) H'
 |.put n r=>∀H',dH dd H H'->fV C H' p dd (M.put (f n) r) (N+1)->Q (.str "ok") H'
 |.drop n=>∀H',dH dd H H'->fV C H' p dd (M.drop (f n)) N->Q (.str "ok") H'
def arb(h:dN w=true):w.length<=800/\∀u∈mj w (Tx.one 32),u.length<=100000:=by
 have hc:=tQ h;simp only[dN,cW,decide_eq_true_eq]at h;refine{⋯,λu hu=>?_};have e:mj w (Tx.one 32)=[w]:=by
  have:=Jy (c:=32) ∅ (ws:=[w]) (by simp) (λv hv=>by rw[kO.mp hv];exact hc);exact this
 rw[e]at hu;rw[kO.mp hu];lia
def ayH(h:us.head?≠some uq∨(∀w∈us.drop 2,w∉abc)/\Str.join (Tx.one 32) (us.drop 2)∉abc)(hw:us.headD "" ∉ abc):u0 (us.map (bJ a b c d))=(u0 us).map (bJ a b c d):=by
 have hh:(us.map (bJ a b c d)).head?=us.head?:=by
  cases us with
  |nil=>rfl
  |cons w r=>show some (bJ a b c d w)=some w;rw[nU (w:=w) hw]
 unfold u0;rw[hh,bG];split
 .rename_i z
  obtain⟨h1,h2⟩:=h.resolve_left λn=>n z.1;rw[gC,<-xV,<-J5];have e:(us.drop 2).map (bJ a b c d)=us.drop 2:=by
   conv=>rhs;rw[<-JD (us.drop 2)]
   exact vK λw hw=>nU (h1 w hw)
  rw[e,fB,nU h2];rfl
 .rfl
def avD{C:Addr}{ad:Cl->Addr}{p dd:Addr}{M:cV}{MT:pR}{N:Nat}{E:XK}(n:Nm a b c d)(h:Kp a b c d M MT)(hD:fV C H p dd M N)(hN:N<=100){us:List Str}{res:Res}(ev:dU MT us=some res){t:Str}(tl:t.length<=100000)(ts:mj t (Tx.one 32)=us.map (bJ a b c d))(q:After C ad p dd M N H Q E (bJ a b c d) res):Wa C ad [.ref p,.str t] H Q E:=by
 unfold dU at ev;split at ev
 rotate_left
 .cases ev
 rename_i hc
 simp only[cW,qD,decide_eq_true_eq,gK]at hc;intros hrow hw0 hc;have hm:=ayH (a:=a) (b:=b) (c:=c) (d:=d) (us:=us) (hrow.imp id λz=>{z.1.1,(z.2)}) hw0;have hj:(us.map (bJ a b c d)).head?=some uq->nB (Tx.one 32) ((us.map (bJ a b c d)).drop 2)=true:=λz=>by
  have hh:us.head?=some uq:=by
   cases us with
   |nil=>cases z
   |cons w r=>
    have z:some (bJ a b c d w)=some uq:=z;rw[nU (w:=w) hw0]at z;exact z
  obtain⟨⟨h1,h2⟩,h3⟩:=hrow.resolve_left λn=>n hh;have e:(us.drop 2).map (bJ a b c d)=us.drop 2:=by
   conv=>rhs;rw[<-JD (us.drop 2)]
   exact vK λw hw=>nU (h1 w hw)
  rw[<-J5,e];exact h2
 generalize u0 us=vs at ev hm;cases vs with
 |nil=>cases ev
 |cons w ws=>
  rw[evW]at ev;split at ev
  rotate_left
  .cases ev
  rename_i hc
  simp only[cW,qD,decide_eq_true_eq,gK]at hc;obtain⟨⟨⟨few,sml⟩,known⟩,hwn⟩:=hc;have lf:(ws.map (bJ a b c d)).length=ws.length:=bG _;have aFN:∀x∈ws.map (bJ a b c d),x.length<=800/\∀u∈mj x (Tx.one 32),u.length<=100000:=λx hx=>by
   obtain⟨w,hw,rfl⟩:=fM.mp hx;have:=sml w hw;by_cases z:w∈abc
   .exact arb (n.ok w z)
   .rw[nU z];simp only[afv,qD,cW,decide_eq_true_eq,gK]at this;exact this.resolve_left z
  have zip:∀ks,qm w ws.length=some ks->cZ (Lx M ks (ws.map (bJ a b c d))) (fK ks.length)=wz (pO dN M) ks (ws.map (bJ a b c d)):=λks hk=>afS _ (by rw[akA hk,lf]);refine{p,dd,.str t,M,N,rfl,hD,hN,.inr {t,w,_,ws.map (bJ a b c d),rfl,tl,ts,hj,by rw[hm,fB,nU hwn],by rw[lf];exact few,aFN,known,?_,?_,?_}}
  .intro hk;rw[lf]at hk;rw[hk]at ev;cases ev;exact q
  .intro ks c hk he;rw[lf]at hk;rw[hk]at ev;rw[zip ks hk]at he;dsimp only at ev;cases e:yp MT ks ws with
   |none=>rw[e]at ev;cases ev
   |some y=>
    rw[e]at ev;rw[O9 n h e]at he;cases y with
    |ok ds=>cases he
    |error c'=>cases he;cases ev;exact q
  .intro ks ds hk he;rw[lf]at hk;rw[hk]at ev;rw[zip ks hk]at he;dsimp only at ev;cases e:yp MT ks ws with
   |none=>rw[e]at ev;cases ev
   |some y=>
    rw[e]at ev;rw[O9 n h e]at he;subst he;dsimp only at ev;cases ek:yC.find? λk=>decide (k.word=w)with
    |none=>rw[ek]at ev;cases ev
    |some k=>
     rw[ek]at ev;replace ev:Xv k (ws.headD "") ds (decide (ws.headD "" ∈ abc)&&((MT (ws.headD "")).bind id).isSome)=some res:=ev;exists k,aGy ek;unfold Xv at ev;split at ev
     .rename_i ht
      cases et:M5 k ds with
      |none=>rw[et]at ev;cases ev
      |some o=>
       rw[et]at ev;cases ev;refine .tell ht et {λx ex=>?_,λc ec=>?_}
       .rw[ex]at q;exact q
       .rw[ec]at q;exact q
     .split at ev
      .rename_i hmk
       split at ev
       rotate_left
       .cases ev
       rename_i ds
       cases em:JM k ds with
       |none=>rw[em]at ev;cases ev
       |some o=>
        rw[em]at ev;cases ev;have hne:ws≠[]:=λz=>by
         rw[z]at e;cases ks with
         |nil=>cases e
         |cons k0 ks=>cases e
        obtain⟨w1,r1,rfl⟩:∃w1 r1,ws=w1::r1:=by
         cases ws with
         |nil=>exact absurd rfl hne
         |cons w1 r1=>exact{w1,r1,(rfl)}
        refine .make (n:=bJ a b c d w1) hmk rfl em {λr er=>?_,λc ec=>?_}
        .rw[er]at q;exact q
        .rw[ec]at q;exact q
      .rename_i h1 h2
       split at ev
       rotate_left
       .cases ev
       rename_i hth
       rw[cW,decide_eq_true_eq]at hth;cases ev;obtain rfl:k = .drop:=by
        have:=QM k;rw[yC,oF,dz]at this;rcases this with z|z|z
        .exact absurd z h2
        .exact z
        .exact absurd z h1
       obtain⟨r,hr⟩:=ZL.mp hth.2;cases ws with
       |nil=>exact absurd hth.1 (by decide +kernel)
       |cons w1 r1=>
        cases em:MT w1 with
        |none=>
         have hr:(MT w1).bind id=some r:=hr;rw[em]at hr;cases hr
        |some x=>
         have hr:(MT w1).bind id=some r:=hr;rw[em]at hr;exact .drop (n:=bJ a b c d w1) (r:=r) rfl ((h.at_ w1 hth.1 x em).trans hr) q
def rA(s:Int):Rw:={0,[1,1],([s,1])}
def rB:Rw:={7,[3],([2])}
def ML(s:Int):pR:=λw=>if w = "A" then some (some (rA s))else if w = "B" then some (some rB)else some none
def eG(o:Option Rw):pR:=λw=>if w = "D" then some o else none
def spl(t:Str):List Str:=mj t (Tx.one 32)
def Mq(t:Str):Bool:=decide (t.length<=200)&&decide ((spl t).length<=50)&&(spl t).all λw=>decide (w.length<=100)&&decide (w≠ "D")
def gH(t:Str)(c:Cl):Bool:=Mq t&&(fK 9).all λs=>decide (dU (ML s) (spl t)=some (.err c))
def alb:List Str:=([""," ","show","show A "," show A","Show A","shown A","show A B","row","row A","rows A |","sum c"]:List Str)++(["short A","add c A","add c A A A","scale c A","scale c A 1 1","every c A 1","ahead c A","ahead c A 1 1 1 1 1 1 1 1 1 1 1 1 1","on c A","rest c A","drop","drop A B","places A","at A","at A  1","part A","round","where A","closed","divisor","divides A 1 1","divides A 1 1 1 1","at A 1 ","roll c A"]:List Str)
def ais:List Str:=(["show a_b","show abcdefghi","show C","row A- |","row  |","row a-b 1","short A! C","short c C","add c A C","add c C A!","add A! A B","scale c C x","drop C"]:List Str)++(["scale A! A x","every c C 01 x","ahead c C 1 x","on abcdefghi A -0","rest c C 4","places C x","at A! 01","part A C","part A! C","round C","where C +1","closed C","divisor A!","divides C 0 x y","show ","sum a_b A","drop ","show aB","row Ab |","scale aA A 1","drop Zz"]:List Str)
def Jz:List Str:=["row c ","row c 1","row c 1 | 1 by 4","row c 1 | 1 2","row c 01 | 1","row c  |","row c | ","row c x","scale c A 01","scale c A x","every c A 1 -0","every c A x -1","ahead c A 1 2 3 +4","on c A 1.","rest c A 4","rest c B 0","at A -","rest c A 1009","rest c A x","places A 1000000000000000000000000000000000000000000000000000000000000","where B 1x","divides A 0 1 00","divides B x 1 1","at A 1_0","row c 2 | 1 by 2"]
def anU:List Str:=["add c A B","multiply c B A","roll c A B","part A B","rest c B 7","round A","where A 1","closed B","divisor B","divides B 2 1 1","divides B 2 101 1","rest c B 2","divides B 0 1 1"]
def ahs:List Str:=["at A 401","at B -1","on c A 401","on c B -2","every c A 101 1","every c B 0 11","every c A 0 0","every c A -1 1","divides A 2 101 1","divides A 2 0 0"]
def Jh{L:List Str}{k:Int}(h0:0<=k)(h1:k<(L.length:Int)):∃t,t∈L/\iy (L.map V.str) k=some (.str t):=by
 have hk:k.toNat<L.length:=⋯;exists L[k.toNat],uh hk;exact Mt k.toNat ⋯ (by rw[List.getElem?_map,List.getElem?_eq_getElem hk];rfl)
def aDO:∀t∈alb,gH t .row=true:=by decide +kernel
def aMs:∀t∈ais,gH t .name=true:=by decide +kernel
def aJQ:∀n∈["c","A","B"],∀t∈Jz,gH (ap4 t "row c" (Str.ofString "row " ++ Str.ofString n)) .text=true:=by decide +kernel
inductive aGO(x:Str)(vs:List V)(H:Hp)(Q:VK)(E:XK):Prop|mk (n:Int) (aV:vs=[.int n]) (aW:0<=n) (bB:∀(l:Addr) (t:Str) (z:Cl) (H':Hp),Same H H'->H' l=some (.lst [.str t,.str (kI z)])->gH t z=true->Q (.ref l) H')
def DK(x:Str):Sp:=aGO x
def s13:(Str.ofString "ahead c A" ++ ({(aX 13 (Str.ofString " 1").cps).foldl (·++·) #[]}:Str)) = "ahead c A 1 1 1 1 1 1 1 1 1 1 1 1 1" := by decide +kernel
def s60:(Str.ofString "places A 1" ++ ({(aX 60 (Str.ofString "0").cps).foldl (·++·) #[]}:Str)) = "places A 1000000000000000000000000000000000000000000000000000000000000" := by decide +kernel
def kZ{l0:Addr}(h:H l0=some (.lst xs))(q:∀l H',H l=none->Same H H'->H' l=some (.lst (xs++ys))->Q (.ref l) H')(hz:xs.length+ys.length<=1000:=by exact uH rfl):vR ys (.lst ys) H λy H2=>vI K (.ref l0) y H2 Q:=by
 have h1:(1000:Nat)<=sizeLine:=∅;refine{⋯,λp hp=> .inl {xs,ys,(Same.new hp _) _ _ h,ao,⋯,λp2 hp2=>q p2 _ ((Same.new hp _).free hp2) ((Same.new hp _).trans (Same.new hp2 _)) ao}}
def gJ(q:∀l H',H l=none->Same H H'->H' l=some (.lst xs)->Q (.ref l) H')(hz:xs.length<=1000:=by exact uH rfl):vR xs (.lst xs) H Q:={eV hz ∅,λp hp=>q p _ hp (Same.new hp _) ao}
def aL3:∀t∈anU,gH t .by_=true:=by decide +kernel
def awy:∀t∈ahs,gH t .far=true:=by decide +kernel
def aGS:∀k<50,(gH (Str.ofString "places A " ++ gb ((301+k:Nat):Int)) .far&&gH (Str.ofString "places B " ++ gb ((301+k:Nat):Int)) .far&&gH (Str.ofString "places A " ++ gb (-((1+k:Nat):Int))) .far&&gH (Str.ofString "places B " ++ gb (-((1+k:Nat):Int))) .far&&decide ((gb ((301+k:Nat):Int)).length<=10)&&decide ((gb (-((1+k:Nat):Int))).length<=10))=true:=by decide +kernel
def s12:(Str.ofString "ahead c A" ++ ({(aX 12 (Str.ofString " 1").cps).foldl (·++·) #[]}:Str)) = "ahead c A 1 1 1 1 1 1 1 1 1 1 1 1" := by decide +kernel
def aro:(gH "divides A 0 1 1" .number&&gH "divides A -3 1 1" .number&&gH "ahead c A 1 1 1 1 1 1 1 1 1 1 1 1" .long&&gH "divides A 0 101 1" .number&&gH "divides A -1 1 0" .number)=true:=by decide +kernel
def Gd(H:Hp)(v:V):Prop:=∃(a:Addr) (t:Str) (c:Cl),v = .ref a/\H a=some (.tup [.str t,.str (kI c)])/\gH t c=true
theorem Gd.tup{H H':Hp}{v:V}(g:∀b ts,H b=some (.tup ts)->H' b=some (.tup ts))(h:Gd H v):Gd H' v:=let⟨a,t,c,e,h1,h2⟩:=h;{a,t,c,e,g _ _ h1,h2}
def ajA{n:Int}(h:n.natAbs<1000):n.natAbs.log2<1920:=by
 by_cases z:n.natAbs=0
 .rw[z];decide
 .exact(Nat.log2_lt z).mpr (ig h (by decide +kernel))
def xP{c:Cl}(h:gH t c=true)(q:∀v H',Same H H'->Gd H' v->Q v H'):vR [.str t,.str (kI c)] (.tup [.str t,.str (kI c)]) H Q:={(aZ 2),λp hp=>q (.ref p) _ (Same.new hp _) {p,t,c,rfl,ao,(h)}}
inductive aJk(vs:List V)(H:Hp)(Q:VK)(E:XK):Prop|mk (p:Str) (ln:Addr) (z y x:Str) (r:List V) (aV:vs=[.str p,.ref ln]) (aW:H ln=some (.lst (.str z :: .str y :: .str x::r))) (bB:z.length<=8) (cG:y.length<=8) (dW:x.length<=8) (iJ:32∉z.cps.toList) (tX:32∉y.cps.toList) (yg:32∉x.cps.toList) (Bv:Mq p=true) (z_9:∀u H',Same H H'->u.length<=100000->(∀v,spl u=(spl p).map (bJ z y x v))->Q (.str u) H')
def at9:Sp:=aJk
def aQG(x y z:V)(w:Str):dX (pD [] [((oN "A" : Key),x),(.inr "B",y),(.inr "C",z)]) (.inr w)=if w = "A" then some x else if w = "B" then some y else if w = "C" then some z else none:=by
 unfold pD;rw[vo,vo,vo,List.foldl_nil,K1,K1,K1,aAp];have i:∀u:Str,((oN w:Key) = .inr u)=(w=u):=λu=>propext {λh=>Nq h,λh=>by rw[h]};simp only[i];by_cases h1:w = "A"
 .subst h1;rw[if_neg (by decide +kernel),if_neg (by decide +kernel),if_pos rfl,if_pos rfl]
 .by_cases h2:w = "B"
  .subst h2;rw[if_neg (by decide +kernel),if_pos rfl,if_neg h1,if_pos rfl]
  .by_cases h3:w = "C"
   .rw[if_pos h3,if_neg h1,if_neg h2,if_pos h3]
   .rw[if_neg h3,if_neg h2,if_neg h1,if_neg h1,if_neg h2,if_neg h3]
def aHk(a b c w:Str):(if w = "A" then some (V.str a)else if w = "B" then some (.str b)else if w = "C" then some (.str c)else none).getD (.str w) = .str (bJ a b c "D" w):=by
 unfold bJ;by_cases h1:w = "A"
 .rw[if_pos h1,if_pos h1];rfl
 rw[if_neg h1,if_neg h1];by_cases h2:w = "B"
 .rw[if_pos h2,if_pos h2];rfl
 rw[if_neg h2,if_neg h2];by_cases h3:w = "C"
 .rw[if_pos h3,if_pos h3];rfl
 rw[if_neg h3,if_neg h3];by_cases h4:w = "D"
 .rw[if_pos h4,h4];rfl
 .rw[if_neg h4];rfl
def aK9(h:w≠ "D"):bJ a b c "D" w=bJ a b c d w:=by unfold bJ;rw[if_neg h,if_neg h]
def aSq{ws:List Str}(hn:ws≠[])(h1:ws.length<=50)(h2:∀w∈ws,w.length<=100)(h3:∀w∈ws,32∉w.cps.toList):nB (Tx.one 32) ws=true/\(Str.join (Tx.one 32) ws).length<=100000/\spl (Str.join (Tx.one 32) ws)=ws:=by
 have e:(Tx.one 32).length=1:=rfl;refine{?_,?_,Jy (c:=32) ∅ hn h3}
 .unfold nB;rw[apE (B:=100) h2 (by rw[e];lia)];rfl
 .have h:=aBW (Tx.one 32) ws;have h':=aGi (B:=100) ws h2;rw[e]at h;have:ws.length*100<=50*100:=Nat.mul_le_mul_right _ h1;lia
def ac3(H:Hp)(a b c:Str)(v:V)(k:Cl):Prop:=Eb H v/\k = .row∨∃t u:Str,v = .str u/\gH t k=true/\u.length<=100000/\∀d,spl u=(spl t).map (bJ a b c d)
def NmL(H:Hp)(ln:Addr)(a b c:Str)(r:List V):Prop:=H ln=some (.lst (.str a :: .str b :: .str c::r))/\dN a=true/\dN b=true/\dN c=true
inductive aKU(vs:List V)(H:Hp)(Q:VK)(E:XK):Prop|mk (ln:Addr) (a b c:Str) (r:List V) (way n:Int) (aV:vs=[.ref ln,.int way,.int n]) (aW:NmL H ln a b c r) (bB:0<=way) (cG:way<4) (dW:0<=n) (iJ:∀l v k H',Same H H'->H' l=some (.lst [v,.str (kI k)])->ac3 H' a b c v k->Q (.ref l) H')
def avm:Sp:=aKU
def qZ(h:dN s=true):s.length<=8:=by
 simp only[dN,cW,decide_eq_true_eq]at h;exact h.1.2
def Pr(H:Hp)(v:V)(p:Str×Str):Prop:=∃t,v = .ref t/\H t=some (.tup [.str p.1,.str p.2])
inductive gO(H:Hp):List V->List (Str×Str)->Prop
 |nil:gO H [] []
 |cons {v:V} {p:Str×Str} {vs:List V} {ps:List (Str×Str)}:Pr H v p->gO H vs ps->gO H (v::vs) (p::ps)
def xr(p:Str×Str):Prop:=oM p.1=true/\oM p.2=true
def oU(p:Str×Str):PyData:= .tuple [.str p.1,.str p.2]
theorem aic:∀{ps:List (Str×Str)},(∀p∈ps,xr p)->Aw (ps.map oU)=true
 |[],_=>rfl
 |p::r,h=>by
  have:=aic λp hp=>h p (.tail _ hp);obtain⟨o1,o2⟩:=h p (.head _);simp[oU,Aw,zG,this,o1,o2]
theorem ajl:∀ps:List (Str×Str),vC (ps.map oU)<=2
 |[]=>by simp[vC]
 |p::r=>by
  have:=ajl r;simp only[fB,oU,vC,Bl];lia
theorem ag9:∀ps:List (Str×Str),GC (ps.map oU) (ps.map oU)=true
 |[]=>by simp[GC]
 |p::r=>by
  have:=ag9 r;simp only[fB,oU,GC,this,Bool.and_true];simp[qp,GC]
def gO.add{y:V}{p:Str×Str}(h:gO H xs ps)(k:∀y p,Pr H y p->Pr H' y p)(hy:Pr H' y p):gO H' (xs++[y]) (ps++[p]):=by
 induction h with
 |nil=>exact .cons hy .nil
 |cons h0 _ ih=>exact .cons (k _ _ h0) ih
def gO.same(h:gO H xs ps)(g:Same H H'):gO H' xs ps:=by
 induction h with
 |nil=>exact .nil
 |cons h0 _ ih=>
  intros t e h0 h0;exact .cons {t,e,g _ _ h0} ih
theorem gO.rep{H:Hp}{v:V}{p:Str×Str}(h:Pr H v p):∀n,gO H (aX n v) (aX n p)
 |0=> .nil
 |n+1=> .cons h (gO.rep h n)
theorem Uw{K:aD}{H:Hp}:∀{xs:List V} {ps:List (Str×Str)},gO H xs ps->nq K H xs (ps.map oU)
 |_,_,.nil=> .nil
 |_,_,.cons ⟨_,e,h⟩ r=>by subst e;exact .cons (.tup (aq.of h) (.cons (.str _) (.cons (.str _) .nil))) (Uw r)
def zq{a b:Addr}(hs:∀p∈ps,xr p)(ha:H a=some (.lst xs))(hb:H b=some (.lst ys))(hx:gO H xs ps)(hy:gO H ys ps)(q:Q (.bl (g true)) H):qT K g (.ref a) (.ref b) H Q:=by
 have sh:SeqAt.shaped (.list (ps.map oU))=true:=by
  have h1:=aic hs;have h2:=ajl ps;simp only[SeqAt.shaped,zG,Bl,h1,Nx];exact decide_eq_true ⋯
 refine .inl {_,_,.lst (aj.of ha) (Uw hx),.lst (aj.of hb) (Uw hy),sh,sh,?_};have:qp (.list (ps.map oU)) (.list (ps.map oU))=true:=by rw[qp];exact ag9 ps
 rw[this];exact q
def eqP{a b:Addr}(os:xr (s,t))(ha:H a=some (.tup [.str s,.str t]))(hb:H b=some (.tup [.str s,.str t]))(q:Q (.bl (g true)) H):qT K g (.ref a) (.ref b) H Q:=by
 intros os ot os;refine .inl {_,_,.tup (aq.of ha) (.cons (.str _) (.cons (.str _) .nil)),.tup (aq.of hb) (.cons (.str _) (.cons (.str _) .nil)),by simp[SeqAt.shaped,zG,Bl,Aw,vC,os,ot],by simp[SeqAt.shaped,zG,Bl,Aw,vC,os,ot],?_};have:qp (.tuple [.str s,.str t]) (.tuple [.str s,.str t])=true:=by simp[qp,GC]
 rw[this];exact q
def aNm(h:∀c∈s.cps.toList,c<256):oM s=true:=by
 unfold oM;rw[<-Array.all_toList,gK];exactλc hc=>decide_eq_true (NP (h c hc) ∅)
def Aq:Str×Str:=("told","ok")
def tL:xr Aq:={by decide +kernel,by decide +kernel}
def wK(c:Cl):xr ("refused",kI c):={(by decide +kernel:oM ("refused" : Str)=true),by cases c<;>decide +kernel}
def YD(h:a.cps.toList=b.cps.toList):a=b:=Str.ext' (Ni.mp h)
def KN(a b:Str):(a++b).cps.toList=a.cps.toList++b.cps.toList:=Ht
def nR(a b c:Str):a++b++c=a++(b++c):=YD (by simp only[KN,tK])
theorem anj{c:Nat}:∀{ps qs:List (List Nat)},ps≠[]->qs≠[]->jn c (ps++qs)=jn c ps++c::jn c qs
 |[],_,h,_=>absurd rfl h
 |_,[],_,h=>absurd rfl h
 |[p],q::r,_,_=>rfl
 |p::p'::r,q::t,_,_=>by
  have ih:=anj (c:=c) (ps:=p'::r) (qs:=q::t) (by simp) (by simp);show p++c::jn c ((p'::r)++(q::t))=(p++c::jn c (p'::r))++c::jn c (q::t);rw[ih,tK];rfl
def yu(t u:Str):spl (t++(Tx.one 32++u))=spl t++spl u:=by
 have n1:spl t≠[]:=En _ _;have n2:spl u≠[]:=En _ _;have e:t++(Tx.one 32++u)=Str.join (Tx.one 32) (spl t++spl u):=YD (by
  rw[za,gC,anj (by simpa using n1) (by simpa using n2),<-za,<-za,spl,spl,aoa,aoa,KN,KN];rfl)
 rw[e];exact Jy (c:=32) ∅ (by simp[n1]) λw hw=>(oF.mp hw).elim (Nt t ∅ w) (Nt u ∅ w)
def acH(h:32∉w.cps.toList):spl w=[w]:=Jy (c:=32) ∅ (ws:=[w]) (by simp) (λv hv=>by rw[kO.mp hv];exact h)
def lH(a b c d:Str):bJ a b c d "D" = d:=by
 unfold bJ;rw[if_neg (by decide +kernel),if_neg (by decide +kernel),if_neg (by decide +kernel),if_pos rfl]
def azo(a b c d:Str):bJ a b c d "A" = a:=by unfold bJ;rw[if_pos rfl]
def aPT(a b c d:Str):bJ a b c d "B" = b:=by unfold bJ;rw[if_neg (by decide +kernel),if_pos rfl]
def Nj(h:∀w∈us,w∉abc):us.map (bJ a b c d)=us:=by
 conv=>rhs;rw[<-JD us]
 exact vK λw hw=>nU (h w hw)
def K3(hN:bJ a b c d N=n)(hn:32∉n.cps.toList)(hw:∀x∈spl w,x∉abc):spl (w++Tx.one 32++n)=(spl w++[N]).map (bJ a b c d):=by
 rw[nR,yu,acH hn,gC,Nj hw,fB,hN,xO]
def afL{u:Str}(hN:bJ a b c d N=n)(hn:32∉n.cps.toList)(hw:∀x∈spl w,x∉abc)(hu:∀x∈spl u,x∉abc):spl (w++Tx.one 32++n++(Tx.one 32++u))=(spl w++N::spl u).map (bJ a b c d):=by
 rw[yu,K3 hN hn hw,gC,gC,fB,fB,Nj hu,xO,tK];rfl
def qM:Res->Str×Str
 |.err c=>("refused",kI c)
 |.tell s=>("told",s)
 |.put _ _=>Aq
 |.drop _=>Aq
def xG(o:Option Rw):Res->Option Rw
 |.put _ r=>some r
 |.drop _=>none
 |_=>o
def xW:Res->Prop
 |.put n _=>n = "D"
 |.drop n=>n = "D"
 |_=>True
structure GS(C p dd:Addr)(M:cV)(d:Str)(n:Nat)(o:Option Rw)(H':Hp):Prop where
 desk:∃M' N',fV C H' p dd M' N'/\N'<=n/\M' d=o/\∀s,s≠d->M' s=M s
end
section
variable {C p dd:Addr} {M:cV} {d:Str} {n:Nat} {o:Option Rw} {H H':Hp}
theorem GS.same(h:GS C p dd M d n o H)(g:Same H H'):GS C p dd M d n o H':=by
 intros M' N' h1 h2 h.desk;exact{M',N',h1.same g,h2}
def GS.keep(h:GS C p dd M d n o H)(g:dH dd H H'){l:Addr}{x:HO}(hl:H l=some x)(hx:∀kvs,x≠ .dK kvs:=by intro _ z;cases z):H' l=some x:=by
 intros M' N' h1 _ h.desk;intros kvs hd _ h1.kp.ex;exact g _ _ (λz=>by rw[z,hd]at hl;exact hx kvs (jT hl).symm) hl
def YK(h:dN d=true):Nm d d d d:={λw hw=>by
 unfold bJ;split
 .exact h
 split
 .exact h
 split
 .exact h
 split
 .exact h
 .rename_i h1 h2 h3 h4
  simp only[abc,dz,iY,or_false]at hw;rcases hw with z|z|z|z
  .exact absurd z h1
  .exact absurd z h2
  .exact absurd z h3
  .exact absurd z h4}
def Wv{M':cV}(h1:M' d=o)(h2:M' "c" = none):Kp d d d d M' (eG o):=by
 refine{λw _ x e=>?_,h2};unfold eG at e;split at e
 .rename_i z
  cases e;rw[z,lH];exact h1
 .cases e
def dH.then{H2:Hp}(g:dH dd H H')(g2:Same H' H2):dH dd H H2:=λb o hb e=>g2 _ _ (g b o hb e)
def dH.lQ{H2:Hp}(g:dH dd H H')(g2:dH dd H' H2):dH dd H H2:=λb o hb e=>g2 _ _ hb (g b o hb e)
end
section
variable {C p dd:Addr}{ad:Cl->Addr}{M:cV}{d:Str}{H:Hp}{Q:VK}{E:XK}{n m k:Nat}{o:Option Rw}{xs:List V}{te:TE}{σ rest:St}{qt us:List Str}{st:Nat->Option Rw}{re:Nat->Res}{K:aD}
def Ji{MT:pR}{a b c:Str}{N:Nat}(nm:Nm a b c d)(kp:Kp a b c d M MT)(hD:fV C H p dd M N)(hN:N<=100){us:List Str}{res:Res}(ev:dU MT us=some res){t:Str}(tl:t.length<=100000)(ts:spl t=us.map (bJ a b c d))
  (q:∀t H2,dH dd H H2->H2 t=some (.tup [.str (qM res).1,.str (qM res).2])->(match res with | .put n r=>fV C H2 p dd (M.put (bJ a b c d n) r) (N+1) | .drop n=>fV C H2 p dd (M.drop (bJ a b c d n)) N|_=>Same H H2)->Q (.ref t) H2):ou C ad [.ref p,.str t] H Q E:=by
 intros dx hp hD.ob;refine{p,.str t,rfl,{dx,_,hp,aiQ},λQ' E' h1 h2=>avD nm kp hD hN ev tl ts ?_};cases res with
 |err c=>exactλH1 g1=>h2 c H1 λt H2 g2 h=>q t H2 (Same.d (g1.trans g2)) h (g1.trans g2)
 |tell s=>exactλH1 g1=>h1 s H1 λt H2 g2 h=>q t H2 (Same.d (g1.trans g2)) h (g1.trans g2)
 |put n r=>exactλH1 g1 D1=>h1 _ H1 λt H2 g2 h=>q t H2 (g1.then g2) h (D1.same g2)
 |drop n=>exactλH1 g1 D1=>h1 _ H1 λt H2 g2 h=>q t H2 (g1.then g2) h (D1.same g2)
def nC(h:GS C p dd M d n o H)(hn:n<=100)(od:dN d=true)(dc:d≠ "c")(hc:M "c" = none){us:List Str}{res:Res}(ev:dU (eG o) us=some res)(ok:xW res){t:Str}(tl:t.length<=100000)(ts:spl t=us.map (bJ d d d d))
  (q:∀t H2,dH dd H H2->GS C p dd M d (n+1) (xG o res) H2->H2 t=some (.tup [.str (qM res).1,.str (qM res).2])->Q (.ref t) H2):ou C ad [.ref p,.str t] H Q E:=by
 intros M' N' h1 h2 h3 h4 h.desk;refine Ji (YK od) (Wv h3 ((h4 _ dc.symm).trans hc)) h1 ⋯ ev tl ts λt H2 g2 e2 m=>q t H2 g2 ?_ e2;cases res with
 |err c=>exact{M',N',h1.same m,⋯,h3,h4}
 |tell c=>exact{M',N',h1.same m,⋯,h3,h4}
 |put n r=>
  have e:n = "D" := ok;subst e;have m:fV C H2 p dd (M'.put (bJ d d d d "D") r) (N'+1):=m;rw[lH]at m;exact{_,_,m,⋯,by unfold cV.put;rw[if_pos rfl];rfl,λs hs=>by unfold cV.put;rw[if_neg hs];exact h4 s hs}
 |drop n=>
  have e:n = "D" := ok;subst e;have m:fV C H2 p dd (M'.drop (bJ d d d d "D")) N':=m;rw[lH]at m;exact{_,_,m,⋯,by unfold cV.drop;rw[if_pos rfl];rfl,λs hs=>by unfold cV.drop;rw[if_neg hs];exact h4 s hs}
def Le{J:It}{L:Addr}{ob:HO}{ix:List (Option Nat)}(od:dN d=true)(dc:d≠ "c")(hc:M "c" = none)(hJ:∀H',H' L=some ob->j8 J xs H')(hL:H L=some ob)(hob:∀kvs,ob≠ .dK kvs)(hm:xs.length=m)(hnm:n+m<=100)(hst:cst ix σ=none::rest)(st:Nat->Option Rw)(re:Nat->Res)
  (h:GS C p dd M d n (st 0) H) (hx:∀i x,xs[i]?=some x->∃(t:Str) (us:List Str),(∀H' (k:VK),(∀E:XK,ou C ad [.ref p,.str t] H' k E)->te (some x::rest) H' k)/\t.length<=100000/\spl t=us.map (bJ d d d d)/\dU (eG (st i)) us=some (re i)/\xW (re i)/\xG (st i) (re i)=st (i+1))
  (q:∀D ys H',dH dd H H'->GS C p dd M d (n+m) (st m) H'->H' D=some (.lst ys)->gO H' ys ((fK m).map λi=>qM (re i))->Q (.ref D) H'):lO ix (iw 0) nj te σ Q J H:=by
 refine aqE (xs:=xs) ⋯ hst (λD i ys H'=>dH dd H H'/\GS C p dd M d (n+i) (st i) H'/\H D=none/\D≠dd/\H' D=some (.lst ys)/\ys.length=i/\gO H' ys ((fK i).map λi=>qM (re i))) ?_ ?_ ?_ ?_
 .intro D hD;have g:=Same.new hD (.lst []);intros M' N' h1 _ h.desk;intros kvs hd _ h1.kp.ex;exact{Same.d g,h.same g,hD,(λz=>by rw[z,hd]at hD;cases hD),ao,rfl,.nil}
 .rintro D i ys H' ⟨g,G,_,_,hD,ly,_⟩;exact{hJ H' (h.keep g hL hob),hD,ly}
 .rintro D i ys H' x ⟨g,G,DR,lG,hD,ly,fa⟩ ex k hk;obtain⟨t,us,ht,tl,ts,ev,ok,en⟩:=hx i x ex;have hi:i<xs.length:=(List.getElem?_eq_some_iff.mp ex).1;refine ht H' k λE=>nC G ⋯ od dc hc ev ok tl ts λt5 H5 g5 G5 h5=>hk _ H5 (G.keep g5 hD) ?_;rw[en]at G5;have yq:=G.keep g5 hD;have tD:t5≠D:=λz=>by rw[z,yq]at h5;cases h5
  have keep:∀y p',Pr H' y p'->Pr (upd H5 D (.lst (ys++[.ref t5]))) y p':=by
   rintro y p' ⟨t,rfl,e⟩;exists t,rfl;have e5:=G.keep g5 e;rw[bY (λz=>by rw[z,yq]at e5;cases e5)];exact e5
  have up:dH D H5 (upd H5 D (.lst (ys++[.ref t5]))):=zU;refine{λb o hb e=>?_,?_,DR,lG,ao,by simp[ly],?_}
  .rw[bY (λz=>by rw[z,DR]at e;cases e)];exact(g.lQ g5) b o hb e
  .intros M' N' h1 h2 G5.desk;intros dx hp h1.ob;exact{M',N',{{dx,up _ _ (λz=>by rw[z,yq]at hp;cases hp) hp},h1.kp.auv (λz=>lG z.symm) up (λ_ z=>by rw[yq]at z;cases z)},h2}
  .rw[JL,gC];exact fa.add keep {t5,rfl,by rw[bY tD];exact h5}
 .rintro D ys H' ⟨g,G,_,_,hD,_,fa⟩;rw[hm]at G fa;exact q D ys H' g G hD fa
def QQ(k:Nat):Int:=((10^(59*2^k):Nat):Int)
def zs(k:Nat):Str:={nP (λx1 x2=>x1++x2) #[] (aX k (Str.ofString "0").cps)}
def aBB(n:Nat):∀a:Array Nat,(nP (λx1 x2=>x1++x2) a (aX n (Str.ofString "0").cps)).toList=a.toList++aX n 48:=by
 have e0:(Str.ofString "0").cps.toList=[48]:=by decide +kernel
 induction n with
 |zero=>intro a;simp
 |succ n ih=>
  intro a;rw[mU,vo,ih,Ht,e0,mU,tK];rfl
def ane(n:Nat):(zs n).cps.toList=aX n 48:=by
 have:=aBB n #[];rw[show(#[]:Array Nat).toList=[]from rfl,Fq]at this;exact this
def agV(n:Nat):(Str.ofString "1" ++ zs n).cps.toList=49::aX n 48:=by
 rw[KN,ane,show(Str.ofString "1").cps.toList=[49]by decide +kernel];rfl
def as9(n:Nat):aDy (49::aX n 48)=10^n:=by
 induction n with
 |zero=>decide
 |succ n ih=>rw[List.replicate_succ',<-KZ,aLE,ih,afi];rfl
def apD(n:Nat):gb ((10^n:Nat):Int)=Str.ofString "1" ++ zs n:=by
 refine YD ?_;rw[agV,anP,<-as9,ac0 _ (.inr {49,(),bK _})];intro c hc;rcases dz.mp hc with e|e
 .rw[e];decide
 .rw[wX e];decide
def amw(n:Nat):xr ("told",Str.ofString "1" ++ zs n):={(by decide +kernel:oM ("told" : Str)=true),aNm λc hc=>by
 have hc:c∈(Str.ofString "1" ++ zs n).cps.toList:=hc;rw[agV,dz]at hc;rcases hc with e|e
 .rw[e];decide
 .rw[wX e];decide}
def cB(a b:Str):(a++b).length=a.length+b.length:=by
 show(a.cps++b.cps).size=_;rw[Dj];rfl
def amH(hd:32∉d.cps.toList):spl (Str.ofString "multiply " ++ d++Str.ofString " " ++ d++Str.ofString " " ++ d)=(["multiply","D","D","D"]:List Str).map (bJ d d d d):=by
 rw[show Str.ofString "multiply " = Str.ofString "multiply" ++ Tx.one 32 by decide +kernel,jN,nR _ (Tx.one 32) d,yu,nR _ (Tx.one 32) d,yu,nR _ (Tx.one 32) d,yu,acH hd,show spl (Str.ofString "multiply")=([Str.ofString "multiply"]:List Str)by decide +kernel,fB,nU (by decide +kernel),fB,lH,fB,lH,fB,lH];rfl
theorem an2{v:V}:∀k,(aX k [v]).flatten=aX k v
 |0=>rfl
 |k+1=>by rw[mU,xK,an2 k,mU];rfl
def xU{v:V}(hk:k<=1000)(q:∀l H',H l=none->Same H H'->H' l=some (.lst (aX k v))->Q (.ref l) H'):vR [v] (.lst [v]) H λx H1=>YX x (.int (k:Int)) H1 Q:=by
 have hz:1000<=sizeLine:=∅;refine{by show 1<=_;lia,λp hp=>{[v],ao,⋯,⋯,by show 1*(k:Int).toNat<=_;lia,λp2 hp2=>?_}};rw[gR,an2];exact q p2 _ ((Same.new hp _).free hp2) ((Same.new hp _).trans (Same.new hp2 _)) ao
def apQ{ro mu:Str}(Gw:∀(t:Str) H' (k:VK),(∀E:XK,ou C ad [.ref p,.str t] H' k E)->te (some (.str t)::rest) H' k)(l0:ro.length<=100000)(s0:spl ro=qt.map (bJ d d d d))(e0:dU (eG (st 0)) qt=some (re 0))(lm:mu.length<=100000)(sm:spl mu=us.map (bJ d d d d))(e1:∀i∈fK k,dU (eG (st (i+1))) us=some (re (i+1)))(ok:∀i,xW (re i))(nx:∀i,xG (st i) (re i)=st (i+1))(i:Nat)(x:V)(ex:([V.str ro]++aX k (V.str mu))[i]?=some x):
  ∃(t:Str) (us:List Str),(∀H' (k:VK),(∀E:XK,ou C ad [.ref p,.str t] H' k E)->te (some x::rest) H' k)/\t.length<=100000/\spl t=us.map (bJ d d d d)/\dU (eG (st i)) us=some (re i)/\xW (re i)/\xG (st i) (re i)=st (i+1):=by
 cases i with
 |zero=>
  cases ex;exact{ro,qt,Gw ro,l0,s0,e0,ok 0,nx 0}
 |succ i=>
  have ex:(aX k (V.str mu))[i]?=some x:=ex;have hk:i<k:=by
   have:=(List.getElem?_eq_some_iff.mp ex).1
   rwa [rY]at this
  rw[List.getElem?_replicate,if_pos hk]at ex;cases ex;exact{mu,us,Gw mu,lm,sm,e1 i (jj.mpr hk),ok _,nx _}
def apa{t0 t1:Str}{x0 x1:V}(h0:∀H' (k:VK),(∀E:XK,ou C ad [.ref p,.str t0] H' k E)->te (some x0::rest) H' k)(h1:∀H' (k:VK),(∀E:XK,ou C ad [.ref p,.str t1] H' k E)->te (some x1::rest) H' k)(l0:t0.length<=100000)(s0:spl t0=qt.map (bJ d d d d))(e0:dU (eG (st 0)) qt=some (re 0))(lm:t1.length<=100000)(sm:spl t1=us.map (bJ d d d d))(e1:dU (eG (st 1)) us=some (re 1))(ok:∀i,xW (re i))(nx:∀i,xG (st i) (re i)=st (i+1))(i:Nat)(x:V)(ex:[x0,x1][i]?=some x):
  ∃(t:Str) (us:List Str),(∀H' (k:VK),(∀E:XK,ou C ad [.ref p,.str t] H' k E)->te (some x::rest) H' k)/\t.length<=100000/\spl t=us.map (bJ d d d d)/\dU (eG (st i)) us=some (re i)/\xW (re i)/\xG (st i) (re i)=st (i+1):=by
 cases i with
 |zero=>
  cases ex;exact{t0,qt,h0,l0,s0,e0,ok 0,nx 0}
 |succ i=>
  cases i with
  |zero=>
   cases ex;exact{t1,us,h1,lm,sm,e1,ok _,nx _}
  |succ i=>cases ex
inductive awM(C:Addr)(vs:List V)(H:Hp)(Q:VK)(E:XK):Prop|mk (p dd:Addr) (d:Str) (M:cV) (n:Nat) (aV:vs=[.ref p,.str d]) (aW:dN d=true) (bB:d≠ "c") (cG:M "c" = none) (dW:GS C p dd M d n (some {0,[1000000],([1])}) H) (iJ:n<=60) (tX:∀H',dH dd H H'->GS C p dd M d (n+20) (some {0,[1],[QQ 7]}) H'->Q (.bl true) H')
def aQB(C:Addr):Sp:=awM C
def wB:Nat->Option Rw
 |0=>some {0,[1000000],([1])}
 |k+1=>some {0,[1],[QQ k]}
def ax9:dU (eG (wB 0)) (spl "row" ++ ("D" : Str)::spl (Str.ofString "1 | 1" ++ zs 59))=some (.put "D" {0,[1],[QQ 0]}):=by decide +kernel
def akP:∀k∈fK 7,dU (eG (wB (k+1))) ["multiply","D","D","D"]=some (.put "D" {0,[1],[QQ (k+1)]}):=by decide +kernel
def az7:dU (eG (some {0,[1],[QQ 6]})) (spl "divisor" ++ [("D" : Str)])=some (.tell (gb (QQ 6))):=by kernel_rfl
def atQ:dU (eG (wB 8)) (spl "divisor" ++ [("D" : Str)])=some (.err .big):=by decide +kernel
def aR6:dU (eG (wB 8)) (spl "closed" ++ [("D" : Str)])=some (.err .big):=by decide +kernel
def IK:Str.ofString "row " = Str.ofString "row" ++ Tx.one 32:=by decide +kernel
def GS.up(h:GS C p dd M d n o H)(hm:n<=m):GS C p dd M d m o H:=by
 intros M' N' h1 h2 h3 h.desk;exact{M',N',h1,⋯,h3}
def add_l{a b:Addr}{ys:List V}(ha:H a=some (.lst xs))(hb:H b=some (.lst ys))(hz:xs.length+ys.length<=sizeLine)(q:∀l H',Same H H'->H' l=some (.lst (xs++ys))->Q (.ref l) H'):vI K (.ref a) (.ref b) H Q:= .inl {xs,ys,ha,hb,hz,λp hp=>q p _ (Same.new hp _) ao}
def aqS(n:Nat):(zs n).length=n:=by
 show(zs n).cps.size=_;rw[<-FD,ane,rY]
def aqA{a:V}(n:Nat)(h2:2<=n)(h5:n<=5000)(q:∀t H',Same H H'->H' t=some (.tup [a,.str (Str.ofString "1" ++ zs n)])->Q (.ref t) H'):Vd (nH (tC a) (nH (oY (vI K) (tC (.str (Str.ofString "1"))) (oY (λx y H Q=>∃(i:Str) (k:Nat),x = .str i/\y = .int (k:Int)/\2<=k/\k<=5000/\1<=i.length/\i.length<=1000/\Q (.str {nP (λx1 x2=>x1++x2) #[] (aX k i.cps)}) H) (tC (.str (Str.ofString "0"))) (tC (.int (n:Int))))) pJ)) σ H Q:=by
 have l7:=aqS n;have q':∀Z,Z=zs n->vI K (.str (Str.ofString "1")) (.str Z) H λy H1=>vR [a,y] (.tup [a,y]) H1 Q:=λZ hZ=>by
  have hz:10000<=sizeLine:=∅;refine{by rw[hZ,l7,show(Str.ofString "1").length=1 by decide +kernel];lia,(aZ 2),λt ht=>q t _ (Same.new ht _) ?_};rw[hZ];exact ao
 exact{_,n,rfl,rfl,h2,h5,by decide +kernel,by decide +kernel,q' _ rfl}
abbrev apU(P w K mg base cR):=kJ P w K mg base "_law_starts" 17 ["_law_desk","_law_d"] (aQB cR)
inductive aLn(C:Addr)(vs:List V)(H:Hp)(Q:VK)(E:XK):Prop|mk (p dd:Addr) (d:Str) (M:cV) (n:Nat) (aV:vs=[.ref p,.str d]) (aW:dN d=true) (bB:d≠ "c") (cG:M "c" = none) (dW:GS C p dd M d n none H) (iJ:n<=20) (tX:∀H',dH dd H H'->GS C p dd M d (n+60) none H'->Q (.bl true) H')
def aEh(C:Addr):Sp:=aLn C
def mX:Nat->Option Rw
 |0=>none
 |k+1=>some {0,[QQ k],[1]}
def rG:Rw:={7,aX 12 0,[1,2,3,4,5,6,1,2,3,4,5,6]}
def stH:Nat->Option Rw
 |0=>some {0,[QQ 7],[1]}
 |1=>some {7,[],([])}
 |_=>some rG
def GJ:Nat->Res
 |0=> .put "D" {7,[],([])}
 |_=> .put "D" rG
def tG:Str:= "1 2 3 4 5 6 1 2 3 4 5 6 0 0"
def wD(w:Str)(us:List Str):List Str:=spl w++("D" : Str)::us
def awF:dU (eG (mX 0)) (wD "row" (spl (Str.ofString "1" ++ zs 59++Str.ofString " | 1")))=some (.put "D" {0,[QQ 0],[1]}):=by decide +kernel
def afj:∀k∈fK 7,dU (eG (mX (k+1))) ["multiply","D","D","D"]=some (.put "D" {0,[QQ (k+1)],[1]}):=by decide +kernel
def aMS:dU (eG (mX 7)) (wD "at" (spl "1"))=some (.tell (gb (QQ 6))):=by kernel_rfl
def atd:dU (eG (mX 7)) (wD "at" (spl "2"))=some (.err .big):=by decide +kernel
def aGx:dU (eG (mX 7)) (wD "places" (spl "3"))=some (.err .big):=by decide +kernel
def asz:dU (eG (mX 8)) (wD "show" [])=some (.err .big):=by decide +kernel
def aD1:dU (eG (stH 0)) (wD "row" (spl "| by 7"))=some (GJ 0):=by decide +kernel
def aJG:dU (eG (stH 1)) (wD "ahead" ("D" :: spl "1 2 3 4 5 6 1 2 3 4 5 6"))=some (GJ 1):=by decide +kernel
def aNG:dU (eG (some rG)) (wD "places" (spl "14"))=some (.tell tG):=by decide +kernel
def av8:dU (eG (some rG)) (wD "row" (spl (Str.ofString "1" ++ zs 6++Str.ofString " | 1")))=some (.put "D" {0,[1000000],([1])}):=by decide +kernel
def azp:dU (eG (some {0,[1000000],([1])})) (wD "closed" [])=some (.err .big):=by decide +kernel
def aM4:dU (eG (some {0,[1],[QQ 7]})) (wD "drop" [])=some (.drop "D"):=by decide +kernel
def nxH:∀i,xG (stH i) (GJ i)=stH (i+1)
 |0=>rfl
 |1=>rfl
 |_+2=>rfl
def okH:∀i,xW (GJ i)
 |0=>rfl
 |_+1=>rfl
def aws:xr ("told",tG):={(by decide +kernel:oM ("told" : Str)=true),by decide +kernel}
end
section
variable {d w w' u u':Str}
def BL(hw:w'=w++Tx.one 32)(cd:32∉d.cps.toList)(h:∀x∈spl w,x∉abc):spl (w'++d)=(wD w []).map (bJ d d d d):=by rw[hw];exact K3 (lH _ _ _ _) cd h
def vO(hw:w'=w++Tx.one 32)(hu:u'=Tx.one 32++u)(cd:32∉d.cps.toList)(h:∀x∈spl w,x∉abc)(h2:∀x∈spl u,x∉abc):spl (w'++d++u')=(wD w (spl u)).map (bJ d d d d):=by rw[hw,hu];exact afL (lH _ _ _ _) cd h h2
def tw3(hw:w'=w++Tx.one 32)(hu:u'=Tx.one 32++u)(cd:32∉d.cps.toList)(h:∀x∈spl w,x∉abc)(h2:∀x∈spl u,x∉abc):spl (w'++d++Str.ofString " " ++ d++u')=(wD w ("D" :: spl u)).map (bJ d d d d):=by
 rw[hu,yu,jN,nR _ (Tx.one 32) d,yu,BL hw cd h,acH cd,wD,wD,gC,gC,fB,lH,fB,fB,lH,Nj h2,xO,tK,tK];rfl
end
section
variable {a b c x:Str}{C p dd:Addr}{ad:Cl->Addr}{M:cV}{N:Nat}{H:Hp}{Q:VK}{E:XK}{v:V}{xs:List V}{σ:St}
abbrev aj0(P w K mg base cR):=kJ P w K mg base "_law_great" 18 ["_law_desk","_law_d"] (aEh cR)
structure N4(a b c d:Str):Prop where
 oa:dN a=true
 ob:dN b=true
 oc:dN c=true
 od:dN d=true
 ab:a≠b
 ac:a≠c
 ad:a≠d
 bc:b≠c
 bd:b≠d
 cd:c≠d
 na:a≠ "c"
 nb:b≠ "c"
 nc:c≠ "c"
 nd:d≠ "c"
def N4.nm{d:Str}(h:N4 a b c d):Nm a b c d:={λw hw=>by
 unfold bJ;split
 .exact h.oa
 split
 .exact h.ob
 split
 .exact h.oc
 split
 .exact h.od
 .rename_i h1 h2 h3 h4
  simp only[abc,dz,iY,or_false]at hw;rcases hw with z|z|z|z
  .exact absurd z h1
  .exact absurd z h2
  .exact absurd z h3
  .exact absurd z h4}
def axZ{s d:Str}(h:¬inV (.str s) [.str a,.str b,.str c,.str d]=true):a≠s/\b≠s/\c≠s/\d≠s:=by
 refine{λz=>h ?_,λz=>h ?_,λz=>h ?_,λz=>h ?_}<;>subst z<;>simp[inV,oJ]
def YC:N4 "x1" "x2" "x3" "x4" := by constructor<;>decide +kernel
def M2(a b:Str)(s:Int):cV:=λx=>if x=b then some rB else if x=a then some (rA s)else none
def RP{d:Str}(h:N4 a b c d)(s:Int):M2 a b s a=some (rA s):=by unfold M2;rw[if_neg h.ab,if_pos rfl]
def apk(a b:Str)(s:Int):M2 a b s b=some rB:=by unfold M2;rw[if_pos rfl]
def Fy(s:Int)(h1:x≠a)(h2:x≠b):M2 a b s x=none:=by unfold M2;rw[if_neg h2,if_neg h1]
def kp2{d:Str}(h:N4 a b c d)(s:Int):Kp a b c d (M2 a b s) (ML s):=by
 refine{λw hw x e=>?_,Fy s h.na.symm h.nb.symm};unfold ML at e;split at e
 .rename_i z
  cases e;rw[z,azo,RP h]
 split at e
 .rename_i z
  cases e;rw[z,aPT,apk]
 .rename_i z1 z2
  cases e;unfold bJ;rw[if_neg z1,if_neg z2];split
  .exact Fy s h.ac.symm h.bc.symm
  split
  .exact Fy s h.ad.symm h.bd.symm
  .rename_i z3 z4
   simp only[abc,dz,iY,or_false]at hw;rcases hw with z|z|z|z
   .exact absurd z z1
   .exact absurd z z2
   .exact absurd z z3
   .exact absurd z z4
def tA(s:Int):Str:=Str.ofString "1 1 | " ++ Str.ofString (toString s)++Str.ofString " 1"
def tB:Str:= "3 | 2 by 7"
def aIJ:∀k∈fK 9,dU (eG none) (wD "row" (spl (tA (k:Nat))))=some (.put "D" (rA (k:Nat)))/\(∀x∈spl (tA (k:Nat)),x∉abc)/\oM (tA (k:Nat))=true/\(tA (k:Nat)).length<=20/\dU (eG (some (rA (k:Nat)))) (wD "show" [])=some (.tell (tA (k:Nat)))/\dU (eG (some (rA (k:Nat)))) (wD "drop" [])=some (.drop "D")/\dU (ML (k:Nat)) (spl "show c")=some (.err .name):=by decide +kernel
def aHo:dU (eG none) (wD "row" (spl tB))=some (.put "D" rB)/\(∀x∈spl tB,x∉abc)/\oM tB=true/\tB.length<=20/\dU (eG (some rB)) (wD "show" [])=some (.tell tB)/\dU (eG none) (wD "show" [])=some (.err .name):=by decide +kernel
def aF5(hD:fV C H p dd M N)(hN:N<=100)(hv:Eb H v)(q:∀t H2,Same H H2->H2 t=some (.tup [.str "refused",.str (kI .row)])->Q (.ref t) H2):ou C ad [.ref p,v] H Q E:=by
 intros dx hp hD.ob;exact{p,v,rfl,{dx,_,hp,aiQ},λQ' E' _ h2=>{p,dd,v,M,N,rfl,hD,hN,.inl {hv,λH1 g1=>h2 .row H1 λt H2 g2 h=>q t H2 (g1.trans g2) h}}}
def aHM{d:Str}{s:Nat}{k:Cl}(n4:N4 a b c d)(hs:s<9)(hD:fV C H p dd (M2 a b s) N)(hN:N<=100)(hv:ac3 H a b c v k)(q:∀t H2,Same H H2->H2 t=some (.tup [.str "refused",.str (kI k)])->Q (.ref t) H2):ou C ad [.ref p,v] H Q E:=by
 rcases hv with⟨hv,rfl⟩|⟨t,u,rfl,tk,hu,hs'⟩
 .exact aF5 hD hN hv q
 .unfold gH at tk;rw[cW,gK]at tk;have ev:=of_decide_eq_true (tk.2 s (jj.mpr hs));exact Ji n4.nm (kp2 n4 s) hD hN ev hu (hs' d) λt H2 g2 h m=>q t H2 m h
def MB{o:Option Rw}{t:Str}{us:List Str}{res:Res}(hD:fV C H p dd M N)(hN:N<=100)(ox:dN x=true)(hx:M x=o)(hc:M "c" = none)(ev:dU (eG o) us=some res)(hr:∃c,res = .err c∨∃s,res = .tell s)(tl:t.length<=100000)(ts:spl t=us.map (bJ x x x x))(q:∀t H2,Same H H2->H2 t=some (.tup [.str (qM res).1,.str (qM res).2])->Q (.ref t) H2):ou C ad [.ref p,.str t] H Q E:=
 Ji (YK ox) (Wv hx hc) hD hN ev tl ts λt H2 _ h m=>q t H2 (by obtain⟨c,rfl|⟨s,rfl⟩⟩:=hr<;>exact m) h
def WG{J:It}{ix:List (Option Nat)}{te:TE}{H1:Hp}{rest:St}(I:j8 J xs H1)(hz:xs.length<=1000)(hst:cst ix σ=none::rest)(ps:Nat->Str×Str)
  (he:∀i x H',xs[i]?=some x->Same H1 H'->∀k:VK,(∀t H5,Same H' H5->H5 t=some (.tup [.str (ps i).1,.str (ps i).2])->k (.ref t) H5)->te (some x::rest) H' k)
  (hq:∀D ys H',Same H1 H'->H' D=some (.lst ys)->gO H' ys ((fK xs.length).map ps)->Q (.ref D) H'):lO ix (iw 0) nj te σ Q J H1:=by
 refine aqE (xs:=xs) hz hst (λD i ys H'=>Same H1 H'/\H1 D=none/\H' D=some (.lst ys)/\ys.length=i/\gO H' ys ((fK i).map ps)) ?_ ?_ ?_ ?_
 .intro D hD;exact{Same.new hD _,hD,ao,rfl,.nil}
 .rintro D i ys H' ⟨g,_,hD,ly,_⟩;exact{{λi H2 g2 h=>I.go i H2 (g.trans g2) h,λi H2 x H3 g2 h=>I.iV i H2 x H3 (g.trans g2) h,λi H2 g2 h=>I.stop i H2 (g.trans g2) h},hD,ly}
 .rintro D i ys H' x ⟨g,DR,hD,ly,fa⟩ ex k hk;refine he i x H' ex g k λt H5 g5 h5=>hk _ H5 (g5 _ _ hD) ?_;have yq:=g5 _ _ hD;refine{(g.trans g5).upd DR _,DR,ao,by simp[ly],?_};rw[JL,gC];refine fa.add ?_ {t,rfl,by rw[bY (λz=>by rw[z,yq]at h5;cases h5)];exact h5};rintro y p' ⟨t',rfl,e⟩;exists t',rfl;have e5:=g5 _ _ e;rw[bY (λz=>by rw[z,yq]at e5;cases e5)];exact e5
 .rintro D ys H' ⟨g,_,hD,_,fa⟩;exact hq D ys H' g hD fa
def aIB{K:aD}{a b:Addr}{ys:List V}{g:TG}{tb:TS}{D:Ends}(Pv:Nat->St->Hp->Prop)(h0:Pv 0 σ H)(hq:∀i σ' H',Pv i σ' H'->mV K false H' a xs/\mV K false H' b ys)
  (hs:∀(i:Nat) (x y:V) (σ':St) (H':Hp) (p:Addr),xs[i]?=some x->ys[i]?=some y->Pv i σ' H'->H' p=none->g (.ref p) σ' (upd H' p (.tup [x,y])) λσ2 H2=>tb { D with nx:=Pv (i+1),ct:=Pv (i+1),bk:=D.nx } σ2 H2)
  (hd:∀σ' H',Pv (min xs.length ys.length) σ' H'->D.nx σ' H'):
  ∃W:Nat->Nat->St->Hp->Prop,(∃m,W 0 m σ H)/\∀i m σ H,W i m σ H->
   ((CM K false false a b).stop i H/\D.nx σ H)∨((CM K false false a b).go i H/\∃N:St->Hp->Prop,(∀σ' H',N σ' H'->∃m',m'<m/\W (i+1) m' σ' H')/\∀x H',(CM K false false a b).iV i H x H'->g x σ H' λσ2 H2=>tb { D with nx:=N,ct:=N,bk:=D.nx } σ2 H2):=by
 refine{λi m σ' H'=>m=xs.length-i/\i<=min xs.length ys.length/\Pv i σ' H',{xs.length,by simp,fJ _,h0},?_};rintro i m σ' H' ⟨rfl,hi,pv⟩;obtain⟨q1,q2⟩:=hq i σ' H' pv;by_cases hlt:i<xs.length/\i<ys.length
 .have hx:xs[i]?=some xs[i]:=List.getElem?_eq_getElem hlt.1;have hy:ys[i]?=some ys[i]:=List.getElem?_eq_getElem hlt.2;refine .inr {{xs,ys,_,_,q1,q2,hx,hy},Pv (i+1),λσ2 H2 p'=>{xs.length-(i+1),⋯,rfl,⋯,p'},?_};rintro v H2 ⟨p,x,y,rfl,hp,rfl,y1,y2⟩;exact hs i x y σ' H' p (y1 xs q1) (y2 ys q2) pv hp
 .have e:i=min xs.length ys.length:=⋯;refine .inl {{xs,ys,q1,q2,⋯},hd σ' H' ?_};rw[<-e];exact pv
theorem aj.d{K:aD}{d:Addr}{H H':Hp}{a:Addr}{xs:List V}(g:dH d H H'){kd:List (Key×V)}(hd:H d=some (.dK kd))(h:aj K H a xs):aj K H' a xs:=by
 have n:∀{o:HO},H a=some o->(∀k,o≠ .dK k)->a≠d:=λh k z=>by rw[z,hd]at h;exact k _ (jT h).symm
 rcases h with(h|⟨u,h⟩)|h
 .exact .inl (.inl (g a _ (n h (by intro _ z;cases z)) h))
 .exact .inl (.inr {u,g a _ (n h (by intro _ z;cases z)) h})
 .exact .inr h
end
section
variable {P:Program} {w:World} {K:aD} {mg:Str->Option Value} {base:Heap}
variable {bV bU bN bT bW eF bM bO bQ nQ mQ m9 cR:Addr} (B:Bt mg) (M:Ms P w K mg base bV bU bN bT bW eF bM bO bQ) (D:Dk w K mg nQ mQ m9 cR)
include B M D
abbrev jQ:=aP M "taken" 1 ["by","number"] aMW
abbrev Q5:=aP M "is_prime" 1 ["number"] aym
abbrev apK:=aP M "prime_above" 2 ["number"] aDo
abbrev Pz:=aP M "is_whole" 1 ["thing"] aNn
abbrev Og:=aP M "is_by" 2 ["thing"] aEZ
abbrev ajJ:=aP M "is_number" 2 ["by","thing"] auy
abbrev adx:=aP M "are_numbers" 3 ["by","thing"] aM3
abbrev alR:=aP M "is_row" 4 ["thing"] ayw
abbrev al0:=aP M "inverse" 2 ["prime","number"] aPY
abbrev U5:=aP M "over" 3 ["by","one","other"] aKK
abbrev afb:=aP M "next_place" 2 ["by","rule","before"] (aP5 K)
abbrev uL:=aP M "first_places" 3 ["row","count"] aHT
abbrev Gq:=aP M "trimmed" 1 ["numbers"] (aDD K)
abbrev agN:=aP M "number_at" 1 ["poly","k"] auD
abbrev aal:=aP M "times" 2 ["by","one","other"] aPh
abbrev BQ:=aP M "divided" 2 ["by","one","other"] axp
abbrev ald:=aP M "monic" 4 ["prime","poly"] ari
abbrev XG:=aP M "greatest" 5 ["by","one","other"] aLX
abbrev N7:=aP M "of_rule" 2 ["by","rule"] aGV
abbrev Wx:=aP M "rule_of" 2 ["by","poly"] aHW
abbrev afZ:=aP M "nearest" 1 ["modulus","number"] aBX
abbrev aiK:=aP M "taken_poly" 2 ["prime","poly"] aAY
abbrev anL:=aP M "divides" 3 ["monic_one","poly"] aCJ
abbrev ahc:=aP M "joined" 4 ["modulus","number","prime","rest"] pB
abbrev aeB:=aP M "whole_greatest" 6 ["one","other"] aLa
abbrev alx:=aP M "shared_divisor" 7 ["by","one","other"] aJ6
abbrev am8:=aP M "top_of" 2 ["row","poly"] azt
abbrev Xl:=aP M "least_of" 8 ["row"] ayB
abbrev uF:=aP M "shortest" 9 ["row"] aC2
abbrev KQ:=aP M "shared_by" 1 ["one","other"] (atR M.ad)
abbrev zZ:=aP M "refuse_prime" 1 ["row"] (auJ M.ad)
abbrev J0:=aP M "refuse_long" 1 ["length"] (aBj M.ad)
abbrev Ri:=aP M "refuse_far_steps" 1 ["start","step"] (aQo M.ad)
abbrev JQ:=aP M "told_row" 10 ["by","rule","starts"] aHY
abbrev aos:=aP M "sum_place" 1 ["ours","theirs","n"] pB
abbrev afP:=aP M "rolled_place" 1 ["ours","theirs","n"] pB
abbrev W8:=aP M "product_place" 1 ["ours","theirs","n"] aMy
abbrev Qk:=aP M "pair_row" 11 ["one","other","rule","pair_place"] (aRT mg)
abbrev Vt:=aP M "joint_row" 12 ["one","other","pair_place"] (aMg M.ad)
abbrev aob:=aP M "added" 13 ["one","other"] (aaN M.ad)
abbrev alC:=aP M "rolled" 13 ["one","other"] (aaN M.ad)
abbrev Rq:=aP M "behind_first" 1 ["rule","sums","k"] aRj
abbrev ab1:=aP M "power_sums" 2 ["rule","count"] aCZ
abbrev Tz:=aP M "rule_of_sums" 2 ["sums"] aCI
abbrev aeS:=aP M "multiplied" 13 ["one","other"] (az4 M.ad)
abbrev amE:=aP M "every" 11 ["row","start","step"] (aw2 M.ad)
abbrev ac6:=aP M "scaled" 11 ["row","number"] pB
abbrev amy:=aP M "summed" 11 ["row"] pB
abbrev amO:=aP M "put_ahead" 11 ["row","numbers"] (aG9 M.ad)
abbrev alB:=aP M "refuse_far_jump" 1 ["by","n"] (aPo M.ad)
abbrev agq:=aP M "power_left" 3 ["by","poly","n"] aQ4
abbrev WM:=aP M "jump" 4 ["row","n"] (ax8 M.ad)
abbrev Rx:=aP M "sum_at" 2 ["by","poly","found","n"] aDB
abbrev an7:=aP M "place_at" 5 ["row","n"] (aE6 M.ad)
abbrev ad4:=aP M "onward" 5 ["row","n"] (aq0 M.ad)
abbrev aev:=aP M "refuse_far" 1 ["n"] (aL0 M.ad)
abbrev aeW:=aP M "places" 4 ["row","count"] (aGL M.ad)
abbrev VG:=aP M "common_divisor" 1 ["one","other"] ayy
abbrev ae8:=aP M "divisor_of" 2 ["row"] (aHL M.ad)
abbrev abS:=aP M "rest_row" 2 ["row","divisor"] pB
abbrev aiM:=aP M "undivided" 4 ["row","divisor","start","step"] (azb M.ad)
abbrev adK:=aP M "by_prime" 3 ["row","prime"] (auI M.ad)
abbrev afD:=aP M "parting" 4 ["one","other"] (aaN M.ad)
abbrev amb:=aP M "refuse_wide" 1 ["prime","length"] pB
abbrev Qq:=aP M "came_round" 3 ["row"] pB
abbrev Sy:=aP M "round_row" 10 ["row"] (apb M.ad)
abbrev agM:=aP M "round_of" 11 ["row"] (apb M.ad)
abbrev adv:=aP M "where" 11 ["row","number"] (aQa M.ad)
abbrev als:=aP M "refuse_big" 1 ["poly"] (ars M.ad)
abbrev air:=aP M "whole_divisors" 1 ["number"] aIS
abbrev akx:=aP M "perhaps_roots" 2 ["poly"] arf
abbrev aeU:=aP M "divided_out" 3 ["poly","root"] azw
abbrev ajn:=aP M "whole_roots" 4 ["poly"] (aDY M.ad)
abbrev afg:=aP M "power" 1 ["number","exponent"] aKO
abbrev ahJ:=aP M "form_line" 2 ["roots","n"] avi
abbrev agA:=aP M "parts_of" 1 ["roots","tops"] ash
abbrev ah3:=aP M "line_taken" 2 ["by","line"] aEs
abbrev ak1:=aP M "head_line" 1 ["lines","begin","column"] aHH
abbrev al7:=aP M "bring_up" 2 ["by","lines","at","top"] atM
abbrev aoI:=aP M "freed" 4 ["by","line","head","column","last"] pB
abbrev ak5:=aP M "clear" 5 ["by","wide","lines"] aPN
abbrev aoE:=aP M "lowest" 4 ["by","bottom","tops"] aIG
abbrev ajy:=aP M "free_numbers" 5 ["by","wide","lines","heads","last"] pB
abbrev aqP:=aP M "solution" 6 ["by","wide","table","wished"] aqo
abbrev aij:=aP M "paper_against" 7 ["by","wide","table","wished"] pB
abbrev aps:=aP M "solved" 8 ["by","wide","table","wished"] aqo
abbrev ajX:=aP M "closed" 9 ["row"] (aCX M.ad)
abbrev aj3:=aP M "above_all_shown" 1 [] aSw
abbrev rZ:=aP M "number_shown" 2 ["number"] (aHa M.ad)
abbrev Kc:=aP M "numbers_shown" 3 ["numbers"] (avO M.ad)
abbrev agd:=aP M "shown" 3 ["row"] (aGj M.ad)
abbrev anR:=aP M "is_written" 1 ["word"] aJI
abbrev NT:=aP M "read_number" 2 ["word"] (aOK M.ad)
abbrev Ys:=aP M "read_prime" 3 ["word"] (at5 M.ad)
abbrev adC:=aP M "read_words" 6 ["rule_words","start_words","by"] (ajB M.ad)
abbrev apd:=aP M "read" 7 ["text"] (aK0 M.ad)
abbrev af3:=aP M "words_of" 1 ["text"] (aHX M.ad)
abbrev ajg:=aP M "kinds_of" 1 ["words"] (aqU K M.ad)
abbrev Zj:=aP M "read_name" 1 ["word"] (awm M.ad)
abbrev aoS:=aP M "row_named" 2 ["kept","word"] (aO5 M.ad)
abbrev apw:=aP M "read_word" 8 ["kept","kind","word"] (asO M.ad)
abbrev alL:=aP M "make_row" 14 ["said"] (n6 M.ad "row")
abbrev alg:=aP M "make_short" 14 ["said"] (n6 M.ad "short")
abbrev apA:=aP M "make_scale" 14 ["said"] (n6 M.ad "scale")
abbrev amR:=aP M "make_sum" 14 ["said"] (n6 M.ad "sum")
abbrev amU:=aP M "make_add" 14 ["said"] (n6 M.ad "add")
abbrev ad3:=aP M "make_roll" 14 ["said"] (n6 M.ad "roll")
abbrev ac9:=aP M "make_multiply" 14 ["said"] (n6 M.ad "multiply")
abbrev aqk:=aP M "make_every" 14 ["said"] (n6 M.ad "every")
abbrev ah7:=aP M "make_ahead" 14 ["said"] (n6 M.ad "ahead")
abbrev ahM:=aP M "make_on" 14 ["said"] (n6 M.ad "on")
abbrev akv:=aP M "make_rest" 14 ["said"] (n6 M.ad "rest")
abbrev adw:=aP M "tell_show" 13 ["said"] (ql M.ad "show")
abbrev agZ:=aP M "tell_places" 13 ["said"] (ql M.ad "places")
abbrev ajr:=aP M "tell_at" 13 ["said"] (ql M.ad "at")
abbrev aqb:=aP M "tell_part" 13 ["said"] (ql M.ad "part")
abbrev af4:=aP M "tell_round" 13 ["said"] (ql M.ad "round")
abbrev am2:=aP M "tell_where" 13 ["said"] (ql M.ad "where")
abbrev akh:=aP M "tell_closed" 13 ["said"] (ql M.ad "closed")
abbrev afC:=aP M "tell_divisor" 13 ["said"] (ql M.ad "divisor")
abbrev agi:=aP M "tell_divides" 13 ["said"] (ql M.ad "divides")
abbrev ae5:=aP M "_law_cell_at" 1 ["_law_script","_law_k"] (aIP K)
abbrev ady:=aP M "_law_mix" 1 ["_law_cell","_law_k"] aGR
abbrev amm:=aP M "_law_pool" 1 ["_law_cell","_law_turn"] aG1
abbrev adJ:=ar6 M "_law_word" 1 ["_law_e"] (aMB M.ad)
abbrev ami:=aP M "_law_no_rows" 1 ["_law_number"] (DK "_law_no_rows")
abbrev aiq:=aP M "_law_no_names" 1 ["_law_number"] (DK "_law_no_names")
abbrev apB:=aP M "_law_no_texts" 1 ["_law_number"] (DK "_law_no_texts")
abbrev aip:=aP M "_law_by_stages" 1 ["_law_number"] (DK "_law_by_stages")
abbrev ac8:=aP M "_law_filled" 1 ["_law_text","_law_names"] at9
abbrev agU:=aP M "_law_bad" 2 ["_law_names","_law_way","_law_number"] avm
theorem aHt(F:Fn K mg "taken" Oj ["by","number"]):jQ M:=by
 delta ayh ayh
 intros b n rfl h0 q h;exists _,#[(),(bD (0==_:) (aM (aF (1:))) bH),(aF (1%0:))];exists (),();refine cI (λc=>?_) (λc=>?_)
 .exists ();have c':b=0:=dec_true c;have e:Rm.tk b n=n:=by rw[c',aB6]
  rw[e]at q;exact q
 .have c':¬b=0:=dec_false c;exists (),(),"",(⋯:(0:Int)<b);rw[aa9 c']at q;exact q
theorem aJJ(F:Fn K mg "is_prime" Yi ["number"]):Q5 M:=by
 delta Yv Yv
 intros n rfl hn q h;exists _,#[(),(bD (0<_:) (aM (aF fP)) bH),(au 1 Yv.nd aU),(pY PassesOwn.never (1*1<=0:) #[(),(bD (0%1==_:) (aM (aF fP)) bH),(au 1 Yv.nd (1+_:))]),(aF fP)];exists (),"",();refine cI (λc=>?_) (λc=>?_)
 .have e:qW n=false:=by unfold qW;rw[decide_eq_false (by have:=dec_true c;lia)];rfl
  rw[e]at q;exact q
 .obtain⟨m,rfl⟩:∃m:Nat,n=(m:Int):={n.toNat,by have:=dec_false c;lia};have e:qW (m:Int)=uD m 2050 2:=by unfold qW;rw[decide_eq_true (by have:=dec_false c;lia),gR];rfl
  rw[e]at q;exists λf σ' H'=>∃d:Nat,σ'=[some (.int m),some (.int (d:Int))]/\H'=H/\2<=d/\d+f=2052/\uD m f d=uD m 2050 2,{_,2,rfl,rfl,∅,rfl,rfl};rintro f σ' H' ⟨d,rfl,rfl,d2,hd,hp⟩;exists (),(),mulL ⋯ ⋯,(),"",();refine cI (λc2=>?_) (λc2=>?_)
  .have Zw:d*d<=m:=by have:(d:Int)*d<=m:=dec_true c2;exact_mod_cast this
   have h1:d<2052:=Nat.lt_of_not_le λz=>by have:=Jp z z;lia
   obtain⟨f',rfl⟩:∃f',f=f'+1:={f-1,⋯};rw[uD,if_pos Zw]at hp;refine{_,λ_ _ z=>z,?_};exists (),(),"",(⋯:(0:Int)<(d:Int));exists ();refine cI (λc3=>?_) (λc3=>?_)
   .have PZ:m%d=0:=by have:(m:Int)%(d:Int)=0:=dec_true c3;exact_mod_cast this
    rw[if_pos PZ]at hp;rw[<-hp]at q;exact q
   .have PZ:¬m%d=0:=λz=>dec_false c3 (by exact_mod_cast z);rw[if_neg PZ]at hp;exact{(),f',⋯,d+1,rfl,rfl,⋯,⋯,hp}
  .have Zw:¬d*d<=m:=λz=>dec_false c2 (by exact_mod_cast z);have:uD m f d=true:=by
    cases f with
    |zero=>rfl
    |succ f=>rw[uD,if_neg Zw]
   rw[<-hp,this]at q;exact q
theorem aI1(F:Fn K mg "prime_above" VR ["number"])(yO:Q5 M):apK M:=by
 delta VW VW
 intros rfl q h;exists _,#[(),(au 1 VW.nd (0+_:)),(pY PassesOwn.never (iU (fY (aH yO hr #[1]))) (aM (au 1 VW.nd (1+_:)))),(aF (1:))];exists (),λm σ' H'=>∃f:Nat,σ'=[some (.int 1000000),some (.int (f:Int))]/\H'=H/\1000003-f=m/\(f=1000001∨f=1000002∨f=1000003),{_,1000001,rfl,rfl,rfl,.inl rfl};rintro m σ' H' ⟨f,rfl,rfl,rfl,h⟩;exists (),f,rfl,⋯,();rcases h with rfl|rfl|rfl
 .rw[show((1000001:Nat):Int)=1000001 from rfl,p1];exact{_,λ_ _ z=>z,(),1,∅,1000002,rfl,rfl,rfl,.inr (.inl rfl)}
 .rw[show((1000002:Nat):Int)=1000002 from rfl,p2];exact{_,λ_ _ z=>z,(),0,∅,1000003,rfl,rfl,rfl,.inr (.inr rfl)}
 .rw[show((1000003:Nat):Int)=1000003 from rfl,p3];exact{(),q}
theorem aFa(F:Fn K mg "is_whole" aag ["thing"]):Pz M:=by
 delta arv arv
 intros i rfl q h;exists _,(aM (aF (al1 (eU xg rfl B.jZ boot_isinstance #[0,(vp rfl B.anz boot_int)]) (Hq (alZ (eU xg rfl B.jZ boot_isinstance #[0,(vp rfl B.aHp boot_bool)]))))));refine{(),.int i,"int","int",rfl,rfl,by simp,(),dM ?_};exact{(),.int i,"bool","int",rfl,rfl,by simp,(),q}
theorem ayk(F:Fn K mg "is_by" PV ["thing"])(Az:Pz M)(yO:Q5 M):Og M:=by
 delta aH6 aH6
 intros b rfl q h;exists _,#[(),(bD (PW.pt (gP (iU (fY (aH Az hr #[0]))) (jR (0>=(nJ rfl B.aa6):)))) (aM (aF fP)) bH),(aF (acj (lB (oO K hr) (0:) aU (mF _)) (Hq (aH yO hr #[0]))))];unfold yR at q;refine{(),b,rfl,(),bL ?_};refine{(),"",(),cI (λc=>?_) (λc=>?_)}
 .rw[decide_eq_false (by have:=dec_true c;lia)]at q;exact q
 .rw[decide_eq_true (by have:=dec_false c;lia:b<1000)]at q;refine{(),(),cI (λc2=>?_) (λc2=>?_)}
  .rw[show decide (b=0)=true from c2]at q;exact q
  .rw[show decide (b=0)=false from pG.mpr c2]at q;exact{(),b,rfl,by have:=dec_false c;lia,q}
theorem aIx(F:Fn K mg "is_number" Ur ["by","thing"])(Az:Pz M):ajJ M:=by
 delta aJx aJx
 intros b x rfl q h;exists _,#[(),(bD (iU (fY (aH Az hr #[1]))) (aM (aF fP)) bH),(aF (acj (lB (oO K hr) (0:) aU (mF _)) (Hq (aF8 ad0 LN aU (1:) (0:)))))];unfold BR at q;refine{(),x,rfl,(),bL ?_};refine{(),(),cI (λc=>?_) (λc=>?_)}
 .rw[show decide (b=0)=true from c]at q;exact q
 .rw[show decide (b=0)=false from pG.mpr c]at q;refine{(),"",(),cI (λc2=>?_) (λc2=>?_)}
  .rw[show decide (0<=x)=true from c2]at q;exact{(),"",q}
  .rw[show decide (0<=x)=false from pG.mpr c2]at q;exact q
theorem azR(F:Fn K mg "are_numbers" RJ ["by","thing"])(ZC:ajJ M):adx M:=by
 delta aLK aLK
 intros b p xs rfl hp hl q h;refine{_,#[(),(bD (PW.pt (gP (iU (fY (eU xg rfl B.jZ boot_isinstance #[1,(vp rfl B.lA boot_tuple)]))) (jR ((cj K B.bZ #[1])>(nJ rfl B.JN):)))) (aM (aF fP)) bH),(aF (eU (Qp K rfl) rfl B.aau boot_all #[(dB (sc:=aH9) (N:=["part","by"]) (ix:=[none,some 0]) cM rfl (dh K (1:)) (λ_ _ _ _ _=>{(aY 0 cJ),cO,(aH ZC hr #[1,0])}))]))],?_};unfold Ac at q;have lX:(xs.map V.int).length=xs.length:=bG _;refine{(),.ref p,"tuple","tuple",rfl,by simp only[Am,hp],by simp,(),bL ?_};refine{(),.ref p,xs.length,rfl,.inr {_,aq.of hp,lX.symm},"",(),cI (λc=>?_) (λc=>?_)}
 .rw[decide_eq_false (by have:=dec_true c;lia)]at q;exact q H (Same.refl _)
 .rw[decide_eq_true (by have:=dec_false c;lia:xs.length<=12)]at q;refine{(),p,rfl,.inr {{_,aq.of hp},mJ (pL (aq.of hp)) (by rw[lX];exact jE (gU ⋯)) (rest:=[some (.int b)]) rfl (λ_=>true) (λx=>match x with | .int k=> .bl (BR b k)|_=> .non) ?_ ?_ ?_}}
  .intro H2 y g2 hy k hk;exact hk
  .intro H2 y g2 hy _ k hk;obtain⟨x,hx,rfl⟩:=fM.mp hy;exact{(),(),b,x,rfl,hk}
  .intro D hD;refine{D,xs.map (BR b),rfl,aj.of (by rw[ao,u6.mpr (by simp),iz,iz];rfl),?_};have:=q _ (Same.new hD (.lst (((xs.map V.int).filter λ_=>true).map λx=>match x with | .int k=> .bl (BR b k)|_=> .non)))
   rw[Uk];exact this
theorem awY(F:Fn K mg "is_row" Y0 ["thing"])(NK:adx M)(AW:Og M):alR M:=by
 delta JY JY
 obtain⟨v,r,rfl,⟨a,p,p2,rfl,hA,hP,hS⟩,l1,l2,q⟩:=h;exists _,#[(),(bD (PW.pt (gP (iU (fY (eU xg rfl B.jZ boot_isinstance #[0,(vp rfl B.lA boot_tuple)]))) (jR ((cj K B.bZ #[0])!=_:)))) (aM (aF fP)) bH),(au 1 JY.nd (-0:)),(au 2 JY.nd (-0:)),(au 3 JY.nd (-0:)),(bD (PW.pt (gP (iU (fY (aH AW hr #[1]))) (gP (iU (fY (aH NK hr #[1,2]))) (jR (iU (fY (aH NK hr #[1,3]))))))) (aM (aF fP)) bH),(aF (lB (oO K hr) (cj K B.bZ #[2]) (cj K B.bZ #[3]) (mF _)))];unfold zQ at q;refine{(),.ref a,"tuple","tuple",rfl,by simp only[Am,hA],by simp,(),bL ?_};refine{(),.ref a,3,rfl,.inr {_,aq.of hA,rfl},(),bL ?_};exists (),_,_,.inr (aq.of hA),rfl,(),_,_,.inr (aq.of hA),rfl,(),_,_,.inr (aq.of hA),rfl;exists (),r.b,rfl,();revert q;cases yR r.b<;>intro q
 .exact dM (q H (Same.refl _))
 ·
  refine bL {(),(),r.b,p,r.rule,rfl,hP,l1,λH1 g1=>{(),?_}};revert q;cases Ac r.b r.rule<;>intro q
  .exact dM (q H1 g1)
  ·
   refine bL {(),(),r.b,p2,r.starts,rfl,g1 _ _ hS,l2,λH2 g2=>{(),?_}};have cA:=g1.trans g2;revert q;cases Ac r.b r.starts<;>intro q
   .exact dM (q H2 cA)
   ·
    refine bL {(),.ref p,r.rule.length,rfl,.inr {_,aq.of (cA _ _ hP),(bG _).symm},(),.ref p2,r.starts.length,rfl,.inr {_,aq.of (cA _ _ hS),(bG _).symm},?_};have e:decide ((r.rule.length:Int)=(r.starts.length:Int))=decide (r.rule.length=r.starts.length):=decide_eq_decide.mpr ⋯;show Q (.bl (id (decide ((r.rule.length:Int)=(r.starts.length:Int))))) H2;rw[e];exact q H2 cA
theorem aKB(F:Fn K mg "inverse" Ye ["prime","number"])(cU:jQ M):al0 M:=by
 delta wO wO
 intros p a rfl h2 hp h0 h1 q h;exists _,#[(),(au 2 wO.nd aU),(au 3 wO.nd (1:)),(au 4 wO.nd (0-_:)),(pY PassesOwn.never (4>_:) #[(),(tU (bD (4%_==_:) (aM (au 2 wO.nd (aH cU hr #[0,(2*3:)]))) bH)),(au 3 wO.nd (aH cU hr #[0,(3*3:)])),(au 4 wO.nd (4/_:))]),(aF (2:))];exists ();exists (),"";refine{λm σ' H'=>∃w s l:Int,σ'=[some (.int p),some (.int a),some (.int w),some (.int s),some (.int l)]/\H'=H/\0<=w/\w<4194304/\0<=s/\s<4194304/\0<=l/\l<2^m/\tV p m w s l=inv p a,
  {24,1,a,p-2,rfl,rfl,∅,∅,⋯,⋯,⋯,⋯,rfl},?_}
 rintro m σ' H' ⟨w,s,l,rfl,rfl,w0,w1,s0,s1,l0,l1,hk⟩;exists (),"",();refine cI (λc=>?_) (λc=>?_)
 .have c':0<l:=dec_true c;cases m with
  |zero=>exact absurd l1 ⋯
  |succ m=>
   rw[tV,if_pos c']at hk;refine{_,λ_ _ z=>z,?_};have hpos:(0:Int)<p:=⋯;have Ip:∀n,Rm.tk p n=n%p:=λn=>aa9 ⋯ n;refine uV.by (λσ' H2=>σ'=[some (.int p),some (.int a),some (.int (if l%2=1 then w*s%p else w)),some (.int s),some (.int l)]/\H2=H') (λN hN=>?_) ?_
   .exists (),"",(∅:(0:Int)<2),();refine cI (λc2=>?_) (λc2=>?_)
    .exists (),(),(),mulL ⋯ ⋯,p,(),⋯;exact hN _ _ {by rw[if_pos (dec_true c2),<-Ip];rfl,rfl}
    .exact hN _ _ {by rw[if_neg (dec_false c2)],rfl}
   rintro σ' H2 ⟨rfl,rfl⟩;exists (),(),(),mulL ⋯ ⋯,p,(),⋯;exists (),"",{∅,∅};have b1:=iR (s*s) hpos;have b2:=iK (s*s) hpos;have b3:=iR (w*s) hpos;have b4:=iK (w*s) hpos;refine{m,⋯,_,s*s%p,l/2,by rw[Ip];rfl,rfl,?_,?_,b1,⋯,⋯,by rw[Int.pow_succ]at l1;lia,hk}
   .split<;>lia
   .split<;>lia
 .have e:tV p m w s l=w:=by
   cases m with
   |zero=>rfl
   |succ m=>rw[tV,if_neg (dec_false c)]
  rw[e]at hk;subst hk;exact{(),q}
theorem aKp(F:Fn K mg "over" aay ["by","one","other"])(cU:jQ M)(acI:al0 M):U5 M:=by
 delta at4 at4
 intros p one other rfl h2 hp o0 o1 q h;exists _,#[(),(bD (0==_:) (aM ajL) bH),(bD ((aH cU hr #[0,2])==_:) (aM ajL) bH),(aF (aH cU hr #[0,(1*(aH acI hr #[0,2]):)]))];exists (),();refine cI (λc=>absurd (dec_true c) ⋯) (λ_=>?_);have Ip:∀n,Rm.tk p n=n%p:=λn=>aa9 ⋯ n;exists (),(),p,other,rfl,⋯,();have et:Rm.tk p other=other:=by rw[Ip];exact Int.emod_eq_of_lt ⋯ o1
 rw[et];refine cI (λc2=>absurd (dec_true c2) ⋯) (λ_=>?_);obtain⟨i0,i1⟩:=awt h2 hp o0 o1;exists (),(),(),(),p,other,rfl,h2,hp,o0,o1;exists mulR ⋯ ⋯,p,(),⋯;rw[Ip];exact q
theorem aQ0(F:Fn K mg "next_place" Ve ["by","rule","before"])(cU:jQ M):afb M:=by
 delta Ko Ko
 intros b r s' rule before rfl hb hR hS hl hl2 hl3 bR bS q h;exists _,#[(),(au 3 Ko.nd aU),(gk PassesOwn.never rfl (fL rfl B.dY #[(cj K B.bZ #[1])]) (aY 4 Ko.nd) (aM (au 3 Ko.nd (3+(aQ K (1:) (4:))*(aQ K (2:) ((cj K B.bZ #[2])-_-4:)):)))),(aF (aH cU hr #[0,3]))];have lR:(rule.map V.int).length=rule.length:=bG _;have lS:(before.map V.int).length=before.length:=bG _;exists (),.ref r,rule.length,rfl,.inr {_,hR,lR.symm};exists (rule.length:Int),rfl,(⋯:-(2^62)<=(rule.length:Int)),(⋯:(rule.length:Int)<2^62);refine kY (lo:=0) (n:=(rule.length:Int).toNat) (λi σ' H'=>∃o,σ'=[some (.int b),some (.ref r),some (.ref s'),some (.int (Rm.S rule (λi=>before.getD i 0) before.length i)),o]/\H'=H) {none,rfl,(rfl)} ?_ ?_
 .rintro i σ' H' hi ⟨o,rfl,rfl⟩;have hi':i<rule.length:=⋯;have e0:(0:Int)+(i:Int)=(i:Int):=⋯;have e1:(before.length:Int)-1-(0+(i:Int))=((before.length-1-i:Nat):Int):=⋯;exists ();exists (),(),_,_,.inr hR,jx (ns:=rule) (⋯:(0:Int)<=0+(i:Int)) ⋯;exists (),(),.ref s',before.length,rfl,.inl {_,hS,lS.symm},"",(),"";exists _,_,.inl hS,jx (ns:=before) (⋯:(0:Int)<=(before.length:Int)-1-(0+(i:Int))) ⋯;exists ux (rF bR _) (rF bS _);refine{some (.int (0+(i:Int))),?_,rfl};rw[e1,e0,gR,gR];rfl
 .rintro σ' H' ⟨o,rfl,rfl⟩;exists (),(),b,(),hb;rw[show(rule.length:Int).toNat=rule.length from gR _];exact q
theorem aES(F:Fn K mg "first_places" abr ["row","count"])(Vw:afb M):uL M:=by
 delta E8 E8
 obtain⟨v,r,c,rfl,⟨a,p,p2,rfl,hA,hR,hS⟩,ok,hc1,q⟩:=h;exists _,#[(),(au 2 E8.nd (-0:)),(au 3 E8.nd (-0:)),(au 4 E8.nd (-0:)),(au 5 E8.nd (Xi (fZ (xlist K) rfl B.uJ boot_list #[(jq (kW K) (4:) jr (jd (1:)))]))),(pY PassesOwn.never ((cj K B.bZ #[5])<1:) (aM (dJ (jy K (5:) (aH Vw hr #[2,3,5]))))),(aF (5:))];simp only[Ej,cW,decide_eq_true_eq]at ok;obtain⟨⟨⟨⟨b0,hl⟩,hl2⟩,bR⟩,bS⟩:=ok;have lS:(r.starts.map V.int).length=r.starts.length:=bG _;exists (),_,_,.inr (aq.of hA),rfl;exists (),_,_,.inr (aq.of hA),rfl;exists (),_,_,.inr (aq.of hA),rfl;have awG:gq (r.starts.map V.int) none (some (c:Int))=(r.row (min c r.starts.length)).map V.int:=by
  have e:r.row (min c r.starts.length)=r.starts.take (min c r.starts.length):=Yx (aoY _ _);rw[e];unfold gq;rw[HT.yV,HT.yJ,Br,Ky,lS,xV]
 refine Bar.by (λv H1=>∃l,v = .ref l/\Same H H1/\H l=none/\H1 l=some (.lst ((r.row (min c r.starts.length)).map V.int))) (λkk hkk=>?_) ?_
 .exists (),(),();by_cases hw:r.starts.length<=c
  ·-- the whole of it
   refine .inr (.inr {_,aq.of hS,?_,?_})
   .rw[HT.yV,HT.yJ,lS];lia
   .refine{p2,(),.inr (aq.of hS),λl hl1=>hkk _ _ {l,rfl,Same.new hl1 _,hl1,?_}};rw[ao,acL hw];have e:r.row r.starts.length=r.starts:=(Yx (bK _)).trans (yF ..);rw[e]
  .refine .inr (.inl {_,aq.of hS,?_,λp3 hp3=>?_})
   .rw[HT.yV,HT.yJ,lS];lia
   .refine{p3,(),.inr (aq.of ao),λl hl1=>?_};have g3:=Same.new hp3 (.tup (gq (r.starts.map V.int) none (some (c:Int))));refine hkk _ _ {l,rfl,g3.trans (Same.new hl1 _),g3.free hl1,?_};rw[ao,awG]
 rintro v H1 ⟨l,rfl,g1,hl1,hr1⟩;refine{λm σ' H'=>∃n:Nat,m=c-n/\min c r.starts.length<=n/\n<=c/\σ'=[some (.ref a),some (.int c),some (.int r.b),some (.ref p),some (.ref p2),some (.ref l)]/\Same H H'/\H' l=some (.lst ((r.row n).map V.int)),
  {_,min c r.starts.length,rfl,bK _,Nat.min_le_left _ _,rfl,g1,hr1},?_}
 rintro m σ' H' ⟨n,rfl,h1,h2,rfl,g,hL⟩;have lL:((r.row n).map V.int).length=n:=by rw[bG,Rw.qQ]
 exists (),.ref l,n,rfl,.inl {_,aj.of hL,lL.symm},(),"",();refine cI (λcc=>?_) (λcc=>?_)
 .have hn:n<c:=by have:=dec_true cc;lia
  refine{_,λ_ _ z=>z,?_};refine{(),.inl {rfl,_,aj.of hL},(),(),(),r.b,p,l,r.rule,r.row n,rfl,b0,aq.of (g _ _ hR),aj.of hL,?_,⋯,?_,bR,aCq bS h2,?_}
  .rw[Rw.qQ];lia
  .rw[Rw.qQ];lia
  .refine{l,"",hL,?_,?_}
   .rw[lL];exact gU ⋯
   .exists c-(n+1),⋯,n+1,rfl,⋯,⋯,rfl,g.upd hl1 _;rw[ao,Rw.qQ];have e:r.row (n+1)=r.row n++[Rm.tk r.b (Rm.S r.rule (λi=>(r.row n).getD i 0) n r.rule.length)]:=by
     show _++[if n<r.starts.length then r.starts.getD n 0 else _]=_;rw[if_neg ⋯];rfl
    rw[e,gC];rfl
 .have hn:n=c:=by have:=dec_false cc;lia
  subst hn;exists ();exact q l H' g hl1 hL
theorem atV(F:Fn K mg "trimmed" XU ["numbers"]):Gq M:=by
 delta Tv Tv
 intros l xs rfl hL q h;exists _,#[(),(au 1 Tv.nd (cj K B.bZ #[0])),(pY PassesOwn.never (PW.pt (xu (1>_:) (wF ((aQ K (0:) (1-_:))==_:)))) (aM (au 1 Tv.nd (1-_:)))),(aF (fZ (mY K) rfl B.lA boot_tuple #[(jq (kW K) (0:) jr (jd (1:)))]))];have lL:(xs.map V.int).length=xs.length:=bG _;exists (),.ref l,xs.length,rfl,.inl {_,hL,lL.symm};refine{λm σ' H'=>∃n:Nat,m=n/\n<=xs.length/\σ'=[some (.ref l),some (.int (n:Int))]/\H'=H/\Pm.trim (xs.take n)=Pm.trim xs,{_,xs.length,rfl,bK _,rfl,rfl,by rw[yF]},?_};rintro m σ' H' ⟨n,e0,hn,rfl,rfl,ht⟩;exists (),"",();refine cI (λc=>?_) (λc=>bL ?_)
 .have h0:0<n:=by have:=dec_true c;lia
  have e1:((n:Int)-1).toNat=n-1:=⋯;exists (),(),"",_,_,.inl hL,jx (ns:=xs) (⋯:(0:Int)<=(n:Int)-1) ⋯,();refine cI (λc2=>?_) (λc2=>?_)
  .have hz:=dec_true c2;rw[e1]at hz;refine{_,λ_ _ z=>z,?_};exists (),"";refine{n-1,⋯,n-1,rfl,⋯,?_,rfl,aJ9 h0 hn ht hz};rw[(⋯:((n-1:Nat):Int)=(n:Int)-1)];rfl
  .have hz:=dec_false c2;rw[e1]at hz;refine{(),(),(),.inl {_,hL,λp hp=>?_}};refine{p,(),.inl {aj.of ao,λp2 hp2=>?_}};refine q p2 _ ((Same.new hp _).trans (Same.new hp2 _)) ?_;rw[ao,El,<-xV,adX hn ht (.inr hz)]
 .have h0:n=0:=by have:=dec_false c;lia
  refine{(),(),(),.inl {_,hL,λp hp=>?_}};refine{p,(),.inl {aj.of ao,λp2 hp2=>?_}};refine q p2 _ ((Same.new hp _).trans (Same.new hp2 _)) ?_;rw[ao,El,<-xV,adX hn ht (.inl h0)]
theorem avn(F:Fn K mg "number_at" Q0 ["poly","k"]):agN M:=by
 delta aBt aBt
 intros a p k rfl hA h0 q h;exists _,(aM (aF (w6 (1<(cj K B.bZ #[0]):) (aQ K (0:) (1:)) aU)));have lP:(p.map V.int).length=p.length:=bG _;exists (),(),.ref a,p.length,rfl,.inr {_,aq.of hA,lP.symm},"",();refine cI (λc=>?_) (λc=>?_)
 .exact{(),(),_,_,.inr (aq.of hA),jx (ns:=p) h0 (dec_true c),q}
 .have c':=dec_false c;have e:p.getD k.toNat 0=0:=aph (p:=p) ⋯;rw[e]at q;exact q
theorem aLM(F:Fn K mg "times" SG ["by","one","other"])(cU:jQ M)(mZ:Gq M):aal M:=by
 delta J8 J8
 intros b a c p r rfl hb hA hC zA zC bA bC q h;exists _,#[(),(au 3 J8.nd ((cC #[_])*((cj K B.bZ #[1])+(cj K B.bZ #[2])):)),(gk PassesOwn.never rfl (fL rfl B.dY #[(cj K B.bZ #[1])]) (aY 4 J8.nd) (aM (gk PassesOwn.never rfl (fL rfl B.dY #[(cj K B.bZ #[2])]) (aY 5 J8.nd) (aM (qG (aH cU hr #[0,((aQ K (3:) (4+5:))+(aQ K (1:) (4:))*(aQ K (2:) (5:)):)]) (xH (3:) (4+5:) set_list)))))),(aF (aH mZ hr #[3]))];have lP:(p.map V.int).length=p.length:=bG _;have lR:(r.map V.int).length=r.length:=bG _;refine{(aZ 1),λl0 h0=>?_};have g0:=Same.new h0 (.lst [.int 0]);exists (),.ref a,p.length,rfl,.inr {_,aq.of (g0 _ _ hA),lP.symm},(),.ref c,r.length,rfl,.inr {_,aq.of (g0 _ _ hC),lR.symm};have en:((p.length:Int)+(r.length:Int)).toNat=p.length+r.length:=⋯;refine{_,ao,(⋯:-(2^63)<=(p.length:Int)+(r.length:Int)),(⋯:(p.length:Int)+(r.length:Int)<2^63),?_,λl hl=>?_}
 .rw[en];show 1*(p.length+r.length)<=sizeLine;rw[ab4];exact jE (gU ⋯)
 have g1:=g0.trans (Same.new hl (.lst (aX ((p.length:Int)+(r.length:Int)).toNat [V.int 0]).flatten));have hl0:H l=none:=g0.free hl;exists (),.ref a,p.length,rfl,.inr {_,aq.of (g1 _ _ hA),lP.symm};exists (p.length:Int),rfl,(⋯:-(2^62)<=(p.length:Int)),(⋯:(p.length:Int)<2^62);refine kY (lo:=0) (n:=(p.length:Int).toNat) (λi σ' H'=>∃o4 o5,σ'=[some (.int b),some (.ref a),some (.ref c),some (.ref l),o4,o5]/\Same H H'/\H' l=some (.lst ((wW b p r i).map V.int)))
  {_,(),g1,(by rw[ao,en,Uh];rfl)} ?_ ?_
 .rintro i σ' H' hi ⟨o4,o5,rfl,g,hL⟩;have hi':i<p.length:=⋯;exists (),.ref c,r.length,rfl,.inr {_,aq.of (g _ _ hC),lR.symm};exists (r.length:Int),rfl,(⋯:-(2^62)<=(r.length:Int)),(⋯:(r.length:Int)<2^62);refine kY (lo:=0) (n:=(r.length:Int).toNat) (λk σ' H'=>∃o5,σ'=[some (.int b),some (.ref a),some (.ref c),some (.ref l),some (.int (0+(i:Int))),o5]/\Same H H'/\H' l=some (.lst ((wY b (p.getD i 0) i r (wW b p r i) k).map V.int)))
   {(),g,hL} ?_ ?_
  .rintro k σ' H2 hk ⟨o5,rfl,g,hL⟩;have hk':k<r.length:=⋯;have zL:(wY b (p.getD i 0) i r (wW b p r i) k).length=p.length+r.length:=by rw[Vc,ape]
   have e1:(0+(i:Int)+(0+(k:Int))).toNat=i+k:=⋯;have e2:(0+(i:Int)).toNat=i:=⋯;have e3:(0+(k:Int)).toNat=k:=⋯;exists (),(),(),(),_,_,.inl (aj.of hL),jx (⋯:(0:Int)<=0+(i:Int)+(0+(k:Int))) ⋯;exists (),(),_,_,.inr (aq.of (g _ _ hA)),jx (ns:=p) (⋯:(0:Int)<=0+(i:Int)) ⋯;exists (),(),_,_,.inr (aq.of (g _ _ hC)),jx (ns:=r) (⋯:(0:Int)<=0+(k:Int)) ⋯;exists ux (rF bA _) (rF bC _);exists b,(),hb;refine{(),(),(),l,_,_,i+k,rfl,rfl,hL,ab8 ⋯ (by rw[bG];lia),?_};exact{(),g.upd hl0 _,(by rw[ao,XI,e1,e2,e3];rfl)}
  .rintro σ' H2 ⟨o5,rfl,g,hL⟩;exact{_,(),g,hL}
 .rintro σ' H' ⟨o4,o5,rfl,g,hL⟩;exact{(),l,(),aj.of hL,λt H2 g2 ht=>q t H2 (g.trans g2) ht}
theorem aQe(F:Fn K mg "divided" WR ["by","one","other"])(cU:jQ M)(mZ:Gq M):BQ M:=by
 delta xZ xZ
 intros b a c P M rfl hA hC ok q h;exists _,#[(),(au 3 xZ.nd ((cj K B.bZ #[2])-_:)),(au 4 xZ.nd ((cC #[_])*(eU (ayC rfl) rfl B.aBP boot_max #[_,((cj K B.bZ #[1])-3:)]):)),(au 5 xZ.nd (fZ (xlist K) rfl B.uJ boot_list #[1])),(gk PassesOwn.never rfl (amT rfl B.dY #[((cj K B.bZ #[4])-_:),(Mf JX aU),(Mf JX aU)]) (aY 6 xZ.nd) #[(),(au 7 xZ.nd (aQ K (5:) (6+3:))),(qG (7:) (xH (4:) (6:) set_list)),(gk PassesOwn.never rfl (fL rfl B.dY #[(cj K B.bZ #[2])]) (aY 8 xZ.nd) (aM (qG (aH cU hr #[0,((aQ K (5:) (6+8:))-7*(aQ K (2:) (8:)):)]) (xH (5:) (6+8:) set_list))))]),(aF (cF #[(aH mZ hr #[4]),(aH mZ hr #[5])]))];simp only[jG,cW,decide_eq_true_eq,gK (p:=λi=>d8 _),jj]at ok;obtain⟨⟨⟨⟨⟨hb,hMp⟩,zA⟩,zC⟩,bC⟩,bF⟩:=ok;have lP:(P.map V.int).length=P.length:=bG _;have lM:(M.map V.int).length=M.length:=bG _;exists (),.ref c,M.length,rfl,.inr {_,aq.of hC,lM.symm},"";refine{(aZ 1),λl0 h0=>?_};have g0:=Same.new h0 (.lst [.int 0]);exists (),.ref a,P.length,rfl,.inr {_,aq.of (g0 _ _ hA),lP.symm},(),"",_,();have en:(if(P.length:Int)-((M.length:Int)-1)>0 then(P.length:Int)-((M.length:Int)-1)else 0).toNat=jk P M:=by unfold jk;split<;>lia
 have n40:jk P M<=40:=eV (Nat.sub_le ..) zA;have hn:jk P M=P.length-(M.length-1):=rfl;refine{_,ao,?_,?_,?_,λlo hlo=>?_}
 .split<;>lia
 .split<;>lia
 .rw[en];show 1*jk P M<=sizeLine;rw[ab4];exact jE (gU ⋯)
 rw[en,Uh];have aty:H lo=none:=g0.free hlo;have g1:=g0.trans (Same.new hlo (.lst ((aX (jk P M) (0:Int)).map V.int)));have ZM:(upd (upd H l0 (.lst [.int 0])) lo (.lst ((aX (jk P M) (0:Int)).map V.int))) lo=some (.lst ((dv b P M (jk P M) 0).1.map V.int)):=ao;generalize upd (upd H l0 (.lst [.int 0])) lo (.lst ((aX (jk P M) (0:Int)).map V.int))=H1 at g1 ZM;refine{(),a,(),.inr (aq.of (g1 _ _ hA)),λll hll=>?_};have aya:H ll=none:=g1.free hll;have hne:lo≠ll:=fU ZM hll;have Tt:=Same.new hll (.lst (P.map V.int));have g2:=g1.trans Tt;have ZX:=Tt _ _ ZM;have hL2:(upd H1 ll (.lst (P.map V.int))) ll=some (.lst ((dv b P M (jk P M) 0).2.map V.int)):=ao;generalize upd H1 ll (.lst (P.map V.int))=H2 at Tt g2 ZX hL2;have dl:=abm b P M (jk P M);unfold amk quo rem at q;generalize jk P M=n at *;exists (),.ref lo,n,rfl,.inl {_,aj.of ZX,by rw[bG,(dl 0).1]},"",(),(),(n:Int)-1,-1,rfl,{⋯,⋯,⋯,⋯};refine aiN (lo:=(n:Int)-1) (n:=((n:Int)-1-(-1)).toNat) (λi σ' H'=>∃o6 o7 o8,σ'=[some (.int b),some (.ref a),some (.ref c),some (.int ((M.length:Int)-1)),some (.ref lo),some (.ref ll),o6,o7,o8]/\Same H H'/\H' lo=some (.lst ((dv b P M n i).1.map V.int))/\H' ll=some (.lst ((dv b P M n i).2.map V.int)))
  {_,_,(),g2,ZX,hL2} ?_ ?_
 .rintro i σ' H' hi ⟨o6,o7,o8,rfl,g,hO,hL⟩;have hi':i<n:=⋯;have bf:=bF i hi';have hS:dv b P M n (i+1)=((dv b P M n i).1.set (n-(i+1)) ((dv b P M n i).2.getD (n-(i+1)+(M.length-1)) 0),inn b ((dv b P M n i).2.getD (n-(i+1)+(M.length-1)) 0) (n-(i+1)) M (dv b P M n i).2 M.length):=rfl;rw[hS];obtain⟨d1,d2⟩:=dl i;generalize (dv b P M n i).1=O,(dv b P M n i).2=L at *;have sL:n-(i+1)+M.length<=L.length:=⋯;have sO:n-(i+1)<O.length:=⋯;rw[(⋯:(n:Int)-1-(i:Int)=((n-(i+1):Nat):Int))];generalize n-(i+1)=s at *;obtain⟨e1,e1a,e1b⟩:=dq1 hMp sL;exists (),(),(),_,_,.inl (aj.of hL),jx (ns:=L) e1a e1b;rw[e1];generalize L.getD (s+(M.length-1)) 0=f at bf;refine{(),(),(),lo,_,_,s,rfl,rfl,hO,ab8 rfl (by rw[bG];exact sO),?_};have hO3:(upd H' lo (.lst ((O.map V.int).set s (.int f)))) lo=some (.lst ((O.set s f).map V.int)):=by rw[ao,XI]
  have qN:(upd H' lo (.lst ((O.map V.int).set s (.int f)))) ll=some (.lst (L.map V.int)):=by rw[bY hne.symm];exact hL
  have g3:=g.upd aty (.lst ((O.map V.int).set s (.int f)));generalize upd H' lo (.lst ((O.map V.int).set s (.int f)))=H3 at hO3 qN g3;exists (),.ref c,M.length,rfl,.inr {_,aq.of (g3 _ _ hC),lM.symm};exists (M.length:Int),rfl,(⋯:-(2^62)<=(M.length:Int)),(⋯:(M.length:Int)<2^62);refine kY (lo:=0) (n:=(M.length:Int).toNat) (λt σ' H'=>∃o8,σ'=[some (.int b),some (.ref a),some (.ref c),some (.int ((M.length:Int)-1)),some (.ref lo),some (.ref ll),some (.int (s:Int)),some (.int f),o8]/\Same H H'/\H' lo=some (.lst ((O.set s f).map V.int))/\H' ll=some (.lst ((inn b f s M L t).map V.int)))
   {(),g3,hO3,qN} ?_ ?_
  .rintro t σ' H4 ht ⟨o8,rfl,g4,W7,Lg⟩;have ht':t<M.length:=⋯;have zL':=ab2 b f s M L t;obtain⟨e2,f1,f2,f3,f4,f5,e3,f6⟩:=dq2 (l:=(inn b f s M L t).length) ht' (by rw[zL'];exact sL);exists (),(),(),(),_,_,.inl (aj.of Lg),jx f1 f2;exists (),(),(),_,_,.inr (aq.of (g4 _ _ hC)),jx (ns:=M) f3 f4;exists ux bf (rF (gK.mpr bC) _),"";exists b,(),hb;refine{(),(),(),ll,_,_,s+t,rfl,rfl,Lg,ab8 f6 (by rw[bG];exact f5),?_};exact{(),g4.upd aya _,(by rw[bY hne];exact W7),(by rw[ao,XI,e2,e3];rfl)}
  .rintro σ' H4 ⟨o8,rfl,g4,W7,Lg⟩;exact{_,_,(),g4,W7,Lg}
 .rintro σ' H' ⟨o6,o7,o8,rfl,g,hO,hL⟩;rw[(⋯:((n:Int)-1-(-1)).toNat=n)]at hO hL;refine{(),lo,(),aj.of hO,λt1 H3 g3 h3=>?_};refine{(),ll,(),aj.of (g3 _ _ hL),λt2 H4 g4 h4=>?_};refine{(aZ 2),λt ht=>?_};have gt:=Same.new ht (.tup [.ref t1,.ref t2]);exact q t t1 t2 _ (g.trans (g3.trans (g4.trans gt))) ao (gt _ _ (g4 _ _ h3)) (gt _ _ h4)
theorem av9(F:Fn K mg "monic" SV ["prime","poly"])(AZ:U5 M):ald M:=by
 delta aei aei
 intros p a L rfl h2 hp hA ok q h;refine{_,#[(),(bD ((cj K B.bZ #[1])==_:) (aM (aF (cF iB))) bH),(fj (i:=2) aei.nd rfl (dZ rfl) (aQ K (1:) ((cj K B.bZ #[1])-_:))),(aF (fZ (mY K) rfl B.lA boot_tuple #[(dB (sc:=aQ1) (N:=["number","last","prime"]) (ix:=[none,some 2,some 0]) cM rfl (dh K (1:)) (λ_ _ _ _ _=>{(aY 0 cJ),cO,(aH AZ hr #[2,0,1])}))]))],?_};simp only[wZ,cW,qD,decide_eq_true_eq]at ok;have lP:(L.map V.int).length=L.length:=bG _;exists (),.ref a,L.length,rfl,.inr {_,aq.of hA,lP.symm},();refine cI (λc=>?_) (λc=>?_)
 .have c':(L.length:Int)=0:=dec_true c;obtain rfl:=Dg (⋯:L.length=0);exact{fJ _,λt ht=>q t _ (Same.new ht _) ao}
 .have c':¬(L.length:Int)=0:=dec_false c;obtain⟨⟨l40,r0⟩,r1⟩:=ok.resolve_left λe=>c' (by rw[e];rfl);have e1:((L.length:Int)-1).toNat=L.length-1:=⋯;exists (),(),.ref a,L.length,rfl,.inr {_,aq.of hA,lP.symm},"",_,_,.inr (aq.of hA),jx (ns:=L) (⋯:(0:Int)<=(L.length:Int)-1) ⋯;rw[e1];refine{(),a,rfl,.inr {{_,aq.of hA},UU hA ⋯ rfl (λx=>x*inv p (L.getD (L.length-1) 0)%p) ?_ ?_}}
  .intro H2 x g2 hx k hk;exact{(),(),(),p,x,(),h2,hp,r0,r1,hk}
  .intro D hD;refine{D,(),.inl {aj.of ao,λt ht=>?_}};exact q t _ ((Same.new hD _).trans (Same.new ht _)) ao
theorem aSc(F:Fn K mg "greatest" XH ["by","one","other"])(Gm:ald M)(jO:BQ M):XG M:=by
 delta zH zH
 intros p a c P R o rfl h2 hp hA hC oP oR hg q h;exists _,#[(),(au 3 zH.nd (aH Gm hr #[0,1])),(au 4 zH.nd (aH Gm hr #[0,2])),(pY PassesOwn.never ((cj K B.bZ #[4])>_:) #[(),(au 5 zH.nd (aQ K (aH jO hr #[0,3,4]) aU)),(au 3 zH.nd (4:)),(au 4 zH.nd (aH Gm hr #[0,5]))]),(aF (3:))];refine{(),(),p,a,P,rfl,h2,hp,hA,oP,λtg H1 g1 hG=>?_};refine{(),(),p,c,R,rfl,h2,hp,g1 _ _ hC,oR,λts H2 g2 hS'=>?_};refine{λm σ' H'=>∃(o5:Option V) (tg ts:Addr) (g s:List Int),σ'=[some (.int p),some (.ref a),some (.ref c),some (.ref tg),some (.ref ts),o5]/\Same H H'/\H' tg=some (.tup (g.map V.int))/\H' ts=some (.tup (s.map V.int))/\GN p m g s=some o,
  {16,_,tg,ts,_,(),g1.trans g2,g2 _ _ hG,hS',hg},?_}
 rintro m σ' H' ⟨o5,tg,ts,gg,ss,rfl,g,hG,hS',I⟩;cases m with
 |zero=>cases I
 |succ m=>
  have lS:(ss.map V.int).length=ss.length:=bG _;exists (),.ref ts,ss.length,rfl,.inr {_,aq.of hS',lS.symm},"",();rw[GN]at I;refine cI (λcc=>?_) (λcc=>?_)
  .have hs:ss≠[]:=λe=>by have:=dec_true cc;rw[e]at this;simp at this
   rw[if_neg hs]at I;split at I
   .rename_i ok
    rw[cW]at ok;refine{_,λ_ _ z=>z,?_};refine{(),(),(),p,tg,ts,gg,ss,rfl,hG,hS',ok.1,λt x y H3 g3 hT hX hY=>?_};exists _,_,.inr (aq.of hT),rfl;exists ();refine{(),(),p,y,(),h2,hp,hY,ok.2,λtm H4 g4 hM=>?_};exact{m,vN _,_,ts,tm,ss,(),g.trans (g3.trans g4),(g3.trans g4) _ _ hS',hM,I}
   .cases I
  .have hs:ss=[]:=Dg (by have:=dec_false cc;lia);rw[if_pos hs]at I;cases I;exact{(),q tg H' g hG}
theorem aJR(F:Fn K mg "of_rule" PN ["by","rule"])(cU:jQ M):N7 M:=by
 delta Xf Xf
 intros b a c rfl hb hA zA q h;refine{_,#[(),(fj (i:=2) Xf.nd rfl (dZ rfl) (cj K B.bZ #[1])),(vH (i:=3) (hN:=Xf.nd) (hi':=rfl) (hx:=(ju rfl)) (sc:=aJi) (N:=["k","by","length","rule"]) (ix:=[none,some 0,some 2,some 1]) cM rfl (fL rfl B.dY #[2]) (λ_ _ _ _ _=>{(aY 0 cJ),cO,(aH cU hr #[1,(_-(aQ K (3:) (2-_-0:)):)])})),(aF (fZ (mY K) rfl B.lA boot_tuple #[(3+(cC #[_]):)]))],?_};have lC:(c.map V.int).length=c.length:=bG _;exists (),.ref a,c.length,rfl,.inr {_,aq.of hA,lC.symm};exists (),(c.length:Int),rfl,(⋯:-(2^62)<=(c.length:Int)),(⋯:(c.length:Int)<2^62);rw[gR];refine vm (n:=c.length) ⋯ rfl (λk=>Rm.tk b (0-c.getD (c.length-1-k) 0)) ?_ ?_
 .intro H2 k g2 hk kk hkk;have e1:((c.length:Int)-1-(0+(k:Int))).toNat=c.length-1-k:=⋯;exists (),(),(),"",(),"",_,_,.inr (aq.of (g2 _ _ hA)),jx (ns:=c) (⋯:(0:Int)<=(c.length:Int)-1-(0+(k:Int))) ⋯,"";exists b,(),hb;rw[e1];exact hkk
 .intro D hD;have g1:=Same.new hD (.lst ((gW c.length λk=>Rm.tk b (0-c.getD (c.length-1-k) 0)).map V.int));refine{(),(aZ 1),λl2 hl2=>?_};have g2:=Same.new hl2 (.lst [.int 1]);refine .inl {_,_,g2 _ _ ao,ao,?_,λl3 hl3=>?_}
  .rw[bG,Nz];exact jE (gU (by show _+1<=1000;lia))
  refine{l3,(),.inl {aj.of ao,λt ht=>?_}};refine q t _ (g1.trans (g2.trans ((Same.new hl3 _).trans (Same.new ht _)))) ?_;rw[ao,jm,anB]
theorem azx(F:Fn K mg "rule_of" QN ["by","poly"])(cU:jQ M):Wx M:=by
 delta anM anM
 intros b a p rfl hb hA z0 zA q h;refine{_,#[(),(fj (i:=2) anM.nd rfl (dZ rfl) ((cj K B.bZ #[1])-_:)),(aF (fZ (mY K) rfl B.lA boot_tuple #[(dB (sc:=aQX) (N:=["k","by","length","poly"]) (ix:=[none,some 0,some 2,some 1]) cM rfl (fL rfl B.dY #[2]) (λ_ _ _ _ _=>{(aY 0 cJ),cO,(aH cU hr #[1,(_-(aQ K (3:) (2-_-0:)):)])}))]))],?_};have lC:(p.map V.int).length=p.length:=bG _;exists (),.ref a,p.length,rfl,.inr {_,aq.of hA,lC.symm},"";exists (),(p.length:Int)-1,rfl,(⋯:-(2^62)<=(p.length:Int)-1),(⋯:(p.length:Int)-1<2^62);rw[(⋯:((p.length:Int)-1).toNat=p.length-1)];refine vm (n:=p.length-1) ⋯ rfl (λk=>Rm.tk b (0-p.getD (p.length-1-1-k) 0)) ?_ ?_
 .intro H2 k g2 hk kk hkk;have e1:((p.length:Int)-1-1-(0+(k:Int))).toNat=p.length-1-1-k:=⋯;exists (),(),(),"",(),"",_,_,.inr (aq.of (g2 _ _ hA)),jx (ns:=p) (⋯:(0:Int)<=(p.length:Int)-1-1-(0+(k:Int))) ⋯,"";exists b,(),hb;rw[e1];exact hkk
 .intro D hD;refine{D,(),.inl {aj.of ao,λt ht=>?_}};exact q t _ ((Same.new hD _).trans (Same.new ht _)) ao
theorem aPk(F:Fn K mg "nearest" acf ["modulus","number"]):afZ M:=by
 delta aiG aiG
 intros rfl q h;exists _,#[(),(au 2 aiG.nd (1%0:)),(aF (w6 (_*2>0:) (2-0:) (2:)))];exists (),(),"",∅;refine{(),mulL ∅ ∅,(),"",(),bL ?_};exact{(),q}
theorem aL1(F:Fn K mg "taken_poly" Ze ["prime","poly"])(mZ:Gq M)(cU:jQ M):aiK M:=by
 delta aur aur
 intros p a P' rfl hp hA zA q h;refine{_,(aM (aF (aH mZ hr #[(dB (sc:=aDz) (N:=["number","prime"]) (ix:=[none,some 0]) cM rfl (dh K (1:)) (λ_ _ _ _ _=>{(aY 0 cJ),cO,(aH cU hr #[1,0])}))]))),?_};refine{(),a,rfl,.inr {{_,aq.of hA},UU hA ⋯ rfl (λx=>Rm.tk p x) ?_ ?_}}
 .intro H2 x g2 hx k hk;exact{(),(),p,x,rfl,hp,hk}
 .intro D hD;refine{D,(),aj.of ao,λt1 H3 g3 h3=>?_};exact q t1 H3 ((Same.new hD _).trans g3) h3
theorem aEv(F:Fn K mg "divides" acn ["monic_one","poly"])(jO:BQ M):anL M:=by
 delta awp awp
 intros m a M P' rfl hMm hA ok q h;exists _,(aM (aF (lB (oO K hr) (aQ K (aH jO hr #[_,1,0]) aU) (cF iB) (mF _))));refine{(),(),0,a,m,P',M,rfl,hA,hMm,ok,λt x y H3 g3 hT hX hY=>?_};exists _,_,.inr (aq.of hT),rfl;refine{fJ _,λt0 ht0=>?_};have g4:=Same.new ht0 (.tup []);exact aav (ms:=[]) (aq.of (g4 _ _ hY)) (aq.of ao) (q _ (g3.trans g4))
theorem aPs(F:Fn K mg "joined" abC ["modulus","number","prime","rest"]):ahc M:=by
 exact F.cal aL4 (λH Q E hr h=>h.elim) λ_ _ _ _ h=>h.elim
theorem aN5(F:Fn K mg "whole_greatest" Wj ["one","other"])(MZ:anL M)(aaR:apK M)(zX:XG M)(NZ:aiK M)(acT:afZ M)(UL:ahc M):aeB M:=by
 delta lZ lZ
 intros a c P' T rfl hA hC ok q h;refine{_,#[(),(au 2 lZ.nd (0:)),(fj (i:=3) lZ.nd rfl (dZ rfl) aU),(fj (i:=4) lZ.nd rfl (dZ rfl) (nJ rfl B.Rj)),(au 5 lZ.nd fP),(pY PassesOwn.never (PW.pt (gP (iU (fY (5:))) (gP (iU (fY (aH MZ hr #[2,0]))) (jR (iU (fY (aH MZ hr #[2,1]))))))) #[(),(fj (i:=4) lZ.nd rfl (dZ rfl) (aH aaR hr #[4])),(fj (i:=6) lZ.nd rfl (dZ rfl) (aH zX hr #[4,(aH NZ hr #[4,0]),(aH NZ hr #[4,1])])),(bD ((cj K B.bZ #[6])<(cj K B.bZ #[2]):) #[(),(au 2 lZ.nd (fZ (mY K) rfl B.lA boot_tuple #[(dB (sc:=aDg) (N:=["rest","prime"]) (ix:=[none,some 4]) cM rfl (dh K (6:)) (λ_ _ _ _ _=>{(aY 0 cJ),cO,(aH acT hr #[1,0])}))])),(fj (i:=3) lZ.nd rfl (dZ rfl) (4:)),(au 5 lZ.nd fP)] (aM (tU (bD ((cj K B.bZ #[6])==(cj K B.bZ #[2]):) #[(),(fj (i:=7) lZ.nd rfl (dZ rfl) (2:)),(au 2 lZ.nd (fZ (mY K) rfl B.lA boot_tuple #[(dB (sc:=axr) (N:=["k","before","modulus","prime","seen"]) (ix:=[none,some 7,some 3,some 4,some 6]) cM rfl (fL rfl B.dY #[(cj K B.bZ #[6])]) (λ_ _ _ _ _=>{(aY 0 cJ),cO,(aH UL hr #[2,(aQ K (1:) (0:)),3,(aQ K (4:) (0:))])}))])),(fj (i:=3) lZ.nd rfl (dZ rfl) (3*4:)),(au 5 lZ.nd (lB (oO K hr) (2:) (7:) (mF _)))] bH))))]),(aF (2:))],?_};simp only[JR,cop,cW,decide_eq_true_eq]at ok;obtain⟨⟨⟨⟨⟨⟨⟨⟨⟨d1,d2⟩,d3⟩,d4⟩,e1⟩,e2⟩,e3⟩,e4⟩,hl⟩,⟨⟨⟨_,_⟩,l1⟩,l2⟩,hg⟩:=ok;have Bg:P'.length<=40/\T.length<=40:=by
  simp only[jG,cW,decide_eq_true_eq]at d1 d2;exact{d1.1.1.2,(d2.1.1.1.2)}
 exists ();refine{λm σ' H'=>Same H H'/\∃(o6 o7:Option V) (tt:Addr) (L:List Int) (x y:Int),σ'=[some (.ref a),some (.ref c),some (.ref tt),some (.int x),some (.int y),some (.bl true),o6,o7]/\H' tt=some (.tup (L.map V.int))/\(m=1/\L=P'/\y=1000000∨m=0/\L=[1]),
  {1,Same.refl _,_,_,a,P',1,1000000,rfl,hA,.inl {rfl,rfl,(rfl)}},?_}
 rintro m σ' H' ⟨g,o6,o7,tt,L,x,y,rfl,hT,I⟩;refine{(),true,rfl,bL ?_};have ok1:jG 0 P' L=true/\jG 0 T L=true/\rem 0 P' L=[]:=by
  rcases I with⟨_,rfl,_⟩|⟨_,rfl⟩
  .exact{d1,d2,(e1)}
  .exact{d3,d4,(e3)}
 refine{(),(),tt,a,L,P',rfl,hT,g _ _ hA,ok1.1,λH1 g1=>?_};rw[decide_eq_true ok1.2.2];refine{true,rfl,bL ?_};refine{(),(),tt,c,L,T,rfl,g1 _ _ hT,(g.trans g1) _ _ hC,ok1.2.1,λH2 g2=>?_};have cA:=g.trans (g1.trans g2);have hT2:=(g1.trans g2) _ _ hT;rcases I with⟨rfl,rfl,rfl⟩|⟨rfl,rfl⟩
 .rw[decide_eq_false e2];refine{false,rfl,dM {_,λ_ _ z=>z,?_}};exists (),rfl;refine{(),(),(),1000003,a,L,rfl,∅,cA _ _ hA,⋯,λt1 H3 g3 h3=>?_};refine{(),(),1000003,c,T,rfl,∅,(cA.trans g3) _ _ hC,⋯,λt2 H4 g4 h4=>?_};refine{1000003,t1,t2,_,_,[1],rfl,∅,∅,g4 _ _ h3,h4,l1,l2,hg,λts H5 g5 hS=>?_};have gy:=cA.trans (g3.trans (g4.trans g5));have hTy:=(g3.trans (g4.trans g5)) _ _ hT2;exists (),.ref ts,1,rfl,.inr {_,aq.of hS,rfl},(),.ref tt,L.length,rfl,.inr {_,aq.of hTy,(bG _).symm},"",();rw[decide_eq_true (⋯:((1:Nat):Int)<(L.length:Int))];refine dM {(),ts,rfl,.inr {{_,aq.of hS},UU hS ∅ rfl (λx=>x) ?_ ?_}}
  .intro H6 x g6 hx kk hk;rw[kO.mp hx]at hk⊢;exact{(),(),rfl,hk}
  .intro D hD;refine{D,(),.inl {aj.of ao,λtn ht=>?_}};exists ();exact{0,∅,gy.trans ((Same.new hD _).trans (Same.new ht _)),_,_,tn,[1],_,(),ao,.inr {rfl,(rfl)}}
 .rw[decide_eq_true e4];exact{true,rfl,bL {(),q tt H2 cA hT2}}
theorem awN(F:Fn K mg "shared_divisor" Wq ["by","one","other"])(WC:aeB M)(zX:XG M):alx M:=by
 delta azP azP
 intros b a c P' T rfl hA hC ok q h;exists _,(aM (aF (w6 (0==_:) (aH WC hr #[1,2]) (aH zX hr #[0,1,2]))));refine{(),(),cI (λz=>?_) (λz=>?_)}
 .rw[if_pos (dec_true z)]at ok;exact{(),(),a,c,P',T,rfl,hA,hC,ok,q}
 .rw[if_neg (dec_false z)]at ok;simp only[cop,cW,decide_eq_true_eq]at ok;exact{(),(),(),b,a,c,P',T,[1],rfl,ok.1.1.1.1,ok.1.1.1.2,hA,hC,ok.1.1.2,ok.1.2,ok.2,q}
theorem ay5(F:Fn K mg "top_of" acB ["row","poly"])(cU:jQ M)(mZ:Gq M):am8 M:=by
 delta zj zj
 obtain⟨v,r,a,P',rfl,⟨a0,p,p2,rfl,hA,hR,hS⟩,b0,hl,hs,OL,Jx,hP,q⟩:=h;refine{_,#[(),(au 2 zj.nd (-0:)),(fj (i:=3) zj.nd rfl (dZ rfl) (-0:)),(au 4 zj.nd (cC iB)),(gk PassesOwn.never rfl (fL rfl B.dY #[(cj K B.bZ #[3])]) (aa7 (i:=5) zj.nd rfl (dZ rfl)) #[(),(vH (i:=6) (hN:=zj.nd) (hi':=rfl) (hx:=(ju rfl)) (sc:=axw) (N:=["j","k","poly","starts"]) (ix:=[none,some 5,some 1,some 3]) cM rfl (xX rfl B.dY #[(5+_:),(cj K B.bZ #[1])]) (λ_ _ _ _ _=>{(aY 0 cJ),cO,((aQ K (2:) (0:))*(aQ K (3:) (0-_-1:)):)})),(dJ (jy K (4:) (aH cU hr #[2,(eU (Km K rfl) rfl B.Ma boot_sum #[6])])))]),(aF (aH mZ hr #[4]))],?_};have lS:(r.starts.map V.int).length=r.starts.length:=bG _;have lP:(P'.map V.int).length=P'.length:=bG _;exists (),_,_,.inr (aq.of hA),rfl;exists (),_,_,.inr (aq.of hA),rfl;refine{fJ _,λl0 h0=>?_};have g0:=Same.new h0 (.lst []);exists (),.ref p2,r.starts.length,rfl,.inr {_,aq.of (g0 _ _ hS),lS.symm};exists (r.starts.length:Int),rfl,(⋯:-(2^62)<=(r.starts.length:Int)),(⋯:(r.starts.length:Int)<2^62);refine kY (lo:=0) (n:=(r.starts.length:Int).toNat) (λi σ' H'=>∃o5 o6,σ'=[some (.ref a0),some (.ref a),some (.int r.b),some (.ref p2),some (.ref l0),o5,o6]/\Same H H'/\H' l0=some (.lst ((gW i λk=>Rm.tk r.b ((gW (P'.length-(k+1)) λi=>P'.getD (k+1+i) 0*r.starts.getD i 0).sum)).map V.int)))
  {_,(),g0,ao} ?_ ?_
 .rintro i σ' H' hi ⟨o5,o6,rfl,g,hL⟩;have hi':i<r.starts.length:=⋯;exists (),(),.ref a,P'.length,rfl,.inr {_,aq.of (g _ _ hP),lP.symm};exists _,(),{⋯,⋯,⋯,⋯};rw[(⋯:((P'.length:Int)-(0+(i:Int)+1)).toNat=P'.length-(i+1))];refine aLA (lo:=0+(i:Int)+1) (n:=P'.length-(i+1)) ⋯ rfl (λk=>P'.getD (i+1+k) 0*r.starts.getD k 0) ?_ ?_
  .intro H2 k g2 hk kk hkk;have e1:(0+(i:Int)+1+(k:Int)).toNat=i+1+k:=⋯;have e2:(0+(i:Int)+1+(k:Int)-1-(0+(i:Int))).toNat=k:=⋯;exists (),(),_,_,.inr (aq.of (g2 _ _ (g _ _ hP))),jx (ns:=P') (⋯:(0:Int)<=0+(i:Int)+1+(k:Int)) ⋯;exists (),(),"",(),"",_,_,.inr (aq.of (g2 _ _ (g _ _ hS))),jx (ns:=r.starts) (⋯:(0:Int)<=0+(i:Int)+1+(k:Int)-1-(0+(i:Int))) ⋯;exists ux (rF OL _) (rF Jx _);rw[e1,e2];exact hkk
  .intro D hD;have g3:=Same.new hD (.lst ((gW (P'.length-(i+1)) λk=>P'.getD (i+1+k) 0*r.starts.getD k 0).map V.int));have qN:=g3 _ _ hL;have lL:((gW i λk=>Rm.tk r.b ((gW (P'.length-(k+1)) λi=>P'.getD (k+1+i) 0*r.starts.getD i 0).sum)).map V.int).length=i:=by rw[bG,Nz]
   exists (),.inl {rfl,_,aj.of qN},(),(),D,(),aj.of ao,r.b,(),b0;refine{l0,"",qN,?_,?_}
   .rw[lL];exact gU ⋯
   .exists _,(),(g.trans g3).upd h0 _;rw[ao,aRB,anB]
 .rintro σ' H' ⟨o5,o6,rfl,g,hL⟩;exact{(),l0,(),aj.of hL,λt H2 g2 ht=>q t H2 (g.trans g2) (by rw[gR]at ht;exact ht)}
theorem aKI(F:Fn K mg "least_of" WK ["row"])(qy:N7 M)(Qc:am8 M)(jO:BQ M)(U4:alx M):Xl M:=by
 delta JZ JZ
 intros v r rfl hR ok q h;exists _,#[(),(au 1 JZ.nd (-0:)),(au 2 JZ.nd (aH qy hr #[1,-0])),(au 3 JZ.nd (aH Qc hr #[0,2])),(aF (aQ K (aH jO hr #[1,2,(aH U4 hr #[1,2,3])]) aU))];obtain⟨a,p,p2,rfl,hA,hP,hS⟩:=id hR;simp only[jK,cW,decide_eq_true_eq]at ok;obtain⟨⟨⟨⟨⟨⟨⟨⟨⟨⟨b0,hl⟩,h12⟩,OL⟩,Jx⟩,d1⟩,hq⟩,_⟩,_⟩,_⟩,hc⟩:=ok;exists (),_,_,.inr (aq.of hA),rfl;refine{(),(),_,_,.inr (aq.of hA),rfl,r.b,p,r.rule,rfl,b0,hP,⋯,λtp H1 g1 h1=>?_};have lo:=Oe r.b r.rule;refine{(),(),_,r,tp,(),hR.same g1,b0,⋯,⋯,OL,Jx,h1,λtt H2 g2 h2=>?_};refine{(),(),(),(),(),r.b,tp,tt,_,(),g2 _ _ h1,h2,?_,λts H3 g3 h3=>?_}
 .by_cases z:r.b=0
  .rw[if_pos z]at hc ⊢;rw[z];exact hc
  .rw[if_neg z]at hc ⊢;exact hc
 refine{r.b,tp,ts,_,[1],rfl,(g2.trans g3) _ _ h1,h3,d1,λt x y H4 g4 hT hX hY=>?_};exists _,_,.inr (aq.of hT),rfl;rw[hq]at hX;exact q x H4 (g1.trans (g2.trans (g3.trans g4))) hX
theorem auR(F:Fn K mg "shortest" Zr ["row"])(Bu:Xl M)(Ae:Wx M):uF M:=by
 delta Y4 Y4
 intros v r rfl hR ok q h;exists _,#[(),(au 1 Y4.nd (aH Bu hr #[0])),(au 2 Y4.nd (aH Ae hr #[-0,1])),(aF (cF #[-0,2,(fZ (mY K) rfl B.lA boot_tuple #[(jq (kW K) (-0:) jr (jd (cj K B.bZ #[2])))])]))];obtain⟨a,p,p2,rfl,hA,hP,hS⟩:=id hR;have ok':=ok;simp only[jK,cW,decide_eq_true_eq]at ok;obtain⟨⟨⟨⟨⟨⟨⟨⟨⟨⟨b0,hl⟩,h12⟩,_⟩,Jx⟩,d1⟩,hq⟩,hr'⟩,_⟩,_⟩,hc⟩:=ok;have lo:=Oe r.b r.rule;refine{(),_,r,rfl,hR,ok',λtl H1 g1 h1=>?_};refine{(),_,_,.inr (aq.of (g1 _ _ hA)),rfl,(),r.b,tl,(),b0,h1,⋯,⋯,λtr H2 g2 h2=>?_};rw[hr']at h2;have cA:=g1.trans g2;have uI:=cA _ _ hA;have hS2:=cA _ _ hS;exists (),_,_,.inr (aq.of uI),rfl,(),(),_,_,.inr (aq.of uI),rfl;exists (),.ref tr,r.rule.length,rfl,.inr {_,aq.of h2,(bG _).symm};refine{(),.inr (.inr {_,aq.of hS2,?_,?_})}
 .rw[HT.yV,HT.yJ,bG];lia
 .refine{p2,(),.inr {aq.of hS2,(aZ 3),λt ht=>?_}};have g3:=Same.new ht (.tup [.int r.b,.ref tr,.ref p2]);exact q (.ref t) _ (cA.trans g3) {t,tr,p2,rfl,ao,g3 _ _ h2,g3 _ _ hS2}
theorem aJF(F:Fn K mg "shared_by" WW ["one","other"]):KQ M:=by
 delta aQV
 obtain⟨v1,v2,r1,r2,rfl,⟨a1,p1,q1,rfl,LC,_,_⟩,⟨a2,p2,q2,rfl,uI,_,_⟩,q,qE⟩:=h;exists _,#[(),(bD (-0!=(-1):) (aM (iM M.O7 rfl #[""])) bH),(aF (-0:))];exists (),_,_,.inr (aq.of LC),rfl,(),_,_,.inr (aq.of uI),rfl,();by_cases e:r1.b=r2.b
 .rw[decide_eq_true e];exact bL {(),_,_,.inr (aq.of LC),rfl,q e}
 .rw[decide_eq_false e];exact dM {(aZ 1),(qE e).now}
theorem aBZ(F:Fn K mg "refuse_prime" Ob ["row"]):zZ M:=by
 delta aFv
 obtain⟨v,r,rfl,⟨a,p,p2,rfl,hA,hR,hS⟩,q1,q2⟩:=h;exists _,(aM (bD (-0!=_:) (aM (iM M.O7 rfl #[""])) bH));exists (),_,_,.inr (aq.of hA),rfl,();by_cases e:r.b=0
 .rw[decide_eq_true e];exact bL (q1 e)
 .rw[decide_eq_false e];exact dM {(aZ 1),(q2 e).now}
theorem axD(F:Fn K mg "refuse_long" SJ ["length"]):J0 M:=by
 delta aRa
 intros n rfl q1 q2 h;exists _,(aM (bD (0>(nJ rfl B.JN):) (aM (iM M.aAE rfl #[""])) bH));exists (),"",();exact cI (λc=>{(aZ 1),(q2 (dec_true c)).now}) (λc=>q1 (by have:=dec_false c;lia))
theorem aOb(F:Fn K mg "refuse_far_steps" Rg ["start","step"]):Ri M:=by
 delta axF
 intros s e rfl h qE h;exists _,(aM (bD (PW.pt (gP (0<_:) (gP (0>(nJ rfl B.abt):) (gP (1<_:) (jR (1>(nJ rfl B.Vp):)))))) (aM (iM M.Ke rfl #[""])) bH));simp only[BF,qD,decide_eq_true_eq]at h;refine{(),"",(),cI (λc=>{(aZ 1),qE.now}) (λc1=>?_)};refine{(),"",(),cI (λc=>{(aZ 1),qE.now}) (λc2=>?_)};refine{(),"",(),cI (λc=>{(aZ 1),qE.now}) (λc3=>?_)};refine{(),"",(),cI (λc=>{(aZ 1),qE.now}) (λc4=>?_)};have:=dec_false c1;have:=dec_false c2;have:=dec_false c3;have:=dec_false c4;lia
theorem arU(F:Fn K mg "told_row" Ym ["by","rule","starts"])(cU:jQ M)(iH:uF M):JQ M:=by
 delta QD QD
 intros b a e ns ms rfl hA hC ok q h;refine{_,#[(),(au 3 QD.nd (fZ (mY K) rfl B.lA boot_tuple #[(dB (sc:=aH3) (N:=["number","by"]) (ix:=[none,some 0]) cM rfl (dh K (1:)) (λ_ _ _ _ _=>{(aY 0 cJ),cO,(aH cU hr #[1,0])}))])),(au 4 QD.nd (fZ (mY K) rfl B.lA boot_tuple #[(dB (sc:=aMF) (N:=["number","by"]) (ix:=[none,some 0]) cM rfl (dh K (2:)) (λ_ _ _ _ _=>{(aY 0 cJ),cO,(aH cU hr #[1,0])}))])),(aF (aH iH hr #[(cF #[0,3,4])]))],?_};have ok':=ok;simp only[jK,cW,decide_eq_true_eq]at ok';obtain⟨⟨⟨⟨⟨⟨⟨⟨⟨⟨b0,hl⟩,h12⟩,_⟩,_⟩,_⟩,_⟩,_⟩,tn⟩,tm⟩,_⟩:=ok';refine{(),a,rfl,.inl {{_,aj.of hA},Em hA ⋯ rfl (Rm.tk b) ?_ ?_}}
 .intro H2 x g2 hx kk hkk;exact{(),(),b,x,rfl,b0,hkk}
 intro D hD;rw[tn];refine{D,(),.inl {aj.of ao,λt1 ht1=>?_}};have Xy:=(Same.new hD (.lst (ns.map V.int))).trans (Same.new ht1 (.tup (ns.map V.int)));have h1:(upd (upd H D (.lst (ns.map V.int))) t1 (.tup (ns.map V.int))) t1=some (.tup (ns.map V.int)):=ao;generalize upd (upd H D (.lst (ns.map V.int))) t1 (.tup (ns.map V.int))=H1 at Xy h1;have sy:=Xy _ _ hC;refine{(),e,rfl,.inl {{_,aj.of sy},Em sy ⋯ rfl (Rm.tk b) ?_ ?_}}
 .intro H2 x g2 hx kk hkk;exact{(),(),b,x,rfl,b0,hkk}
 intro D2 hD2;rw[tm];refine{D2,(),.inl {aj.of ao,λt2 Ey=>?_}};have cA:=(Same.new hD2 (.lst (ms.map V.int))).trans (Same.new Ey (.tup (ms.map V.int)));have h2:(upd (upd H1 D2 (.lst (ms.map V.int))) t2 (.tup (ms.map V.int))) t2=some (.tup (ms.map V.int)):=ao;have h12:=cA _ _ h1;generalize upd (upd H1 D2 (.lst (ms.map V.int))) t2 (.tup (ms.map V.int))=H2 at cA h2 h12;refine{(),(),(),(aZ 3),λt3 C0=>?_};have g3:=Same.new C0 (.tup [.int b,.ref t1,.ref t2]);exact{.ref t3,{b,ns,(ms)},rfl,{t3,t1,t2,rfl,ao,g3 _ _ h12,g3 _ _ h2},ok,q.up (Xy.trans (cA.trans g3))}
theorem aIy(F:Fn K mg "sum_place" Pb ["ours","theirs","n"]):aos M:=by
 exact F.cal asQ (λH Q E hr h=>h.elim) λ_ _ _ _ h=>h.elim
theorem avb(F:Fn K mg "rolled_place" ZK ["ours","theirs","n"]):afP M:=by
 exact F.cal aPL (λH Q E hr h=>h.elim) λ_ _ _ _ h=>h.elim
theorem avc(F:Fn K mg "product_place" XE ["ours","theirs","n"]):W8 M:=by
 refine F.cal axO (λH Q E hr h=>?_) λ_ _ _ _ h=>by obtain⟨l1,l2,x,y,rfl,_⟩:=h;rfl
 intros l1 l2 x y rfl h1 h2 b1 b2 q h;exists _,(aM (aF ((aQ K (0:) (2:))*(aQ K (1:) (2:)):)));exact{(),(),_,.int x,.inl (aj.of h1),rfl,(),(),_,.int y,.inl (aj.of h2),rfl,ux b1 b2,q}
theorem arY(F:Fn K mg "pair_row" abz ["one","other","rule","pair_place"])(gQ:uL M)(sI:JQ M)(BH:W8 M):Qk M:=by
 refine F.cal JB (λH Q E hr h=>?_) λ_ _ _ _ h=>by obtain⟨v1,v2,t,g,x,y,z,rfl,_⟩:=h;rfl
 intros v1 v2 t g x y z rfl hg Hr lV hT bx by' ok q h;refine{_,#[(),(au 4 JB.nd (cj K B.bZ #[2])),(fj (i:=5) JB.nd rfl (dZ rfl) (aH gQ hr #[0,4])),(fj (i:=6) JB.nd rfl (dZ rfl) (aH gQ hr #[1,4])),(aF (aH sI hr #[-0,2,(dB (sc:=aBT) (N:=["n","ours","pair_place","theirs"]) (ix:=[none,some 5,some 3,some 6]) cM rfl (fL rfl B.dY #[4]) (λ_ _ _ _ _=>{(aY 0 cJ),cO,(aG4 BH hr (2:) #[1,3,0])}))]))],?_};exists (),.ref t,1,rfl,.inl {_,aj.of hT,rfl};refine{(),(),v1,_,1,rfl,Hr,adV bx by',∅,λl1 H1 g1 f1 h1=>?_};refine{(),(),v2,_,1,rfl,lV.same g1,adV bx by',∅,λl2 H2 g2 f2 h2=>?_};have cA:=g1.trans g2;obtain⟨a1,p1,q1,rfl,LC,Qh,hS1⟩:=id (Hr.same cA);have h12:=g2 _ _ h1;exists (),_,_,.inr (aq.of LC),rfl,(),(),1,rfl,∅,∅;refine vm (n:=1) ∅ rfl (λ_=>y*y) ?_ ?_
 .intro H8 k g8 hk kk hkk;obtain rfl:k=0:=⋯;exact{(),{g,hg,(rfl)},(),(),(),l1,l2,y,y,rfl,g8 _ _ h12,g8 _ _ h2,by',by',hkk}
 .intro D hD;have g8:=Same.new hD (.lst [.int (y*y)]);exact{0,t,D,[z],[y*y],rfl,g8 _ _ (cA _ _ hT),ao,ok,q.up (cA.trans g8)}
theorem aNi(F:Fn K mg "joint_row" Xu ["one","other","pair_place"])(rE:KQ M)(iH:uF M)(tu:J0 M)(xQ:aal M)(qy:N7 M)(BJ:Qk M)(Ae:Wx M):Vt M:=by
 delta IZ
 intros v1 v2 g r s' rfl h1 h2 hb q h;exists _,#[(),(au 3 IZ.nd (cL rE hr rfl #[0,1])),(au 4 IZ.nd (aH iH hr #[0])),(au 5 IZ.nd (aH iH hr #[1])),(dJ (cL tu hr rfl #[((cj K B.bZ #[-4])+(cj K B.bZ #[-5]):)])),(au 6 IZ.nd (aH xQ hr #[3,(aH qy hr #[3,-4]),(aH qy hr #[3,-5])])),(aF (aH BJ hr #[4,5,(aH Ae hr #[3,6]),2]))];exact{(),(),v1,v2,r,s',rfl,h1,h2,λz=>absurd z hb,λ_=>q}
theorem axM(F:Fn K mg "added" YQ ["one","other"])(yE:Vt M)(aaX:aos M):aob M:=by
 delta aQf
 intros v1 v2 r s' rfl h1 h2 hb q h;exists _,(aM (aF (cL yE hr rfl #[0,1,(v9 aaX rfl)])));exact{(),(),λg hg=>{v1,v2,g,r,s',rfl,h1,h2,hb,(q)}}
theorem aNb(F:Fn K mg "rolled" Vb ["one","other"])(yE:Vt M)(Om:afP M):alC M:=by
 delta avT
 intros v1 v2 r s' rfl h1 h2 hb q h;exists _,(aM (aF (cL yE hr rfl #[0,1,(v9 Om rfl)])));exact{(),(),λg hg=>{v1,v2,g,r,s',rfl,h1,h2,hb,(q)}}
theorem aRh(F:Fn K mg "behind_first" VZ ["rule","sums","k"]):Rq M:=by
 delta aqG aqG
 intros a c rule rfl hA hl q h;refine{_,#[(),(au 3 aqG.nd (eU (aum rfl) rfl B.aLs boot_min #[(2-_:),(cj K B.bZ #[0])])),(aF (eU (Km K rfl) rfl B.Ma boot_sum #[(dB (sc:=aHr) (N:=["i","k","rule","sums"]) (ix:=[none,some 2,some 0,some 1]) cM rfl (fL rfl B.dY #[3]) (λ_ _ _ _ _=>{(aY 0 cJ),cO,((aQ K (2:) (0:))*(aQ K (3:) (1-_-0:)):)}))]))],?_};have lR:(rule.map V.int).length=rule.length:=bG _;exists (),"",(),.ref a,rule.length,rfl,hA.elim (λh=> .inl {_,aj.of h,lR.symm}) (λh=> .inr {_,aq.of h,lR.symm}),1-1,(rule.length:Int),rfl;rw[show(if(rule.length:Int)<1-1 then(rule.length:Int)else 1-1)=0 by split<;>lia];exists (),0,rfl,∅,∅;refine vm (n:=0) ∅ rfl (λ_=>0) (λ_ k _ hk=>absurd hk (aoZ k)) ?_;intro D hD;exact{D,[],rfl,aj.of ao,q _ (Same.new hD _)}
theorem aOp(F:Fn K mg "power_sums" Qf ["rule","count"])(yH:Rq M):ab1 M:=by
 delta J2 J2
 intros a x rfl hA q h;exists _,#[(),(au 2 J2.nd (cC iB)),(gk PassesOwn.never rfl (xX rfl B.dY #[_,(1+_:)]) (aY 3 J2.nd) #[(),(au 4 J2.nd (Xi (w6 (3<=(cj K B.bZ #[0]):) (3*(aQ K (0:) (3-_:)):) aU))),(dJ (jy K (2:) (4+(aH yH hr #[0,2,3]):)))]),(aF (2:))];refine{(aZ 0),λl hl=>?_};exists (),1,1+1,rfl,{∅,∅,∅,∅};refine kY (lo:=1) (n:=1) (λi σ' H'=>∃(o3 o4:Option V),σ'=[some (.ref a),some (.int 1),some (.ref l),o3,o4]/\Same H H'/\H' l=some (.lst (if i=0 then[]else[.int x]))) {none,none,rfl,Same.new hl _,ao} ?_ ?_
 .rintro i σ' H' hi ⟨o3,o4,rfl,g,hL⟩;obtain rfl:i=0:=⋯;have hA':=g _ _ hA;refine Bar.by (λv H1=>v = .int x/\H1=H') (λkk hkk=>?_) ?_
  .refine{(),(),.ref a,1,rfl,.inr {_,aq.of hA',rfl},"",(),dM ?_};refine{(),(),(),"",_,V.int x,.inr (aq.of hA'),rfl,mulL ∅ ∅,hkk _ _ {by show V.int (1*x)=_;rw[Int.one_mul],rfl}}
  rintro _ _ ⟨rfl,rfl⟩;refine{(),.inl {rfl,_,aj.of hL},(),(),(),(),a,l,[x],rfl,.inr hA',(by show 1<=12;decide),λH2 g2=>?_};have hL2:=g2 _ _ hL;exists l,"",hL2,(by show 0<sizeLine;decide),_,_,rfl,(g.trans g2).upd hl _;rw[ao,Int.add_zero];rfl
 .rintro σ' H' ⟨o3,o4,rfl,g,hL⟩;exact{(),q l H' g hL}
theorem aBN(F:Fn K mg "rule_of_sums" QT ["sums"])(yH:Rq M):Tz M:=by
 delta Ul Ul
 intros c x rfl hC q h;exists _,#[(),(au 1 Ul.nd (cC iB)),(gk PassesOwn.never rfl (xX rfl B.dY #[_,((cj K B.bZ #[0])+_:)]) (aY 2 Ul.nd) (aM (dJ (jy K (1:) (((aQ K (0:) (2-_:))-(aH yH hr #[1,0,2]))/2:))))),(aF (1:))];refine{(aZ 0),λl hl=>?_};have gl:=Same.new hl (.lst []);exists (),.ref c,1,rfl,.inl {_,aj.of (gl _ _ hC),rfl},1,1+1,rfl,{∅,∅,∅,∅};refine kY (lo:=1) (n:=1) (λi σ' H'=>∃(o2:Option V),σ'=[some (.ref c),some (.ref l),o2]/\Same H H'/\H' l=some (.lst (if i=0 then[]else[.int x]))) {none,rfl,gl,(ao)} ?_ ?_
 .rintro i σ' H' hi ⟨o2,rfl,g,hL⟩;obtain rfl:i=0:=⋯;have hC':=g _ _ hC;refine{(),.inl {rfl,_,aj.of hL},(),(),"",_,V.int x,.inl (aj.of hC'),rfl,(),(),(),l,c,[],rfl,.inl hL,∅,λH2 g2=>?_};have hL2:=g2 _ _ hL;exists "",(),"",{∅,∅},l,"",hL2,(by show 0<sizeLine;decide),_,rfl,(g.trans g2).upd hl _;rw[ao,Int.sub_zero];show some (HO.lst [.int (x/1)])=_;rw[GP];rfl
 .rintro σ' H' ⟨o2,rfl,g,hL⟩;exact{(),q l H' g hL}
theorem aPU(F:Fn K mg "multiplied" Z2 ["one","other"])(rE:KQ M)(iH:uF M)(tu:J0 M)(wL:ab1 M)(Bs:Tz M)(BJ:Qk M)(BH:W8 M):aeS M:=by
 delta yr
 intros v1 v2 r s' rfl Hr lV h h;refine{_,#[(),(dJ (cL rE hr rfl #[0,1])),(au 2 yr.nd (aH iH hr #[0])),(au 3 yr.nd (aH iH hr #[1])),(au 4 yr.nd ((cj K B.bZ #[-2])*(cj K B.bZ #[-3]):)),(dJ (cL tu hr rfl #[4])),(fj (i:=5) yr.nd rfl (dZ rfl) (aH wL hr #[-2,4])),(fj (i:=6) yr.nd rfl (dZ rfl) (aH wL hr #[-3,4])),(au 7 yr.nd (aH Bs hr #[(dB (sc:=aIC) (N:=["k","our_sums","their_sums"]) (ix:=[none,some 5,some 6]) cM rfl (fL rfl B.dY #[4]) (λ_ _ _ _ _=>{(aY 0 cJ),cO,((aQ K (1:) (0:))*(aQ K (2:) (0:)):)}))])),(aF (aH BJ hr #[2,3,7,(v9 BH rfl)]))],?_};refine{(),(),v1,v2,r,s',rfl,Hr,lV,λe=>?_,λe=>?_}
 rotate_left
 .rcases h with⟨_,q⟩|⟨x,y,rfl,rfl,_⟩
  .exact q
  .exact absurd rfl e
 rcases h with⟨z,q⟩|⟨x,y,rfl,rfl,ok,q⟩
 .exact absurd e z
 simp only[Yr,cW]at ok;obtain⟨⟨⟨c1,c2⟩,bx⟩,by'⟩:=ok;refine{(),v1,(),Hr,c1,λx1 H1 g1 hS1=>?_};refine{(),v2,(),lV.same g1,c1,λx2 H2 g2 hS2=>?_};have aj9:=hS1.same g2;obtain⟨a1,p1,t1,rfl,sy,Qh,hT1⟩:=id aj9;obtain⟨a2,p2,t2,rfl,hC2,hP2,hT2⟩:=id hS2;exists (),_,_,.inr (aq.of sy),rfl,.ref p1,1,rfl,.inr {_,aq.of Qh,rfl},(),_,_,.inr (aq.of hC2),rfl,.ref p2,1,rfl,.inr {_,aq.of hP2,rfl},mulL ∅ ∅;refine{(),1,rfl,λ_=>?_,λz=>absurd z ∅};refine{(),_,_,.inr (aq.of sy),rfl,(),p1,x,rfl,Qh,λl5 H5 g5 h5=>?_};refine{(),_,_,.inr (aq.of (g5 _ _ hC2)),rfl,(),p2,x,rfl,g5 _ _ hP2,λl6 H6 g6 h6=>?_};have h56:=g6 _ _ h5;exists (),1,rfl,∅,∅;refine vm (n:=1) ∅ rfl (λ_=>x*x) ?_ ?_
 .intro H7 k g7 hk kk hkk;obtain rfl:k=0:=⋯;exact{(),(),_,V.int x,.inl (aj.of (g7 _ _ h56)),rfl,(),(),_,V.int x,.inl (aj.of (g7 _ _ h6)),rfl,ux bx bx,hkk}
 .intro D hD;refine{D,x*x,rfl,ao,λl8 H8 g8 h8=>?_};have R8:=g5.trans (g6.trans ((Same.new hD _).trans g8));exact{(),(),(),λg hg=>{.ref a1,.ref a2,l8,g,x,y,x*x,rfl,hg,aj9.same R8,hS2.same R8,h8,bx,by',c2,q.up (g1.trans (g2.trans R8))}}
theorem aFo(F:Fn K mg "every" Oh ["row","start","step"])(AX:Ri M)(iH:uF M)(wL:ab1 M)(gQ:uL M)(Bs:Tz M)(sI:JQ M):amE M:=by
 delta yI
 intros v st e rfl h q h;refine{_,#[(),(dJ (cL AX hr rfl #[1,2])),(au 3 yI.nd (aH iH hr #[0])),(au 4 yI.nd (cj K B.bZ #[-3])),(fj (i:=5) yI.nd rfl (dZ rfl) (aH wL hr #[-3,(2*4:)])),(fj (i:=6) yI.nd rfl (dZ rfl) (aH gQ hr #[3,(1+2*4:)])),(au 7 yI.nd (aH Bs hr #[(dB (sc:=atA) (N:=["k","step","sums"]) (ix:=[none,some 2,some 5]) cM rfl (xX rfl B.dY #[_,(4+_:)]) (λ_ _ _ _ _=>{(aY 0 cJ),cO,(aQ K (2:) (1*0-_:))}))])),(aF (aH sI hr #[-0,7,(dB (sc:=ayF) (N:=["k","found","start","step"]) (ix:=[none,some 6,some 1,some 2]) cM rfl (fL rfl B.dY #[4]) (λ_ _ _ _ _=>{(aY 0 cJ),cO,(aQ K (1:) (2+3*0:))}))]))],?_};exact{(),(),st,e,rfl,h,q}
theorem aJ7(F:Fn K mg "scaled" Ww ["row","number"]):ac6 M:=by
 exact F.cal aF1 (λH Q E hr h=>h.elim) λ_ _ _ _ h=>h.elim
theorem aC0(F:Fn K mg "summed" YF ["row"]):amy M:=by
 exact F.cal aQQ (λH Q E hr h=>h.elim) λ_ _ _ _ h=>h.elim
theorem auz(F:Fn K mg "put_ahead" acF ["row","numbers"])(iH:uF M)(tu:J0 M)(sI:JQ M):amO M:=by
 delta Qe
 intros v r ln ns rfl hR ok hN gj h h;exists _,#[(),(au 2 Qe.nd (aH iH hr #[0])),(dJ (cL tu hr rfl #[((cj K B.bZ #[-2])+(cj K B.bZ #[1]):)])),(au 3 Qe.nd ((fZ (xlist K) rfl B.uJ boot_list #[-2])+(cC #[_])*(cj K B.bZ #[1]):)),(aF (aH sI hr #[-0,3,((fZ (xlist K) rfl B.uJ boot_list #[1])+(fZ (xlist K) rfl B.uJ boot_list #[-2]):)]))];obtain⟨a,p,p2,rfl,hA,hP,hS⟩:=id hR;have lN:(ns.map V.int).length=ns.length:=bG _;refine{(),.ref a,r,rfl,hR,ok,λv2 H2 g2 lV=>?_};obtain⟨a2,s1,s2,rfl,uI,hP2,hS2⟩:=id lV;have W5:=g2 _ _ hN;exists (),_,_,.inr (aq.of uI),rfl,.ref s1,r.rule.length,rfl,.inr {_,aq.of hP2,(bG _).symm},(),.ref ln,ns.length,rfl,.inl {_,aj.of W5,lN.symm};refine{(r.rule.length:Int)+(ns.length:Int),rfl,λhle=>?_,λhlt=>?_}
 rotate_left
 .rcases h with⟨_,q⟩|⟨z,_⟩
  .exact q.up g2
  .lia
 obtain⟨hl,ok2,q⟩:=h.resolve_left λz=>by have:=z.1;lia
 simp only[jK,cW,decide_eq_true_eq]at ok;obtain⟨⟨⟨⟨⟨⟨⟨⟨⟨⟨b0,hls⟩,h12⟩,_⟩,_⟩,_⟩,_⟩,_⟩,_⟩,_⟩,_⟩:=ok;refine{(),_,_,.inr (aq.of uI),rfl,s1,(),.inr (aq.of hP2),λl3 hl3=>?_};have g3:=Same.new hl3 (.lst (r.rule.map V.int));refine{(aZ 1),λl4 jB=>?_};have g4:=Same.new jB (.lst [.int 0]);have h4:(upd (upd H2 l3 (.lst (r.rule.map V.int))) l4 (.lst [.int 0])) l4=some (.lst [.int 0]):=ao;have h3:(upd (upd H2 l3 (.lst (r.rule.map V.int))) l4 (.lst [.int 0])) l3=some (.lst (r.rule.map V.int)):=g4 _ _ ao;have Zv:=g3.trans g4;generalize upd (upd H2 l3 (.lst (r.rule.map V.int))) l4 (.lst [.int 0])=H4 at Zv h3 h4;exists (),.ref ln,ns.length,rfl,.inl {_,aj.of (Zv _ _ W5),lN.symm};refine{_,h4,⋯,⋯,?_,λl5 jX=>?_}
 .show 1*(ns.length:Int).toNat<=sizeLine;rw[ab4];exact jE (gU ⋯)
 rw[show(ns.length:Int).toNat=ns.length from gR _,Uh];have g5:=Same.new jX (.lst ((aX ns.length (0:Int)).map V.int));have h5:(upd H4 l5 (.lst ((aX ns.length (0:Int)).map V.int))) l5=some (.lst ((aX ns.length (0:Int)).map V.int)):=ao;have h35:=g5 _ _ h3;have g35:=Zv.trans g5;generalize upd H4 l5 (.lst ((aX ns.length (0:Int)).map V.int))=H5 at g35 h5 h35;refine .inl {_,_,h35,h5,?_,λl6 oh=>?_}
 .rw[bG,bG,rY];exact jE (gU ⋯)
 rw[<-gC];have g6:=Same.new oh (.lst ((r.rule++aX ns.length 0).map V.int));have h6:(upd H5 l6 (.lst ((r.rule++aX ns.length 0).map V.int))) l6=some (.lst ((r.rule++aX ns.length 0).map V.int)):=ao;have Ax:=g35.trans g6;generalize upd H5 l6 (.lst ((r.rule++aX ns.length 0).map V.int))=H6 at Ax h6;exists (),_,_,.inr (aq.of ((g2.trans Ax) _ _ hA)),rfl,();refine{(),ln,(),.inl (aj.of (Ax _ _ W5)),λl7 HX=>?_};have g7:=Same.new HX (.lst (ns.map V.int));refine{(),_,_,.inr (aq.of (g7 _ _ (Ax _ _ uI))),rfl,s2,(),.inr (aq.of (g7 _ _ (Ax _ _ hS2))),λl8 hl8=>?_};have g8:=Same.new hl8 (.lst (r.starts.map V.int));refine .inl {_,_,g8 _ _ ao,ao,?_,λl9 hl9=>?_}
 .rw[bG,bG];exact jE (gU ⋯)
 rw[<-gC];have Dq:=g7.trans (g8.trans (Same.new hl9 (.lst ((ns++r.starts).map V.int))));exact{r.b,l6,l9,_,(),Dq _ _ h6,ao,ok2,q.up (g2.trans (Ax.trans Dq))}
theorem asl(F:Fn K mg "refuse_far_jump" Sv ["by","n"]):alB M:=by
 delta aHR
 intros b n rfl q qE h;exists _,(aM (bD (PW.pt (gP (1<_:) (jR (PW.pt (xu (0==_:) (wF (1>(nJ rfl B.abo):))))))) (aM (iM M.Ke rfl #[""])) bH));unfold pQ at q qE;refine{(),"",(),cI (λc=>?_) (λc=>?_)}
 .rw[show decide (n<0)=true from c]at qE;exact{(aZ 1),(qE rfl).now}
 rw[show decide (n<0)=false from pG.mpr c]at q qE;refine{(),(),cI (λc=>?_) (λc=>?_)}
 .rw[show decide (b=0)=true from c]at q qE;refine{(),"",(),cI (λc3=>{(aZ 1),(qE c3).now}) (λc3=>q (pG.mpr c3))}
 .rw[show decide (b=0)=false from pG.mpr c]at q;exact bL (q rfl)
theorem aQL(F:Fn K mg "power_left" aaH ["by","poly","n"])(jO:BQ M)(xQ:aal M):agq M:=by
 delta Al Al
 intros b a P' n rfl hA ok q h;exists _,#[(),(au 3 Al.nd (aQ K (aH jO hr #[0,(cF #[_]),1]) aU)),(gk PassesOwn.never rfl (amT rfl B.dY #[((aw1 K (2:))-_:),(Mf JX aU),(Mf JX aU)]) (aY 4 Al.nd) #[(),(au 5 Al.nd (aH xQ hr #[0,3,3])),(tU (bD ((jg aFO (2:) (4:))%_==_:) (aM (au 5 Al.nd (aH xQ hr #[0,5,(cF #[_,_])]))) bH)),(au 3 Al.nd (aQ K (aH jO hr #[0,5,1]) aU))]),(aF (3:))];refine{(),(aZ 1),λt0 ht0=>?_};have g0:=Same.new ht0 (.tup [.int 1]);have eB:zM (n:Int)=pX n:=rfl;simp only[K8,YM,cW,decide_eq_true_eq,gK (p:=λi=>_&&_),jj]at ok;obtain⟨⟨⟨hb,hB⟩,d0⟩,ok⟩:=ok;refine{(),b,t0,a,[1],P',rfl,ao,g0 _ _ hA,d0,λt x y H1 g1 ht hx hy=>?_};exists _,_,.inr (aq.of ht),rfl;exists (),rfl,(),rfl;rw[eB];generalize pX n=B at *;exists "",(),(),(B:Int)-1,-1,rfl,{⋯,⋯,⋯,⋯};refine aiN (lo:=(B:Int)-1) (n:=((B:Int)-1-(-1)).toNat) (λi σ' H'=>∃(p:Addr) (o4 o5:Option V),σ'=[some (.int b),some (.ref a),some (.int n),some (.ref p),o4,o5]/\Same H H'/\H' p=some (.tup (yw V.int (nF b P' n B i))))
  {y,_,(),g0.trans g1,hy} ?_ ?_
 .rintro i σ' H' hi ⟨p,o4,o5,rfl,g,hp⟩;have hi':i<B:=⋯;obtain⟨⟨⟨l1,l2⟩,l3,l4⟩,d⟩:=ok i hi';have eS:nF b P' n B (i+1)=rem b (zx b n (B-(i+1)) (nF b P' n B i)) P':=rfl;rw[eS];generalize nF b P' n B i=l at *;rw[(⋯:(B:Int)-1-(i:Int)=((B-(i+1):Nat):Int))];generalize B-(i+1)=k at *;refine{(),(),(),b,p,p,l,l,rfl,hb,hp,hp,l1,l1,l2,l2,λp2 H2 g2 hp2=>?_};refine uV.by (λσ' H'=>∃p3:Addr,σ'=[some (.int b),some (.ref a),some (.int n),some (.ref p),some (.int (k:Int)),some (.ref p3)]/\Same H H'/\H' p3=some (.tup (yw V.int (zx b n k l)))) (λNN mq=>?_) ?_
  .exists (),(),"",(⋯:(0:Int)<=(k:Int)),"",(∅:(0:Int)<2),();have aGP:((n:Int)/2^(k:Int).toNat)%2=((n/2^k%2:Nat):Int):=by
    rw[gR]
    norm_cast
   rw[aGP];refine cI (λc=>?_) (λc=>?_)
   .have c':n/2^k%2=1:=by have:=dec_true c;lia
    refine{(),(),(aZ 2),λt2 Ey=>?_};have g3:=Same.new Ey (.tup [.int 0,.int 1]);refine{b,p2,t2,Ag b l l,[0,1],rfl,hb,g3 _ _ hp2,ao,l3,∅,l4,by decide +kernel,λp4 H4 g4 hp4=>?_};exact mq _ _ {p4,rfl,g.trans (g2.trans (g3.trans g4)),by rw[zx,if_pos c'];exact hp4}
   .have c':¬n/2^k%2=1:=by have:=dec_false c;lia
    exact mq _ _ {p2,rfl,g.trans g2,by rw[zx,if_neg c'];exact hp2}
  .rintro σ' H3 ⟨p3,rfl,g3,hp3⟩;refine{(),(),(),b,p3,a,_,P',rfl,hp3,g3 _ _ hA,d,λt x y H4 g4 ht hx hy=>?_};exists _,_,.inr (aq.of ht),rfl;exact{y,_,(),g3.trans g4,hy}
 .rintro σ' H' ⟨p,o4,o5,rfl,g,hp⟩;rw[(⋯:((B:Int)-1-(-1)).toNat=B)]at hp;exact{(),q p H' g hp}
theorem aEc(F:Fn K mg "jump" Sd ["row","n"])(ZP:alB M)(aae:agq M)(qy:N7 M)(TQ:agN M):WM M:=by
 delta Kh
 obtain⟨v,r,n,rfl,⟨a,p,p2,rfl,hA,hR,hS⟩,h⟩:=h;refine{_,#[(),(au 2 Kh.nd (-0:)),(au 3 Kh.nd (-0:)),(dJ (cL ZP hr rfl #[2,1])),(fj (i:=4) Kh.nd rfl (dZ rfl) (aH aae hr #[2,(aH qy hr #[2,3]),1])),(aF (fZ (mY K) rfl B.lA boot_tuple #[(dB (sc:=aw4) (N:=["i","left"]) (ix:=[none,some 4]) cM rfl (fL rfl B.dY #[(cj K B.bZ #[3])]) (λ_ _ _ _ _=>{(aY 0 cJ),cO,(aH TQ hr #[1,0])}))]))],?_};exists (),_,_,.inr (aq.of hA),rfl;exists (),_,_,.inr (aq.of hA),rfl;refine{(),(),r.b,n,rfl,λhJ=>?_,λhJ=>?_}
 rotate_left
 .rcases h with⟨_,q⟩|⟨z,_⟩
  .exact q
  .rw[z]at hJ;cases hJ
 obtain⟨_,n,rfl,ok,q⟩:=h.resolve_left λz=>by rw[hJ]at z;cases z.1
 simp only[Lq,cW,decide_eq_true_eq]at ok;intros hl ok ok;have hb:0<=r.b:=by simp only[K8,cW,decide_eq_true_eq]at ok;exact ok.1.1.1
 refine{(),(),(),r.b,p,r.rule,rfl,hb,hR,⋯,λt1 H1 g1 h1'=>?_};refine{(),r.b,t1,_,n,rfl,h1',ok,λt2 H2 g2 h2=>?_};have cA:=g1.trans g2;exists (),.ref p,r.rule.length,rfl,.inr {_,aq.of (cA _ _ hR),(bG _).symm};exists (r.rule.length:Int),rfl,(⋯:-(2^62)<=(r.rule.length:Int)),(⋯:(r.rule.length:Int)<2^62);rw[gR];refine vm (n:=r.rule.length) ⋯ rfl (λi=>(nF r.b (jm r.b r.rule) n (pX n) (pX n)).getD i 0) ?_ ?_
 .intro H3 k g3 hk kk hkk;exists (),(),t2,_,0+(k:Int),rfl,g3 _ _ h2,⋯;rw[(⋯:(0+(k:Int)).toNat=k)];exact hkk
 .intro D hD;exact{D,(),.inl {aj.of ao,λt ht=>q t _ (cA.trans ((Same.new hD _).trans (Same.new ht _))) ao}}
theorem aNa(F:Fn K mg "sum_at" abJ ["by","poly","found","n"])(cU:jQ M):Rx M:=by
 delta aIk aIk
 intros b a l p fo rfl hb hA hL hn zA bA bF q h;refine{_,(aM (aF (aH cU hr #[0,(eU (Km K rfl) rfl B.Ma boot_sum #[(dB (sc:=aEd) (N:=["k","found","n","poly"]) (ix:=[none,some 2,some 3,some 1]) cM rfl (fL rfl B.dY #[(cj K B.bZ #[1])]) (λ_ _ _ _ _=>{(aY 0 cJ),cO,((aQ K (3:) (0:))*(aQ K (1:) (2+0:)):)}))])]))),?_};exists (),(),.ref a,p.length,rfl,.inr {_,aq.of hA,(bG _).symm};exists (p.length:Int),rfl,(⋯:-(2^62)<=(p.length:Int)),(⋯:(p.length:Int)<2^62);rw[gR];refine vm (n:=p.length) zA rfl (λk=>p.getD k 0*fo.getD k 0) ?_ ?_
 .intro H2 k g2 hk kk hkk;have e1:(0+(k:Int)).toNat=k:=⋯;have e2:(0+(0+(k:Int))).toNat=k:=⋯;exists (),(),_,_,.inr (aq.of (g2 _ _ hA)),jx (ns:=p) (⋯:(0:Int)<=0+(k:Int)) ⋯;exists (),(),(),_,_,.inr (aq.of (g2 _ _ hL)),jx (ns:=fo) (⋯:(0:Int)<=0+(0+(k:Int))) ⋯;exists ux (rF bA _) (rF bF _);rw[e1,e2];exact hkk
 .intro D hD;exact{D,(),aj.of ao,b,(),hb,q _ (Same.new hD _)}
theorem ayv(F:Fn K mg "place_at" Tw ["row","n"])(Ay:Rx M)(yZ:WM M):an7 M:=by
 delta ayW
 intros v r n rfl hR h h;exists _,(aM (aF (aH Ay hr #[-0,(cL yZ hr rfl #[0,1]),-0,_])));obtain⟨a,p,p2,rfl,hA,hP,hS⟩:=id hR;exists (),_,_,.inr (aq.of hA),rfl,(),(),.ref a,r,n,rfl,hR;rcases h with h|⟨z,m,rfl,ok,q⟩
 .exact .inl h
 simp only[SM,cW,decide_eq_true_eq]at ok;obtain⟨⟨⟨⟨o1,o2⟩,o3⟩,o4⟩,o5⟩:=ok;refine .inr {z,m,rfl,o1,λt H1 g1 h1=>?_};simp only[Lq,cW,decide_eq_true_eq]at o1;have lj:(BZ r m).length=r.rule.length:=Nz ..;exact{(),_,_,.inr (aq.of (g1 _ _ hA)),rfl,r.b,t,p2,_,(),o2,h1,g1 _ _ hS,⋯,⋯,o4,o5,λH2 g2=>q H2 (g1.trans g2)}
theorem aFr(F:Fn K mg "onward" aas ["row","n"])(yZ:WM M)(gQ:uL M)(Ay:Rx M):ad4 M:=by
 delta CJ
 intros v r n rfl hR h q h;refine{_,#[(),(fj (i:=2) CJ.nd rfl (dZ rfl) (-0:)),(fj (i:=3) CJ.nd rfl (dZ rfl) (cL yZ hr rfl #[0,1])),(fj (i:=4) CJ.nd rfl (dZ rfl) (aH gQ hr #[0,(_*(cj K B.bZ #[3]):)])),(vH (i:=5) (hN:=CJ.nd) (hi':=rfl) (hx:=(ju rfl)) (sc:=aFT) (N:=["m","by","near","numbers"]) (ix:=[none,some 2,some 4,some 3]) cM rfl (fL rfl B.dY #[(cj K B.bZ #[3])]) (λ_ _ _ _ _=>{(aY 0 cJ),cO,(aH Ay hr #[1,3,2,0])})),(aF (cF #[2,-0,(fZ (mY K) rfl B.lA boot_tuple #[5])]))],?_};obtain⟨a,p,p2,rfl,hA,hP,hS⟩:=id hR;exact{(),_,_,.inr (aq.of hA),rfl,(),(),.ref a,r,n,rfl,hR,.inl {h,(q)}}
theorem aPi(F:Fn K mg "refuse_far" aax ["n"]):aev M:=by
 delta aAL
 intros n rfl q1 q2 h;exists _,(aM (bD (PW.pt (gP (0<_:) (jR (0>(nJ rfl B.ZS):)))) (aM (iM M.Ke rfl #[""])) bH));unfold Bh at q1 q2;exists (),"",();refine cI (λc=>{(aZ 1),(q2 ?_).now}) (λc=>?_)
 .rw[decide_eq_false (by have:=dec_true c;lia)];rfl
 exists (),"",();have h0:0<=n:=by have:=dec_false c;lia
 refine cI (λc2=>{(aZ 1),(q2 ?_).now}) (λc2=>q1 ?_)
 .rw[decide_eq_true h0,decide_eq_false (by have:=dec_true c2;lia)];rfl
 .rw[decide_eq_true h0,decide_eq_true (by have:=dec_false c2;lia:n<=300)];rfl
theorem arF(F:Fn K mg "places" Yu ["row","count"])(O1:aev M)(gQ:uL M):aeW M:=by
 delta aJT
 intros v r c rfl hR h h;exists _,#[(),(dJ (cL O1 hr rfl #[1])),(aF (aH gQ hr #[0,1]))];refine{(),c,rfl,λhc=>?_,λhc=>?_}
 .obtain⟨m,rfl,hm,ok,q⟩:=h.resolve_left λz=>by rw[hc]at z;cases z.1
  exact{(),(),v,r,m,rfl,hR,ok,⋯,q}
 .rcases h with⟨_,q⟩|⟨m,rfl,hm,_⟩
  .exact q
  .simp only[Bh,Bool.and_eq_false_iff,decide_eq_false_iff_not]at hc;lia
theorem aBv(F:Fn K mg "common_divisor" abe ["one","other"]):VG M:=by
 delta zV zV
 intros x y d rfl hd q h;exists _,#[(),(au 2 zV.nd (eU AJ rfl B.yU boot_abs #[0])),(au 3 zV.nd (eU AJ rfl B.yU boot_abs #[1])),(pY PassesOwn.never (3>_:) #[(),(au 4 zV.nd (2%3:)),(au 2 zV.nd (3:)),(au 3 zV.nd (4:))]),(aF (2:))];exists (),x,rfl;exists (),y,rfl;exists λt σ' H'=>∃(g w:Int) (o4:Option V),KP t g w=some d/\σ'=[some (.int x),some (.int y),some (.int g),some (.int w),o4]/\H=H',{4,_,_,_,hd,rfl,rfl};rintro t σ' H' ⟨g,w,o4,hg,rfl,rfl⟩;cases t with
 |zero=>cases hg
 |succ t=>
  rw[KP]at hg;exists (),"",();refine cI (λc=>?_) (λc=>?_)
  .have hw:0<w:=dec_true c;rw[if_pos hw]at hg;refine{_,λ_ _ z=>z,?_};exists (),(),"",hw;exists ();exists ();exact{t,vN _,w,g%w,_,hg,rfl,rfl}
  .rw[if_neg (dec_false c)]at hg;cases hg;exact{(),q}
theorem aE2(F:Fn K mg "divisor_of" abT ["row"])(j6:zZ M)(zW:VG M):ae8 M:=by
 delta Mg
 intros v r rfl hR h h;exists _,#[(),(dJ (cL j6 hr rfl #[0])),(au 1 Mg.nd aU),(gk PassesOwn.leaving rfl (dh K (-0:)) (aY 2 Mg.nd) (aM (au 1 Mg.nd (aH zW hr #[1,2])))),(aF (1:))];refine{(),v,r,rfl,hR,λc=>?_,λc=>?_}
 .obtain⟨x,y,d,rfl,hd,q⟩:=h.resolve_left λz=>z.1 c;intros a p p2 rfl hA hRu hS hR;refine{(),_,_,.inr (aq.of hA),rfl,p2,rfl,.inr {{_,aq.of hS},?_}};refine aeD (pL (aq.of hS)) (λi σ' H'=>∃o2:Option V,σ'=[some (.ref a),some (.int (if i=0 then 0 else d)),o2]/\H=H') {(),rfl} (λi σ' H' ⟨_,_,z⟩=>z▸Same.refl _) ?_ ?_
  .rintro i z σ' H' hx ⟨o2,rfl,rfl⟩
   match i,hx with
   |0,hx=>
    cases hx;exact{(),(),0,y,d,rfl,hd,some (.int y),rfl,rfl}
  .rintro σ' H' ⟨o2,rfl,rfl⟩;exact{(),q}
 .rcases h with⟨_,q⟩|⟨x,y,d,rfl,_⟩
  .exact q
  .exact absurd rfl c
theorem aAT(F:Fn K mg "rest_row" YS ["row","divisor"]):abS M:=by
 exact F.cal aLi (λH Q E hr h=>h.elim) λ_ _ _ _ h=>h.elim
theorem aO2(F:Fn K mg "undivided" aaw ["row","divisor","start","step"])(j6:zZ M)(AX:Ri M)(gQ:uL M)(zy:abS M):aiM M:=by
 delta Kd
 intros v r x st e rfl hR hb h q h;exists _,#[(),(dJ (cL j6 hr rfl #[0])),(dJ (cL AX hr rfl #[2,3])),(bD (1<_:) (aM (iM M.Ke rfl #[""])) bH),(au 4 Kd.nd (cj K B.bZ #[-0])),(au 5 Kd.nd (aH gQ hr #[(aH zy hr #[0,1]),(2+3*4:)])),(gk PassesOwn.leaving rfl (fL rfl B.dY #[4]) (aY 6 Kd.nd) (aM (bD ((aQ K (5:) (2+3*6:))!=_:) (aM (aF (6:))) bH))),(aF vh)];exact{(),v,r,rfl,hR,λ_=>{(),(),st,e,rfl,h,q},λz=>absurd hb z}
theorem aHm(F:Fn K mg "by_prime" OX ["row","prime"])(j6:zZ M)(zy:abS M):adK M:=by
 delta aMi
 intros v x r rfl hR hb q h;exists _,#[(),(dJ (cL j6 hr rfl #[0])),(aF (aH zy hr #[0,1]))];exact{(),v,r,rfl,hR,λz=>absurd z hb,λ_=>q}
theorem asa(F:Fn K mg "parting" Oa ["one","other"])(rE:KQ M)(gQ:uL M):afD M:=by
 delta CF
 intros v1 v2 r s' rfl h1 h2 hb q h;exists _,#[(),(dJ (cL rE hr rfl #[0,1])),(au 2 CF.nd ((cj K B.bZ #[-0])+(cj K B.bZ #[-1]):)),(au 3 CF.nd (aH gQ hr #[0,2])),(au 4 CF.nd (aH gQ hr #[1,2])),(gk PassesOwn.leaving rfl (fL rfl B.dY #[2]) (aY 5 CF.nd) (aM (bD ((aQ K (3:) (5:))!=(aQ K (4:) (5:)):) (aM (aF (5:))) bH))),(aF vh)];exact{(),(),v1,v2,r,s',rfl,h1,h2,λz=>absurd z hb,λ_=>q}
theorem aE3(F:Fn K mg "refuse_wide" Wi ["prime","length"]):amb M:=by
 exact F.cal aH0 (λH Q E hr h=>h.elim) λ_ _ _ _ h=>h.elim
theorem aJu(F:Fn K mg "came_round" Xx ["row"]):Qq M:=by
 exact F.cal aRK (λH Q E hr h=>h.elim) λ_ _ _ _ h=>h.elim
theorem aKg(F:Fn K mg "round_row" ach ["row"])(iH:uF M)(acy:amb M):Sy M:=by
 delta apY
 obtain⟨v,r,rfl,⟨a,p,p2,rfl,hA,hR,hS⟩,hb,q⟩:=h;exists _,#[(),(bD (-0==_:) (aM (iM M.O7 rfl #[""])) bH),(au 1 apY.nd (aH iH hr #[0])),(dJ (aH acy hr #[-0,(cj K B.bZ #[-1])])),(aF (1:))];exists (),_,_,.inr (aq.of hA),rfl,();rw[decide_eq_true hb];exact dM {(aZ 1),q.now}
theorem aOi(F:Fn K mg "round_of" Y6 ["row"])(zK:Qq M)(Bm:Sy M):agM M:=by
 delta aSo
 intros v r rfl h1 hb q h;exists _,(aM (aF (aH zK hr #[(cL Bm hr rfl #[0])])));exact{(),v,r,rfl,h1,hb,q}
theorem axy(F:Fn K mg "where" TX ["row","number"])(Bm:Sy M)(zK:Qq M)(gQ:uL M):adv M:=by
 delta vD
 intros v x r rfl h1 hb q h;refine{_,#[(),(au 2 vD.nd (cL Bm hr rfl #[0])),(au 3 vD.nd (aH zK hr #[2])),(au 4 vD.nd (-3:)),(au 5 vD.nd (-3:)),(fj (i:=6) vD.nd rfl (dZ rfl) (aH gQ hr #[2,(4+5:)])),(vH (i:=7) (hN:=vD.nd) (hi':=rfl) (hx:=(ju rfl)) (sc:=aQK) (N:=["n","number","numbers"]) (ix:=[none,some 1,some 6]) cM rfl (fL rfl B.dY #[4]) (λ_ _ _ _ _=>{(aY 0 cJ),(M6 ((aQ K (2:) (0:))==1:)),(0:)})),(vH (i:=8) (hN:=vD.nd) (hi':=rfl) (hx:=(ju rfl)) (sc:=aBp) (N:=["n","number","numbers"]) (ix:=[none,some 1,some 6]) cM rfl (xX rfl B.dY #[4,(4+5:)]) (λ_ _ _ _ _=>{(aY 0 cJ),(M6 ((aQ K (2:) (0:))==1:)),(0:)})),(aF (cF #[7,8,5]))],?_};exact{(),v,r,rfl,h1,hb,q}
theorem ayX(F:Fn K mg "refuse_big" Yg ["poly"]):als M:=by
 delta ayb
 intros a P' rfl hA zP q1 q2 h;refine{_,(aM (bD (fY (eU (Tq K rfl) rfl B.UJ boot_any #[(dB (sc:=atr) (N:=["number"]) (ix:=[none]) cM rfl (dh K (0:)) (λ_ _ _ _ _=>{(aY 0 cJ),cO,(lB ad7 (eU AJ rfl B.yU boot_abs #[0]) (nJ rfl B.SD) (mF _))}))])) (aM (iM M.ajz rfl #[""])) bH)),?_};refine{(),a,rfl,.inr {{_,aq.of hA},?_}};refine mJ (pL (aq.of hA)) (by rw[bG];exact jE (gU ⋯)) rfl (λ_=>true) (λx=>match x with | .int k=> .bl (decide ((1000000:Int)<=(if k<0 then -k else k)))|_=> .non) ?_ ?_ ?_
 .intro H2 x g2 hx k hk;exact hk
 .intro H2 x g2 hx _ k hk;obtain⟨y,hy,rfl⟩:=fM.mp hx;exact{(),y,rfl,"",hk}
 intro D hD;have el:(((P'.map V.int).filter λ_=>true).map λx=>match x with | .int k=>V.bl (decide ((1000000:Int)<=(if k<0 then -k else k)))|_=>V.non)=(P'.map λk=>decide ((1000000:Int)<=(if k<0 then -k else k))).map V.bl:=by
  rw[u6.mpr (by simp),iz,iz];rfl
 rw[el];exists D,(),aj.of ao,();exact cI (λc=>{(aZ 1),q2 c _ (Same.new hD _)}) (λc=>q1 (pG.mpr c) _ (Same.new hD _))
theorem aMX(F:Fn K mg "whole_divisors" XQ ["number"]):air M:=by
 delta DX DX
 intros rfl q h;exists _,#[(),(au 1 DX.nd (cC iB)),(au 2 DX.nd (cC iB)),(au 3 DX.nd aU),(pY PassesOwn.never (3*3<=0:) #[(),(bD (0%3==_:) #[(),(dJ (jy K (1:) (3:))),(bD (3*3<0:) (aM (dJ (jy K (2:) (0/3:)))) bH)] bH),(au 3 DX.nd (3+_:))]),(aF (1+(auC rfl rfl B.uJ rfl B.afn #[2]):))];refine{fJ _,λls hls=>?_};have g1:=Same.new hls (.lst []);refine{fJ _,λlg Xj=>?_};have hne:ls≠lg:=λz=>by rw[z,ao]at Xj;cases Xj
 have g2:=Same.new Xj (.lst []);have h1:(upd (upd H ls (.lst [])) lg (.lst [])) ls=some (.lst []):=g2 _ _ ao;have h2:(upd (upd H ls (.lst [])) lg (.lst [])) lg=some (.lst []):=ao;have cA:=g1.trans g2;generalize upd (upd H ls (.lst [])) lg (.lst [])=H2 at h1 h2 cA;refine{λm σ' H'=>∃t:Int,σ'=[some (.int 1),some (.ref ls),some (.ref lg),some (.int t)]/\Same H H'/\H' lg=some (.lst [])/\(m=1/\t=1/\H' ls=some (.lst [])∨m=0/\t=2/\H' ls=some (.lst [.int 1])),
  {1,1,rfl,cA,h2,.inl {rfl,rfl,(h1)}},?_}
 rintro m σ' H' ⟨t,rfl,gg,hg,⟨rfl,rfl,hs⟩|⟨rfl,rfl,hs⟩⟩
 .refine{(),(),mulR ∅ ∅,(),"",(),dM ?_};refine{_,λ_ _ z=>z,?_};refine{(),(),"",∅,(),dM ?_};exists (),.inl {rfl,_,aj.of hs},(),ls,"",hs,∅;refine{(),(),mulR ∅ ∅,(),"",(),bL ?_};exact{(),0,∅,2,rfl,gg.upd hls _,(by rw[bY hne.symm];exact hg),.inr {rfl,rfl,(ao)}}
 .refine{(),(),mulR ∅ ∅,(),"",(),bL ?_};refine{(),(),lg,(),hg,λl1 hl1=>?_};have g3:=Same.new hl1 (.lst []);refine .inl {_,_,g3 _ _ hs,ao,∅,λl2 hl2=>?_};exact q l2 _ (gg.trans (g3.trans (Same.new hl2 _))) ao
theorem ayM(F:Fn K mg "perhaps_roots" P0 ["poly"])(WD:air M):akx M:=by
 delta J9 J9
 intros a rfl hA q h;refine{_,#[(),(au 1 J9.nd (aQ K (dB (sc:=aBs) (N:=["number"]) (ix:=[none]) cM rfl (dh K (0:)) (λ_ _ _ _ _=>{(aY 0 cJ),(M6 (0!=_:)),(0:)})) aU)),(au 2 J9.nd (aH WD hr #[(eU AJ rfl B.yU boot_abs #[1])])),(vH (i:=3) (hN:=J9.nd) (hi':=rfl) (hx:=(ju rfl)) (sc:=aSu) (N:=["divisor"]) (ix:=[none]) cM rfl (avI K rfl B.afn #[2]) (λ_ _ _ _ _=>{(aY 0 cJ),cO,(_-0:)})),(aF (3+(cC #[_])+2:))],?_};refine{(),a,rfl,.inr {{_,aq.of hA},?_}};refine mJ (pL (aq.of hA)) ∅ rfl (λ_=>true) (λx=>x) ?_ ?_ ?_
 .intro H2 x g2 hx k hk;have:x = .int (-1)∨x = .int 1:=by simpa using hx
  rcases this with rfl|rfl<;>exact{(),(),hk}
 .intro H2 x g2 hx _ k hk;exact{(),hk}
 intro D hD;exists _,.int (-1),.inl (aj.of ao),rfl;have g1:=Same.new hD (.lst [.int (-1),.int 1]);exists (),-1,rfl;refine{rfl,λla H2 g2 h2=>?_};exists (),la,[.int 1],rfl,aj.of h2;refine mJ (aFQ (aj.of h2)) ∅ rfl (λ_=>true) (λ_=> .int (-1)) ?_ ?_ ?_
 .intro H3 x g3 hx k hk;exact hk
 .intro H3 x g3 hx _ k hk;obtain rfl:x = .int 1:=by simpa using hx
  exact{(),"",hk}
 intro D2 hD2;have g3:=Same.new hD2 (.lst [.int (-1)]);have h3:(upd H2 D2 (.lst [.int (-1)])) D2=some (.lst [.int (-1)]):=ao;have h2':=g3 _ _ h2;refine{(),(aZ 1),λl4 jB=>?_};have g4:=Same.new jB (.lst [.int 0]);refine .inl {_,_,g4 _ _ h3,ao,∅,λl5 jX=>?_};have g5:=Same.new jX (.lst [.int (-1),.int 0]);refine{(),.inl {_,_,ao,g5 _ _ (g4 _ _ h2'),∅,λl6 oh=>?_}};exact q l6 _ (g1.trans (g2.trans (g3.trans (g4.trans (g5.trans (Same.new oh _)))))) ao
theorem aRG(F:Fn K mg "divided_out" Q9 ["poly","root"])(jO:BQ M):aeU M:=by
 delta wC wC
 intros a L L' root k rfl hA hd q h;exists _,#[(),(au 2 wC.nd aU),(au 3 wC.nd (0:)),(au 4 wC.nd (aH jO hr #[_,3,(cF #[(_-1:),_])])),(pY PassesOwn.never (-4==(cF iB):) #[(),(au 2 wC.nd (2+_:)),(au 3 wC.nd (-4:)),(au 4 wC.nd (aH jO hr #[_,3,(cF #[(_-1:),_])]))]),(aF (cF #[2,3]))];exists ();have ok:jG 0 L [0-root,1]=true:=by
  rw[qe]at hd;split at hd
  .assumption
  .cases hd
 refine{(),(),"",(aZ 2),λt1 ht1=>?_};have g1:=Same.new ht1 (.tup [.int (0-root),.int 1]);refine{0,a,t1,L,[0-root,1],rfl,g1 _ _ hA,ao,ok,λt x y H2 g2 hT hX hY=>?_};refine{λm σ' H'=>∃(j:Int) (al tt x y:Addr) (LL:List Int),σ'=[some (.ref a),some (.int root),some (.int j),some (.ref al),some (.ref tt)]/\Same H H'/\H' al=some (.tup (LL.map V.int))/\H' tt=some (.tup [.ref x,.ref y])/\H' x=some (.tup ((quo 0 LL [0-root,1]).map V.int))/\H' y=some (.tup ((rem 0 LL [0-root,1]).map V.int))/\qe root m j LL=some (k,L'),
  {3,0,a,t,x,y,L,rfl,g1.trans g2,(g1.trans g2) _ _ hA,hT,hX,hY,hd},?_}
 rintro m σ' H' ⟨j,al,tt,x,y,LL,rfl,g,hL,hT,hX,hY,hd⟩;cases m with
 |zero=>cases hd
 |succ m=>
  rw[qe]at hd;split at hd
  rotate_left
  .cases hd
  exists (),_,_,.inr (aq.of hT),rfl;refine{fJ _,λt0 ht0=>?_};have g4:=Same.new ht0 (.tup []);refine aav (ms:=[]) (aq.of (g4 _ _ hY)) (aq.of ao) ?_;have hL':=g4 _ _ hL;have hT':=g4 _ _ hT;have hX':=g4 _ _ hX;have gg:=g.trans g4;generalize upd H' t0 (.tup [])=H4 at hL' hT' hX' gg;exists ();by_cases z:rem 0 LL [0-root,1]=[]
  .rw[if_pos z]at hd;rw[decide_eq_true z];refine dM {_,λ_ _ z=>z,?_};exists ();exists (),_,_,.inr (aq.of hT'),rfl;have ok':jG 0 (quo 0 LL [0-root,1]) [0-root,1]=true:=by
    cases m with
    |zero=>cases hd
    |succ m=>
     rw[qe]at hd;split at hd
     .assumption
     .cases hd
   refine{(),(),"",(aZ 2),λt5 vY=>?_};have g5:=Same.new vY (.tup [.int (0-root),.int 1]);refine{0,x,t5,_,[0-root,1],rfl,g5 _ _ hX',ao,ok',λt6 x6 y6 H6 g6 hT6 hX6 hY6=>?_};exact{m,vN _,j+1,x,t6,x6,y6,(),gg.trans (g5.trans g6),(g5.trans g6) _ _ hX',hT6,hX6,hY6,hd}
  .rw[if_neg z]at hd;cases hd;rw[decide_eq_false z];refine bL {(),(),(aZ 2),λt5 vY=>?_};have g5:=Same.new vY (.tup [.int k,.ref al]);exact q t5 al _ (gg.trans g5) ao (g5 _ _ hL')
theorem aKq(F:Fn K mg "whole_roots" R6 ["poly"])(ZW:als M)(RB:akx M)(SN:aeU M):ajn M:=by
 delta Ba
 intros a P' rfl hA hl h h;exists _,#[(),(dJ (cL ZW hr rfl #[0])),(au 1 Ba.nd (cC iB)),(au 2 Ba.nd (0:)),(gk PassesOwn.leaving rfl (dh K (aH RB hr #[0])) (aY 3 Ba.nd) #[(),(au 4 Ba.nd (aH SN hr #[2,3])),(bD (-4>_:) #[(),(dJ (jy K (1:) (cF #[3,-4]))),(au 2 Ba.nd (-4:))] bH)]),(aF (cF #[1,2]))];refine{(),a,P',rfl,hA,hl,λhb=>?_,λhb=>?_}
 rotate_left
 .rcases h with⟨_,q⟩|⟨rfl,_⟩
  .exact q
  .exact absurd hb (by decide +kernel)
 obtain⟨rfl,q⟩:=h.resolve_left λz=>by rw[hb]at z;cases z.1
 intro H1 g1;refine{fJ _,λlr hlr=>?_};have g2:=Same.new hlr (.lst []);have h2:(upd H1 lr (.lst [])) lr=some (.lst []):=ao;have cA:=g1.trans g2;have lr0:=g1.free hlr;generalize upd H1 lr (.lst [])=H2 at h2 cA;exists ();refine{(),a,rfl,cA _ _ hA,λlc H3 g3 h3=>?_};have eX:=cA.trans g3;refine{lc,rfl,.inl {{_,aj.of h3},?_}};have h23:=g3 _ _ h2;have hA3:=eX _ _ hA;refine KL (xs:=[.int (-1),.int 0,.int 1]) (λi σ' H'=>∃(o5 o4:Option V) (al:Addr),σ'=[some (.ref a),some (.ref lr),some (.ref al),o4,o5]/\Same H H'/\H' lc=some (.lst [.int (-1),.int 0,.int 1])/\(i<3/\al=a/\H' lr=some (.lst [])∨i=3/\H' al=some (.tup [.int 1])/\∃e,H' lr=some (.lst [.ref e])/\H' e=some (.tup [.int 1,.int 1]))) {_,_,a,rfl,eX,h3,.inl {∅,rfl,h23}} (λi σ' H' ⟨_,_,_,_,_,h,_⟩=>iu (aj.of h)) ?_ ?_
 .rintro i x σ' H' hx ⟨o5,o4,al,rfl,g,hc,hi⟩;have hi3:i<3:=(List.getElem?_eq_some_iff.mp hx).1;obtain⟨_,rfl,hr⟩:=hi.resolve_right λz=>⋯;have hlc:lc≠lr:=λz=>by rw[z,h23]at h3;cases h3
  have cs:(∃root,x = .int root/\qe root 3 0 [-1,1]=some (0,[-1,1])/\i+1<3)∨(i=2/\x = .int 1):=by
   match i,hx with
   |0,hx=>cases hx;exact .inl {-1,rfl,do1,∅}
   |1,hx=>cases hx;exact .inl {0,rfl,do2,∅}
   |2,hx=>cases hx;exact .inr {rfl,(rfl)}
  rcases cs with⟨root,rfl,hd,hi⟩|⟨rfl,rfl⟩
  .exact{(),(),al,[-1,1],[-1,1],root,0,rfl,g _ _ hA,hd,λt l H4 g4 hT hl=>{(),_,_,.inr (aq.of hT),rfl,"",(),bL {_,_,al,rfl,g.trans g4,g4 _ _ hc,.inl {hi,rfl,g4 _ _ hr}}}}
  .skip
   refine{(),(),al,[-1,1],[1],1,1,rfl,g _ _ hA,do3,λt l H4 g4 hT hl=>?_};refine{(),_,_,.inr (aq.of hT),rfl,"",(),dM ?_};have IX:=g4 _ _ hr;refine{(),.inl {rfl,_,aj.of IX},(),(),_,_,.inr (aq.of hT),rfl,(aZ 2),λte Gw=>?_};have g5:=Same.new Gw (.tup [.int 1,.int 1]);exists lr,"",g5 _ _ IX,∅;have g6:=(g.trans (g4.trans g5)).upd lr0 (.lst [.ref te]);have k:∀b o,b≠lr->H4 b=some o->(upd (upd H4 te (.tup [.int 1,.int 1])) lr (.lst [.ref te])) b=some o:=λb o hb e=>by rw[bY hb];exact g5 _ _ e
   have tl:t≠lr:=λz=>by rw[z,IX]at hT;cases hT
   exists (),_,_,.inr (aq.of (k _ _ tl hT)),rfl;refine{_,_,l,rfl,g6,k _ _ hlc (g4 _ _ hc),.inr {rfl,k _ _ (λz=>by rw[z,IX]at hl;cases hl) hl,te,ao,?_}};rw[bY (fU IX Gw).symm];exact ao
 .rintro σ' H' ⟨o5,o4,al,rfl,g,hc,hi⟩;obtain⟨_,hal,e,hr,he⟩:=hi.resolve_left λz=>absurd z.1 ∅;refine{(),(),(aZ 2),λt ht=>?_};have gt:=Same.new ht (.tup [.ref lr,.ref al]);exact q t lr al e _ (g.trans gt) ao (gt _ _ hr) (gt _ _ he) (gt _ _ hal)
theorem azd(F:Fn K mg "power" WY ["number","exponent"]):afg M:=by
 delta Ny Ny
 intros x rfl q h;exists _,#[(),(au 2 Ny.nd aU),(gk PassesOwn.never rfl (fL rfl B.dY #[1]) (aY 3 Ny.nd) (aM (au 2 Ny.nd (2*0:)))),(aF (2:))];exists (),0,rfl,∅,∅;refine kY (lo:=0) (n:=(0:Int).toNat) (λi σ' H'=>σ'=[some (.int x),some (.int 0),some (.int 1),none]/\H'=H) {rfl,(rfl)} (λi σ' H' hi _=>absurd hi (by simp)) ?_;rintro σ' H' ⟨rfl,rfl⟩;exact{(),q}
theorem aBy(F:Fn K mg "form_line" abL ["roots","n"])(Ln:afg M):ahJ M:=by
 delta YJ YJ
 intros l e rfl hl he q h;refine{_,#[(),(au 2 YJ.nd (cC iB)),(gk PassesOwn.never rfl (dh K (0:)) (aa7 (i:=3) YJ.nd rfl (dZ rfl)) (aM (dJ (KW K (2:) (dB (sc:=aHI) (N:=["j","n","pair"]) (ix:=[none,some 1,some 3]) cM rfl (fL rfl B.dY #[-3]) (λ_ _ _ _ _=>{(aY 0 cJ),cO,((aH Ln hr #[-2,1])*(aH Ln hr #[1,0]):)})))))),(aF (2:))],?_};refine{fJ _,λll hll=>?_};have g1:=Same.new hll (.lst []);have h1:(upd H ll (.lst [])) ll=some (.lst []):=ao;generalize upd H ll (.lst [])=H1 at g1 h1;refine{(),l,rfl,.inl {{_,aj.of (g1 _ _ hl)},?_}};refine KL (xs:=[.ref e]) (λi σ' H'=>∃o3:Option V,σ'=[some (.ref l),some (.int 0),some (.ref ll),o3]/\Same H H'/\H' ll=some (.lst (if i=0 then[]else[.int 1]))) {(),g1,h1} (λi σ' H' ⟨_,_,g,_⟩=>iu (aj.of (g _ _ hl))) ?_ ?_
 .rintro i x σ' H' hx ⟨o3,rfl,g,hL⟩
  match i,hx with
  |0,hx=>
   cases hx;exists (),.inl {rfl,_,aj.of hL},(),_,_,.inr (aq.of (g _ _ he)),rfl,1,rfl,∅,∅;refine vm (n:=1) ∅ rfl (λ_=>1) ?_ ?_
   .intro H2 k g2 hk kk hkk;obtain rfl:k=0:=⋯;exact{(),_,_,.inr (aq.of (g2 _ _ (g _ _ he))),rfl,(),1,rfl,(),(),0,rfl,mulL ∅ ∅,hkk}
   .intro D hD;have gD:=Same.new hD (.lst [.int 1]);have nD:ll≠D:=fU hL hD;refine{ll,D,"",gD _ _ hL,ao,(by show 1<=sizeLine;decide),?_};exact{(),(g.trans gD).upd hll _,ao}
 .rintro σ' H' ⟨o3,rfl,g,hL⟩;exact{(),q ll H' g hL}
theorem aEJ(F:Fn K mg "parts_of" Rk ["roots","tops"]):agA M:=by
 delta Bc Bc
 intros l e lt x rfl hl he ht q h;exists _,#[(),(au 2 Bc.nd (cC iB)),(au 3 Bc.nd aU),(gk PassesOwn.never rfl (dh K (0:)) (aY 4 Bc.nd) #[(),(au 5 Bc.nd (3+(-4):)),(dJ (jy K (2:) (cF #[-4,(jq (kW K) (1:) (jd (3:)) (jd (5:)))]))),(au 3 Bc.nd (5:))]),(aF (2:))];refine{fJ _,λlp hlp=>?_};have g1:=Same.new hlp (.lst []);have h1:(upd H lp (.lst [])) lp=some (.lst []):=ao;generalize upd H lp (.lst [])=H1 at g1 h1;refine{(),l,rfl,.inl {{_,aj.of (g1 _ _ hl)},?_}};refine KL (xs:=[.ref e]) (λi σ' H'=>∃(o3 o4:Option V) (b:Int),σ'=[some (.ref l),some (.ref lt),some (.ref lp),some (.int b),o3,o4]/\Same H H'/\(i=0/\b=0/\H' lp=some (.lst [])∨i=1/\∃p lx,H' lp=some (.lst [.ref p])/\H' p=some (.tup [.int 1,.ref lx])/\H' lx=some (.lst [.int x]))) {_,_,0,rfl,g1,.inl {rfl,rfl,(h1)}} (λi σ' H' ⟨_,_,_,_,g,_⟩=>iu (aj.of (g _ _ hl))) ?_ ?_
 .rintro i z σ' H' hx ⟨o3,o4,b,rfl,g,hi⟩
  match i,hx with
  |0,hx=>
   cases hx;obtain⟨_,rfl,hL⟩:=hi.resolve_right λz=>absurd z.1 ∅;exists (),(),_,_,.inr (aq.of (g _ _ he)),rfl;refine{(),.inl {rfl,_,aj.of hL},(),_,_,.inr (aq.of (g _ _ he)),rfl,(),(),(),(),(),.inl {_,aj.of (g _ _ ht),λlx hlx=>?_}};have gx:=Same.new hlx (.lst [.int x]);refine{(aZ 2),λp hp=>?_};have gp:=Same.new hp (.tup [.int 1,.ref lx]);have hL2:=gp _ _ (gx _ _ hL);exists lp,"",hL2,∅;refine{(),_,_,(),(g.trans (gx.trans gp)).upd hlp _,.inr {rfl,p,lx,ao,?_,?_}}
   .rw[bY λz=>by rw[z,ao]at hL2;cases hL2];exact ao
   .rw[bY (fU hL hlx).symm];exact gp _ _ ao
 .rintro σ' H' ⟨o3,o4,b,rfl,g,hi⟩;obtain⟨_,p,lx,h1,h2,h3⟩:=hi.resolve_left λz=>absurd z.1 Nat.one_ne_zero;exact{(),q lp p lx H' g h1 h2 h3}
theorem aGE(F:Fn K mg "line_taken" Sh ["by","line"])(cU:jQ M):ah3 M:=by
 delta aMn aMn
 intros l x rfl hl q h;refine{_,(aM (aF (dB (sc:=aCY) (N:=["number","by"]) (ix:=[none,some 0]) cM rfl (dh K (1:)) (λ_ _ _ _ _=>{(aY 0 cJ),cO,(aH cU hr #[1,0])})))),?_};refine{(),l,rfl,.inl {{_,aj.of hl},Em (xs:=[1,x]) hl (by show 2<=1000;decide) rfl (Rm.tk 0) ?_ ?_}}
 .intro H2 y g2 hy k hk;exact{(),(),0,y,rfl,∅,hk}
 .intro D hD;exact q D _ (Same.new hD _) ao
theorem ayZ(F:Fn K mg "head_line" abG ["lines","begin","column"]):ak1 M:=by
 delta adI adI
 intros l l1 x rfl hl h1 q h;exists _,#[(),(gk PassesOwn.never rfl (xX rfl B.dY #[1,(cj K B.bZ #[0])]) (aY 3 adI.nd) (aM (bD ((aQ K (aQ K (0:) (3:)) (2:))!=_:) (aM (aF (3:))) bH))),(aF vh)];exists (),(),.ref l,1,rfl,.inl {_,aj.of hl,rfl},0,1,rfl,{∅,∅,∅,∅};refine kY (lo:=0) (n:=1) (λi σ' H'=>i=0/\∃o3,σ'=[some (.ref l),some (.int 0),some (.int 0),o3]/\H'=H) {rfl,(),rfl} ?_ (λσ' H' z=>absurd z.1 ∅);rintro i σ' H' hi ⟨rfl,o3,rfl,rfl⟩;refine{(),(),_,_,.inl (aj.of hl),rfl,(),_,_,.inl (aj.of h1),rfl,(),dM ?_};exact{(),q}
theorem aCC(F:Fn K mg "bring_up" acS ["by","lines","at","top"])(cU:jQ M):al7 M:=by
 delta amt amt
 intros l rfl q h;refine{_,(aM (tU (bD (2!=3:) #[(),(au 4 amt.nd (aQ K (1:) (3:))),(qG (aQ K (1:) (2:)) (xH (1:) (3:) set_list)),(qG (dB (sc:=aRm) (N:=["number","by"]) (ix:=[none,some 0]) cM rfl (dh K (4:)) (λ_ _ _ _ _=>{(aY 0 cJ),cO,(aH cU hr #[1,(_-0:)])})) (xH (1:) (2:) set_list))] bH))),?_};exact{(),(),(),bL q}
theorem aRV(F:Fn K mg "freed" SQ ["by","line","head","column","last"]):aoI M:=by
 exact F.cal aq5 (λH Q E hr h=>h.elim) λ_ _ _ _ h=>h.elim
theorem aHs(F:Fn K mg "clear" RM ["by","wide","lines"])(aaK:ak1 M)(Td:al7 M)(aam:aoI M):ak5 M:=by
 delta uG uG
 intros l l1 x rfl hl hl1 q h;exists _,#[(),(au 3 uG.nd (cC iB)),(au 4 uG.nd aU),(gk PassesOwn.never rfl (fL rfl B.dY #[1]) (aY 5 uG.nd) #[(),(au 6 uG.nd (cj K B.bZ #[3])),(au 7 uG.nd (aH aaK hr #[2,6,5])),(bD (rK (asN (7:))) #[(),(dJ (aH Td hr #[0,2,7,6])),(gk PassesOwn.never rfl (fL rfl B.dY #[(cj K B.bZ #[2])]) (aY 8 uG.nd) (aM (tU (bD (8!=6:) (aM (qG (aH aam hr #[0,(aQ K (2:) (8:)),(aQ K (2:) (6:)),5,4]) (xH (2:) (8:) set_list))) bH)))),(au 4 uG.nd (aQ K (aQ K (2:) (6:)) (5:))),(dJ (jy K (3:) (5:)))] bH)]),(aF (cF #[3,4]))];refine{fJ _,λlh hlh=>?_};have g1:=Same.new hlh (.lst []);have h1:(upd H lh (.lst [])) lh=some (.lst []):=ao;generalize upd H lh (.lst [])=H1 at g1 h1;exists (),1,rfl,∅,∅;refine kY (lo:=0) (n:=1) (λi σ' H'=>Same H H'/\∃o5 o6 o7 o8,σ'=[some (.int 0),some (.int 1),some (.ref l),some (.ref lh),some (.int 1),o5,o6,o7,o8]/\H' lh=some (.lst (if i=0 then[]else[.int 0]))) {g1,_,_,_,(),h1} ?_ ?_
 .rintro i σ' H' hi ⟨g,o5,o6,o7,o8,rfl,hL⟩;obtain rfl:i=0:=⋯;have hl':=g _ _ hl;exists (),.ref lh,0,rfl,.inl {_,aj.of hL,rfl};exists (),(),(),l,l1,x,rfl,hl',g _ _ hl1;refine{(),(),dM ?_};exists (),(),(),(),l,rfl;exists (),.ref l,1,rfl,.inl {_,aj.of hl',rfl},1,rfl,∅,∅;refine kY (lo:=0) (n:=1) (λi σ' H2=>H2=H'/\∃o8,σ'=[some (.int 0),some (.int 1),some (.ref l),some (.ref lh),some (.int 1),some (.int 0),some (.int 0),some (.int 0),o8]) {rfl,()} ?_ ?_
  .rintro k σ' H2 hk ⟨rfl,o8,rfl⟩;obtain rfl:k=0:=⋯;exact{(),(),(),bL {rfl,()}}
  rintro σ' H2 ⟨rfl,o8,rfl⟩;exists (),(),_,_,.inl (aj.of hl'),rfl,(),_,_,.inl (aj.of (g _ _ hl1)),rfl;exists (),.inl {rfl,_,aj.of hL},(),lh,"",hL,∅;exact{g.upd hlh _,_,_,_,(),ao}
 .rintro σ' H' ⟨g,o5,o6,o7,o8,rfl,hL⟩;refine{(),(),(aZ 2),λt ht=>?_};have gt:=Same.new ht (.tup [.ref lh,.int 1]);exact q t lh _ (g.trans gt) ao (gt _ _ hL)
theorem aJO(F:Fn K mg "lowest" Y7 ["by","bottom","tops"])(AZ:U5 M)(zW:VG M):aoE M:=by
 delta DF DF
 intros l x rfl hl hx q h;refine{_,#[(),(bD (0!=_:) (aM (aF (cF #[_,(dB (sc:=aNg) (N:=["top","bottom","by"]) (ix:=[none,some 1,some 0]) cM rfl (dh K (2:)) (λ_ _ _ _ _=>{(aY 0 cJ),cO,(aH AZ hr #[2,0,1])}))]))) bH),(fj (i:=4) DF.nd rfl (dZ rfl) (eU AJ rfl B.yU boot_abs #[1])),(gk PassesOwn.never rfl (dh K (2:)) (aY 3 DF.nd) (aM (fj (i:=4) DF.nd rfl (dZ rfl) (aH zW hr #[4,3])))),(tU (bD (1<_:) (aM (fj (i:=4) DF.nd rfl (dZ rfl) (_-4:))) bH)),(aF (cF #[(1/4:),(dB (sc:=aF0) (N:=["top","divisor"]) (ix:=[none,some 4]) cM rfl (dh K (2:)) (λ_ _ _ _ _=>{(aY 0 cJ),cO,(0/1:)}))]))],?_};refine{(),(),bL ?_};exists (),1,rfl;refine{(),l,rfl,.inl {{_,aj.of hl},?_}};refine aeD (iu (aj.of hl)) (λi σ' H'=>∃o3:Option V,σ'=[some (.int 0),some (.int 1),some (.ref l),o3,some (.int 1)]/\H'=H) {(),rfl} (λi σ' H' ⟨_,_,z⟩=>z▸Same.refl _) ?_ ?_
 .rintro i z σ' H' hz ⟨o3,rfl,rfl⟩
  match i,hz with
  |0,hz=>
   cases hz;exact{(),(),1,x,1,rfl,hx,(),rfl}
 rintro σ' H' ⟨o3,rfl,rfl⟩;refine{(),"",(),bL ?_};refine{(),(),"",{∅,∅},(),l,rfl,.inl {{_,aj.of hl},Em (xs:=[x]) hl (by show 1<=1000;decide) rfl (λx=>x) ?_ ?_}}
 .intro H2 y g2 hy k hk;exists (),(),"",{∅,∅};show k (.int (y/1)) H2;rw[GP];exact hk
 intro D hD;have g1:=Same.new hD (.lst [.int x]);refine{(aZ 2),λt ht=>?_};have gt:=Same.new ht (.tup [.int 1,.ref D]);exact q t D _ (g1.trans gt) ao (gt _ _ ao)
theorem aHB(F:Fn K mg "free_numbers" acU ["by","wide","lines","heads","last"]):ajy M:=by
 exact F.cal aGm (λH Q E hr h=>h.elim) λ_ _ _ _ h=>h.elim
theorem au5(F:Fn K mg "solution" Zx ["by","wide","table","wished"])(aaU:ah3 M)(Vi:ak5 M)(Xp:aoE M)(YW:ajy M):aqP M:=by
 delta vq vq
 intros lt l1 lw x rfl hlt hl1 Fe hx q h;refine{_,#[(),(vH (i:=4) (hN:=vq.nd) (hi':=rfl) (hx:=(ju rfl)) (sc:=ayP) (N:=["i","by","table","wished"]) (ix:=[none,some 0,some 2,some 3]) cM rfl (fL rfl B.dY #[(cj K B.bZ #[2])]) (λ_ _ _ _ _=>{(aY 0 cJ),cO,(aH aaU hr #[1,((aQ K (2:) (0:))+(cC #[(aQ K (3:) (0:))]):)])})),(au 6 vq.nd (aH Vi hr #[0,1,4])),(au 7 vq.nd (-6:)),(au 8 vq.nd (-6:)),(bD (fY (eU (Tq K rfl) rfl B.UJ boot_any #[(dB (sc:=asY) (N:=["line","wide"]) (ix:=[none,some 1]) cM rfl (dh K (jq (kW K) (4:) (jd (cj K B.bZ #[7])) jr)) (λ_ _ _ _ _=>{(aY 0 cJ),cO,(lB (xne K hr) (aQ K (0:) (1:)) aU (mF _))}))])) (aM (aF vh)) bH),(au 9 vq.nd ((cC #[_])*1:)),(gk PassesOwn.never rfl (fL rfl B.dY #[(cj K B.bZ #[7])]) (aY 5 vq.nd) (aM (qG (aQ K (aQ K (4:) (5:)) (1:)) (xH (9:) (aQ K (7:) (5:)) set_list)))),(au 10 vq.nd (aH Xp hr #[0,8,9])),(bD ((cj K B.bZ #[7])==1:) (aM (aF (cF #["",-10,-10]))) bH),(aF (cF #["",-10,-10,(aH YW hr #[0,1,4,7,8])]))],?_};exists (),.ref lt,1,rfl,.inl {_,aj.of hlt,rfl},1,rfl,∅,∅;refine acp (Bk (lo:=0) (n:=1)) rfl (λy H5=>∃lb,y = .ref lb/\H5 lb=some (.lst [.int 1,.int x])) ?_ ?_
 .intro H2 g2 k hk;refine{(),(),(),_,_,.inl (aj.of (g2 _ _ hlt)),rfl,(),(),_,_,.inl (aj.of (g2 _ _ Fe)),rfl,(aZ 1),λl3 hl3=>?_};have g3:=Same.new hl3 (.lst [.int x]);refine .inl {_,_,g3 _ _ (g2 _ _ hl1),ao,(by show 2<=sizeLine;decide),λl4 jB=>?_};exact{l4,x,rfl,ao,λt H5 g5 h5=>hk _ H5 (g3.trans ((Same.new jB _).trans g5)) {t,rfl,(h5)}}
 rintro D y H1 hD g1 Yp ⟨lb,rfl,hb⟩;have nb:lb≠D:=λz=>by rw[z,Yp]at hb;cases hb
 have g1:=g1.upd hD (.lst [.ref lb]);have h1:(upd H1 D (.lst [.ref lb])) D=some (.lst [.ref lb]):=ao;have hb1:(upd H1 D (.lst [.ref lb])) lb=some (.lst [.int 1,.int x]):=by rw[bY nb];exact hb
 generalize upd H1 D (.lst [.ref lb])=H1 at g1 h1 hb1;refine{(),(),(),D,lb,x,rfl,h1,hb1,λtc lh H2 g2 hc hh=>?_};have h12:=g2 _ _ h1;have hb2:=g2 _ _ hb1;exists (),_,_,.inr (aq.of hc),rfl;exists (),_,_,.inr (aq.of hc),rfl;refine{(),(),.ref lh,1,rfl,.inl {_,aj.of hh,rfl},((1:Nat):Int),rfl,.inl {_,aj.of h12,λl3 hl3=>?_}};have g3:=Same.new hl3 (.lst []);have h3:(upd H2 l3 (.lst [])) l3=some (.lst []):=ao;have hh3:=g3 _ _ hh;have h13:=g3 _ _ h12;have hb3:=g3 _ _ hb2;rw[show gq [V.ref lb] (some ((1:Nat):Int)) none=[]from rfl];generalize upd H2 l3 (.lst [])=H3 at g3 h3 hh3 h13 hb3;refine{l3,rfl,.inl {{_,aj.of h3},mJ (iu (aj.of h3)) (fJ _) rfl (λ_=>true) (λx=>x) (λ_ _ _ hx=>absurd hx iY) (λ_ _ _ hx=>absurd hx iY) λD4 xq=>?_}};have g4:=Same.new xq (.lst []);have h4:(upd H3 D4 (.lst [])) D4=some (.lst (([]:List Bool).map V.bl)):=ao;have TV:=g4 _ _ hh3;have h14:=g4 _ _ h13;have hb4:=g4 _ _ hb3;rw[show yw (λx=>x) (Xg (λx=>true) ([]:List V))=[]from rfl];generalize upd H3 D4 (.lst [])=H4 at g4 h4 TV h14 hb4;refine{D4,[],rfl,aj.of h4,(),bL ?_};refine{(aZ 1),λl5 jX=>?_};have g5:=Same.new jX (.lst [.int 0]);refine{(),_,ao,∅,∅,(by show 1*(1:Int).toNat<=sizeLine;decide),λl6 oh=>?_};rw[show(aX (1:Int).toNat [V.int 0]).flatten=[.int 0]from rfl];have g6:=Same.new oh (.lst [.int 0]);have h6:(upd (upd H4 l5 (.lst [.int 0])) l6 (.lst [.int 0])) l6=some (.lst [.int 0]):=ao;have gh:=g5.trans g6;have l60:H l6=none:=(g1.trans (g2.trans (g3.trans (g4.trans g5)))).free oh;have lW:=g1.trans (g2.trans (g3.trans (g4.trans gh)));have hh6:=gh _ _ TV;have Ig:=gh _ _ h14;have Ei:=gh _ _ hb4;have n1:lh≠l6:=fU (g5 _ _ TV) oh;generalize upd (upd H4 l5 (.lst [.int 0])) l6 (.lst [.int 0])=H6 at gh h6 hh6 Ig Ei lW;exists (),.ref lh,1,rfl,.inl {_,aj.of hh6,rfl},1,rfl,∅,∅;refine kY (lo:=0) (n:=1) (λi σ' H'=>Same H H'/\(∃o5 vW,σ'=[some (.int 0),some (.int 1),some (.ref lt),some (.ref lw),some (.ref D),o5,some (.ref tc),some (.ref lh),some (.int 1),some (.ref l6),vW])/\H' l6=some (.lst [.int (if i=0 then 0 else x)])/\H' lh=some (.lst [.int 0])/\H' D=some (.lst [.ref lb])/\H' lb=some (.lst [.int 1,.int x])) {lW,{_,()},h6,hh6,Ig,Ei} ?_ ?_
 .rintro i σ' H' hi ⟨g,⟨o5,vW,rfl⟩,k6,kh,kD,kb⟩;obtain rfl:i=0:=⋯;exists (),(),_,_,.inl (aj.of kD),rfl,(),_,_,.inl (aj.of kb),rfl;exists (),(),(),_,_,.inl (aj.of kh),rfl,l6,_,_,0,rfl,rfl,k6,rfl;have n2:lh≠l6:=n1;have n3:D≠l6:=λz=>by rw[z,k6]at kD;cases kD
  have n4:lb≠l6:=λz=>by rw[z,k6]at kb;cases kb
  exact{g.upd l60 _,{_,()},ao,by rw[bY n2];exact kh,by rw[bY n3];exact kD,by rw[bY n4];exact kb}
 rintro σ' H' ⟨g,⟨o5,vW,rfl⟩,k6,kh,kD,kb⟩;refine{(),(),(),l6,x,rfl,k6,hx,λtl l2 H7 g7 DG h27=>?_};refine{(),.ref lh,1,rfl,.inl {_,aj.of (g7 _ _ kh),rfl},(),(),dM ?_};refine{(),_,_,.inr (aq.of DG),rfl,(),_,_,.inr (aq.of DG),rfl,(aZ 3),λt ht=>?_};have gt:=Same.new ht (.tup [.str ("one" : Str),.int 1,.ref l2]);exact q t l2 _ (g.trans (g7.trans gt)) ao (gt _ _ h27)
theorem awh(F:Fn K mg "paper_against" QZ ["by","wide","table","wished"]):aij M:=by
 exact F.cal aGU (λH Q E hr h=>h.elim) λ_ _ _ _ h=>h.elim
theorem at6(F:Fn K mg "solved" Us ["by","wide","table","wished"])(X6:aqP M)(Yl:aij M):aps M:=by
 delta ah2 ah2
 intros lt l1 lw x rfl hlt hl1 Fe hx q h;exists _,#[(),(au 4 ah2.nd (aH X6 hr #[0,1,2,3])),(bD (rK (LR (4:))) (aM (aF (cF #["",(aH Yl hr #[0,1,2,3])]))) bH),(aF (4:))];refine{(),(),(),(),lt,l1,lw,x,rfl,hlt,hl1,Fe,hx,λt l2 H1 g1 ht h2=>?_};refine{(),(),bL ?_};exact{(),q t l2 H1 g1 ht h2}
theorem aFh(F:Fn K mg "closed" acM ["row"])(j6:zZ M)(Yd:ajn M)(Bu:Xl M)(Wu:ahJ M)(SY:aps M)(Y8:agA M):ajX M:=by
 delta Ai
 intros v r rfl hR h h;refine{_,#[(),(dJ (cL j6 hr rfl #[0])),(au 1 Ai.nd (cL Yd hr rfl #[(aH Bu hr #[0])])),(fj (i:=2) Ai.nd rfl (dZ rfl) (-1:)),(bD (PW.pt (gP (-1!=(cF #[_]):) (jR (fY (eU (Tq K rfl) rfl B.UJ boot_any #[(dB (sc:=awT) (N:=["pair"]) (ix:=[none]) cM rfl (dh K (2:)) (λ_ _ _ _ _=>{(aY 0 cJ),cO,(lB (oO K hr) (-0:) aU (mF _))}))]))))) (aM (aF vh)) bH),(au 3 Ai.nd (eU (Km K rfl) rfl B.Ma boot_sum #[(dB (sc:=aPZ) (N:=["pair"]) (ix:=[none]) cM rfl (dh K (2:)) (λ_ _ _ _ _=>{(aY 0 cJ),cO,(-0:)}))])),(vH (i:=4) (hN:=Ai.nd) (hi':=rfl) (hx:=(ju rfl)) (sc:=aKb) (N:=["n","roots"]) (ix:=[none,some 2]) cM rfl (fL rfl B.dY #[3]) (λ_ _ _ _ _=>{(aY 0 cJ),cO,(aH Wu hr #[1,0])})),(au 5 Ai.nd (aH SY hr #[_,3,4,(fZ (xlist K) rfl B.uJ boot_list #[(jq (kW K) (-0:) jr (jd (3:)))])])),(aF (cF #[-5,(aH Y8 hr #[2,-5])]))],?_};refine{(),v,r,rfl,hR,λhb=>?_,λhb=>?_}
 rotate_left
 .rcases h with⟨_,q⟩|⟨z,_⟩|⟨x,rfl,_⟩
  .exact q
  .simp only[Mu,cW,decide_eq_true_eq]at z;exact absurd z.1.1 hb
  .exact absurd rfl hb
 rcases h with⟨z,_⟩|⟨z,q⟩|⟨x,rfl,hx,q⟩
 .exact absurd hb z
 .simp only[Mu,cW,decide_eq_true_eq]at z;obtain⟨⟨z1,z2⟩,z3⟩:=z;have hl:(jm r.b r.rule).length<=40:=by
   simp only[jK,cW,decide_eq_true_eq]at z2;rw[Oe];have:=z2.1.1.1.1.1.1.1.1.2;lia
  refine{(),v,r,rfl,hR,z2,λt H1 g1 h1=>?_};exact{t,(),h1,hl,.inl {by rw[z1];exact z3,q.up g1}}
 simp only[clO,cW,decide_eq_true_eq]at hx;obtain⟨a,p1,p2,rfl,hA,hP,hS⟩:=id hR;refine{(),_,(),hR,hx.1,λt0 H1 g1 h1=>?_};refine{t0,(),h1,(by show 2<=40;decide),.inr {rfl,λt l lt e H2 g2 hT hl he hlt=>?_}};exists (),_,_,.inr (aq.of hT),rfl;exists (),_,_,.inr (aq.of hT),rfl;refine{(aZ 1),λt3 C0=>?_};have g3:=Same.new C0 (.tup [.int 1]);refine aav (ns:=[1]) (ms:=[1]) (aq.of (g3 _ _ hlt)) (aq.of ao) ?_;refine{(),bL ?_};have hl3:=g3 _ _ hl;have Ow:=g3 _ _ he;have eX:=g1.trans (g2.trans g3);generalize upd H2 t3 (.tup [.int 1])=H3 at hl3 Ow eX;refine{(),l,rfl,.inl {{_,aj.of hl3},mJ (iu (aj.of hl3)) (by show 1<=sizeLine;decide) rfl (λ_=>true) (λ_=> .bl false) (λ_ _ _ _ k hk=>hk) ?_ ?_}}
 .intro H4 x4 g4 hx4 _ k hk;obtain rfl:=kO.mp hx4;exact{(),_,_,.inr (aq.of (g4 _ _ Ow)),rfl,hk}
 intro D4 xq;rw[show yw (λ_=>V.bl false) (Xg (λ_=>true) [V.ref e])=[false].map V.bl from rfl];have g4:=Same.new xq (.lst ([false].map V.bl));refine{D4,[false],rfl,aj.of ao,(),bL ?_};have jB:=g4 _ _ hl3;have he4:=g4 _ _ Ow;have iD:=eX.trans g4;generalize upd H3 D4 (.lst ([false].map V.bl))=H4 at jB he4 iD;refine{(),l,rfl,.inl {{_,aj.of jB},mJ (iu (aj.of jB)) (by show 1<=sizeLine;decide) rfl (λ_=>true) (λ_=> .int 1) (λ_ _ _ _ k hk=>hk) ?_ ?_}}
 .intro H5 x5 g5 hx5 _ k hk;obtain rfl:=kO.mp hx5;exact{(),_,_,.inr (aq.of (g5 _ _ he4)),rfl,hk}
 intro D5 Od;rw[show yw (λ_=>V.int 1) (Xg (λ_=>true) [V.ref e])=[1].map V.int from rfl];have g5:=Same.new Od (.lst ([1].map V.int));exists D5,[1],rfl,aj.of ao;have jX:=g5 _ _ jB;have he5:=g5 _ _ he4;have je:=iD.trans g5;generalize upd H4 D5 (.lst ([1].map V.int))=H5 at jX he5 je;exists (),1,rfl,∅,∅;refine acp (Bk (lo:=0) (n:=1)) rfl (λy H6=>∃lb,y = .ref lb/\H6 lb=some (.lst [.int 1])) ?_ ?_
 .intro H6 g6 k hk;exact{(),(),l,e,rfl,g6 _ _ jX,g6 _ _ he5,λt H7 g7 h7=>hk _ H7 g7 {t,rfl,(h7)}}
 rintro D6 y H6 hD6 g6 Yp ⟨lb,rfl,hb⟩;have nb:lb≠D6:=λz=>by rw[z,Yp]at hb;cases hb
 have g6:=g6.upd hD6 (.lst [.ref lb]);have h6:(upd H6 D6 (.lst [.ref lb])) D6=some (.lst [.ref lb]):=ao;have Ei:(upd H6 D6 (.lst [.ref lb])) lb=some (.lst [.int 1]):=by rw[bY nb];exact hb
 have lW:=je.trans g6;have oh:=g6 _ _ jX;have he6:=g6 _ _ he5;generalize upd H6 D6 (.lst [.ref lb])=H6 at lW h6 Ei oh he6;refine{(),(),(),_,_,.inr (aq.of (lW _ _ hA)),rfl,(),(),.inr (.inr {_,aq.of (lW _ _ hS),{rfl,(rfl)},p2,(),.inr (aq.of (lW _ _ hS)),λlw Fe=>?_})};have g7:=Same.new Fe (.lst [.int x]);refine{D6,lb,lw,x,rfl,g7 _ _ h6,g7 _ _ Ei,ao,hx.2,λta l2 H8 g8 hta h2=>?_};have rO:=g7.trans g8;refine{(),_,_,.inr (aq.of hta),rfl,(),(),_,_,.inr (aq.of hta),rfl,l,e,l2,x,rfl,rO _ _ oh,rO _ _ he6,h2,λtp p lx H9 g9 k1 k2 k3=>?_};refine{(aZ 2),λt9 ht9=>?_};have gt:=Same.new ht9 (.tup [.int 1,.ref tp]);exact q t9 tp p lx _ (lW.trans (rO.trans (g9.trans gt))) ao (gt _ _ k1) (gt _ _ k2) (gt _ _ k3)
theorem aFp(F:Fn K mg "above_all_shown" Oq []):aj3 M:=by
 delta aM2 aM2
 intros rfl q h;exists _,(aM (aF (jg Tg (jg Tg (jg Tg aU aU) aU) aU)));exists "",{∅,∅};exists "",{∅,aA5};exact{"",{∅,ayp},q}
theorem awP(F:Fn K mg "number_shown" VL ["number"])(W9:aj3 M):rZ M:=by
 delta azB
 intros n rfl q1 q2 h;exists _,#[(),(bD ((eU AJ rfl B.yU boot_abs #[0])>=(aMu W9 hr rfl):) (aM (iM M.ajz rfl #[""])) bH),(aF (fZ (aNL rfl) rfl B.vP boot_str #[0]))];exists (),n,rfl,rfl,"",();unfold iG at q1 q2;have e:(if n<0 then -n else n)=((n.natAbs:Nat):Int):=by split<;>lia
 refine cI (λc=>?_) (λc=>?_)
 .have:=dec_true c;rw[e,ajY]at this;rw[if_neg (λz:zR n=>absurd (aaJ.mp this) (Nat.not_le.mpr z))]at q2;exact{(aZ 1),(q2 _ rfl).now}
 .have hf:zR n:=by
   have:=dec_false c;rw[e,ajY]at this;exact Nat.not_le.mp λz=>this (aaJ.mpr z)
  rw[if_pos hf]at q1;exact{(),n,rfl,aMd hf,q1 _ rfl}
theorem asd(F:Fn K mg "numbers_shown" acd ["numbers"])(fQ:rZ M):Kc M:=by
 delta ays
 intros l ns rfl hl hz hj q1 q2 h;refine{_,(aM (aF (lE K m6 yd xR yx cX (yW rm (sc:=aQY) (N:=["number"]) (ix:=[none]) cM rfl (dh K (0:)) (λ_ _ _ _ _=>{(aY 0 cJ),cO,(pN fQ hr rfl #[0])}))))),?_};unfold Ge at q1 q2;refine{rfl,(),l,rfl,.inl {{_,aj.of hl},yK (E:=E) M.ad (iu (aj.of hl)) hz rfl iG (λd y _=>y = .str d) (λ_ _ _ _ _ h=>h) ?_ ?_ ?_}}
 .intro H' x g hx k hk hc;exact{(),x,rfl,λt e=>hk t _ H' e (Same.refl _) rfl,hc}
 .intro ds D H' ys e hD g hL hp;rw[e]at q1;obtain rfl:=Cy hp;refine{_,D,ds,rfl,rfl,hL,by rw[jN];exact hj _ e,?_};rw[jN];exact q1 _ rfl H' g
 .intro c e;rw[e]at q2;exact q2 c rfl
theorem aLz(F:Fn K mg "shown" RV ["row"])(fQ:rZ M):agd M:=by
 delta ap8
 obtain⟨v,r,rfl,⟨a,p,p2,rfl,hA,hP,hQ⟩,ok,q1,q2⟩:=h;refine{_,#[(),(Uu rm (i:=1) (hN:=ap8.nd) (hi':=rfl) (hx:=(ju rfl)) (sc:=auP) (N:=["number"]) (ix:=[none]) cM rfl (dh K (-0:)) (λ_ _ _ _ _=>{(aY 0 cJ),cO,(pN fQ hr rfl #[0])})),(dJ (jy K (1:) cX)),(dJ (KW K (1:) (yW rm (sc:=aMV) (N:=["number"]) (ix:=[none]) cM rfl (dh K (-0:)) (λ_ _ _ _ _=>{(aY 0 cJ),cO,(pN fQ hr rfl #[0])})))),(bD (-0!=_:) #[(),(dJ (jy K (1:) cX)),(dJ (jy K (1:) (fZ LY rfl B.vP boot_str #[-0])))] bH),(aF (lE K m6 yd xR yx cX (1:)))],?_};simp only[Vj,cW,decide_eq_true_eq]at ok;obtain⟨⟨⟨⟨b0,b1⟩,l1⟩,l2⟩,hj⟩:=ok;unfold O6 at q1 q2;refine{(),_,_,.inr (aq.of hA),rfl,p,rfl,.inr {{_,aq.of hP},yK (E:=E) M.ad (pL (aq.of hP)) ⋯ rfl iG (λd y _=>y = .str d) (λ_ _ _ _ _ h=>h) ?_ ?_ ?_}}
 .intro H' x g hx k hk hc;exact{(),x,rfl,λt e=>hk t _ H' e (Same.refl _) rfl,hc}
 rotate_left
 .intro c e;rw[e]at q2;rw[Rh e];exact q2 _ rfl
 intro ds D H1 ys e1 hD g1 h1 hp;obtain rfl:=Cy hp;have ld:ds.length<=12:=by rw[Ed e1];exact l1
 rw[e1]at q1 q2 hj;refine{(),.inl {rfl,_,aj.of h1},D,"",h1,by rw[bG];exact gU ⋯,?_};have g2:=g1.upd hD (.lst (ds.map V.str++[.str (jl "|")]));have h2:(upd H1 D (.lst (ds.map V.str++[.str (jl "|")]))) D=some (.lst ((ds++[Tx.bar]).map V.str)):=by rw[ao,gC,ams];rfl
 generalize upd H1 D (.lst (ds.map V.str++[.str (jl "|")]))=H2 at g2 h2;have hQ2:=g2 _ _ hQ;refine{(),.inl {rfl,_,aj.of h2},(),_,_,.inr (aq.of (g2 _ _ hA)),rfl,p2,rfl,.inr {{_,aq.of hQ2},yK (E:=E) M.ad (pL (aq.of hQ2)) ⋯ rfl iG (λd y _=>y = .str d) (λ_ _ _ _ _ h=>h) ?_ ?_ ?_}}
 .intro H' x g hx k hk hc;exact{(),x,rfl,λt e=>hk t _ H' e (Same.refl _) rfl,hc}
 rotate_left
 .intro c e;rw[e]at q2;rw[Rh e];exact(q2 _ rfl).up g2
 intro es D2 H3 ys e3 hD2 g3 h3 hp;obtain rfl:=Cy hp;have le:es.length<=12:=by rw[Ed e3];exact l2
 rw[e3]at q1 hj;have q1:∀H',Same H H'->Q (.str (Str.join (Tx.one 32) (ds++Tx.bar::(es++Bx r.b)))) H':=q1 _ rfl;have hj:nB (Tx.one 32) (ds++Tx.bar::(es++Bx r.b))=true:=hj;have h2':=g3 _ _ h2;refine{D,D2,"",h2',h3,by rw[bG,bG,gF];exact jE (gU (by show _+1+_<=1000;lia)),?_};have g4:=(g2.trans g3).upd hD (.lst ((ds++[Tx.bar]).map V.str++es.map V.str));have h4:(upd H3 D (.lst ((ds++[Tx.bar]).map V.str++es.map V.str))) D=some (.lst ((ds++Tx.bar::es).map V.str)):=by rw[ao,<-gC,tK];rfl
 generalize upd H3 D (.lst ((ds++[Tx.bar]).map V.str++es.map V.str))=H4 at g4 h4;have l4:((ds++Tx.bar::es).map V.str).length<=30:=by rw[bG,gF];show _+(_+1)<=30;lia
 exists (),_,_,.inr (aq.of (g4 _ _ hA)),rfl,();by_cases z:r.b=0
 .rw[decide_eq_true z];rw[Bx,if_neg ⋯,qC]at q1 hj;refine bL {rfl,(),_,D,(),rfl,h4,by rw[jN];exact hj,?_};rw[jN];exact q1 H4 g4
 .rw[decide_eq_false z];rw[Bx,if_pos ⋯]at q1 hj;refine dM {(),.inl {rfl,_,aj.of h4},D,"",h4,gU ⋯,?_};have g5:=g4.upd hD (.lst ((ds++Tx.bar::es).map V.str++[.str (jl "by")]));have h5:(upd H4 D (.lst ((ds++Tx.bar::es).map V.str++[.str (jl "by")]))) D=some (.lst ((ds++Tx.bar::es).map V.str++[.str zp])):=by rw[ao,ale]
  generalize upd H4 D (.lst ((ds++Tx.bar::es).map V.str++[.str (jl "by")]))=H5 at g5 h5;refine{(),.inl {rfl,_,aj.of h5},(),_,_,.inr (aq.of (g5 _ _ hA)),rfl,r.b,rfl,?_,D,"",h5,by rw[gF];exact gU (by show _+1<=1000;lia),?_}
  .by_cases z0:r.b.natAbs=0
   .rw[z0];decide
   .exact(Nat.log2_lt z0).mpr (ig (⋯:r.b.natAbs<1000) (by decide +kernel))
  refine{rfl,(),_,D,ds++Tx.bar::(es++[zp,gb r.b]),rfl,rfl,?_,by rw[jN];exact hj,?_}
  .rw[ao];simp[gb]
  .rw[jN];exact q1 _ (g5.upd hD _)
theorem avC(F:Fn K mg "is_written" O8 ["word"]):anR M:=by
 delta afh afh
 intros w rfl hl q h;refine{_,#[(),(au 1 afh.nd (Xi (w6 (fY (lE K m6 adQ ahV alj (0:) cX)) (jq Ks (0:) (jd aU) jr) (0:)))),(bD (PW.pt (gP ((cj K B.bZ #[1])<_:) (jR ((cj K B.bZ #[1])>(nJ rfl B.Yn):)))) (aM (aF fP)) bH),(bD (iU (fY (eU (Qp K rfl) rfl B.aau boot_all #[(dB (sc:=aMA) (N:=["figure"]) (ix:=[none]) cM rfl (aqC (1:)) (λ_ _ _ _ _=>{(aY 0 cJ),cO,(lB ada (0:) (aeI rfl B.aak) (by with_unfolding_all rfl))}))]))) (aM (aF fP)) bH),(aF (acj (lB (oO K hr) (0:) cX (mF _)) (Hq (alZ (lE K m6 adQ ahV alj (1:) cX)))))],?_};have h100:(100000:Nat)<=sizeLine:=∅;have hf:=axc w;unfold Ah at q;refine Bar.by (λv H1=>H1=H/\∃z:Str,v = .str z/\z.cps.toList=fR w) (λkk hkk=>?_) ?_
 .exists (),rfl,w,(),rfl,();rw[aQJ,aeo];refine cI (λc=>?_) (λc=>?_)
  .refine{(),(),w,rfl,⋯,hkk _ _ {rfl,(),?_}};unfold fR;rw[if_pos (dec_true c)];exact ahK w 1
  .refine{(),hkk _ _ {rfl,w,rfl,?_}};unfold fR;rw[if_neg (dec_false c)]
 rintro v H1 ⟨rfl,z,rfl,hz⟩;have zl:z.length=(fR w).length:=by rw[<-hz];simp[tE]
 generalize fR w=fw at *;refine{(),.str z,z.length,rfl,{⋯,rfl},"",(),cI (λc=>?_) (λc1=>?_)}
 .rw[decide_eq_false (by have:=dec_true c;lia:¬1<=fw.length)]at q;exact q _ (Same.refl _)
 rw[decide_eq_true (by have:=dec_false c1;lia:1<=fw.length)]at q;refine{(),.str z,z.length,rfl,{⋯,rfl},"",(),cI (λc=>?_) (λc2=>?_)}
 .rw[decide_eq_false (by have:=dec_true c;lia:¬fw.length<=60)]at q;exact q _ (Same.refl _)
 have f60:fw.length<=60:=by have:=dec_false c2;lia
 rw[decide_eq_true f60]at q;exists (),z,rfl;refine mJ aeP (by rw[bG,hz];lia) rfl (λ_=>true) (λx=>match x with | .str s=> .bl (decide (s.cps.toList.headD 0∈oG))|_=> .non) ?_ ?_ ?_
 .intro H2 x g2 hx k hk;exact hk
 .intro H2 x g2 hx _ k hk;obtain⟨ch,hch,rfl⟩:=fM.mp hx;exists (),"";rw[aou,aNC];exact hk
 intro D hD;have gD:=Same.new hD (.lst (((z.cps.toList.map λc=>V.str {{([c])}}).filter λ_=>true).map λx=>match x with | .str s=> .bl (decide (s.cps.toList.headD 0∈oG))|_=> .non))
 refine{D,z.cps.toList.map λc=>decide (c∈oG),rfl,aj.of (by rw[ao,u6.mpr (by simp),iz,iz];rfl),?_};rw[Uk,hz];rw[hz]at gD;rw[show(id∘λc=>decide (c∈oG))=λc=>decide (c∈oG)from rfl];exists ();revert q;cases fw.all λc=>decide (c∈oG)<;>intro q
 .exact dM (q _ gD)
 refine bL {(),(),?_};rw[aCk];refine cI (λc=>?_) (λc=>?_)
 .rw[show decide (w=Tx.one 48)=true from c]at q;exact q _ gD
 .rw[show decide (w=Tx.one 48)=false from pG.mpr c]at q;exists (),rfl,z,(),rfl;rw[aeo,hz];exact{(),q _ gD}
theorem aKw(F:Fn K mg "read_number" Vm ["word"])(acR:anR M):NT M:=by
 delta awV
 intros w rfl hl q1 q2 h;exists _,#[(),(bD (iU (fY (aH acR hr #[0]))) (aM (iM M.DB rfl #[""])) bH),(aF (fZ azZ rfl B.anz boot_int #[0]))];unfold mK at q1 q2;refine{(),w,rfl,hl,λH1 g1=>{(),?_}};cases e:Ah w with
 |false=>
  rw[e]at q2;exact dM {(aZ 1),(q2 _ rfl).up g1 |>.now}
 |true=>
  rw[e]at q1;have wr:=asn e;intros n hn _ _ wr.reads;have q:=q1 _ rfl;rw[hn]at q;exact bL {(),w,(),hn,by have:=Wr.len wr;lia,q H1 g1}
theorem aLN(F:Fn K mg "read_prime" abj ["word"])(qL:NT M)(AW:Og M):Ys M:=by
 delta aiO
 intros w rfl hl q1 q2 h;exists _,#[(),(au 1 aiO.nd (cL qL hr rfl #[0])),(bD (PW.pt (gP (1==_:) (jR (iU (fY (aH AW hr #[1])))))) (aM (iM M.DB rfl #[""])) bH),(aF (1:))];unfold NS at q1 q2;refine{(),w,rfl,hl,λn e H1 g1=>?_,λc e=>?_}
 rotate_left
 .rw[e]at q2;exact q2 c rfl
 rw[e]at q1 q2;refine{(),(),cI (λc=>?_) (λc=>?_)}
 .have q2:=q2 .text (by show(if n=0 then _ else _)=_;rw[if_pos (dec_true c)]);exact{(aZ 1),(q2.up g1).now}
 have hn:¬n=0:=dec_false c;exists (),n,rfl,();cases eb:yR n with
 |false=>
  have q2:=q2 .text (by show(if n=0 then _ else _)=_;rw[if_neg hn,eb];rfl);exact dM {(aZ 1),(q2.up g1).now}
 |true=>
  have q1:=q1 n (by show(if n=0 then _ else _)=_;rw[if_neg hn,eb];rfl);exact bL {(),q1 H1 g1}
theorem aOC(F:Fn K mg "read_words" Oz ["rule_words","start_words","by"])(qL:NT M)(Vr:alR M):adC M:=by
 delta Np
 intros a1 a2 b rs ss rfl hA hB l1 l2 w1 w2 q1 q2 h;refine{_,#[(),(au 3 Np.nd (fZ (mY K) rfl B.lA boot_tuple #[(yW rm (sc:=aCS) (N:=["word"]) (ix:=[none]) cM rfl (dh K (0:)) (λ_ _ _ _ _=>{(aY 0 cJ),cO,(pN qL hr rfl #[0])}))])),(au 4 Np.nd (fZ (mY K) rfl B.lA boot_tuple #[(yW rm (sc:=arW) (N:=["word"]) (ix:=[none]) cM rfl (dh K (1:)) (λ_ _ _ _ _=>{(aY 0 cJ),cO,(pN qL hr rfl #[0])}))])),(au 5 Np.nd (cF #[2,3,4])),(bD (iU (fY (aH Vr hr #[5]))) (aM (iM M.DB rfl #[""])) bH),(aF (5:))],?_};unfold EA at q1 q2;refine{(),a1,rfl,.inl {{_,aj.of hA},yK (E:=E) M.ad (iu (aj.of hA)) ⋯ rfl mK (λd y _=>y = .int d) (λ_ _ _ _ _ h=>h) ?_ ?_ ?_}}
 .intro H' x g hx k hk hc;exact{(),x,rfl,w1 x hx,λt e H2 g2=>hk t _ H2 e g2 rfl,hc}
 rotate_left
 .intro c e;rw[e]at q2;rw[Oc e];exact q2 _ rfl
 intro ds D H1 ys e1 hD g1 h1 hp;obtain rfl:=Cy hp;have ld:=Ed e1;rw[e1]at q1 q2;refine{D,(),.inl {aj.of h1,λt1 ht1=>?_}};have g2:=Same.new ht1 (.tup (ds.map V.int));have h2:(upd H1 t1 (.tup (ds.map V.int))) t1=some (.tup (ds.map V.int)):=ao;generalize upd H1 t1 (.tup (ds.map V.int))=H2 at g2 h2;have cA:=g1.trans g2;have hB2:=cA _ _ hB;refine{(),a2,rfl,.inl {{_,aj.of hB2},yK (E:=E) M.ad (iu (aj.of hB2)) ⋯ rfl mK (λd y _=>y = .int d) (λ_ _ _ _ _ h=>h) ?_ ?_ ?_}}
 .intro H' x g hx k hk hc;exact{(),x,rfl,w2 x hx,λt e H2 g2=>hk t _ H2 e g2 rfl,hc}
 rotate_left
 .intro c e;rw[e]at q2;rw[Oc e];exact(q2 _ rfl).up cA
 intro es D2 H3 ys e3 hD2 g3 h3 hp;obtain rfl:=Cy hp;have le:=Ed e3;rw[e3]at q1 q2;refine{D2,(),.inl {aj.of h3,λt2 Ey=>?_}};have g4:=Same.new Ey (.tup (es.map V.int));refine{(),(),(),(aZ 3),λt3 C0=>?_};have g5:=Same.new C0 (.tup [.int b,.ref t1,.ref t2]);have hR:cY (upd (upd H3 t2 (.tup (es.map V.int))) t3 (.tup [.int b,.ref t1,.ref t2])) (.ref t3) {b,ds,(es)}:={t3,t1,t2,rfl,ao,(g3.trans (g4.trans g5)) _ _ h2,g5 _ _ ao};have gA:=cA.trans (g3.trans (g4.trans g5));generalize upd (upd H3 t2 (.tup (es.map V.int))) t3 (.tup [.int b,.ref t1,.ref t2])=H5 at hR gA;refine{(),_,(),hR,by show ds.length<=900;lia,by show es.length<=900;lia,λH6 g6=>{(),?_}};cases eb:zQ {b,ds,(es)}with
 |false=>exact dM {(aZ 1),((q2 .text (by show(if zQ _ then _ else _)=_;rw[eb];rfl)).up (gA.trans g6)).now}
 |true=>exact bL {(),(q1 {b,ds,(es)} (by show(if zQ _ then _ else _)=_;rw[eb];rfl)) _ H6 (gA.trans g6) (hR.same g6)}
theorem aKx(F:Fn K mg "read" QF ["text"])(M7:adC M)(zT:Ys M):apd M:=by
 delta Ek
 intros t rfl tl hw q1 q2 h;exists _,#[(),(bD (iU (fY (eU xg rfl B.jZ boot_isinstance #[0,(vp rfl B.vP boot_str)]))) (aM (iM M.DB rfl #[""])) bH),(au 1 Ek.nd (lE K m6 abP abg V2 (0:) cX)),(bD ((lE K MX PySem.F.slot_list_count PySem.F.type_list_count aQn (1:) cX)!=_:) (aM (iM M.DB rfl #[""])) bH),(au 2 Ek.nd (lE K MX PySem.F.slot_list_index PySem.F.type_list_index aNJ (1:) cX)),(au 3 Ek.nd (jq (kW K) (1:) (jd (2+_:)) jr)),(au 4 Ek.nd ((cj K B.bZ #[3])-_:)),(bD (PW.pt (xu (4>=_:) (wF ((aQ K (3:) (4:))=="":)))) (aM (aF (cL M7 hr rfl #[(jq (kW K) (1:) jr (jd (2:))),(jq (kW K) (3:) jr (jd (4:))),(cL zT hr rfl #[(aQ K (3:) (4+_:))])]))) bH),(aF (cL M7 hr rfl #[(jq (kW K) (1:) jr (jd (2:))),3,_]))];refine{(),.str t,"str","str",rfl,rfl,by simp,(),bL ?_};refine{(),rfl,t,(),rfl,by rw[jN];rfl,⋯,λD hD=>?_};rw[jN];unfold Yq aeT at q1 q2;have lw:=(adb t (Tx.one 32)).1;generalize mj t (Tx.one 32)=ws at *;have g1:=Same.new hD (.lst (ws.map V.str));have h1:(upd H D (.lst (ws.map V.str))) D=some (.lst (ws.map V.str)):=ao;generalize upd H D (.lst (ws.map V.str))=H1 at g1 h1;exists (),.inl {rfl,_,aj.of h1},D,ws,(),rfl,h1,();rw[ams];by_cases hc:ws.count Tx.bar=1
 rotate_left
 .rw[if_neg hc]at q2;rw[decide_eq_false (⋯:¬((ws.count Tx.bar:Nat):Int)=1)];exact dM {(aZ 1),((q2 _ rfl).up g1).now}
 rw[if_pos hc]at q1 q2;rw[hc];refine bL ?_;obtain⟨hj,hno⟩:=aFI hc;generalize ws.idxOf Tx.bar=j at *;have hjl:j<ws.length:=(List.getElem?_eq_some_iff.mp hj).1;exists (),.inl {rfl,_,aj.of h1},D,ws,_,j,rfl,rfl,h1,hj,hno;refine{(),(),(),.inl {_,aj.of h1,λD2 hD2=>?_}};have ayI:gq (ws.map V.str) (some ((j:Int)+1)) none=(ws.drop (j+1)).map V.str:=by rw[aGv,<-J5]
 have eA:gq (ws.map V.str) none (some (j:Int))=(ws.take j).map V.str:=by rw[El,<-xV]
 have hw1:∀w∈ws.take j,w.length<=100000:=λw h=>hw w (Lp h);have hw2:∀w∈ws.drop (j+1),w.length<=100000:=λw h=>hw w (agW h);have lb:(ws.drop (j+1)).length<=ws.length:=by rw[tW];lia
 have la:(ws.take j).length<=ws.length:=by rw[nO];lia
 rw[ayI];generalize ws.drop (j+1)=bh at *;generalize ws.take j=ah at *;have g2:=Same.new hD2 (.lst (bh.map V.str));have h2:(upd H1 D2 (.lst (bh.map V.str))) D2=some (.lst (bh.map V.str)):=ao;have h1':=g2 _ _ h1;generalize upd H1 D2 (.lst (bh.map V.str))=H2 at g2 h2 h1';have cA:=g1.trans g2;exists (),.ref D2,bh.length,rfl,.inl {_,aj.of h2,(bG _).symm},"";have fin:∀(o:Except Cl Rw),o=EA 0 ah bh->(∀x,o = .ok x->Rt x H Q)->(∀c,o = .error c->Rf M.ad c H E)->∀H3 D3,Same H2 H3->H3 D3=some (.lst (ah.map V.str))->ajB M.ad [.ref D3,.ref D2,.int 0] H3 Q E:=λo eo q1 q2 H3 D3 g3 h3=>
  {D3,D2,0,ah,bh,rfl,h3,g3 _ _ h2,⋯,⋯,hw1,hw2,λx e=>(q1 x (eo.trans e)).up (cA.trans g3),λc e=>(q2 c (eo.trans e)).up (cA.trans g3)}
 refine{(),"",(),cI (λc=>?_) (λc=>?_)}
 .have h2l:2<=bh.length:=by have:=dec_true c;lia
  have hx:(bh.map V.str)[bh.length-2]?=some (.str bh[bh.length-2]):=by rw[List.getElem?_map,List.getElem?_eq_getElem ⋯];rfl
  exists (),(),_,_,.inl (aj.of h2),Mt (bh.length-2) ⋯ hx,();rw[ale];by_cases hb:bh[bh.length-2]=zp
  .rw[decide_eq_true hb];rw[if_pos {h2l,by rw[List.getElem?_eq_getElem ⋯,hb]}]at q1 q2;refine dM {(),(),(),.inl {_,aj.of h1',λD3 wu=>?_}};rw[eA];have g3:=Same.new wu (.lst (ah.map V.str));have h3:(upd H2 D3 (.lst (ah.map V.str))) D3=some (.lst (ah.map V.str)):=ao;have h2':=g3 _ _ h2;generalize upd H2 D3 (.lst (ah.map V.str))=H3 at g3 h3 h2';refine{(),(),(),.inl {_,aj.of h2',λD4 xq=>?_}};have eB:gq (bh.map V.str) none (some ((bh.length:Int)-2))=(bh.take (bh.length-2)).map V.str:=by
    rw[(⋯:(bh.length:Int)-2=((bh.length-2:Nat):Int)),El,<-xV]
   rw[eB];have g4:=Same.new xq (.lst ((bh.take (bh.length-2)).map V.str));have h4:(upd H3 D4 (.lst ((bh.take (bh.length-2)).map V.str))) D4=some (.lst ((bh.take (bh.length-2)).map V.str)):=ao;have h3':=g4 _ _ h3;have amJ:=g4 _ _ h2';generalize upd H3 D4 (.lst ((bh.take (bh.length-2)).map V.str))=H4 at g4 h4 h3' amJ;have iD:=cA.trans (g3.trans g4);have x2:bh[bh.length-1]?=some bh[bh.length-1]:=List.getElem?_eq_getElem ⋯;rw[x2]at q1 q2;refine{(),(),_,.str bh[bh.length-1],.inl (aj.of amJ),Mt (bh.length-1) ⋯ (by rw[List.getElem?_map,x2];rfl),(),hw2 _ (uh _),λp ep H5 g5=>?_,λc ep=>?_}
   .have je:=iD.trans g5;rw[show(some bh[bh.length-1]).getD Tx.bar=bh[bh.length-1]from rfl,ep]at q1 q2;exact{D3,D4,p,ah,(),g5 _ _ h3',g5 _ _ h4,⋯,by rw[nO];lia,hw1,λw h=>hw2 w (Lp h),λx e=>(q1 x e).up je,λc e=>(q2 c e).up je}
   .rw[show(some bh[bh.length-1]).getD Tx.bar=bh[bh.length-1]from rfl,ep]at q2;exact(q2 c rfl).up iD
  .rw[decide_eq_false hb];rw[if_neg (λz=>hb (by have:=z.2;rw[List.getElem?_eq_getElem ⋯]at this;exact jT this))]at q1 q2;refine bL {(),(),(),.inl {_,aj.of h1',λD3 wu=>?_}};rw[eA];exact{(),fin _ rfl q1 q2 _ D3 (Same.new wu _) ao}
 .rw[if_neg (λz=>by have:=z.1;have:=dec_false c;lia)]at q1 q2;refine{(),(),(),.inl {_,aj.of h1',λD3 wu=>?_}};rw[eA];exact{(),fin _ rfl q1 q2 _ D3 (Same.new wu _) ao}
theorem aEm(F:Fn K mg "words_of" acg ["text"]):af3 M:=by
 delta ajU
 intros v rfl h h;exists _,#[(),(bD (iU (fY (eU xg rfl B.jZ boot_isinstance #[0,(vp rfl B.vP boot_str)]))) (aM (iM M.U9 rfl #[""])) bH),(au 1 ajU.nd (lE K m6 abP abg V2 (0:) cX)),(bD (PW.pt (xu (-1=="":) (wF ((cj K B.bZ #[1])>_:)))) (aM (aF ((jq (kW K) (1:) jr (jd aU))+(cC #[(lE K m6 yd xR yx cX (jq (kW K) (1:) (jd aU) jr))]):))) bH),(aF (1:))];rcases h with⟨hn,q⟩|⟨t,ws,rfl,hl,hs,hj,q⟩
 .rcases hn with rfl|⟨i,rfl⟩|⟨b,rfl⟩|⟨l,xs,rfl,hl⟩
  .exact{(),.non,"str","NoneType",rfl,rfl,by simp,(),dM {(aZ 1),q.now}}
  .exact{(),.int i,"str","int",rfl,rfl,by simp,(),dM {(aZ 1),q.now}}
  .exact{(),.bl b,"str","bool",rfl,rfl,by simp,(),dM {(aZ 1),q.now}}
  .exact{(),.ref l,"str","list",rfl,by simp only[Am,hl],by simp,(),dM {(aZ 1),q.now}}
 refine{(),.str t,"str","str",rfl,rfl,by simp,(),bL ?_};refine{(),rfl,t,(),rfl,by rw[jN];rfl,⋯,λD hD=>?_};have hne:ws≠[]:=λe=>En t (Tx.one 32) (hs.trans e);rw[jN,hs];obtain⟨w,r,rfl⟩:∃w r,ws=w::r:=by
  cases ws with
  |nil=>exact absurd rfl hne
  |cons w r=>exact{w,r,(rfl)}
 have g1:=Same.new hD (.lst ((w::r).map V.str));have h1:(upd H D (.lst ((w::r).map V.str))) D=some (.lst ((w::r).map V.str)):=ao;generalize upd H D (.lst ((w::r).map V.str))=H1 at g1 h1;unfold u0 at q;refine{(),_,_,.inl (aj.of h1),at0,(),cI (λc=>?_) (λc=>?_)}
 rotate_left
 .rw[if_neg (λz=>dec_false c (jT z.1))]at q;exact bL {(),q D H1 g1 h1}
 have ew:w=uq:=dec_true c;refine{(),.ref D,(w::r).length,rfl,.inl {_,aj.of h1,(bG _).symm},"",(),cI (λc2=>?_) (λc2=>?_)}
 rotate_left
 .rw[if_neg (λz=>dec_false c2 (by have:=z.2;lia))]at q;exact{(),q D H1 g1 h1}
 have l2:2<(w::r).length:=by have:=dec_true c2;lia
 rw[if_pos {by rw[ew];rfl,l2}]at q;have hj:=hj (by rw[ew];rfl);refine{(),(),.inl {_,aj.of h1,λD2 hD2=>?_}};have e2:gq ((w::r).map V.str) none (some 2)=((w::r).take 2).map V.str:=by rw[xV];exact El _ 2
 have e3:gq ((w::r).map V.str) (some 2) none=((w::r).drop 2).map V.str:=by rw[J5];exact WB _ 2
 rw[e2];have g2:=Same.new hD2 (.lst (((w::r).take 2).map V.str));have h2:(upd H1 D2 (.lst (((w::r).take 2).map V.str))) D2=some (.lst (((w::r).take 2).map V.str)):=ao;have h1':=g2 _ _ h1;generalize upd H1 D2 (.lst (((w::r).take 2).map V.str))=H2 at g2 h2 h1';refine{rfl,(),(),.inl {_,aj.of h1',λD3 wu=>?_}};rw[e3];exists _,D3,((w::r).drop 2),rfl,rfl,ao,hj;have g3:=Same.new wu (.lst (((w::r).drop 2).map V.str));have h2':=g3 _ _ h2;generalize upd H2 D3 (.lst (((w::r).drop 2).map V.str))=H3 at g3 h2';refine{(aZ 1),λD4 xq=>?_};have g4:=Same.new xq (.lst [.str (Str.join (Tx.one 32) ((w::r).drop 2))]);refine .inl {_,[.str (Str.join (Tx.one 32) ((w::r).drop 2))],g4 _ _ h2',ao,?_,λD5 Od=>?_}
 .rw[bG,nO];exact eV (⋯:min 2 _+1<=3) ∅
 refine q D5 _ (g1.trans (g2.trans (g3.trans (g4.trans (Same.new Od _))))) ?_;rw[ao,gC];rfl
theorem aO3(F:Fn K mg "kinds_of" PF ["words"]):ajg M:=by
 delta Lj
 intros l w ws rfl hl hz hk q1 q2 h;refine{_,#[(),(bD (rK (atX D.aml K rfl (-0:))) (aM (iM M.U9 rfl #[""])) bH),(au 1 Lj.nd (avs D.aml K rfl (-0:) (λ_ _=>rfl))),(au 2 Lj.nd ((cj K B.bZ #[0])-_:)),(tU (bD (PW.pt (xu (-0=="":) (wF (aSh LN LN (cj K B.bZ #[1]) (2:) ((cj K B.bZ #[1])+(nJ rfl B.aa3):))))) (aM (au 1 Lj.nd (1+(jg (aCd K) (cF #[""]) (2-(cj K B.bZ #[1]):)):))) bH)),(bD (2!=(cj K B.bZ #[1]):) (aM (iM M.U9 rfl #[""])) bH),(aF (1:))],?_};unfold qm at q1 q2;cases hf:vB.find? λp=>decide (p.1=w)with
 |none=>
  rw[hf]at q2;have hno:w∈AH:=hk.resolve_left λz=>by
   obtain⟨p,hp,e⟩:=fM.mp z;exact absurd (decide_eq_true e) (List.find?_eq_none.mp hf p hp)
  refine{(),_,_,.inl (aj.of hl),at0,_,(),D.Xa.at_ w hno,(),dM {(aZ 1),(q2 rfl).now}}
 |some p=>
  rw[hf]at q1 q2;have hm:=List.mem_of_find?_eq_some hf;obtain rfl:p.1=w:=of_decide_eq_true (List.find?_some (p:=λ(p:Str×List Str)=>decide (p.1=w)) hf);obtain⟨t,et,ht⟩:=D.ayt.at_ _ hm;obtain⟨f4,fne⟩:=aDG _ hm;intros w k0 p;dsimp only at q1 q2 et ht f4 fne hl;have lw:((w::ws).map V.str).length=ws.length+1:=bG _;have lk:(k0.map V.str).length=k0.length:=bG _;refine{(),_,_,.inl (aj.of hl),at0,_,(),et,(),bL ?_};exists (),_,_,.inl (aj.of hl),at0,_,(),et;exists (),.ref l,ws.length+1,rfl,.inl {_,aj.of hl,lw.symm},"";have ec:((ws.length+1:Nat):Int)-1=(ws.length:Int):=⋯;rw[ec];refine uV.by (λσ' H'=>∃(t':Addr) (ks:List Str),σ'=[some (.ref l),some (.ref t'),some (.int ws.length)]/\Same H H'/\aq K H' t' (ks.map V.str)/\ks=(if w = "ahead" /\ k0.length<ws.length/\ws.length<k0.length+12 then k0++aX (ws.length-k0.length) JF else k0)) (λNN mq=>?_) ?_
  .have same:¬(w = "ahead" /\ k0.length<ws.length/\ws.length<k0.length+12)->NN [some (.ref l),some (.ref t),some (.int ws.length)] H:=λz=>mq _ _ {t,k0,rfl,Same.refl _,ht H,(if_neg z).symm};refine{(),_,_,.inl (aj.of hl),at0,(),cI (λc=>?_) (λc=>bL (same λz=>dec_false c z.1))};exists (),.ref t,k0.length,rfl,.inr {_,ht H,lk.symm},(),"",();refine cI (λc1=>?_) (λc1=>{(),bL (same λz=>dec_false c1 (by have:=z.2.1;lia))});have c1':=dec_true c1;exists (),.ref t,k0.length,rfl,.inr {_,ht H,lk.symm},"",();refine cI (λc2=>?_) (λc2=>same λz=>dec_false c2 (by have:=z.2.2;lia));have hn':ws.length<k0.length+12:=by have:=dec_true c2;lia
   refine{(),(aZ 1),λp hp=>?_};have gp:=Same.new hp (.tup [.str "NUMBER"]);exists (),(),.ref t,k0.length,rfl,.inr {_,ht _,lk.symm},"";refine aRM (aq.of ao) ⋯ ⋯ (by show 1*_<=_;lia) λs H1 g1 hs1=>?_;have er:(aX ((ws.length:Int)-(k0.length:Int)).toNat [V.str "NUMBER"]).flatten=(aX (ws.length-k0.length) JF).map V.str:=by
    rw[(⋯:((ws.length:Int)-(k0.length:Int)).toNat=ws.length-k0.length),ajk,Vf]
   rw[er]at hs1;have lr:((aX (ws.length-k0.length) JF).map V.str).length=ws.length-k0.length:=by rw[bG,rY]
   refine .inr {_,_,ht H1,hs1,by rw[lk,lr];exact eV (⋯:k0.length+(ws.length-k0.length)<=1000) ∅,λz=>absurd (amo.mp z) fne,λ_ z=>?_,λ_ _ p2 hp2=>?_}
   .have:(0:Nat)=ws.length-k0.length:=by rw[<-lr,z];rfl
    lia
   .exact mq _ _ {p2,(),gp.trans (g1.trans (Same.new hp2 _)),by rw[gC];exact aq.of ao,(if_pos {dec_true c,⋯,hn'}).symm}
  .rintro σ' H' ⟨t',ks,rfl,g',ht',ek⟩;exists (),(),.ref t',ks.length,rfl,.inr {_,ht',(bG _).symm},();by_cases ha:w = "ahead" /\ k0.length<ws.length/\ws.length<k0.length+12
   .rw[if_pos ha]at ek;have lq:ks.length=ws.length:=by rw[ek,gF,rY];lia
    rw[lq,decide_eq_true rfl];exact bL {(),q1 ks (by rw[if_pos ha,ek]) t' H' g' ht'}
   .rw[if_neg ha]at ek;subst ek;by_cases hn:ws.length=ks.length
    .rw[decide_eq_true (⋯:(ws.length:Int)=(ks.length:Int))];exact bL {(),q1 ks (by rw[if_neg ha,if_pos hn]) t' H' g' ht'}
    .rw[decide_eq_false (⋯:¬(ws.length:Int)=(ks.length:Int))];exact dM {(aZ 1),((q2 (by rw[if_neg ha,if_neg hn])).up g').now}
theorem aMj(F:Fn K mg "read_name" Xb ["word"]):Zj M:=by
 delta aQW
 intros s rfl hz q1 q2 h;refine{_,#[(),(bD (PW.pt (gP ((cj K B.bZ #[0])<_:) (gP ((cj K B.bZ #[0])>(nJ rfl B.PB):) (jR (iU (fY (eU (Qp K rfl) rfl B.aau boot_all #[(dB (sc:=aLD) (N:=["sign"]) (ix:=[none]) cM rfl (aqC (0:)) (λ_ _ _ _ _=>{(aY 0 cJ),cO,(lB ada (0:) (aeI rfl B.abZ) (by with_unfolding_all rfl))}))]))))))) (aM (iM M.am6 rfl #[""])) bH),(aF (0:))],?_};have h100:(100000:Nat)<=sizeLine:=∅;unfold dN at q1 q2;refine{(),.str s,s.length,rfl,{⋯,rfl},"",(),cI (λc=>?_) (λc1=>?_)}
 .rw[decide_eq_false (by have:=dec_true c;lia:¬1<=s.length)]at q2;exact{(aZ 1),(q2 rfl).now}
 rw[decide_eq_true (by have:=dec_false c1;lia:1<=s.length)]at q1 q2;refine{(),.str s,s.length,rfl,{⋯,rfl},"",(),cI (λc=>?_) (λc2=>?_)}
 .rw[decide_eq_false (by have:=dec_true c;lia:¬s.length<=8)]at q2;exact{(aZ 1),(q2 rfl).now}
 rw[decide_eq_true (by have:=dec_false c2;lia:s.length<=8)]at q1 q2;have zl:s.cps.toList.length=s.length:=by simp[tE]
 exists (),s,rfl;refine mJ aeP (by rw[bG];lia) rfl (λ_=>true) (λx=>match x with | .str s=> .bl (decide (s.cps.toList.headD 0∈jV))|_=> .non) ?_ ?_ ?_
 .intro H2 x g2 hx k hk;exact hk
 .intro H2 x g2 hx _ k hk;obtain⟨ch,hch,rfl⟩:=fM.mp hx;exists (),"";rw[aou,adH];exact hk
 intro D' hD;have gD:=Same.new hD (.lst (((s.cps.toList.map λc=>V.str {{([c])}}).filter λ_=>true).map λx=>match x with | .str s=> .bl (decide (s.cps.toList.headD 0∈jV))|_=> .non))
 refine{D',s.cps.toList.map λc=>decide (c∈jV),rfl,aj.of (by rw[ao,u6.mpr (by simp),iz,iz];rfl),?_};rw[Uk,show(id∘λc=>decide (c∈jV))=λc=>decide (c∈jV)from rfl];exists ();revert q1 q2;cases s.cps.toList.all λc=>decide (c∈jV)<;>intro q1 q2
 .exact dM {(aZ 1),q2 rfl _ gD}
 .exact bL {(),q1 rfl _ gD}
theorem aAs(F:Fn K mg "row_named" Yo ["kept","word"])(yN:Zj M):aoS M:=by
 delta ap7
 intros d s M' N rfl hs hk q1 q2 h;refine{_,#[(),(au 2 ap7.nd (cL yN hr rfl #[1])),(bD (rK (aKs hr.hu (2:) (0:))) (aM (iM M.am6 rfl #[""])) bH),(aF (aQq hr.hu (0:) (2:) (λ_ _=>rfl)))],?_};refine{(),s,rfl,hs,λhn H1 g1=>?_,λhn=>q2 (.inl hn)};rcases(hk.same g1).get s with⟨v,r,hg,hm,hR⟩|⟨hg,hm⟩
 .refine{(),(),d,(),hg,(),bL ?_};exact{(),(),d,v,rfl,hg,q1 hn r hm v H1 g1 hR}
 .refine{(),(),d,(),hg,(),dM ?_};exact{(aZ 1),q2 (.inr hm) H1 g1}
theorem aBq(F:Fn K mg "read_word" RK ["kept","kind","word"])(yN:Zj M)(acz:aoS M)(qL:NT M)(zT:Ys M)(ZJ:apd M):apw M:=by
 delta aFt
 intros d k w' M' N rfl hw hs hk q1 q2 h;exists _,#[(),(bD (1=="":) (aM (aF (cL yN hr rfl #[2]))) bH),(bD (1=="":) (aM (aF (cL acz hr rfl #[0,2]))) bH),(bD (1=="":) (aM (aF (cL qL hr rfl #[2]))) bH),(bD (1=="":) (aM (aF (cL zT hr rfl #[2]))) bH),(aF (cL ZJ hr rfl #[2]))];unfold pO at q1 q2;have h1:w'.length<=100000:=⋯;refine{(),(),cI (λc=>?_) (λc=>?_)}
 .rw[if_pos (dec_true c)]at q1 q2;refine{(),w',rfl,h1,λhn H1 g1=>q1 .nm (if_pos hn) _ H1 g1 True.intro,λhn=>q2 _ (by rw[hn];rfl)}
 rw[if_neg (dec_false c)]at q1 q2;refine{(),(),cI (λc=>?_) (λc=>?_)}
 .rw[if_pos (dec_true c)]at q1 q2;refine{(),(),d,w',M',N,rfl,h1,hk,λhn r hr v H1 g1 hR=>q1 (.row r) (by rw[hn,hr];rfl) v H1 g1 hR,λhn=>q2 _ ?_};rcases hn with hn|hn
  .rw[hn];rfl
  .rw[hn];split<;>rfl
 rw[if_neg (dec_false c)]at q1 q2;refine{(),(),cI (λc=>?_) (λc=>?_)}
 .rw[if_pos (dec_true c)]at q1 q2;exact{(),w',rfl,h1,λn e H1 g1=>q1 (.int n) (by rw[e]) _ H1 g1 rfl,λc e=>q2 c (by rw[e])}
 rw[if_neg (dec_false c)]at q1 q2;refine{(),(),cI (λc=>?_) (λc=>?_)}
 .rw[if_pos (dec_true c)]at q1 q2;exact{(),w',rfl,h1,λn e H1 g1=>q1 (.int n) (by rw[e]) _ H1 g1 rfl,λc e=>q2 c (by rw[e])}
 rw[if_neg (dec_false c)]at q1 q2;exact{(),w',rfl,hw,hs,λr e v H1 g1 hR=>q1 (.row r) (by rw[e]) v H1 g1 hR,λc e=>q2 c (by rw[e])}
theorem arX(F:Fn K mg "make_row" abF ["said"]):alL M:=by
 delta aue
 intros k ds o l xs rfl hw hl hp ok q h;obtain rfl:=jc (k':= .row) hw;exists _,(aM (aF (-0:)));obtain⟨r,rfl,e⟩:=Fi ok;cases e;obtain⟨v,_,rfl,hR,hp⟩:=eZ hp;exact{(),_,_,.inl (aj.of hl),at0,q.1 r rfl v H (Same.refl _) hR}
theorem aM9(F:Fn K mg "make_short" aa1 ["said"])(iH:uF M):alg M:=by
 delta aw0
 intros k ds o l xs rfl hw hl hp ok q h;obtain rfl:=jc (k':= .short) hw;cases ok
theorem ax6(F:Fn K mg "make_scale" X7 ["said"])(aoL:ac6 M)(cU:jQ M):apA M:=by
 delta aCE
 intros k ds o l xs rfl hw hl hp ok q h;obtain rfl:=jc (k':= .scale) hw;cases ok
theorem ayj(F:Fn K mg "make_sum" Pu ["said"])(agh:amy M):amR M:=by
 delta auN
 intros k ds o l xs rfl hw hl hp ok q h;obtain rfl:=jc (k':= .sum) hw;cases ok
theorem aQN(F:Fn K mg "make_add" Za ["said"])(Vn:aob M):amU M:=by
 delta aMa
 intros k ds o l xs rfl hw hl hp ok q h;obtain rfl:=jc (k':= .add) hw;exists _,(aM (aF (cL Vn hr rfl #[-0,-0])));obtain⟨r,r2,rfl,e⟩:=N8 ok;obtain⟨hb,rfl⟩:=rD e;obtain⟨v,_,rfl,hR,hp⟩:=eZ hp;obtain⟨v2,_,rfl,lV,hp⟩:=eZ hp;exact{(),_,_,.inl (aj.of hl),at0,(),_,_,.inl (aj.of hl),at1,v,v2,r,r2,rfl,hR,lV,hb,q.er}
theorem aSr(F:Fn K mg "make_roll" abB ["said"])(ab3:alC M):ad3 M:=by
 delta aOv
 intros k ds o l xs rfl hw hl hp ok q h;obtain rfl:=jc (k':= .roll) hw;exists _,(aM (aF (cL ab3 hr rfl #[-0,-0])));obtain⟨r,r2,rfl,e⟩:=N8 ok;obtain⟨hb,rfl⟩:=rD e;obtain⟨v,_,rfl,hR,hp⟩:=eZ hp;obtain⟨v2,_,rfl,lV,hp⟩:=eZ hp;exact{(),_,_,.inl (aj.of hl),at0,(),_,_,.inl (aj.of hl),at1,v,v2,r,r2,rfl,hR,lV,hb,q.er}
theorem aPC(F:Fn K mg "make_multiply" abk ["said"])(aaz:aeS M):ac9 M:=by
 delta aME
 intros k ds o l xs rfl hw hl hp ok q h;obtain rfl:=jc (k':= .multiply) hw;exists _,(aM (aF (cL aaz hr rfl #[-0,-0])));obtain⟨r,r2,rfl,e⟩:=N8 ok;obtain⟨v,_,rfl,hR,hp⟩:=eZ hp;obtain⟨v2,_,rfl,lV,hp⟩:=eZ hp;exists (),_,_,.inl (aj.of hl),at0,(),_,_,.inl (aj.of hl),at1,v,v2,r,r2,rfl,hR,lV;unfold ag3 at e;split at e
 .cases e;exact .inl {by assumption,q.er}
 .split at e
  .rename_i z
   cases e;exact .inr {_,_,z.1,z.2.1.trans z.1,z.2.2,q.1 _ rfl}
  .cases e
theorem aIV(F:Fn K mg "make_every" Ql ["said"])(W6:amE M):aqk M:=by
 delta aAQ
 intros k ds o l xs rfl hw hl hp ok q h;obtain rfl:=jc (k':= .every) hw;exists _,(aM (aF (cL W6 hr rfl #[-0,-0,-0])));obtain⟨r,i,j,rfl,e⟩:=aHn ok;obtain⟨hb,rfl⟩:=rD e;obtain⟨v,_,rfl,hR,hp⟩:=eZ hp;obtain⟨v2,_,rfl,rfl,hp2⟩:=eZ hp;obtain⟨v3,_,rfl,rfl,hp3⟩:=eZ hp2;exact{(),_,_,.inl (aj.of hl),at0,(),_,_,.inl (aj.of hl),at1,(),_,_,.inl (aj.of hl),at2,v,i,j,rfl,hb,q.er}
theorem aKQ(F:Fn K mg "make_ahead" SX ["said"])(Qt:amO M)(cU:jQ M):ah7 M:=by
 delta aHj
 intros k ds o l xs rfl hw hl hp ok q h;obtain rfl:=jc (k':= .ahead) hw;refine{_,(aM (aF (cL Qt hr rfl #[-0,(dB (sc:=aSl) (N:=["number","said"]) (ix:=[none,some 0]) cM rfl (dh K (jq (kW K) (0:) (jd aU) jr)) (λ_ _ _ _ _=>{(aY 0 cJ),cO,(aH cU hr #[(aQ K (-1:) aU),0])}))]))),?_};obtain⟨r,ns,rfl,e⟩:=aMM ok;unfold amI at e;split at e
 rotate_left
 .cases e
 rename_i z
 intros b0 cr h12 et z;obtain⟨v,_,rfl,hR,hp⟩:=eZ hp;obtain rfl:=asG hp;refine{(),_,_,.inl (aj.of hl),at0,(),(),.inl {_,aj.of hl,λD1 hD1=>?_}};rw[show gq (v::ns.map V.int) (some 1) none=ns.map V.int from WB _ 1];have g1:=Same.new hD1 (.lst (ns.map V.int));have k1:(upd H D1 (.lst (ns.map V.int))) D1=some (.lst (ns.map V.int)):=ao;generalize upd H D1 (.lst (ns.map V.int))=H1 at g1 k1;refine{D1,rfl,.inl {{_,aj.of k1},Em k1 ⋯ rfl (Rm.tk r.b) ?_ ?_}}
 .intro H2 y g2 hy kk hkk;obtain⟨a,p1,p2,rfl,hA,_⟩:=id hR;exact{(),_,_,.inl (aj.of (g2 _ _ (g1 _ _ hl))),at0,_,_,.inr (aq.of (g2 _ _ (g1 _ _ hA))),rfl,(),_,(),b0,hkk}
 .intro D2 hD2;rw[et];have g2:=g1.trans (Same.new hD2 (.lst (ns.map V.int)));exists v,r,D2,ns,rfl,hR.same g2,cr,ao,h12;split at e
  .cases e;exact .inl {by assumption,q.er.up g2}
  .split at e
   .rename_i z1 z2
    cases e;exact .inr {⋯,z2,(q.1 _ rfl).up g2}
   .cases e
theorem as3(F:Fn K mg "make_on" abh ["said"])(aaY:ad4 M):ahM M:=by
 delta aw7
 intros k ds o l xs rfl hw hl hp ok q h;obtain rfl:=jc (k':= .on) hw;exists _,(aM (aF (cL aaY hr rfl #[-0,-0])));obtain⟨r,i,rfl,e⟩:=CP ok;obtain⟨hb,rfl⟩:=rD e;obtain⟨v,_,rfl,hR,hp⟩:=eZ hp;obtain⟨v2,_,rfl,rfl,hp⟩:=eZ hp;exact{(),_,_,.inl (aj.of hl),at0,(),_,_,.inl (aj.of hl),at1,v,r,i,rfl,hR,hb,q.er}
theorem as7(F:Fn K mg "make_rest" aah ["said"])(Y5:adK M):akv M:=by
 delta aPD
 intros k ds o l xs rfl hw hl hp ok q h;obtain rfl:=jc (k':= .rest) hw;exists _,(aM (aF (cL Y5 hr rfl #[-0,-0])));obtain⟨r,i,rfl,e⟩:=CP ok;obtain⟨hb,rfl⟩:=rD e;obtain⟨v,_,rfl,hR,hp⟩:=eZ hp;obtain⟨v2,_,rfl,rfl,hp⟩:=eZ hp;exact{(),_,_,.inl (aj.of hl),at0,(),_,_,.inl (aj.of hl),at1,v,_,r,rfl,hR,hb,q.er}
theorem ayD(F:Fn K mg "tell_show" Vq ["said"])(acs:agd M):adw M:=by
 delta aAt
 intros k ds o l xs rfl hw hl hp ok q h;obtain rfl:=jc (k':= .M8) hw;exists _,(aM (aF (cL acs hr rfl #[-0])));obtain⟨r,rfl,e⟩:=Fi ok;split at e
 rotate_left
 .cases e
 rename_i z
 cases e;obtain⟨v,_,rfl,hR,hp⟩:=eZ hp;exact{(),_,v,.inl (aj.of hl),at0,v,r,rfl,hR,z,q}
theorem aFA(F:Fn K mg "tell_places" ZY ["said"])(tH:Kc M)(Q7:aeW M):agZ M:=by
 delta aOQ
 intros k ds o l xs rfl hw hl hp ok q h;obtain rfl:=jc (k':= .places) hw;exists _,(aM (aF (cL tH hr rfl #[(cL Q7 hr rfl #[-0,-0])])));obtain⟨r,n,rfl,e⟩:=CP ok;obtain⟨v,_,rfl,hR,hp⟩:=eZ hp;obtain⟨v2,_,rfl,rfl,hp⟩:=eZ hp;exists (),_,_,.inl (aj.of hl),at0,(),_,_,.inl (aj.of hl),at1,v,r,n,rfl,hR;unfold anh at e;split at e
 .cases e;exact .inl {by assumption,q.er}
 .split at e
  rotate_left
  .cases e
  rename_i z
  cases e;simp only[ai1,cW,decide_eq_true_eq]at z;obtain⟨⟨⟨n0,n3⟩,fo⟩,hj⟩:=z;refine .inr {n.toNat,⋯,⋯,fo,λt H1 g1 _ h1=>?_};exact{t,(),h1,by rw[Rw.qQ];lia,λp ep=>by rw[ep]at hj;exact hj,λx ex H2 g2=>q.1 x ex H2 (g1.trans g2),λc ec=>(q.2 c ec).up g1}
theorem aJy(F:Fn K mg "tell_at" XD ["said"])(fQ:rZ M)(Uq:an7 M):ajr M:=by
 delta aAV
 intros k ds o l xs rfl hw hl hp ok q h;obtain rfl:=jc (k':= .at_) hw;exists _,(aM (aF (cL fQ hr rfl #[(cL Uq hr rfl #[-0,-0])])));obtain⟨r,n,rfl,e⟩:=CP ok;obtain⟨v,_,rfl,hR,hp⟩:=eZ hp;obtain⟨v2,_,rfl,rfl,hp⟩:=eZ hp;exists (),_,_,.inl (aj.of hl),at0,(),_,_,.inl (aj.of hl),at1,v,r,n,rfl,hR;unfold atF at e;split at e
 .cases e;exact .inl {by assumption,q.er}
 .split at e
  rotate_left
  .cases e
  rename_i z1 z
  cases e;refine .inr {pG.mpr z1,n.toNat,⋯,z.2,λH1 g1=>?_};exact{(),λx ex=>q.1 x ex H1 g1,λc ec=>(q.2 c ec).up g1}
theorem awU(F:Fn K mg "tell_part" ZD ["said"])(Zq:afD M)(fQ:rZ M):aqb M:=by
 delta ama
 intros k ds o l xs rfl hw hl hp ok q h;obtain rfl:=jc (k':= .part) hw;exists _,#[(),(au 1 ama.nd (cL Zq hr rfl #[-0,-0])),(aF (w6 (rK (LR (1:))) cX (cL fQ hr rfl #[1])))];obtain⟨r,r2,rfl,e⟩:=N8 ok;obtain⟨hb,rfl⟩:=rD e;obtain⟨v,_,rfl,hR,hp⟩:=eZ hp;obtain⟨v2,_,rfl,lV,hp⟩:=eZ hp;exact{(),_,_,.inl (aj.of hl),at0,(),_,_,.inl (aj.of hl),at1,v,v2,r,r2,rfl,hR,lV,hb,q.er}
theorem aOA(F:Fn K mg "tell_round" aaq ["said"])(tH:Kc M)(OV:agM M):af4 M:=by
 delta aDw
 intros k ds o l xs rfl hw hl hp ok q h;obtain rfl:=jc (k':= .round) hw;exists _,(aM (aF (cL tH hr rfl #[(cL OV hr rfl #[-0])])));obtain⟨r,rfl,e⟩:=Fi ok;obtain⟨hb,rfl⟩:=rD e;obtain⟨v,_,rfl,hR,hp⟩:=eZ hp;exact{(),_,_,.inl (aj.of hl),at0,v,r,rfl,hR,hb,q.er}
theorem aKc(F:Fn K mg "tell_where" Py ["said"])(XJ:adv M)(cU:jQ M)(fQ:rZ M):am2 M:=by
 delta aao
 intros k ds o l xs rfl hw hl hp ok q h;obtain rfl:=jc (k':= .where_) hw;refine{_,#[(),(au 1 aao.nd (cL XJ hr rfl #[-0,(aH cU hr #[(aQ K (-0:) aU),-0])])),(Uu rm (i:=2) (hN:=aao.nd) (hi':=rfl) (hx:=(ju rfl)) (sc:=as6) (N:=["n"]) (ix:=[none]) cM rfl (dh K (-1:)) (λ_ _ _ _ _=>{(aY 0 cJ),cO,(pN fQ hr rfl #[0])})),(dJ (jy K (2:) cX)),(dJ (KW K (2:) (yW rm (sc:=arw) (N:=["n"]) (ix:=[none]) cM rfl (dh K (-1:)) (λ_ _ _ _ _=>{(aY 0 cJ),cO,(pN fQ hr rfl #[0])})))),(dJ (jy K (2:) cX)),(dJ (jy K (2:) (cL fQ hr rfl #[-1]))),(aF (lE K m6 yd xR yx cX (2:)))],?_};obtain⟨r,n,rfl,e⟩:=CP ok;obtain⟨hb,rfl⟩:=rD e;obtain⟨v,_,rfl,hR,hp⟩:=eZ hp;obtain⟨v2,_,rfl,rfl,hp⟩:=eZ hp;obtain⟨a,p1,p2,rfl,hA,_⟩:=id hR;exact{(),_,_,.inl (aj.of hl),at0,(),_,_,.inl (aj.of hl),at0,_,_,.inr (aq.of hA),rfl,(),_,_,.inl (aj.of hl),at1,_,(),by rw[hb];exact Int.le_refl 0,.ref a,_,r,rfl,hR,hb,q.er}
theorem aCi(F:Fn K mg "tell_closed" acC ["said"])(TY:ajX M)(fQ:rZ M)(tH:Kc M):akh M:=by
 delta Yj
 intros k ds o l xs rfl hw hl hp ok q h;obtain rfl:=jc (k':= .closed) hw;refine{_,#[(),(au 1 Yj.nd (cL TY hr rfl #[-0])),(bD (rK (LR (1:))) (aM (aF cX)) bH),(au 2 Yj.nd (cC #[(cL fQ hr rfl #[-1])])),(dJ (KW K (2:) (yW rm (sc:=atm) (N:=["part"]) (ix:=[none]) cM rfl (dh K (-1:)) (λ_ _ _ _ _=>{(aY 0 cJ),cO,((pN fQ hr rfl #[-0])+""+(pN tH hr rfl #[-0]):)})))),(aF (lE K m6 yd xR yx cX (2:)))],?_};obtain⟨r,rfl,e⟩:=Fi ok;obtain⟨v,_,rfl,hR,hp⟩:=eZ hp;exists (),_,_,.inl (aj.of hl),at0,v,r,rfl,hR;unfold ao6 at e;split at e
 .cases e;exact .inl {by assumption,q.er}
 split at e
 .cases e;exact .inr (.inl {by assumption,q.er})
 split at e
 rotate_left
 .cases e
 rename_i z
 intros er hx hf z;cases e;refine .inr (.inr {_,er,hx,λt l1 p lx H1 g1 hT hl1 hp1 hlx=>?_});generalize r.starts.headD 0=x at *;refine{(),(),bL ?_};have e1:iG 1 = .ok (gb 1):=if_pos (by decide +kernel);refine{(),_,_,.inr (aq.of hT),rfl,1,rfl,λs es=>?_,λc ec=>by rw[e1]at ec;cases ec};refine{(aZ 1),λl2 hl2=>?_};have g2:=Same.new hl2 (.lst [.str s]);have h2:(upd H1 l2 (.lst [.str s])) l2=some (.lst [.str s]):=ao;have hT2:=g2 _ _ hT;have Oo:=g2 _ _ hl1;have U7:=g2 _ _ hp1;have aoV:=g2 _ _ hlx;have cA:=g1.trans g2;generalize upd H1 l2 (.lst [.str s])=H2 at h2 hT2 Oo U7 aoV cA;refine{(),.inl {rfl,_,aj.of h2},(),_,_,.inr (aq.of hT2),rfl,l1,rfl,.inl {{_,aj.of Oo},?_}};refine acp (iu (aj.of Oo)) rfl (λ_ _=>False) ?_ (λ_ _ _ _ _ _ z=>z.elim);intro H3 g3 kk hkk;refine{(),_,_,.inr (aq.of (g3 _ _ U7)),rfl,1,rfl,λs3 Lk=>?_,λc ec=>by rw[e1]at ec;cases ec};have e3:s3=gb 1:=by rw[e1]at Lk;cases Lk;rfl
 exists by rw[e3];decide +kernel,_,rfl,_,_,.inr (aq.of (g3 _ _ U7)),rfl;have ex:iG x = .error .big:=if_neg hf;have em:cZ iG [x] = .error .big:=by rw[cZ,ex]
 exact{lx,[x],rfl,g3 _ _ aoV,(by show 1<=1000;decide),(λp ep=>by rw[em]at ep;cases ep),(λy ey=>by rw[Ge,em]at ey;cases ey),λc ec=>by rw[Ge,em]at ec;cases ec;exact q.er.up (cA.trans g3)}
theorem aEW(F:Fn K mg "tell_divisor" WT ["said"])(fQ:rZ M)(Zu:ae8 M):afC M:=by
 delta aAo
 intros k ds o l xs rfl hw hl hp ok q h;obtain rfl:=jc (k':= .divisor) hw;exists _,(aM (aF (cL fQ hr rfl #[(cL Zu hr rfl #[-0])])));obtain⟨r,rfl,e⟩:=Fi ok;obtain⟨v,_,rfl,hR,hp⟩:=eZ hp;exists (),_,_,.inl (aj.of hl),at0,v,r,rfl,hR;unfold apV at e;split at e
 .cases e;exact .inl {by assumption,q.er}
 split at e
 rotate_left
 .cases e
 rename_i er
 cases ed:cd 0 (r.starts.headD 0)with
 |none=>rw[ed]at e;cases e
 |some d=>
  rw[ed]at e;cases e;exact .inr {_,_,d,er,ed,(),λx ex=>q.1 x ex H (Same.refl _),q.2}
theorem atP(F:Fn K mg "tell_divides" W4 ["said"])(j6:zZ M)(aaL:aiM M)(fQ:rZ M):agi M:=by
 delta afd
 intros k ds o l xs rfl hw hl hp ok q h;obtain rfl:=jc (k':= .divides) hw;exists _,#[(),(dJ (cL j6 hr rfl #[-0])),(bD (-0<_:) (aM (iM M.aC8 rfl #[""])) bH),(au 1 afd.nd (cL aaL hr rfl #[-0,-0,-0,-0])),(aF (w6 (rK (LR (1:))) cX (""+(cL fQ hr rfl #[1]):)))];obtain⟨r,n,s1,e1,rfl,e⟩:=aBl ok;obtain⟨v,_,rfl,hR,hp⟩:=eZ hp;obtain⟨v2,_,rfl,rfl,hp2⟩:=eZ hp;obtain⟨v3,_,rfl,rfl,hp3⟩:=eZ hp2;obtain⟨v4,_,rfl,rfl,hp4⟩:=eZ hp3;unfold aqg at e;refine{(),_,_,.inl (aj.of hl),at0,v,r,rfl,hR,λhb=>?_,λhb=>?_}
 rotate_left
 .rw[if_pos hb]at e;cases e;exact q.er
 rw[if_neg (λz=>z hb)]at e;refine{(),_,_,.inl (aj.of hl),at1,"",(),cI (λc=>?_) (λc=>?_)}
 .rw[if_pos (dec_true c)]at e;cases e;exact{(aZ 1),q.er.now}
 rw[if_neg (dec_false c)]at e;obtain⟨hf,rfl⟩:=rD e;exact{(),_,_,.inl (aj.of hl),at0,(),_,_,.inl (aj.of hl),at1,(),_,_,.inl (aj.of hl),at2,(),_,_,.inl (aj.of hl),at3,v,r,n,s1,e1,rfl,hR,hb,hf,q.er}
theorem aC1(F:su K cR "__init__" "Desk.__init__" Yz ["self"]):akm P w K mg base cR:=by
 refine F.cal aKJ (λvs H Q E h=>?_) (λ_ _ _ _ _ H _ Q E hr h=>?_)
 .intros p dx rfl _ h;rfl
 .intros p dx rfl hp q h;exists _,(aM (avN (0:) aI0 rfl));intro d hd;have npd:p≠d:=fU hp hd;refine{(),p,cR,dx,[],rfl,by rw[bY npd];exact hp,D.zN.cl,D.J4,(by show 0<1000;decide),?_};refine q d _ hd {{dx,(ao)},iW.none_ (by rw[bY npd.symm,ao])} λb o e hb=>?_;rw[bY hb,bY (fU e hd)];exact e
theorem atU(F:su K cR "say" "Desk.say" Qw ["self","row"])(Zo:af3 M)(Ol:ajg M)(acZ:apw M)(Uj:agi M)(PJ:afC M)(X4:akh M)(Wb:am2 M)(Rp:af4 M)(VH:aqb M)(R7:ajr M)(Vl:agZ M)(X3:adw M)(Yc:akv M)(abX:ahM M)(Wy:ah7 M)(WH:aqk M)(Va:amR M)(Ws:apA M)(RH:ad3 M)(aby:ac9 M)(Ru:amU M)(R3:alg M)(X8:alL M):aga P w K mg base cR bV bU bN bT bW bM bO bQ:=by
 refine F.cH Kq (λvs H Q E h=>?_) (λ_ _ _ _ _ H _ Q E hr h=>?_)
 .intros p d v M' N rfl _ h;rfl
 .intros p d v M' N rfl hD hN h h;refine{_,#[(),(fj (i:=2) Kq.nd rfl (dZ rfl) (cL Zo hr rfl #[1])),(fj (i:=3) Kq.nd rfl (dZ rfl) (cL Ol hr rfl #[2])),(Uu rm (i:=4) (hN:=Kq.nd) (hi':=rfl) (hx:=(ju rfl)) (sc:=awO) (N:=["k","kinds","self","words"]) (ix:=[none,some 3,some 0,some 2]) cM rfl (fL rfl B.dY #[(cj K B.bZ #[3])]) (λ_ _ _ _ _=>{(aY 0 cJ),cO,(pN acZ hr rfl #[(UN K (2:) rfl),(aQ K (1:) (0:)),(aQ K (3:) (0+_:))])})),(bD (rK (amq D.ap2 K rfl (-2:))) (aM (aF (adB D.ap2 (d7.of (sp:=(ql M.ad)) D.apG (d7.cons X3 (d7.cons Vl (d7.cons R7 (d7.cons VH (d7.cons Rp (d7.cons Wb (d7.cons X4 (d7.cons PJ (d7.cons Uj d7.nil)))))))))) hr rfl (-2:) (λ_ _=>rfl) #[4]))) bH),(bD (rK (amq D.ag6 K rfl (-2:))) (aM (ayE hr.hu (UN K (0:) rfl) (-2:) (adB D.ag6 (d7.of (sp:=(n6 M.ad)) D.adT (d7.cons X8 (d7.cons R3 (d7.cons Ru (d7.cons aby (d7.cons RH (d7.cons Ws (d7.cons Va (d7.cons WH (d7.cons Wy (d7.cons abX (d7.cons Yc d7.nil)))))))))))) hr rfl (-2:) (λ_ _=>rfl) #[(jq (kW K) (4:) (jd aU) jr)]) rfl)) (aM (dJ (aNh (UN K (0:) rfl) (-2:) {rfl,rfl,rfl,(rfl)})))),(aF cX)],?_};rcases h with⟨hn,q⟩|⟨t,w',us,ws,rfl,hz,hs,hj,hw,W⟩
  .exact{(),v,rfl,.inl {hn,(q)}}
  refine{(),.str t,rfl,.inr {t,us,rfl,hz,hs,hj,λl1 H1 g1 h1=>?_}};rw[hw]at h1;refine{(),l1,w',ws,rfl,h1,W.few,W.known,λks hks t2 H2 g2 h2=>?_,λhk=>(W.no hk).up g1}
  rotate_left
  have lk:=akA hks;have lK:(ks.map V.str).length=ks.length:=bG _;have cA:=g1.trans g2;have h12:=g2 _ _ h1;have hf:=W.few;exists (),.ref t2,ks.length,rfl,.inr {_,h2,lK.symm},(ks.length:Int),rfl,⋯,⋯;rw[gR];refine yK (E:=E) M.ad (Bk (lo:=0) (n:=ks.length)) (by rw[Bf];lia) rfl (Lx M' ks ws) (λx v H=>vG H x v) (λx y H' H2 g h=>h.tup g) ?_ ?_ ?_
  .intro H3 k g3 hx kk hkk hc;have hk:k<ks.length:=jj.mp hx;have D3:=hD.same (cA.trans g3);intros dx hp3 D3.ob;have e1:iy (ks.map V.str) (0+(k:Int))=some (.str (ks.getD k "")):=by
    rw[Int.zero_add];exact qd (by rw[List.getElem?_map,List.getElem?_eq_getElem hk,List.getD_eq_getElem?_getD,List.getElem?_eq_getElem hk];rfl)
   have hkw:k<ws.length:=⋯;have e0:ws.getD k "" = ws[k]:=by rw[List.getD_eq_getElem?_getD,List.getElem?_eq_getElem hkw];rfl
   have e2:iy ((w'::ws).map V.str) (0+(k:Int)+1)=some (.str (ws.getD k "")):=by
    rw[(⋯:(0+(k:Int)+1)=((k+1:Nat):Int))];exact qd (by rw[List.getElem?_map,List.getElem?_cons_succ,List.getElem?_eq_getElem hkw,e0];rfl)
   exists (),p,cR,dx,_,(),hp3,D.zN.cl,D.J4,RL,(),(),_,_,.inr (g3.MD h2),e1,(),(),_,_,.inl (aj.of (g3 _ _ h12)),e2;have sm:=W.sml ws[k] (uh hkw);rw[<-e0]at sm;exact{d,_,_,M',N,rfl,sm.1,sm.2,D3.kp,λx ex v H4 g4 hv=>hkk x v H4 ex g4 hv,hc}
  rotate_left
  .intro c ec;exact(W.bad ks c hks ec).up cA
  intro ds l3 H3 ys em hl3 g3 h3 hp;have eX:=cA.trans g3;have h13:=g3 _ _ h12;have D3:=hD.same eX;intros dx hp3 D3.ob;obtain⟨k,rfl,did⟩:=W.good ks ds hks em;cases did with
  |@tell _ _ o ht ho q=>
   obtain⟨u,hu⟩:=D.apG.is_ _ (agL ht);refine{(),_,_,.inl (aj.of h13),at0,_,(),hu,(),dM ?_};exact{(),_,_,.inl (aj.of h13),at0,(),agL ht,(),k,ds,o,l3,(),rfl,h3,hp,ho,λx ex H4 g4=>q.1 x ex H4 (eX.trans g4),λc ec=>(q.2 c ec).up eX}
  |@drop n r _ hn hm q=>
   obtain⟨_,rs,rfl⟩:∃w rs,ws=w::rs:=by
    cases ws with
    |nil=>cases hn
    |cons w rs=>exact{w,rs,(rfl)}
   cases hn;refine{(),_,_,.inl (aj.of h13),at0,_,(),D.MF.at_ "drop" (by simp),(),bL ?_};refine{(),_,_,.inl (aj.of h13),at0,_,(),D.Ox.at_ "drop" (by simp),(),bL ?_};obtain⟨kvs,v,hd,hv,sd,kp⟩:=D3.kp.drop hm;exists (),p,cR,dx,_,(),hp3,D.zN.cl,D.J4,RL,d,rfl,.inl {kvs,.inl hd},(),_,_,.inl (aj.of h13),at1,kvs,.inr n,v,hd,rfl,hv;exact q _ (sd.of eX) {{dx,sd _ _ D3.ne hp3},kp}
  |@make _ n ds o hk hn ho q=>
   obtain⟨_,rs,rfl⟩:∃w rs,ws=w::rs:=by
    cases ws with
    |nil=>cases hn
    |cons w rs=>exact{w,rs,(rfl)}
   cases hn;obtain⟨v0,ys',rfl,_,hp'⟩:=eZ hp;refine{(),_,_,.inl (aj.of h13),at0,_,(),D.MF.at_ _ (aaM hk).2,(),bL ?_};obtain⟨u,hu⟩:=D.adT.is_ _ (aaM hk).1;refine{(),_,_,.inl (aj.of h13),at0,_,(),hu,(),dM ?_};refine{(),_,_,.inl (aj.of h13),at0,(),(aaM hk).1,(),(),.inl {_,aj.of h3,λl4 jB=>?_}};rw[show gq (v0::ys') (some 1) none=ys' from WB _ 1];have g4:=Same.new jB (.lst ys');refine{k,ds,o,l4,ys',rfl,rfl,ao,Paired.FN hp' λx y z=>z.tup λb ts e=>g4 _ _ e,ho,λr er v5 H5 g5 hR=>?_,λc ec=>(q.2 c ec).up (eX.trans g4)};have je:=eX.trans (g4.trans g5);have D5:=hD.same je;intros dx5 hp5 D5.ob;obtain⟨H6,aBY,sd,D6⟩:=D5.put hN (n:=n) hR;exists (),p,cR,dx5,_,(),hp5,D.zN.cl,D.J4,RL,(),_,_,.inl (aj.of (g5 _ _ (g4 _ _ h13))),at1,d,H6,rfl,aBY;exact q.1 r er H6 (sd.of je) D6
theorem aGk(F:Fn K mg "_law_cell_at" V6 ["_law_script","_law_k"]):ae5 M:=by
 delta aKl aKl
 intros a ns k rfl hS h0 q h;exists _,#[(),(bD (1<(cj K B.bZ #[0]):) (aM (aF (aQ K (0:) (1:)))) bH),(aF aU)];have hl:(ns.map V.int).length=ns.length:=bG _;exists (),(),.ref a,ns.length,rfl,.inl {_,hS,hl.symm},"",();refine cI (λc=>?_) (λc=>?_)
 .have c':k<(ns.length:Int):=dec_true c;exists (),(),ns.map V.int,.int (ns.getD k.toNat 0),.inl hS,jx h0 c';have e:cellAt ns k=ns.getD k.toNat 0:=if_pos c';rw[e]at q;exact q
 .have c':¬k<(ns.length:Int):=dec_false c;have e:cellAt ns k=0:=if_neg c';rw[e]at q;exact q
theorem aGK(F:Fn K mg "_law_mix" YB ["_law_cell","_law_k"]):ady M:=by
 delta aSv aSv
 intros c k rfl h0 h1 q h;exists _,(aM (aF ((0%_+_)*(_+_*1)%_:)));have b1:0<=c%MM:=RZ _ ∅;have b2:c%MM<MM:=afU _ ∅;exists (),"",(∅:(0:Int)<2147483647);exists (),mulL ∅ ∅;exists mulL (by show -(2^64)<c%2147483647+1;lia) (by show c%2147483647+1<2^64;lia),_,_,rfl,rfl,(∅:(0:Int)<2147483647);exact q
theorem aCB(F:Fn K mg "_law_pool" Q6 ["_law_cell","_law_turn"]):amm M:=by
 delta nW nW
 intros c t rfl q h;refine{_,#[(),(fj (i:=2) nW.nd rfl (dZ rfl) cX),(au 3 nW.nd (_+0%_:)),(au 0 nW.nd (0/_:)),(au 4 nW.nd (cC iB)),(gk PassesOwn.never rfl (fL rfl B.dY #[3]) (aY 5 nW.nd) #[(),(dJ (jy K (4:) (0%_:))),(au 0 nW.nd (0/_:))]),(fj (i:=6) nW.nd rfl (dZ rfl) (lE K m6 yd xR yx cX (dB (sc:=aDr) (N:=["_law_k","_law_signs"]) (ix:=[none,some 2]) cM rfl (dh K (4:)) (λ_ _ _ _ _=>{(aY 0 cJ),cO,(aQ K (1:) (0:))})))),(bD (1/_%_==_:) (aM (aF (dB (sc:=ayn) (N:=["_law_k","_law_word_here"]) (ix:=[none,some 6]) cM rfl (xX rfl B.dY #[_,_]) (λ_ _ _ _ _=>{(aY 0 cJ),cO,(jq Ks (jg aJo aU (1:)) jr (jd (0:)))})))) bH),(au 7 nW.nd (1%3:)),(au 8 nW.nd (cC iB)),(gk PassesOwn.never rfl (fL rfl B.dY #[_]) (aY 5 nW.nd) #[(),(au 9 nW.nd (aQ K (2:) (((aQ K (4:) (7:))+_*5)%_:))),(dJ (jy K (8:) ((jq Ks (6:) jr (jd (7:)))+9+(jq Ks (6:) (jd (7+_:)) jr):)))]),(aF (8:))],?_};have h100:(100000:Nat)<=sizeLine:=∅;exists (),"",(∅:(0:Int)<8);have z0:=iR c (∅:(0:Int)<8);have z1:=iK c (∅:(0:Int)<8);obtain⟨n,hn⟩:∃n:Nat,1+c%8=(n:Int):={(1+c%8).toNat,⋯};have n1:1<=n:=⋯;have n8:n<=8:=⋯;exists (),"",{∅,∅};refine{fJ _,λl hl=>?_};exists (),1+c%8,rfl,(⋯:-(2^62)<=1+c%8),(⋯:1+c%8<2^62);rw[hn,gR];have g0:=Same.new hl (.lst []);refine kY (lo:=0) (n:=n) (λi σ' H'=>∃(c':Int) (o:Option V) (xs:List Int),σ'=[some (.int c'),some (.int t),some (.str "abcdefghijklmnopqrstuvwxyz0123456789"),some (.int n),some (.ref l),o,none,none,none,none]/\H' l=some (.lst (xs.map V.int))/\xs.length=i/\(∀x∈xs,0<=x/\x<36)/\Same H H') {_,none,[],rfl,ao,rfl,(λ_ z=>nomatch z),g0} ?_ ?_
 .rintro i σ' H' hi ⟨c',o,xs,rfl,hL,hx,ha,g⟩;refine{(),.inl {rfl,_,aj.of hL},(),"",(∅:(0:Int)<36),l,"",hL,by rw[bG];lia,?_};exists (),"",{∅,∅};refine{_,_,xs++[c'%36],rfl,by rw[ao,gC];rfl,by rw[gF,hx];rfl,λx hx'=>?_,g.upd hl _};rcases oF.mp hx' with h'|h'
  .exact ha x h'
  .rw[kO.mp h'];exact{iR _ ∅,iK _ ∅}
 .rintro σ' H1 ⟨c',o,xs,rfl,hL,hx,ha,g1⟩;refine{rfl,(),l,rfl,.inl {{_,aj.of hL},acG (iu (aj.of hL)) (by rw[bG];lia) rfl (λx=>match x with | .int k=> .str {{[sgn k]}}|_=> .non) ?_ ?_}}
  .intro H2 x g2 hx' k hk;obtain⟨i,hi,rfl⟩:=fM.mp hx';obtain⟨a0,a1⟩:=ha i hi;exact{(),(),sgn i,aeQ,alX a0 a1,hk _ (Same.refl _)}
  intro D1 H2 hD1 g2 hD;have ed:((xs.map V.int).map λx=>match x with | .int k=>V.str {{[sgn k]}}|_=> .non)=(xs.map λk=>({{[sgn k]}}:Str)).map V.str:=by rw[iz,iz];rfl
  rw[ed]at hD;have hJ:nB (jl "") (xs.map λk=>({{[sgn k]}}:Str))=true:=by
   unfold nB;rw[apE (B:=1) (λs hs=>by obtain⟨k,_,rfl⟩:=fM.mp hs;exact bK _) (by rw[aqn,bG,hx];show n*(1+0)<=_;lia)];rfl
  exists _,D1,(),rfl,hD,hJ;have hW:(Jt (jl "") (xs.map λk=>({{[sgn k]}}:Str))).cps.toList=xs.map sgn:=by
   rw[aqn,adu,iz];clear hx ha hL hD ed hJ;induction xs with
   |nil=>rfl
   |cons x r ih=>rw[fB,xK,ih];rfl
  generalize Jt (jl "") (xs.map λk=>({{[sgn k]}}:Str))=w at hW;have cA:=g1.trans g2;have hL2:=g2 _ _ hL;have wn:w.cps.toList.length=n:=by rw[hW,bG,hx]
  have wa:∀c∈w.cps.toList,c∈jV:=λc hc=>by
   rw[hW]at hc;obtain⟨k,hk,rfl⟩:=fM.mp hc;exact apW (ha k hk).1 (ha k hk).2
  have wl:w.length=n:=by rw[<-wn];simp[tE]
  refine{(),"",{∅,∅},"",(∅:(0:Int)<3),(),cI (λ_=>?_) (λ_=>?_)}
  .exists 1,9,rfl,{∅,∅,∅,∅};have er:=afK w 8 #[];have el:((aX 8 w.cps.toList).flatten).length=8*n:=by rw[List.length_flatten,Vf,wn];show n+(n+(n+(n+(n+(n+(n+(n+0)))))))=_;lia
   have eb:({(aX 8 w.cps).foldl (·++·) #[]}:Str).cps.toList=(aX 8 w.cps.toList).flatten:=by rw[er];rfl
   generalize hb:({(aX 8 w.cps).foldl (·++·) #[]}:Str)=big at eb;have sl:∀j:Nat,(A9 big none (some (1+(j:Int)))).cps.toList=big.cps.toList.take (j+1):=λj=>by
    rw[(⋯:1+(j:Int)=((j+1:Nat):Int))];exact ahZ big (j+1)
   have sn:∀j:Nat,j<8->(A9 big none (some (1+(j:Int)))).cps.toList.length=j+1:=λj hj=>by rw[sl,nO,eb,el];lia
   refine acG Bk (by rw[bG,Bf];exact eV ∅ h100) rfl (λx=>match x with | .int k=> .str (A9 big none (some k))|_=> .non) ?_ ?_
   .intro H3 x g3 hx' k hk;obtain⟨j,hj,rfl⟩:=fM.mp hx';have hj8:j<8:=jj.mp hj;refine{(),w,8,rfl,rfl,∅,∅,⋯,⋯,(),(),(),?_,?_}
    .show((aX 8 w.cps).foldl (·++·) #[]).size<=_;rw[<-FD,er,gF,el];show 0+_<=_;lia
    .rw[hb];exact hk _ (Same.refl _)
   .intro D2 H3 hD2 g3 hD';refine q D2 H3 (λj=>A9 big none (some (1+(j:Int)))) (cA.trans g3) (by rw[hD'];rfl) (λi hi=>aks (by rw[sn i hi];lia) (by rw[sn i hi];lia) λc hc=>?_) λi j hi hj e=>?_
    .rw[sl,eb]at hc;obtain⟨l',hl',hc'⟩:=List.mem_flatten.mp (Lp hc);rw[(List.mem_replicate.mp hl').2]at hc';exact wa c hc'
    .have:=congrArg (λs:Str=>s.cps.toList.length) e;rw[sn i hi,sn j hj]at this;lia
  .exists (),(),"",(⋯:(0:Int)<n);have t0:=iR t (⋯:(0:Int)<n);have t1:=iK t (⋯:(0:Int)<n);obtain⟨m,hm⟩:∃m:Nat,t%(n:Int)=(m:Int):={(t%n).toNat,⋯};have mn:m<n:=⋯;rw[hm];have hmx:m<xs.length:=⋯;obtain⟨x0,x1⟩:=ha xs[m] (uh hmx);have s1:=ahZ w m;have s2:=ahK w (m+1);rw[(⋯:((m+1:Nat):Int)=(m:Int)+1)]at s2;have e3:∀a b:Str,(a++b).cps.toList=a.cps.toList++b.cps.toList:=λa b=>Ht;have l3:∀a:Str,a.length=a.cps.toList.length:=λa=>by simp[tE]
   have k1:(w.cps.toList.take m).length=m:=by rw[nO,wn];lia
   have k2:(w.cps.toList.drop (m+1)).length=n-(m+1):=by rw[tW,wn]
   obtain⟨F,hF⟩:∃F:Nat->Str,∀i,F i=A9 w none (some (m:Int))++⟨⟨[sgn ((xs[m]+4*(0+(i:Int)))%36)]⟩⟩++A9 w (some ((m:Int)+1)) none:={λi=>_,λi=>rfl};have fc:∀i,(F i).cps.toList=w.cps.toList.take m++sgn ((xs[m]+4*(0+(i:Int)))%36)::w.cps.toList.drop (m+1):=λi=>by
    rw[hF,e3,e3,s1,s2,tK];rfl
   refine{fJ _,λl2 hl2=>?_};have g3:=Same.new hl2 (.lst []);exists 8,rfl,∅,∅;refine kY (lo:=0) (n:=8) (λi σ' H'=>∃o o2:Option V,σ'=[some (.int c'),some (.int t),some (.str "abcdefghijklmnopqrstuvwxyz0123456789"),some (.int n),some (.ref l),o,some (.str w),some (.int m),some (.ref l2),o2]/\H' l2=some (.lst (((fK i).map F).map V.str))/\Same H2 H') {_,none,rfl,ao,g3} ?_ ?_
   .rintro i σ' H3 hi ⟨o,o2,rfl,qN,g4⟩;have ex:iy (xs.map V.int) (m:Int)=some (.int xs[m]):=qd (by rw[List.getElem?_map,List.getElem?_eq_getElem hmx];rfl);exists (),(),(),_,_,.inl (aj.of (g4 _ _ hL2)),ex;exists (),mulL ∅ ∅,"",(∅:(0:Int)<36),_,aeQ,alX (iR _ ∅) (iK _ ∅);exists (),.inl {rfl,_,aj.of qN};have wle:w.length<=sizeLine:=⋯;refine{(),(),(),w,rfl,wle,(),?_,(),(),(),w,rfl,wle,?_,l2,"",qN,?_,?_}
    .rw[l3,s1,k1];show m+1<=_;lia
    .rw[l3,e3,s1,l3,s2,gF,k1,k2];show m+1+_<=_;lia
    .rw[bG,bG,Bf];lia
    .exact{_,(),by rw[ao,JL,gC,gC,<-hF];rfl,g4.upd hl2 _}
   .rintro σ' H3 ⟨o,o2,rfl,qN,g4⟩;have fl:∀i,(F i).cps.toList.length=n:=λi=>by rw[fc,gF,um,k1,k2];lia
    refine{(),q l2 H3 F (cA.trans g4) qN (λi hi=>aks (by rw[fl];lia) (by rw[fl];lia) λc hc=>?_) λi j hi hj e=>?_}
    .rw[fc]at hc;rcases oF.mp hc with hc|hc
     .exact wa c (Lp hc)
     rcases dz.mp hc with hc|hc
     .rw[hc];exact apW (iR _ ∅) (iK _ ∅)
     .exact wa c (agW hc)
    .have e:=congrArg (λs:Str=>s.cps.toList) e;rw[fc,fc]at e;have e:=(Ij (List.append_cancel_left e)).1;have a1:=iR (xs[m]+4*(0+(i:Int))) (∅:(0:Int)<36);have a2:=iK (xs[m]+4*(0+(i:Int))) (∅:(0:Int)<36);have a3:=iR (xs[m]+4*(0+(j:Int))) (∅:(0:Int)<36);have a4:=iK (xs[m]+4*(0+(j:Int))) (∅:(0:Int)<36);have:=aqX _ ⋯ _ ⋯ e;lia
theorem aJt(F:Fn K mg "_law_word" OJ ["_law_e"]):adJ M:=by
 refine F.aDN Hu (λvs H Q E h=>?_) (λ_ _ _ _ _ H _ Q hq h=>?_)
 .intros a c rfl _ h;rfl
 .intros a c rfl hA q h;refine{_,#[(),(au 1 Hu.nd (cC #[(cF #[(eU (rJ K) rfl B.jZ boot_isinstance #[0,(uK rfl M.aOW)]),""]),(cF #[(eU (rJ K) rfl B.jZ boot_isinstance #[0,(uK rfl M.aJc)]),""]),(cF #[(eU (rJ K) rfl B.jZ boot_isinstance #[0,(uK rfl M.aJj)]),""])])),(au 1 Hu.nd (1+(cC #[(cF #[(eU (rJ K) rfl B.jZ boot_isinstance #[0,(uK rfl M.aLW)]),""]),(cF #[(eU (rJ K) rfl B.jZ boot_isinstance #[0,(uK rfl M.axn)]),""]),(cF #[(eU (rJ K) rfl B.jZ boot_isinstance #[0,(uK rfl M.axa)]),""])]):)),(au 1 Hu.nd (1+(cC #[(cF #[(eU (rJ K) rfl B.jZ boot_isinstance #[0,(uK rfl M.aDt)]),""]),(cF #[(eU (rJ K) rfl B.jZ boot_isinstance #[0,(uK rfl M.aDF)]),""])]):)),(ayA (i:=2) (hN:=Hu.nd) (hi':=rfl) (hx:=(ju rfl)) (sc:=aJU) (N:=["_law_said","_law_word_here"]) (ix:=[none,none]) cM hq (aCc K (1:)) (λcl C s₀ H₀ ex hq=>{(aRE K (n:=2) hq (nG (aY 0 cJ) (nG (aY 1 cJ) Gv))),(M6 (fY (0:))),(1:)})),(bD (PW.pt (gP (yc ae7 (cj K B.bZ #[2]) aU) (jR (iU (fY (eU (rJ K) rfl B.jZ boot_isinstance #[0,(vp rfl B.auK aAN)])))))) (aM (aF cX)) bH),(aF (-2:))],?_};obtain⟨hI,hV,b1,b2,b3,b4,b5,b6,b7,b8,eb,k1,k2,k3,k4,k5,k6,k7,k8⟩:jM K (M.ad c)/\aG K (.ref (M.ad c)) (.type "ValueError")=some true/\∃b1 b2 b3 b4 b5 b6 b7 b8,ajv c=[b1,b2,b3,b4,b5,b6,b7,b8]/\
    aG K (.ref (M.ad c)) (.ref bN)=some b1/\aG K (.ref (M.ad c)) (.ref bV)=some b2/\aG K (.ref (M.ad c)) (.ref bW)=some b3/\aG K (.ref (M.ad c)) (.ref bO)=some b4/\
    aG K (.ref (M.ad c)) (.ref bQ)=some b5/\aG K (.ref (M.ad c)) (.ref bM)=some b6/\aG K (.ref (M.ad c)) (.ref bT)=some b7/\aG K (.ref (M.ad c)) (.ref bU)=some b8:=by
   cases c
   .exact{M.au2,M.Ss,_,_,_,_,_,_,_,(),M.QW,M.Sw,M.abU,M.QG,M.VJ,M.Uc,M.Wf,M.Vs}
   .exact{M.av6,M.UO,_,_,_,_,_,_,_,(),M.Ut,M.Yt,M.abH,M.abu,M.Ot,M.V4,M.Q8,M.SW}
   .exact{M.aDK,M.aan,_,_,_,_,_,_,_,(),M.acW,M.Wc,M.Qa,M.XM,M.abN,M.WL,M.abE,M.Xk}
   .exact{M.aEn,M.acX,_,_,_,_,_,_,_,(),M.aaD,M.Ux,M.abM,M.Qu,M.Uo,M.Wg,M.W2,M.acA}
   .exact{M.aOy,M.V3,_,_,_,_,_,_,_,(),M.Tn,M.Vy,M.Rv,M.ZG,M.Xm,M.Xc,M.V5,M.QS}
   .exact{M.aIR,M.R4,_,_,_,_,_,_,_,(),M.aac,M.RD,M.Zn,M.ZQ,M.VX,M.aa0,M.aa2,M.acJ}
   .exact{M.aEC,M.Qm,_,_,_,_,_,_,_,(),M.Vh,M.Vv,M.Um,M.abA,M.Qs,M.Tr,M.ab5,M.Zt}
   .exact{M.aMl,M.ZR,_,_,_,_,_,_,_,(),M.aaW,M.UC,M.Tf,M.abv,M.Wl,M.PK,M.Z9,M.R9}
  have ew:=arI c;rw[eb]at ew;generalize M.ad c=C at hA hI hV k1 k2 k3 k4 k5 k6 k7 k8;refine uQ hA hI k1 λt1 H1 g1 h1=>uQ (qz g1 hA) hI k2 λt2 H2 g2 h2=>uQ (qz g2 (qz g1 hA)) hI k3 λt3 H3 g3 h3=>?_;have eX:=g1.trans (g2.trans g3);replace h1:=g3 _ _ (g2 _ _ h1);replace h2:=g3 _ _ h2;refine{(aZ 3),λl1 hl1=>?_};have g4:=eX.trans (Same.new hl1 (.lst [.ref t1,.ref t2,.ref t3]));have f1:=Same.new hl1 (.lst [.ref t1,.ref t2,.ref t3]);have hl:(upd H3 l1 (.lst [.ref t1,.ref t2,.ref t3])) l1=some (.lst [.ref t1,.ref t2,.ref t3]):=ao;replace h1:=f1 _ _ h1;replace h2:=f1 _ _ h2;replace h3:=f1 _ _ h3;generalize upd H3 l1 (.lst [.ref t1,.ref t2,.ref t3])=H4 at g4 hl h1 h2 h3;have Rb:=qz g4 hA;refine{(),uQ Rb hI k4 λt4 H5 g5 h4=>uQ (qz g5 Rb) hI k5 λt5 H6 g6 h5=>uQ (qz g6 (qz g5 Rb)) hI k6 λt6 H7 g7 h6=>?_};refine{(aZ 3),λl2 hl2=>?_};have f2:=g5.trans (g6.trans (g7.trans (Same.new hl2 (.lst [.ref t4,.ref t5,.ref t6]))));have f3:=Same.new hl2 (.lst [.ref t4,.ref t5,.ref t6]);refine .inl {_,_,f2 _ _ hl,ao,(aZ 6),λl3 hl3=>?_};have f4:=Same.new hl3 (.lst ([V.ref t1,.ref t2,.ref t3]++[.ref t4,.ref t5,.ref t6]));have f5:=f2.trans f4;replace h1:=f5 _ _ h1;replace h2:=f5 _ _ h2;replace h3:=f5 _ _ h3;replace h4:=f4 _ _ (f3 _ _ (g7 _ _ (g6 _ _ h4)));replace h5:=f4 _ _ (f3 _ _ (g7 _ _ h5));replace h6:=f4 _ _ (f3 _ _ h6);replace hl:(upd (upd H7 l2 (.lst [.ref t4,.ref t5,.ref t6])) l3 (.lst ([V.ref t1,.ref t2,.ref t3]++[.ref t4,.ref t5,.ref t6]))) l3=some (.lst ([V.ref t1,.ref t2,.ref t3]++[.ref t4,.ref t5,.ref t6])):=ao;have g8:=g4.trans f5;generalize upd (upd H7 l2 (.lst [.ref t4,.ref t5,.ref t6])) l3 (.lst ([V.ref t1,.ref t2,.ref t3]++[.ref t4,.ref t5,.ref t6]))=H8 at g8 hl h1 h2 h3 h4 h5 h6;have hA8:=qz g8 hA;refine{(),uQ hA8 hI k7 λt7 H9 g9 h7=>uQ (qz g9 hA8) hI k8 λt8 nu jL h8=>?_};refine{(aZ 2),λl4 jB=>?_};have f6:=Same.new jB (.lst [.ref t7,.ref t8]);have f7:=g9.trans (jL.trans f6);refine .inl {_,_,f7 _ _ hl,ao,(aZ 8),λl5 jX=>?_};have f8:=Same.new jX (.lst ([V.ref t1,.ref t2,.ref t3]++[.ref t4,.ref t5,.ref t6]++[.ref t7,.ref t8]));have f9:=f7.trans f8;replace h1:=f9 _ _ h1;replace h2:=f9 _ _ h2;replace h3:=f9 _ _ h3;replace h4:=f9 _ _ h4;replace h5:=f9 _ _ h5;replace h6:=f9 _ _ h6;replace h7:=f8 _ _ (f6 _ _ (jL _ _ h7));replace h8:=f8 _ _ (f6 _ _ h8);replace hl:(upd (upd nu l4 (.lst [.ref t7,.ref t8])) l5 (.lst ([V.ref t1,.ref t2,.ref t3]++[.ref t4,.ref t5,.ref t6]++[.ref t7,.ref t8]))) l5=some (.lst [V.ref t1,.ref t2,.ref t3,.ref t4,.ref t5,.ref t6,.ref t7,.ref t8]):=ao;have gn:=g8.trans f9;generalize upd (upd nu l4 (.lst [.ref t7,.ref t8])) l5 (.lst ([V.ref t1,.ref t2,.ref t3]++[.ref t4,.ref t5,.ref t6]++[.ref t7,.ref t8]))=vQ at gn hl h1 h2 h3 h4 h5 h6 h7 h8;refine{(),l5,rfl,{_,aj.of hl},aAa (bw:=[b1,b2,b3,b4,b5,b6,b7,b8].zip alf) hl (.cons {(),h1} (.cons {(),h2} (.cons {(),h3} (.cons {(),h4} (.cons {(),h5} (.cons {(),h6} (.cons {(),h7} (.cons {(),h8} .nil)))))))) (by show 8<=1000;decide) rfl (λH' b w kk hk=>{(),(),hk}) (λH' b w kk hk=>{(),hk}) λD JT cA hD=>?_};rw[ew]at hD;have gz:=gn.trans cA;refine{(),.ref D,1,rfl,.inl {_,aj.of hD,rfl},rfl,(),bL ?_};refine{(),a,C,_,true,rfl,qz gz hA,hI,.inr (.inl {(),hV}),(),bL ?_};exact{(),_,_,.inl (aj.of hD),rfl,q JT gz}
theorem aGT(F:Fn K mg "_law_told" aad ["_law_desk","_law_text"])(Pa:aga P w K mg base cR bV bU bN bT bW bM bO bQ)(RW:adJ M):KY P w K mg base cR bV bU bN bT bW bM bO bQ:=by
 delta Jd Jd
 obtain⟨p,v,rfl,⟨dx,fs,hp,hf⟩,q⟩:=h;refine{_,#[(),(au 2 Jd.nd vh),(au 3 Jd.nd cX),(aGo (i:=2) (j:=4) (aSs D.zN.cl Pa hr (0:) #[1]) rfl rfl rfl Jd.nd rfl (ju rfl) rfl rfl rfl M.aN7 (λa=>(aM (au 3 Jd.nd (azD RW hr rfl #[4]))))),(bD (PW.pt (xu (3=="":) (wF (iU (fY (eU xg rfl B.jZ boot_isinstance #[2,(vp rfl B.vP boot_str)])))))) (aM (aF (cF #["",vh]))) bH),(bD (3=="":) (aM (aF (cF #["",2]))) bH),(aF (cF #["",3]))],?_};refine{(),p,dx,fs,rfl,hp,hf,(),q _ _ (λs H1 q1=>?_) (λc H1 q1=>?_)}
 .exists (),();rw[decide_eq_true rfl];refine dM {(),.str s,"str","str",rfl,rfl,by simp,(),bL ?_};exists (),();rw[decide_eq_true rfl];exact dM {(),(aZ 2),λt1 ht1=>q1 t1 _ (Same.new ht1 _) ao}
 .refine{(),?_,λa ob ha hcm=>?_}
  .cases c
   .exact M.aGc
   .exact M.ara
   .exact M.aA9
   .exact M.aFm
   .exact M.aBR
   .exact M.azf
   .exact M.au4
   .exact M.aFH
  have g1:=Same.new ha (.fO ob (uy a (M.ad c)));refine{(),ob,_,ao,hcm,a,c,rfl,.inr {ob,(ao)},λH2 g2=>?_};exists (),();rw[decide_eq_false (alz c)];refine bL {(),(),?_};rw[decide_eq_false (alz c)];exact bL {(),(aZ 2),λt1 ht1=>q1 t1 _ (g1.trans (g2.trans (Same.new ht1 _))) ao}
theorem ate(F:Fn K mg "_law_no_rows" Tp ["_law_number"]):ami M:=by
 delta B7 B7
 intros n rfl h0 q h;exists _,#[(),(au 1 B7.nd (cC #["","","","","","","","","","","",""])),(au 1 B7.nd (1+(cC #["","","","","","",""]):)),(au 1 B7.nd (1+(cC #[(""+(jg u9 cX aU):),"","","","","","",""]):)),(au 1 B7.nd (1+(cC #["","","","","","","",""]):)),(aF (cC #[(aQ K (1+(cC #[""]):) (0%_:)),""]))];refine gJ λl1 H1 _ g1 h1=>?_;refine{(),kZ h1 λl2 H2 _ g2 h2=>?_};refine{()," 1",13,rfl,rfl,∅,∅,by decide +kernel,by decide +kernel,by decide +kernel,?_};rw[s13];refine kZ h2 λl3 H3 _ g3 h3=>?_;refine{(),kZ h3 λl4 H4 _ g4 h4=>?_};refine{(),kZ h4 λl5 H5 _ g5 h5=>?_};have b0:=iR n (∅:(0:Int)<36);have b1:=iK n (∅:(0:Int)<36);obtain⟨t,ht,et⟩:=Jh (L:=alb) b0 b1;exists (),"",(∅:(0:Int)<36),_,_,.inl (aj.of h5),et;exact gJ λl6 H6 _ g6 h6=>q l6 t .row H6 (g1.trans (g2.trans (g3.trans (g4.trans (g5.trans g6))))) h6 (aDO t ht)
theorem aMe(F:Fn K mg "_law_no_names" QJ ["_law_number"]):aiq M:=by
 delta Bq Bq
 intros n rfl h0 q h;exists _,#[(),(au 1 Bq.nd (cC #["","","","","","","",""])),(au 1 Bq.nd (1+(cC #["","","","","","",""]):)),(au 1 Bq.nd (1+(cC #["","","","","",""]):)),(dJ (jy K (1:) cX)),(au 1 Bq.nd (1+(cC #["","","","","","",""]):)),(au 1 Bq.nd (1+(cC #["","","","",""]):)),(aF (cC #[(aQ K (1:) (0%_:)),""]))];refine gJ λl1 H1 _ g1 h1=>?_;refine{(),kZ h1 λl2 H2 _ g2 h2=>?_};refine{(),kZ h2 λl3 H3 f3 g3 h3=>?_};exists (),.inl {rfl,_,aj.of h3},l3,"",h3,∅;have g3:=g3.upd f3 (.lst ([V.str "show a_b",.str "show abcdefghi",.str "show C",.str "row A- |",.str "row  |",.str "row a-b 1",.str "short A! C",.str "short c C"]++[V.str "add c A C",.str "add c C A!",.str "add A! A B",.str "scale c C x",.str "drop C",.str "scale A! A x",.str "every c C 01 x"]++[V.str "ahead c C 1 x",.str "on abcdefghi A -0",.str "rest c C 4",.str "places C x",.str "at A! 01",.str "part A C"]++[.str "part A! C"]));refine{(),kZ ao λl4 H4 _ g4 h4=>?_};refine{(),kZ h4 λl5 H5 _ g5 h5=>?_};have b0:=iR n (∅:(0:Int)<34);have b1:=iK n (∅:(0:Int)<34);obtain⟨t,ht,et⟩:=Jh (L:=ais) b0 b1;exists (),(),"",(∅:(0:Int)<34),_,_,.inl (aj.of h5),et;exact gJ λl6 H6 _ g6 h6=>q l6 t .name H6 (g1.trans (g2.trans (g3.trans (g4.trans (g5.trans g6))))) h6 (aMs t ht)
theorem aOc(F:Fn K mg "_law_no_texts" TR ["_law_number"]):apB M:=by
 delta yG yG
 intros n rfl h0 q h;refine{_,#[(),(au 1 yG.nd (cC #["","","","","","","",""])),(au 1 yG.nd (1+(cC #["","","","","",""]):)),(au 1 yG.nd (1+(cC #["","","","","",(""+(jg u9 cX aU):)]):)),(au 1 yG.nd (1+(cC #["","","","",""]):)),(au 2 yG.nd (aQ K (cC #["","","",""]) (0/_%_:))),(aF (cC #[(aMc D.bk (aOf (xix K) (1:) (aCe (0:) aU) (λ_ _=>rfl)) (2:)),""]))],?_};refine gJ λl1 H1 _ g1 h1=>?_;refine{(),kZ h1 λl2 H2 _ g2 h2=>?_};refine{(),"0",60,rfl,rfl,∅,∅,by decide +kernel,by decide +kernel,by decide +kernel,?_};rw[s60];refine kZ h2 λl3 H3 _ g3 h3=>?_;refine{(),kZ h3 λl4 H4 _ g4 h4=>?_};refine gJ λl5 H5 _ g5 h5=>?_;have c0:=iR (n/25) (∅:(0:Int)<4);have c1:=iK (n/25) (∅:(0:Int)<4);obtain⟨m,hm,em⟩:=Jh (L:=["c","A","B","c"]) c0 c1;exists (),"",{∅,∅},"",(∅:(0:Int)<4),_,_,.inl (aj.of h5),em;have b0:=iR n (∅:(0:Int)<25);have b1:=iK n (∅:(0:Int)<25);obtain⟨t,ht,et⟩:=Jh (L:=Jz) b0 b1;have tl:t.length<=1000:=by
  have:∀t∈Jz,t.length<=1000:=by decide +kernel
  exact this t ht
 have hm':m.length=1/\∀t∈Jz,gH (ap4 t "row c" (Str.ofString "row " ++ m)) .text=true:=by
  have z:=aJQ;have:m = "c" ∨ m = "A" ∨ m = "B" := by
   simp only[dz,iY,or_false]at hm;rcases hm with e|e|e|e
   .exact .inl e
   .exact .inr (.inl e)
   .exact .inr (.inr e)
   .exact .inl e
  rcases this with rfl|rfl|rfl
  .exact{by decide +kernel,z "c" (by simp)}
  .exact{by decide +kernel,z "A" (by simp)}
  .exact{by decide +kernel,z "B" (by simp)}
 refine{(),(),"",(∅:(0:Int)<25),_,_,.inl (aj.of (g5 _ _ h4)),et,t,rfl,tl,(),m,rfl,by decide +kernel,⋯,by rw[hm'.1];decide +kernel,?_};exact gJ λl6 H6 _ g6 h6=>q l6 _ .text H6 (g1.trans (g2.trans (g3.trans (g4.trans (g5.trans g6))))) h6 (hm'.2 t ht)
theorem aIm(F:Fn K mg "_law_by_stages" Ui ["_law_number"]):aip M:=by
 delta tY tY
 intros n rfl h0 q h;refine{_,#[(),(au 1 tY.nd (aQ K (cC #[(fZ LY rfl B.vP boot_str #[(_+0/_%_:)]),(fZ LY rfl B.vP boot_str #[(_-_-0/_%_:)])]) (0/_%_:))),(au 2 tY.nd (cC #["","","","","","","",""])),(au 2 tY.nd (2+(cC #["","","","",""]):)),(au 3 tY.nd (cC #[(""+1:),(""+1:),"","","","",""])),(au 3 tY.nd (3+(cC #["","","","",""]):)),(au 4 tY.nd ((dB (sc:=aBa) (N:=["_law_text"]) (ix:=[none]) cM rfl (dh K (2:)) (λ_ _ _ _ _=>{(aY 0 cJ),cO,(cF #[0,""])}))+(dB (sc:=aHl) (N:=["_law_text"]) (ix:=[none]) cM rfl (dh K (3:)) (λ_ _ _ _ _=>{(aY 0 cJ),cO,(cF #[0,""])})):)),(au 4 tY.nd (4+(cC #[(cF #["",""]),(cF #["",""]),(cF #[(""+(jg u9 cX aU):),""])]):)),(au 4 tY.nd (4+(cC #[(cF #["",""]),(cF #["",""])]):)),(aF (fZ (xlist K) rfl B.uJ boot_list #[(aQ K (4:) (0%_:))]))],?_};have d0:=iR (n/64) (∅:(0:Int)<50);have d1:=iK (n/64) (∅:(0:Int)<50);obtain⟨k,hk⟩:∃k:Nat,n/64%50=(k:Int):={(n/64%50).toNat,⋯};have fk:=aGS k ⋯;simp only[cW,decide_eq_true_eq]at fk;obtain⟨⟨⟨⟨⟨f1,f2⟩,f3⟩,f4⟩,f5⟩,f6⟩:=fk;exists (),"",{∅,∅},"",(∅:(0:Int)<50),(),ajA ⋯;exists "",(),"",{∅,∅},"",(∅:(0:Int)<50),"",(),ajA ⋯;refine gJ λl0 H0 _ g0 h00=>?_;rw[hk,(⋯:301+(k:Int)=((301+k:Nat):Int)),(⋯:0-1-(k:Int)=-((1+k:Nat):Int))]at h00;have c0:=iR (n/32) (∅:(0:Int)<2);have c1:=iK (n/32) (∅:(0:Int)<2);obtain⟨fa,hfa,ef⟩:=Jh (L:=[gb ((301+k:Nat):Int),gb (-((1+k:Nat):Int))]) c0 c1;have hf:fa.length<=10/\gH (Str.ofString "places A " ++ fa) .far=true/\gH (Str.ofString "places B " ++ fa) .far=true:=by
  rcases dz.mp hfa with rfl|hfa
  .exact{f5,f1,(f2)}
  .rw[kO.mp hfa];exact{f6,f3,(f4)}
 exists (),"",{∅,∅},"",(∅:(0:Int)<2),_,_,.inl (aj.of h00),ef;refine gJ λl1 H1 _ g1 h1=>?_;refine{(),kZ h1 λl2 H2 _ g2 h2=>?_};have l9:∀s:Str,s.length=9->s.length+fa.length<=sizeLine:=λs e=>by rw[e];exact eV (⋯:9+fa.length<=1000) ∅
 refine{(),l9 _ (by decide +kernel),(),l9 _ (by decide +kernel),?_};refine gJ λl3 H3 _ g3 h3=>?_;refine{(),kZ h3 λl4 H4 _ g4 h4=>?_};have h24:=g4 _ _ (g3 _ _ h2);have wk:∀{H H':Hp} {ys:List V} {D:Addr},Same H H'->(∀y∈ys,Gd H y)->∀y∈ys,Gd H' y:=λg h y hy=>(h y hy).tup λb ts e=>g _ _ e;refine{(),l2,rfl,.inl {{_,aj.of h24},aqO (iu (aj.of h24)) ∅ rfl (λ_ y H=>Gd H y) (λ_ _ _ _ g h=>h.tup g) ?_ ?_}}
 .intro H' x g hx kk hkk;obtain⟨t,ht,rfl⟩:=fM.mp (show x∈anU.map V.str from hx);exact{(),xP (c:= .by_) (aL3 t ht) λv H2 g2 hv=>hkk v H2 g2 hv}
 intro D1 H5 ys hD1 g5 jX ly5 Zd;have Zd:∀y∈ys,Gd H5 y:=λy hy=>let⟨_,_,z⟩:=Zd y hy;z;have h45:=g5 _ _ h4;refine{(),l4,rfl,.inl {{_,aj.of h45},aqO (iu (aj.of h45)) (eV (∅:12<=1000) ∅) rfl (λ_ y H=>Gd H y) (λ_ _ _ _ g h=>h.tup g) ?_ ?_}}
 .intro H' x g hx kk hkk;obtain⟨t,ht,rfl⟩:=fM.mp (show x∈((Str.ofString "places A " ++ fa)::(Str.ofString "places B " ++ fa)::ahs).map V.str from hx);have tk:gH t .far=true:=by
   rcases dz.mp ht with rfl|ht
   .exact hf.2.1
   rcases dz.mp ht with rfl|ht
   .exact hf.2.2
   .exact awy t ht
  exact{(),xP (c:= .far) tk λv H2 g2 hv=>hkk v H2 g2 hv}
 intro D2 H6 zs hD2 g6 oh lz6 Wk;have Wk:∀y∈zs,Gd H6 y:=λy hy=>let⟨_,_,z⟩:=Wk y hy;z;have Wm:∀y∈ys++zs,Gd H6 y:=λy hy=>(oF.mp hy).elim (λz=>(Zd y z).tup λb ts e=>g6 _ _ e) (Wk y);have Kg:(ys++zs).length=25:=by rw[gF,ly5,lz6];rfl
 refine .inl {_,_,g6 _ _ jX,oh,?_,λl7 HX=>?_}
 .rw[<-gF,Kg];decide
 obtain⟨H7,e7,g7,h7⟩:=nw HX (.lst (ys++zs));rw[e7];replace Wm:∀y∈ys++zs,Gd H7 y:=wk (D:=0) g7 Wm;have mk:=aro;simp only[cW]at mk;obtain⟨⟨⟨⟨m1,m2⟩,m3⟩,m4⟩,m5⟩:=mk;refine{(),xP (c:= .number) m1 λv1 H8 g8 d1=>?_};refine xP (c:= .number) m2 λv2 H9 g9 d2=>?_;refine{" 1",12,rfl,rfl,∅,∅,by decide +kernel,by decide +kernel,by decide +kernel,?_};rw[s12];refine xP (c:= .long) m3 λv3 nu jL d3=>?_;have acv:=g8.trans (g9.trans jL);refine kZ (acv _ _ h7) (λQK vQ _ gn h11=>?_) (by rw[Kg];exact uH rfl);have a11:∀y∈ys++zs++[v1,v2,v3],Gd vQ y:=λy hy=>by
  rcases oF.mp hy with hy|hy
  .exact(Wm y hy).tup λb ts e=>(acv.trans gn) _ _ e
  .simp only[dz,iY,or_false]at hy;rcases hy with rfl|rfl|rfl
   .exact d1.tup λb ts e=>(g9.trans (jL.trans gn)) _ _ e
   .exact d2.tup λb ts e=>(jL.trans gn) _ _ e
   .exact d3.tup λb ts e=>gn _ _ e
 refine{(),xP (c:= .number) m4 λv4 JT cA d4=>?_};refine xP (c:= .number) m5 λv5 Mh eX d5=>?_;refine kZ ((cA.trans eX) _ _ h11) (λPn Ih _ iD h14=>?_) (by rw[gF,Kg];exact uH rfl);have a14:∀y∈ys++zs++[v1,v2,v3]++[v4,v5],Gd Ih y:=λy hy=>by
  rcases oF.mp hy with hy|hy
  .exact(a11 y hy).tup λb ts e=>(cA.trans (eX.trans iD)) _ _ e
  .simp only[dz,iY,or_false]at hy;rcases hy with rfl|rfl
   .exact d4.tup λb ts e=>(eX.trans iD) _ _ e
   .exact d5.tup λb ts e=>iD _ _ e
 have aE1:(ys++zs++[v1,v2,v3]++[v4,v5]).length=30:=by rw[gF,gF,Kg];rfl
 generalize ys++zs++[v1,v2,v3]++[v4,v5]=all at h14 a14 aE1;have b0:=iR n (∅:(0:Int)<30);have b1:=iK n (∅:(0:Int)<30);have hi:(n%30).toNat<all.length:=⋯;obtain⟨ta,t,c,ev,ht,tk⟩:=a14 _ (uh hi);refine{(),(),"",(∅:(0:Int)<30),_,_,.inl (aj.of h14),Mt (n%30).toNat ⋯ (List.getElem?_eq_getElem hi),?_};rw[ev];refine{ta,(),.inr (aq.of ht),λNg asy=>?_};exact q Ng t c _ (g0.trans (g1.trans (g2.trans (g3.trans (g4.trans (g5.trans (g6.trans (g7.trans (acv.trans (gn.trans (cA.trans (eX.trans (iD.trans (Same.new asy _)))))))))))))) ao tk
theorem aHb(F:Fn K mg "_law_filled" PX ["_law_text","_law_names"]):ac8 M:=by
 delta ao0 ao0
 intros t ln a b c r rfl hn la lb lc ca cb cc ok q h;refine{_,#[(),(fj (i:=2) ao0.nd rfl (dZ rfl) (asR (Yy cX (-1:) (Yy cX (-1:) (Yy cX (-1:) aOg))) rfl rfl (List.cons_ne_nil _ _) ∅)),(aF (lE K m6 yd xR yx cX (dB (sc:=aKC) (N:=["_law_word_here","_law_known"]) (ix:=[none,some 2]) cM rfl (dh K (lE K m6 abP abg V2 (0:) cX)) (λ_ _ _ _ _=>{(aY 0 cJ),cO,(avt hr.hu (1:) (0:) (0:) {rfl,rfl,rfl,(rfl)})}))))],?_};simp only[Mq,cW,decide_eq_true_eq,gK]at ok;obtain⟨⟨ok1,ok2⟩,ok3⟩:=ok;intro pd hpd;have gd:=Same.new hpd (.dK []);have hn1:=gd _ _ hn;exists (),_,_,.inl (aj.of hn1),at0,(),_,_,.inl (aj.of hn1),at1,(),_,_,.inl (aj.of hn1),at2;exists ao,[(.inr "A",.str a),(.inr "B",.str b),(.inr "C",.str c)],rfl,uH rfl;have g1:=gd.upd hpd (.dK (pD [] [(.inr "A",.str a),(.inr "B",.str b),(.inr "C",.str c)]));have h1:(upd (upd H pd (.dK [])) pd (.dK (pD [] [(.inr "A",.str a),(.inr "B",.str b),(.inr "C",.str c)]))) pd=some (.dK (pD [] [(.inr "A",.str a),(.inr "B",.str b),(.inr "C",.str c)])):=ao;generalize upd (upd H pd (.dK [])) pd (.dK (pD [] [(.inr "A",.str a),(.inr "B",.str b),(.inr "C",.str c)]))=H1 at g1 h1;refine{rfl,(),rfl,t,(),rfl,by rw[jN];rfl,⋯,λD hD=>?_};rw[jN];have g2:=Same.new hD (.lst ((spl t).map V.str));have h2:(upd H1 D (.lst ((spl t).map V.str))) D=some (.lst ((spl t).map V.str)):=ao;have h12:=g2 _ _ h1;show aoj K (V.ref D) (upd H1 D (.lst ((spl t).map V.str))) _;generalize upd H1 D (.lst ((spl t).map V.str))=H2 at g2 h2 h12;refine{D,rfl,.inl {{_,aj.of h2},acG (iu (aj.of h2)) (by rw[bG];exact jE (gU ⋯)) rfl (λx=>match x with | .str w=> .str (bJ a b c "D" w)|_=> .non) ?_ ?_}}
 .intro H3 x g3 hx kk hkk;obtain⟨w,hw,rfl⟩:=fM.mp hx;exists (),pd,rfl,.inl {_,.inl (g3 _ _ h12)},(),(),_,lD.k (k:= .inr w) (g3 _ _ h12);rw[aQG,aHk];exact hkk H3 (Same.refl _)
 .intro D2 H3 hD2 g3 h3;have e3:(((spl t).map V.str).map λx=>match x with | .str w=>V.str (bJ a b c "D" w)|_=> .non)=((spl t).map (bJ a b c "D")).map V.str:=by rw[iz,iz];rfl
  rw[e3]at h3;have cl:∀w∈spl t,32∉w.cps.toList:=Nt t ∅;have pr:∀w∈spl t,(bJ a b c "D" w).length<=100/\32∉(bJ a b c "D" w).cps.toList:=λw hw=>by
   have o:=ok3 w hw;unfold bJ;split
   .exact{⋯,ca}
   split
   .exact{⋯,cb}
   split
   .exact{⋯,cc}
   split
   .exact absurd (by assumption) o.2
   .exact{o.1,cl w hw}
  obtain⟨j1,j2,j3⟩:=aSq (ws:=(spl t).map (bJ a b c "D")) (λz=>En t (Tx.one 32) (amo.mp z)) (by rw[bG];exact ok2) (λx hx=>by obtain⟨w,hw,rfl⟩:=fM.mp hx;exact(pr w hw).1) (λx hx=>by obtain⟨w,hw,rfl⟩:=fM.mp hx;exact(pr w hw).2);exists _,D2,(),rfl,h3,j1;refine q _ H3 (g1.trans (g2.trans g3)) j2 λd=>j3.trans (vK λw hw=>aK9 (ok3 w hw).2)
theorem aPq(F:Fn K mg "_law_bad" aaE ["_law_names","_law_way","_law_number"])(MS:aip M)(Nf:apB M)(JK:aiq M)(N5:ami M)(aaA:ac8 M):agU M:=by
 delta acq acq
 obtain⟨ln,a,b,c,r,way,n,rfl,⟨hn,na,nb,nc⟩,w0,w4,n0,q⟩:=h;exists _,#[(),(tU (bD (PW.pt (xu (1==_:) (wF (2%_==_:)))) (aM (aF (cC #[(aQ K (cC #[vh,_,fP,(cC #["",-0])]) (2/_%_:)),""]))) bH)),(qG (aO0 (sp:=(DK)) (d7.cons (s:= "_law_no_rows") N5 (d7.cons (s:= "_law_no_names") JK (d7.cons (s:= "_law_no_texts") Nf (d7.cons (s:= "_law_by_stages") MS d7.nil)))) hr (aQ K (cC #[(v9 N5 rfl),(v9 JK rfl),(v9 Nf rfl),(v9 MS rfl)]) (1:)) #[2]) (XO K (n:=2) rfl (nG (aY 3 acq.nd) (nG (aY 4 acq.nd) Gv)))),(aF (cC #[(aH aaA hr #[3,0]),4]))];refine uV.by (λσ' H'=>σ'=[some (.ref ln),some (.int way),some (.int n),none,none]/\H'=H) (λNN mq=>?_) ?_
 .refine{(),(),cI (λc1=>?_) (λc1=>bL (mq _ _ {rfl,(rfl)}))};refine{(),"",(∅:(0:Int)<9),(),cI (λc2=>?_) (λc2=>mq _ _ {rfl,(rfl)})};exists (),_,_,.inl (aj.of hn),at0;refine gJ λl1 H1 _ g1 h1=>?_;refine gJ λl2 H2 _ g2 h2=>?_;have c0:=iR (n/9) (∅:(0:Int)<4);have c1:=iK (n/9) (∅:(0:Int)<4);obtain⟨v,hv,ev⟩:∃v,Eb H2 v/\iy [V.non,.int 7,.bl true,.ref l1] (n/9%4)=some v:=by
   have:n/9%4=0∨n/9%4=1∨n/9%4=2∨n/9%4=3:=⋯;rcases this with e|e|e|e<;>rw[e]
   .exact{_,.inl rfl,rfl}
   .exact{_,.inr (.inl {()}),rfl}
   .exact{_,.inr (.inr (.inl {()})),rfl}
   .exact{_,.inr (.inr (.inr {l1,(),g2 _ _ h1})),rfl}
  exists (),"",{∅,∅},"",(∅:(0:Int)<4),_,_,.inl (aj.of h2),ev;refine gJ λl3 H3 _ g3 h3=>q l3 v .row H3 (g1.trans (g2.trans g3)) h3 (.inl {?_,rfl});rcases hv with e|e|e|⟨l,xs,e,hl⟩
  .exact .inl e
  .exact .inr (.inl e)
  .exact .inr (.inr (.inl e))
  .exact .inr (.inr (.inr {l,xs,e,g3 _ _ hl}))
 rintro σ' H' ⟨rfl,rfl⟩;intro f1 m1 f2 m2 f3 m3 f4 m4;refine gJ λl1 H1 _ g1 h1=>?_;obtain⟨g,x,hx,hg,ea⟩:∃g x,x∈([("_law_no_rows","_law_no_rows"),("_law_no_names","_law_no_names"),("_law_no_texts","_law_no_texts"),("_law_by_stages","_law_by_stages")]:List (Str×Str))/\mg x.2=some (.ref g)/\iy [V.ref f1,.ref f2,.ref f3,.ref f4] way=some (.ref g):=by
  have:way=0∨way=1∨way=2∨way=3:=⋯;rcases this with e|e|e|e<;>rw[e]
  .exact{f1,_,.head _,m1,rfl}
  .exact{f2,_,.tail _ (.head _),m2,rfl}
  .exact{f3,_,.tail _ (.tail _ (.head _)),m3,rfl}
  .exact{f4,_,.tail _ (.tail _ (.tail _ (.head _))),m4,rfl}
 refine{(),_,_,.inl (aj.of h1),ea,x,hx,{g,hg,(rfl)},(),n,rfl,n0,λl2 t k H2 g2 h2 tk=>?_};exists l2,(),aj.of h2,rfl,_,(),"";have cA:=g1.trans g2;have tok:Mq t=true:=by unfold gH at tk;rw[cW]at tk;exact tk.1
 refine{(),(),t,ln,a,b,c,r,rfl,cA _ _ hn,qZ na,qZ nb,qZ nc,tQ na,tQ nb,tQ nc,tok,λu H3 g3 hu hs=>?_};exists ();exact gJ λl4 H4 _ g4 h4=>q l4 (.str u) k H4 (cA.trans (g3.trans g4)) h4 (.inr {t,u,rfl,tk,hu,(hs)})
theorem aHK(F:Fn K mg "_law_starts" Zg ["_law_desk","_law_d"])(fX:KY P w K mg base cR bV bU bN bT bW bM bO bQ):apU P w K mg base cR:=by
 delta abY abY
 intros p dd d M' n rfl od dc hc G hn q h;refine{_,#[(),(au 2 abY.nd (""+1+""+1+""+1:)),(au 3 abY.nd ((cC #[(""+1+""+(jg u9 cX aU):)])+(cC #[2])*_:)),(bD ((dB (sc:=aAJ) (N:=["_law_text","_law_desk"]) (ix:=[none,some 0]) cM rfl (dh K (3:)) (λ_ _ _ _ _=>{(aY 0 cJ),cO,(aH fX hr #[1,0])}))!=(cC #[(cF #["",""])])*_:) (aM (aF fP)) bH),(bD (PW.pt (gP ((aH fX hr #[0,(""+1:)])!=(cF #["",(""+(jg u9 cX aU):)]):) (jR ((aH fX hr #[0,2])!=(cF #["",""]):)))) (aM (aF fP)) bH),(aF (lB (oO K hr) (dB (sc:=atN) (N:=["_law_word_here","_law_d","_law_desk"]) (ix:=[none,some 1,some 0]) cM rfl (dh K (cF #["",""])) (λ_ _ _ _ _=>{(aY 0 cJ),cO,(aH fX hr #[2,(0+""+1:)])})) ((cC #[(cF #["",""])])*_:) (mF _)))],?_};have ld:=qZ od;have cd:=tQ od;have hz:10000<=sizeLine:=∅;have l1:(Str.ofString "multiply ").length=9:=by decide +kernel
 have l2:(Str.ofString " ").length=1:=by decide +kernel
 have l3:(Str.ofString "row ").length=4:=by decide +kernel
 have l4:(Str.ofString " 1 | 1").length=6:=by decide +kernel
 have l5:(zs 59).length=59:=by decide +kernel
 refine{(),by rw[l1];lia,by rw[cB,l1,l2];lia,(),by simp only[cB,l1,l2];lia,by simp only[cB,l1,l2];lia,(),by simp only[cB,l1,l2];lia,?_};have hm:=amH cd;have lm:(Str.ofString "multiply " ++ d++Str.ofString " " ++ d++Str.ofString " " ++ d).length<=100000:=by simp only[cB,l1,l2];lia
 generalize Str.ofString "multiply " ++ d++Str.ofString " " ++ d++Str.ofString " " ++ d=mu at hm lm;refine{(),by rw[l3];lia,by simp only[cB,l3,l4];lia,"0",59,rfl,rfl,∅,∅,by decide +kernel,by decide +kernel,?_};refine{by rw[show({nP (λx1 x2=>x1++x2) #[] (aX 59 (Str.ofString "0").cps)}:Str)=zs 59 from rfl];simp only[cB,l3,l4,l5];lia,?_};refine gJ λa1 H1 _ g1 h1=>?_;refine{(),xU (k:=6) ∅ λa2 H2 _ g2 h2=>?_};refine add_l (g2 _ _ h1) h2 (by show 1+6<=sizeLine;lia) λa3 H3 g3 h3=>?_;replace h3:H3 a3=some (.lst ([V.str (Str.ofString "row " ++ d++Str.ofString " 1 | 1" ++ zs 59)]++aX 6 (V.str mu))):=h3;have lr:(Str.ofString "row " ++ d++Str.ofString " 1 | 1" ++ zs 59).length<=100000:=by simp only[cB,l3,l4,l5];lia
 have hr:spl (Str.ofString "row " ++ d++Str.ofString " 1 | 1" ++ zs 59)=(spl "row" ++ ("D" : Str)::spl (Str.ofString "1 | 1" ++ zs 59)).map (bJ d d d d):=by
  rw[IK,show Str.ofString " 1 | 1" = Tx.one 32++Str.ofString "1 | 1" by decide +kernel,nR _ (Tx.one 32++Str.ofString "1 | 1"),nR (Tx.one 32)];exact afL (lH _ _ _ _) cd (by decide +kernel) (by decide +kernel)
 generalize Str.ofString "row " ++ d++Str.ofString " 1 | 1" ++ zs 59=ro at h3 lr hr;have eX:=g1.trans (g2.trans g3);have G3:=G.same eX;refine{(),a3,rfl,.inl {{_,aj.of h3},Le (ad:=adr bN bV bW bO bQ bM bT bU) (m:=7) od dc hc (λH' hl=>iu (aj.of hl)) h3 (λ_ z=>by cases z) rfl ⋯ rfl wB (λi=> .put "D" {0,[1],[QQ i]}) G3 (apQ (λt H' k hk=>{(),(),hk _}) lr hr ax9 lm hm (λi hi=>akP i (jj.mpr (NP (jj.mp hi) ∅))) (λ_=>rfl) (λ_=>rfl)) ?_}};intro a4 ys H4 g4 G4 h4 fa;refine{(aZ 2),λt5 vY=>xU (k:=7) ∅ λa6 H6 _ g6 h6=>?_};have gh:=(Same.new vY (.tup [.str "told",.str "ok"])).trans g6;refine zq (ps:=aX 7 Aq) (λp hp=>by rw[wX hp];exact tL) (gh _ _ h4) h6 (fa.same gh) (gO.rep {t5,rfl,g6 _ _ ao} 7) {(),bL ?_};have G6:=G4.same gh;have s6:dH dd H H6:=(dH.of eX g4).then gh;clear gh g6 h6 fa h4 g4 G4 eX G3 h3 g1 h1 g2 h2 G;have l8:(Str.ofString "divisor").length=7:=by decide +kernel
 have l9:(Str.ofString "closed").length=6:=by decide +kernel
 have l6:(Str.ofString "divisor ").length=8:=by decide +kernel
 have tdv:spl (Str.ofString "divisor" ++ Str.ofString " " ++ d)=(spl "divisor" ++ [("D" : Str)]).map (bJ d d d d):=by rw[jN];exact K3 (lH _ _ _ _) cd (by decide +kernel)
 have tcl:spl (Str.ofString "closed" ++ Str.ofString " " ++ d)=(spl "closed" ++ [("D" : Str)]).map (bJ d d d d):=by rw[jN];exact K3 (lH _ _ _ _) cd (by decide +kernel)
 refine{(),(),by rw[l6];lia,nC (o:=some {0,[1],[QQ 6]}) G6 ⋯ od dc hc az7 trivial (by rw[cB,l6];lia) (by rw[show Str.ofString "divisor " = Str.ofString "divisor" ++ Str.ofString " " by decide +kernel];exact tdv) λt7 H7 g7 G7 h7=>?_};rw[show(qM (.tell (gb (QQ 6)))).2=gb ((10^3776:Nat):Int)from rfl,apD]at h7;have o7:=amw 3776;refine aqA 3776 ∅ ∅ λt8 H8 g8 h8=>?_;generalize zs 3776=Z at o7 h7 h8;refine eqP o7 (g8 _ _ h7) h8 {(),bL ?_};have G8:=G7.same g8;have s8:dH dd H H8:=(s6.lQ g7).then g8;refine{(),(),nC (o:=wB 7) G8 ⋯ od dc hc (akP 6 ∅) rfl lm hm λt9 H9 g9 G9 h9=>?_};refine{(aZ 2),λt10 aSd=>?_};have jL:=Same.new aSd (.tup [.str "told",.str "ok"]);refine eqP tL (jL _ _ h9) ao {(),bL ?_};have qx:=G9.same jL;have kE:=(s8.lQ g9).then jL;refine{(aZ 2),λt11 wH=>?_};have gn:=Same.new wH (.tup [.str "divisor",.str "closed"]);refine{t11,rfl,.inr {{_,aq.of ao},Le (ad:=adr bN bV bW bO bQ bM bT bU) (m:=2) od dc hc (λH' hl=>pL (aq.of hl)) ao (λ_ z=>by cases z) rfl ⋯ rfl (λ_=>wB 8) (λ_=> .err .big) (qx.same gn) (apa (λH' k hk=>{(),(),by rw[l8,l2];lia,(),by rw[cB,l8,l2];lia,hk _}) (λH' k hk=>{(),(),by rw[l9,l2];lia,(),by rw[cB,l9,l2];lia,hk _}) (by rw[cB,cB,l8,l2];lia) tdv atQ (by rw[cB,cB,l9,l2];lia) tcl aR6 (λ_=>trivial) (λ_=>rfl)) ?_}};intro a12 ys JT cA FQ h12 fa;refine{(aZ 2),λBp aR9=>xU (k:=2) ∅ λa14 Ih _ iD h14=>?_};have gh:=(Same.new aR9 (.tup [.str "refused",.str "big"])).trans iD;refine zq (ps:=aX 2 (Str.ofString "refused",Str.ofString "big")) (λp hp=>by rw[wX hp];exact wK .big) (gh _ _ h12) h14 (fa.same gh) (gO.rep {Bp,rfl,iD _ _ ao} 2) ?_;exact q _ ((kE.lQ ((dH.of gn cA).then gh))) ((FQ.same gh).up ⋯)
theorem aRN(F:Fn K mg "_law_great" abV ["_law_desk","_law_d"])(fX:KY P w K mg base cR bV bU bN bT bW bM bO bQ)(aa5:apU P w K mg base cR):aj0 P w K mg base cR:=by
 delta Iv Iv
 intros p dd d M' n rfl od dc hc G hn q h;refine{_,#[(),(au 2 Iv.nd (cC #[(""+1+""+(jg u9 cX aU)+"":),(""+1+""+1+""+1:)])),(au 2 Iv.nd (2+(cC #[(""+1+""+1+""+1:)])*_:)),(bD ((dB (sc:=avx) (N:=["_law_text","_law_desk"]) (ix:=[none,some 0]) cM rfl (dh K (2:)) (λ_ _ _ _ _=>{(aY 0 cJ),cO,(aH fX hr #[1,0])}))!=(cC #[(cF #["",""])])*_:) (aM (aF fP)) bH),(bD ((aH fX hr #[0,(""+1+"":)])!=(cF #["",(""+(jg u9 cX aU):)]):) (aM (aF fP)) bH),(gk PassesOwn.never rfl (dh K (cC #[(""+1+"":),(""+1+"":)])) (aY 3 Iv.nd) (aM (bD ((aH fX hr #[0,3])!=(cF #["",""]):) (aM (aF fP)) bH))),(bD (PW.pt (gP ((aH fX hr #[0,-2])!=(cF #["",""]):) (jR ((aH fX hr #[0,(""+1:)])!=(cF #["",""]):)))) (aM (aF fP)) bH),(au 2 Iv.nd (cC #[(""+1+"":),(""+1+""+1+"":)])),(bD ((dB (sc:=aNN) (N:=["_law_text","_law_desk"]) (ix:=[none,some 0]) cM rfl (dh K (2:)) (λ_ _ _ _ _=>{(aY 0 cJ),cO,(aH fX hr #[1,0])}))!=(cC #[(cF #["",""])])*_:) (aM (aF fP)) bH),(bD ((aH fX hr #[0,(""+1+"":)])!=(cF #["",""]):) (aM (aF fP)) bH),(bD ((aH fX hr #[0,(""+1+""+(jg u9 cX aU)+"":)])!=(cF #["",""]):) (aM (aF fP)) bH),(bD ((aH fX hr #[0,(""+1:)])!=(cF #["",""]):) (aM (aF fP)) bH),(aF (al1 (aH aa5 hr #[0,1]) (Hq (lB (oO K hr) (aH fX hr #[0,(""+1:)]) (cF #["",""]) (mF _)))))],?_};have ld:=qZ od;have cd:=tQ od;have hz:10000<=sizeLine:=∅;have l1:(Str.ofString "multiply ").length=9:=by decide +kernel
 have l2:(Str.ofString " ").length=1:=by decide +kernel
 have l3:(Str.ofString "row ").length=4:=by decide +kernel
 have l4:(Str.ofString " 1").length=2:=by decide +kernel
 have l5:(zs 59).length=59:=by decide +kernel
 have l6:(Str.ofString " | 1").length=4:=by decide +kernel
 refine{(),by rw[l3];lia,by simp only[cB,l3,l4];lia,"0",59,rfl,rfl,∅,∅,by decide +kernel,by decide +kernel,?_};refine{by rw[show({nP (λx1 x2=>x1++x2) #[] (aX 59 (Str.ofString "0").cps)}:Str)=zs 59 from rfl];simp only[cB,l3,l4,l5];lia,by rw[show({nP (λx1 x2=>x1++x2) #[] (aX 59 (Str.ofString "0").cps)}:Str)=zs 59 from rfl];simp only[cB,l3,l4,l5,l6];lia,?_};refine{(),by rw[l1];lia,by rw[cB,l1,l2];lia,(),by simp only[cB,l1,l2];lia,by simp only[cB,l1,l2];lia,(),by simp only[cB,l1,l2];lia,gJ λa1 H1 _ g1 h1=>?_};have lr:(Str.ofString "row " ++ d++Str.ofString " 1" ++ zs 59++Str.ofString " | 1").length<=100000:=by simp only[cB,l3,l4,l5,l6];lia
 have hr:spl (Str.ofString "row " ++ d++Str.ofString " 1" ++ zs 59++Str.ofString " | 1")=(wD "row" (spl (Str.ofString "1" ++ zs 59++Str.ofString " | 1"))).map (bJ d d d d):=by
  rw[nR _ (zs 59),nR _ (Str.ofString " 1")];exact vO IK (by decide +kernel) cd (by decide +kernel) (by decide +kernel)
 have hm:=amH cd;have lm:(Str.ofString "multiply " ++ d++Str.ofString " " ++ d++Str.ofString " " ++ d).length<=100000:=by simp only[cB,l1,l2];lia
 replace h1:H1 a1=some (.lst [V.str (Str.ofString "row " ++ d++Str.ofString " 1" ++ zs 59++Str.ofString " | 1"),.str (Str.ofString "multiply " ++ d++Str.ofString " " ++ d++Str.ofString " " ++ d)]):=h1;generalize Str.ofString "row " ++ d++Str.ofString " 1" ++ zs 59++Str.ofString " | 1" = ro at h1 lr hr;refine{(),(),by rw[l1];lia,by rw[cB,l1,l2];lia,(),by simp only[cB,l1,l2];lia,by simp only[cB,l1,l2];lia,(),by simp only[cB,l1,l2];lia,?_};generalize Str.ofString "multiply " ++ d++Str.ofString " " ++ d++Str.ofString " " ++ d=mu at h1 hm lm⊢;refine xU (k:=5) ∅ λa2 H2 _ g2 h2=>?_;refine add_l (g2 _ _ h1) h2 (by show 2+5<=sizeLine;lia) λa3 H3 g3 h3=>?_;replace h3:H3 a3=some (.lst ([V.str ro]++aX 6 (V.str mu))):=h3;have eX:=g1.trans (g2.trans g3);have G3:=G.same eX;refine{(),a3,rfl,.inl {{_,aj.of h3},Le (ad:=adr bN bV bW bO bQ bM bT bU) (m:=7) od dc hc (λH' hl=>iu (aj.of hl)) h3 (λ_ z=>by cases z) rfl ⋯ rfl mX (λi=> .put "D" {0,[QQ i],[1]}) G3 (apQ (λt H' k hk=>{(),(),hk _}) lr hr awF lm hm (λi hi=>afj i (jj.mpr (NP (jj.mp hi) ∅))) (λ_=>rfl) (λ_=>rfl)) ?_}};intro a4 ys H4 g4 G4 h4 fa;refine{(aZ 2),λt5 vY=>xU (k:=7) ∅ λa6 H6 _ g6 h6=>?_};have gh:=(Same.new vY (.tup [.str "told",.str "ok"])).trans g6;refine zq (ps:=aX 7 Aq) (λp hp=>by rw[wX hp];exact tL) (gh _ _ h4) h6 (fa.same gh) (gO.rep {t5,rfl,g6 _ _ ao} 7) {(),bL ?_};have G6:=G4.same gh;have s6:dH dd H H6:=(dH.of eX g4).then gh;have h36:=gh _ _ (G3.keep g4 h3);clear gh g6 h6 fa h4 g4 G4 eX G3 h3 g1 h1 g2 h2 G;have l7:(Str.ofString "at ").length=3:=by decide +kernel
 have l8:(Str.ofString "places ").length=7:=by decide +kernel
 have l9:(Str.ofString " 2").length=2:=by decide +kernel
 have l10:(Str.ofString " 3").length=2:=by decide +kernel
 refine{(),(),by rw[l7];lia,by rw[cB,l7,l4];lia,nC (o:=mX 7) G6 ⋯ od dc hc aMS trivial (by rw[cB,cB,l7,l4];lia) (vO (by decide +kernel) (by decide +kernel) cd (by decide +kernel) (by decide +kernel)) λt7 H7 g7 G7 h7=>?_};rw[show(qM (.tell (gb (QQ 6)))).2=gb ((10^3776:Nat):Int)from rfl,apD]at h7;have o7:=amw 3776;refine aqA 3776 ∅ ∅ λt8 H8 g8 h8=>?_;generalize zs 3776=Z at o7 h7 h8;refine eqP o7 (g8 _ _ h7) h8 {(),bL ?_};have G8:=G7.same g8;have s8:dH dd H H8:=(s6.lQ g7).then g8;have h38:=g8 _ _ (G6.keep g7 h36);clear h36 h8 h7 g8 g7 G7 G6 s6 o7;refine{(),by rw[l7];lia,by rw[cB,l7,l9];lia,(),by rw[l8];lia,by rw[cB,l8,l10];lia,gJ λa9 H9 _ g9 h9=>?_};refine{a9,rfl,.inl {{_,aj.of h9},?_}};have t1:spl (Str.ofString "at " ++ d++Str.ofString " 2")=(wD "at" (spl "2")).map (bJ d d d d):=vO (by decide +kernel) (by decide +kernel) cd (by decide +kernel) (by decide +kernel);have t2:spl (Str.ofString "places " ++ d++Str.ofString " 3")=(wD "places" (spl "3")).map (bJ d d d d):=vO (by decide +kernel) (by decide +kernel) cd (by decide +kernel) (by decide +kernel);have k1:(Str.ofString "at " ++ d++Str.ofString " 2").length<=100000:=by rw[cB,cB,l7,l9];lia
 have k2:(Str.ofString "places " ++ d++Str.ofString " 3").length<=100000:=by rw[cB,cB,l8,l10];lia
 generalize Str.ofString "at " ++ d++Str.ofString " 2" = x1 at h9 t1 k1;generalize Str.ofString "places " ++ d++Str.ofString " 3" = x2 at h9 t2 k2;have G9:=G8.same g9;have s9:=s8.then g9;have h39:=g9 _ _ h38;clear G8 s8 h38 g9;refine KL (xs:=[.str x1,.str x2]) (λi σ' H'=>∃o3:Option V,σ'=[some (.ref p),some (.str d),some (.ref a3),o3]/\dH dd H H'/\GS cR p dd M' d (n+8+i) (mX 7) H'/\H' a9=some (.lst [.str x1,.str x2])/\H' a3=some (.lst ([V.str ro]++aX 6 (V.str mu)))) {(),s9,G9,h9,h39} (λi σ' H' ⟨_,_,_,_,h,_⟩=>iu (aj.of h)) ?_ ?_
 .rintro i x σ' H' ex ⟨o3,rfl,s',G',h9',h3'⟩;obtain⟨t,us,rfl,kt,st,ev⟩:∃(t:Str) (us:List Str),x = .str t/\t.length<=100000/\spl t=us.map (bJ d d d d)/\dU (eG (mX 7)) us=some (.err .big):=by
   cases i with
   |zero=>cases ex;exact{x1,(),k1,t1,atd}
   |succ i=>
    cases i with
    |zero=>cases ex;exact{x2,(),k2,t2,aGx}
    |succ i=>cases ex
  have hi:i<2:=(List.getElem?_eq_some_iff.mp ex).1;refine{(),(),nC G' ⋯ od dc hc ev trivial kt st λt10 nu jL qx h10=>?_};refine{(aZ 2),λt11 wH=>?_};have gn:=Same.new wH (.tup [.str "refused",.str "big"]);refine eqP (wK .big) (gn _ _ h10) ao {(),bL ?_};exact{(),(s'.lQ jL).then gn,qx.same gn,gn _ _ (G'.keep jL h9'),gn _ _ (G'.keep jL h3')}
 rintro σ' nu ⟨o3,rfl,kE,qx,_,NW⟩;clear G9 s9 h39 h9 t1 t2 k1 k2;replace qx:GS cR p dd M' d (n+10) (mX 7) nu:=qx;replace NW:nu a3=some (.lst (V.str ro::V.str mu::aX 5 (V.str mu))):=NW;refine{(),(),_,_,.inl (aj.of NW),at1,nC (o:=mX 7) qx ⋯ od dc hc (afj 6 ∅) rfl lm hm λt11 vQ gn G11 h11=>?_};refine{(aZ 2),λfW Ir=>?_};have cA:=Same.new Ir (.tup [.str "told",.str "ok"]);refine eqP tL (cA _ _ h11) ao {(),bL ?_};have FQ:=G11.same cA;have s12:=(kE.lQ gn).then cA;generalize upd vQ fW (.tup [.str "told",.str "ok"])=JT at FQ s12⊢;clear cA h11 gn G11 qx NW kE;have QK:(Str.ofString "show ").length=5:=by decide +kernel
 refine{(),(),by rw[QK];lia,nC (o:=mX 8) FQ ⋯ od dc hc asz trivial (by rw[cB,QK];lia) (BL (by decide +kernel) cd (by decide +kernel)) λBp Mh eX G13 h13=>?_};refine{(aZ 2),λAj QL=>?_};have iD:=Same.new QL (.tup [.str "refused",.str "big"]);refine eqP (wK .big) (iD _ _ h13) ao {(),bL ?_};have G14:=G13.same iD;have V0:=(s12.lQ eX).then iD;generalize upd Mh Aj (.tup [.str "refused",.str "big"])=Ih at G14 V0⊢;clear iD h13 eX G13 FQ s12;have gj:(Str.ofString " | by 7").length=7:=by decide +kernel
 have Dw:(Str.ofString "ahead ").length=6:=by decide +kernel
 have Pn:(Str.ofString " 1 2 3 4 5 6 1 2 3 4 5 6").length=24:=by decide +kernel
 refine{(),by rw[l3];lia,by rw[cB,l3,gj];lia,(),by rw[Dw];lia,by rw[cB,Dw,l2];lia,(),by simp only[cB,Dw,l2];lia,by simp only[cB,Dw,l2,Pn];lia,gJ λa15 PL _ je h15=>?_};have G15:=G14.same je;have s15:=V0.then je;refine{(),a15,rfl,.inl {{_,aj.of h15},Le (ad:=adr bN bV bW bO bQ bM bT bU) (m:=2) od dc hc (λH' hl=>iu (aj.of hl)) h15 (λ_ z=>by cases z) rfl ⋯ rfl stH GJ G15 (apa (λH' k hk=>{(),(),hk _}) (λH' k hk=>{(),(),hk _}) (by rw[cB,cB,l3,gj];lia) (vO IK (by decide +kernel) cd (by decide +kernel) (by decide +kernel)) aD1 (by simp only[cB,Dw,l2,Pn];lia) (tw3 (by decide +kernel) (by decide +kernel) cd (by decide +kernel) (by decide +kernel)) aJG okH nxH) ?_}};intro a16 ys H16 lW G16 Ig fa;refine{(aZ 2),λCe azg=>xU (k:=2) ∅ λa18 H18 _ g18 h18=>?_};have rO:=(Same.new azg (.tup [.str "told",.str "ok"])).trans g18;refine zq (ps:=aX 2 Aq) (λp hp=>by rw[wX hp];exact tL) (rO _ _ Ig) h18 (fa.same rO) (gO.rep {Ce,rfl,g18 _ _ ao} 2) {(),bL ?_};have G18:GS cR p dd M' d (n+14) (some rG) H18:=G16.same rO;have s18:=(s15.lQ lW).then rO;clear rO g18 h18 fa Ig lW G16 h15 G15 s15 G14 V0 je;have Ng:(Str.ofString " 14").length=3:=by decide +kernel
 refine{(),(),by rw[l8];lia,by rw[cB,l8,Ng];lia,nC G18 ⋯ od dc hc aNG trivial (by rw[cB,cB,l8,Ng];lia) (vO (by decide +kernel) (by decide +kernel) cd (by decide +kernel) (by decide +kernel)) λt19 H19 g19 G19 h19=>?_};refine{(aZ 2),λRQ asv=>?_};have g20:=Same.new asv (.tup [.str "told",.str tG]);refine eqP aws (g20 _ _ h19) ao {(),bL ?_};have G20:=G19.same g20;have s20:dH dd H (upd H19 RQ (.tup [.str "told",.str tG])):=(s18.lQ g19).then g20;have Tj:(zs 6).length=6:=by decide +kernel
 refine{(),(),by rw[l3];lia,by rw[cB,l3,l4];lia,"0",6,rfl,rfl,∅,∅,by decide +kernel,by decide +kernel,?_};refine{by rw[show({nP (λx1 x2=>x1++x2) #[] (aX 6 (Str.ofString "0").cps)}:Str)=zs 6 from rfl];simp only[cB,l3,l4,Tj];lia,by rw[show({nP (λx1 x2=>x1++x2) #[] (aX 6 (Str.ofString "0").cps)}:Str)=zs 6 from rfl];simp only[cB,l3,l4,Tj,l6];lia,?_};have lr6:(Str.ofString "row " ++ d++Str.ofString " 1" ++ zs 6++Str.ofString " | 1").length<=100000:=by simp only[cB,l3,l4,Tj,l6];lia
 have hr6:spl (Str.ofString "row " ++ d++Str.ofString " 1" ++ zs 6++Str.ofString " | 1")=(wD "row" (spl (Str.ofString "1" ++ zs 6++Str.ofString " | 1"))).map (bJ d d d d):=by
  rw[nR _ (zs 6),nR _ (Str.ofString " 1")];exact vO IK (by decide +kernel) cd (by decide +kernel) (by decide +kernel)
 refine nC (o:=some rG) G20 ⋯ od dc hc av8 rfl lr6 hr6 λt21 H21 g21 G21 h21=>?_;refine{(aZ 2),λt22 aEg=>?_};have Z0:=Same.new aEg (.tup [.str "told",.str "ok"]);refine eqP tL (Z0 _ _ h21) ao {(),bL ?_};have G22:=G21.same Z0;have s22:=(s20.lQ g21).then Z0;have l17:(Str.ofString "closed ").length=7:=by decide +kernel
 refine{(),(),by rw[l17];lia,nC (o:=some {0,[1000000],([1])}) G22 ⋯ od dc hc azp trivial (by rw[cB,l17];lia) (BL (by decide +kernel) cd (by decide +kernel)) λt23 H23 g23 G23 h23=>?_};refine{(aZ 2),λt24 aIT=>?_};have g24:=Same.new aIT (.tup [.str "refused",.str "big"]);refine eqP (wK .big) (g24 _ _ h23) ao {(),bL ?_};have G24:=G23.same g24;have s24:=(s22.lQ g23).then g24;refine{(),(),p,dd,d,M',n+17,rfl,od,dc,hc,G24,⋯,λH25 g25 G25=>?_};have l18:(Str.ofString "drop ").length=5:=by decide +kernel
 refine{(),dM {(),(),by rw[l18];lia,nC G25 ⋯ od dc hc aM4 rfl (by rw[cB,l18];lia) (BL (by decide +kernel) cd (by decide +kernel)) λt26 H26 g26 G26 h26=>?_}};refine{(aZ 2),λt27 aQ7=>?_};have Ua:=Same.new aQ7 (.tup [.str "told",.str "ok"]);refine eqP tL (Ua _ _ h26) ao ?_;exact q _ (((s24.lQ g25).lQ g26).then Ua) ((G26.same Ua).up ⋯)
theorem ayU{f:Addr}{fd:FuncData}(F:qj K "law" "law" yt f fd)(RN:amm M)(Aa:ae5 M)(Wh:akm P w K mg base cR)(fX:KY P w K mg base cR bV bU bN bT bW bM bO bQ)(Yw:ady M)(abp:agU M)(Z4:aj0 P w K mg base cR):jh P w K mg base (iI P w) VN f fd ["_law_script"] (Xd K):=by
 refine F.okN (k:=23) lu (λvs H Q E h=>?_) (λcdv A outer s H vs Q E hr h=>?_)
 .intros a ns rfl _ h;rfl
 .intros sc ns rfl hS hlen hbt q h;refine{_,#[(),(au 1 lu.nd (jq (kW K) (aH RN hr #[(aH Aa hr #[0,_]),(aH Aa hr #[0,_])]) jr (jd aU))),(tU (bD (PW.pt (gP (K6 (Ou K) cX (1:) (by with_unfolding_all rfl)) (gP (K6 (Ou K) cX (1:) (by with_unfolding_all rfl)) (jR (K6 (Ou K) cX (1:) (by with_unfolding_all rfl)))))) (aM (au 1 lu.nd (cC #["","","",""]))) bH)),(qG (1:) (XO K (n:=4) rfl (nG (aY 2 lu.nd) (nG (aY 3 lu.nd) (nG (aY 4 lu.nd) (nG (aY 5 lu.nd) Gv)))))),(fj (i:=6) lu.nd rfl (dZ rfl) (aN9 D.zN Wh hr rfl)),(au 7 lu.nd (cC #[(""+(fZ LY rfl B.vP boot_str #[((aH Aa hr #[0,_])%_:)])+"":),""])),(gk PassesOwn.never rfl (aFw K rfl B.aul #[(cC #[2,3]),7]) (aCL K (n:=2) rfl (nG (aY 8 lu.nd) (nG (aY 9 lu.nd) Gv))) (aM (bD ((aH fX hr #[6,(""+8+""+9:)])!=(cF #["",""]):) (aM (aF fP)) bH))),(gk PassesOwn.never rfl (fL rfl B.dY #[_]) (aY 10 lu.nd) #[(),(au 11 lu.nd (aH Yw hr #[((aH Aa hr #[0,(_+10:)])+10*10:),10])),(qG (aH abp hr #[1,(11%_:),(11/_:)]) (XO K (n:=2) rfl (nG (aY 9 lu.nd) (nG (aY 12 lu.nd) Gv)))),(bD ((aH fX hr #[6,9])!=(cF #["",12]):) (aM (aF fP)) bH),(bD ((dB (sc:=aIf) (N:=["_law_name","_law_desk"]) (ix:=[none,some 6]) cM rfl (dh K (cF #[2,3])) (λ_ _ _ _ _=>{(aY 0 cJ),cO,(aH fX hr #[1,(""+0:)])}))!=(dB (sc:=aLQ) (N:=["_law_text"]) (ix:=[none]) cM rfl (dh K (7:)) (λ_ _ _ _ _=>{(aY 0 cJ),cO,(cF #["",0])})):) (aM (aF fP)) bH),(bD ((aH fX hr #[6,""])!=(cF #["",""]):) (aM (aF fP)) bH)]),(bD (PW.pt (gP (iU (fY (aH Z4 hr #[6,5]))) (jR ((aH fX hr #[6,(""+2:)])!=(cF #["",""]):)))) (aM (aF fP)) bH),(aF (lB (oO K hr) (dB (sc:=aPF) (N:=["_law_name","_law_desk"]) (ix:=[none,some 6]) cM rfl (dh K (cF #[2,5])) (λ_ _ _ _ _=>{(aY 0 cJ),cO,(aH fX hr #[1,(""+0:)])})) ((cC #[(cF #["",""])])*_:) (mF _)))],?_};refine{(),sc,ns,0,rfl,hS,∅,(),sc,ns,1,rfl,hS,∅,_,(),λl0 H1 f g1 hl0 fo fi=>?_};refine{(),.inl {_,aj.of hl0,λl1 hl1=>?_}};have e4:gq (((fK 8).map f).map V.str) none (some 4)=[.str (f 0),.str (f 1),.str (f 2),.str (f 3)]:=rfl;rw[e4];have g2:=g1.trans (Same.new hl1 (.lst [.str (f 0),.str (f 1),.str (f 2),.str (f 3)]));have h1:(upd H1 l1 (.lst [.str (f 0),.str (f 1),.str (f 2),.str (f 3)])) l1=some (.lst [.str (f 0),.str (f 1),.str (f 2),.str (f 3)]):=ao;generalize upd H1 l1 (.lst [.str (f 0),.str (f 1),.str (f 2),.str (f 3)])=H2 at g2 h1⊢;have fn:∀i j,i<8->j<8->i≠j->f i≠f j:=λi j hi hj ne z=>ne (fi i j hi hj z);refine uV.by (λσ' H'=>∃(l:Addr) (a b c d:Str),σ'=[some (.ref sc),some (.ref l),none,none,none,none,none,none,none,none,none,none,none]/\Same H H'/\H' l=some (.lst [.str a,.str b,.str c,.str d])/\N4 a b c d) (λNN mq=>?_) ?_
  .refine{(),l1,(),.inl (aj.of h1),rfl,rfl,(),cI (λ_=>dM (gJ λl2 H' _ g' h'=>mq _ _ {l2,_,_,_,(),g2.trans g',h',YC})) (λc1=>?_)};refine{(),l1,(),.inl (aj.of h1),rfl,rfl,(),cI (λ_=>dM (gJ λl2 H' _ g' h'=>mq _ _ {l2,_,_,_,(),g2.trans g',h',YC})) (λ_=>?_)};refine{(),l1,(),.inl (aj.of h1),rfl,rfl,(),cI (λ_=>(gJ λl2 H' _ g' h'=>mq _ _ {l2,_,_,_,(),g2.trans g',h',YC})) (λ_=>?_)};obtain⟨k0,k1,k2,k3⟩:=axZ c1;exact mq _ _ {l1,_,_,_,(),g2,h1,fo 0 ∅,fo 1 ∅,fo 2 ∅,fo 3 ∅,fn 0 1 ∅ ∅ ∅,fn 0 2 ∅ ∅ ∅,fn 0 3 ∅ ∅ ∅,fn 1 2 ∅ ∅ ∅,fn 1 3 ∅ ∅ ∅,fn 2 3 ∅ ∅ ∅,k0,k1,k2,k3}
  rintro σ' H3 ⟨l,a,b,c,d,rfl,g3,hl,n4⟩;clear g1 hl0 fo fi g2 h1 fn;exists (),l,(),aj.of hl,rfl,_,(),_,(),_,(),"";have hS3:=g3.seq hS;intro p dx hp hdx hne;refine{p,dx,rfl,ao,λdd H4 hd D4 same=>{rfl,?_}};have g4:Same H3 H4:=λb' o e0=>same b' o (by rw[bY (fU e0 hp),bY (fU e0 hdx)];exact e0) (fU e0 hp);have Zb:=g4.seq hS3;have jB:=g4 _ _ hl;clear same g4 hS3 hl g3 hne hS;have c0:=iR (cellAt ns 2) (∅:(0:Int)<9);have c1:=iK (cellAt ns 2) (∅:(0:Int)<9);exists (),sc,ns,2,rfl,Zb,∅,"",(∅:(0:Int)<9);obtain⟨s,hs,es⟩:∃s:Nat,s<9/\cellAt ns 2%9=(s:Int):={(cellAt ns 2%9).toNat,⋯,⋯};rw[es];obtain⟨e1,e2,e3,e4,e5,e6,e7⟩:=aIJ s (jj.mpr hs);intros f1 f2 f3 f4 f5 f6 aHo;have hz:10000<=sizeLine:=∅;have eA:(tA s).length=(Str.ofString "1 1 | ").length+(Str.ofString (toString (s:Int))).length+(Str.ofString " 1").length:=by unfold tA;rw[cB,cB]
  refine{(),?_,⋯,by rw[cB];lia,gJ λlt H5 _ g5 h5=>?_}
  .have:=Nat.log2_le_self (s:Int).natAbs;lia
  replace h5:H5 lt=some (.lst [.str (tA s),.str tB]):=h5;generalize tA s=ta at e1 e2 e3 e4 e5 h5 eA;generalize tB=tb at f1 f2 f3 f4 f5 h5;have hS5:=g5.seq Zb;have jX:=g5 _ _ jB;have D5:=D4.same g5;clear Zb jB D4 g5 c0 c1 es;refine{(),(),gJ λlz H6 _ g6 h6=>?_};exists (),false,false,lz,lt,_,(),aj.of h6,aj.of (g6 _ _ h5);have Mi:∃Mi:Nat->cV,Mi 0=(λ_=>none)/\Mi 1=cV.put (λ_=>none) a (rA s)/\Mi 2=M2 a b s:={λi=>match i with|0=>(λ_=>none)|1=>cV.put (λ_=>none) a (rA s)|_=>M2 a b s,rfl,rfl,rfl}
  intros Mi m0 m1 m2 Mi;have l1:(Str.ofString "row ").length=4:=by decide +kernel
  have l2:(Str.ofString " ").length=1:=by decide +kernel
  refine aIB (λi σ' H'=>∃o8 o9:Option V,σ'=[some (.ref sc),some (.ref l),some (.str a),some (.str b),some (.str c),some (.str d),some (.ref p),some (.ref lt),o8,o9,none,none,none]/\aj K H' sc (ns.map V.int)/\H' l=some (.lst [.str a,.str b,.str c,.str d])/\H' lt=some (.lst [.str ta,.str tb])/\H' lz=some (.lst [.str a,.str b])/\fV cR H' p dd (Mi i) i) {_,(),g6.seq hS5,g6 _ _ jX,g6 _ _ h5,h6,by rw[m0];exact D5.same g6} (λi σ' H' ⟨_,_,_,_,_,h,h',_⟩=>{aj.of h',aj.of h}) ?_ ?_
  .rintro i x y σ' H' pt ex ey ⟨o8,o9,rfl,s1,s2,s3,s4,s5⟩ hpt;obtain⟨nx,tx,r,rfl,rfl,k1,k2,k3,k4,k5,k6,k7⟩:∃(nx tx:Str) (r:Rw),x = .str nx/\y = .str tx/\dN nx=true/\Mi i nx=none/\Mi i "c" = none/\dU (eG none) (wD "row" (spl tx))=some (.put "D" r)/\(∀x∈spl tx,x∉abc)/\tx.length<=20/\Mi (i+1)=(Mi i).put nx r:=by
    cases i with
    |zero=>cases ex;cases ey;exact{a,ta,(),rfl,n4.oa,by rw[m0],by rw[m0],e1,e2,e4,by rw[m0,m1]}
    |succ i=>
     cases i with
     |zero=>cases ex;cases ey;exact{b,tb,(),rfl,n4.ob,by rw[m1];unfold cV.put;rw[if_neg n4.ab.symm],by rw[m1];unfold cV.put;rw[if_neg n4.na.symm],f1,f2,f4,by rw[m1,m2];rfl}
     |succ i=>cases ex
   have hi:i<2:=(List.getElem?_eq_some_iff.mp ex).1;have lx:=qZ k1;have g0:=Same.new hpt (.tup [.str nx,.str tx]);exists pt,(),aq.of ao,rfl,_,(),"";refine{(),(),by rw[l1];lia,by rw[cB,l1,l2];lia,(),by rw[cB,cB,l1,l2];lia,?_};refine Ji (YK k1) (Wv k2 k3) (s5.same g0) ⋯ k4 (by rw[cB,cB,cB,l1,l2];lia) (by rw[nR _ (Str.ofString " ")];exact vO IK (by rw[jN]) (tQ k1) (by decide +kernel) k5) λt7 H7 g7 h7 m7=>?_;replace m7:fV cR H7 p dd ((Mi i).put (bJ nx nx nx nx "D") r) (i+1):=m7;rw[lH,<-k7]at m7;refine{(aZ 2),λt8 ht8=>?_};have g8:=Same.new ht8 (.tup [.str "told",.str "ok"]);refine eqP tL (g8 _ _ h7) ao {(),bL ?_};obtain⟨kd,hkd,_⟩:=(s5.same g0).kp.ex;have kp:∀{l:Addr} {x:List V},H' l=some (.lst x)->(upd H7 t8 (.tup [.str "told",.str "ok"])) l=some (.lst x):=λ{l x} h=>g8 _ _ (g7 _ _ (λz=>by have:=g0 _ _ h;rw[z,hkd]at this;cases this) (g0 _ _ h));exact{_,(),g8.seq (aj.d g7 hkd (g0.seq s1)),kp s2,kp s3,kp s4,m7.same g8}
  rintro σ' H7 ⟨o8,o9,rfl,hS7,HX,DG,_,D7⟩;replace D7:fV cR H7 p dd (Mi 2) 2:=D7;rw[m2]at D7;clear h6 m0 m1 m2 g6 hS5 jX h5 D5 eA;have hc:M2 a b s "c" = none:=Fy s n4.na.symm n4.nb.symm;have la:=qZ n4.oa;have lb:=qZ n4.ob;have ld:=qZ n4.od;have l3:(Str.ofString "show ").length=5:=by decide +kernel
  have tw:∀{x:Str},dN x=true->spl (Str.ofString "show " ++ x)=(wD "show" []).map (bJ x x x x):=λh=>BL (by decide +kernel) (tQ h) (by decide +kernel);obtain⟨ps,ep⟩:∃ps:Nat->Str×Str,ps=λi=>match i with|0=>("told",ta)|_=>("told",tb):={()}
  have sm:∀i∈fK 12,d8 (0+(i:Int))=true:=by decide +kernel
  exists 12,rfl,∅,∅;refine kY (lo:=0) (n:=12) (λi σ' H'=>∃o8 o9 vW ak Ao:Option V,σ'=[some (.ref sc),some (.ref l),some (.str a),some (.str b),some (.str c),some (.str d),some (.ref p),some (.ref lt),o8,o9,vW,ak,Ao]/\Same H7 H') {_,_,_,_,(),Same.refl _} ?_ ?_
  .rintro i σ' H8 hi ⟨o8,o9,vW,ak,Ao,rfl,g8⟩;have om:=sm i (jj.mpr hi);refine{(),(),sc,ns,(),g8.seq hS7,(⋯:(0:Int)<=3+(0+(i:Int))),(),(),{ux om om,?_}};exists (),_,(),⋯,⋯;have nlo:=aJL (cellAt ns (3+(0+(i:Int)))+(0+(i:Int))*(0+(i:Int))) (0+(i:Int));generalize Zi (cellAt ns (3+(0+(i:Int)))+(0+(i:Int))*(0+(i:Int))) (0+(i:Int))=num at nlo⊢;refine{(),(),"",(∅:(0:Int)<4),(),"",{∅,∅},l,a,b,c,[.str d],_,(),{g8 _ _ HX,n4.oa,n4.ob,n4.oc},iR num ∅,iK num ∅,Int.ediv_nonneg nlo ∅,λl2 v k H9 g9 h9 bad=>?_};have Dq:=g8.trans g9;exists l2,(),aj.of h9,rfl,_,(),"";refine{(),(),aHM n4 hs (D7.same Dq) ∅ bad λt10 nu jL h10=>?_};refine{(),(aZ 2),λt11 wH=>?_};have gn:=Same.new wH (.tup [.str "refused",.str (kI k)]);refine eqP (wK k) (gn _ _ h10) ao {(),bL ?_};have afe:=Dq.trans (jL.trans gn);generalize upd nu t11 (.tup [.str "refused",.str (kI k)])=vQ at afe⊢;refine{(),(),(aZ 2),λfW Ir=>?_};have cA:=Same.new Ir (.tup [.str a,.str b]);have Xh:=afe.trans cA;have h12:(upd vQ fW (.tup [.str a,.str b])) fW=some (.tup [.str a,.str b]):=ao;refine{fW,rfl,.inr {{_,aq.of h12},WG (pL (aq.of h12)) (uH rfl) rfl ps ?_ ?_}}
   .intro i x H' ex g' k hk;cases i with
    |zero=>
     cases ex;rw[ep]at hk;exact{(),(),by rw[l3];lia,MB (D7.same (Xh.trans g')) ∅ n4.oa (RP n4 s) hc e5 {.name,.inr {()}} (by rw[cB,l3];lia) (tw n4.oa) hk}
    |succ i=>
     cases i with
     |zero=>
      cases ex;rw[ep]at hk;exact{(),(),by rw[l3];lia,MB (D7.same (Xh.trans g')) ∅ n4.ob (apk a b s) hc f5 {.name,.inr {()}} (by rw[cB,l3];lia) (tw n4.ob) hk}
     |succ i=>cases ex
   intro a13 ys Mh eX h13 fa;have TJ:=Xh.trans eX;refine{(),lt,rfl,.inl {{_,aj.of (TJ _ _ DG)},WG (iu (aj.of (TJ _ _ DG))) (uH rfl) rfl ps ?_ ?_}}
   .intro i x H' ex g' k hk;cases i with
    |zero=>
     cases ex;rw[ep]at hk;exact{(),(aZ 2),λt ht=>hk t _ (Same.new ht _) ao}
    |succ i=>
     cases i with
     |zero=>
      cases ex;rw[ep]at hk;exact{(),(aZ 2),λt ht=>hk t _ (Same.new ht _) ao}
     |succ i=>cases ex
   intro a14 zs' Ih iD h14 fb;have ajx:=TJ.trans iD;refine zq (ps:=(fK 2).map ps) (λp' hp'=>?_) (iD _ _ h13) h14 (fa.same iD) fb {(),bL ?_}
   .obtain⟨i,_,rfl⟩:=fM.mp hp';rw[ep];cases i with
    |zero=>exact{(by decide +kernel:oM ("told" : Str)=true),e3}
    |succ i=>exact{(by decide +kernel:oM ("told" : Str)=true),f3}
   refine{(),Ji n4.nm (kp2 n4 s) (D7.same ajx) ∅ e7 (by decide +kernel) (Nj (by decide +kernel)).symm λoX PL _ h15 je=>?_};replace je:Same Ih PL:=je;refine{(aZ 2),λoA aGX=>?_};have lW:=Same.new aGX (.tup [.str "refused",.str "name"]);refine eqP (wK .name) (lW _ _ h15) ao {(),bL ?_};exact{_,_,_,_,(),ajx.trans (je.trans lW)}
  rintro σ' H8 ⟨o8,o9,vW,ak,Ao,rfl,g8⟩;have D8:=D7.same g8;refine{(),(),p,dd,d,M2 a b s,2,rfl,n4.od,n4.nd,hc,{_,2,D8,∅,Fy s n4.ad.symm n4.bd.symm,λ_ _=>rfl},∅,λH9 g9 G9=>?_};intros M9 N9 D9 n9 d9 k9 G9.desk;have c9:=(k9 _ n4.nd.symm).trans hc;have G9':GS cR p dd M9 a 62 (some (rA s)) H9:={M9,N9,D9,n9,(k9 a n4.ad).trans (RP n4 s),λ_ _=>rfl};have l4:(Str.ofString "drop ").length=5:=by decide +kernel
  refine{(),bL ?_};refine{(),(),by rw[l4];lia,nC G9' ∅ n4.oa n4.na c9 e6 rfl (by rw[cB,l4];lia) (BL (by decide +kernel) (tQ n4.oa) (by decide +kernel)) λt10 nu jL qx h10=>?_};intros M10 N10 D10 n10 a10 k10 qx.desk;refine{(aZ 2),λt11 wH=>?_};have gn:=Same.new wH (.tup [.str "told",.str "ok"]);refine eqP tL (gn _ _ h10) ao {(),bL ?_};have D11:=D10.same gn;have A8:=(k10 _ n4.na.symm).trans c9;refine{(),(),(aZ 2),λfW Ir=>?_};have cA:=Same.new Ir (.tup [.str a,.str d]);have D12:=D11.same cA;refine{fW,rfl,.inr {{_,aq.of ao},WG (pL (aq.of ao)) (uH rfl) rfl (λ_=>("refused","name")) ?_ ?_}}
  .intro i x H' ex g' k hk;cases i with
   |zero=>
    cases ex;exact{(),(),by rw[l3];lia,MB (D12.same g') ⋯ n4.oa a10 A8 f6 {.name,.inl rfl} (by rw[cB,l3];lia) (tw n4.oa) hk}
   |succ i=>
    cases i with
    |zero=>
     cases ex;exact{(),(),by rw[l3];lia,MB (D12.same g') ⋯ n4.od ((k10 d n4.ad.symm).trans d9) A8 f6 {.name,.inl rfl} (by rw[cB,l3];lia) (tw n4.od) hk}
    |succ i=>cases ex
  intro a13 ys Mh eX h13 fa;refine{(aZ 2),λAj QL=>xU (k:=2) ∅ λa15 PL _ je h15=>?_};have gh:=(Same.new QL (.tup [.str "refused",.str "name"])).trans je;refine zq (ps:=aX 2 (Str.ofString "refused",Str.ofString "name")) (λp hp=>by rw[wX hp];exact wK .name) (gh _ _ h13) h15 (fa.same gh) (gO.rep {Aj,rfl,je _ _ ao} 2) ?_;exact q _
end
def all_mk{P:Program}{w:World}{K:aD}{h:Heap}{mg:Str->Option Value}{fa:Addr}(X:K.In h)(G:h.Ns mainGlobals mg)(hfa:mg "law" = some (.ref fa)){nQ mQ m9 cR:Addr}{bV:Addr}(akt:bI K mainGlobals "NoBy" = some (some (.ref bV))){bU:Addr}(ah0:bI K mainGlobals "NoName" = some (some (.ref bU))){bN:Addr}(apP:bI K mainGlobals "NoNumber" = some (some (.ref bN))){bT:Addr}(alV:bI K mainGlobals "NoRow" = some (some (.ref bT))){bW:Addr}(akc:bI K mainGlobals "NoText" = some (some (.ref bW))){eF:Addr}(ayL:bI K mainGlobals "RuleError" = some (some (.ref eF))){bM:Addr}(aj8:bI K mainGlobals "TooBig" = some (some (.ref bM))){bO:Addr}(ac2:bI K mainGlobals "TooFar" = some (some (.ref bO))){bQ:Addr}(aoh:bI K mainGlobals "TooLong" = some (some (.ref bQ)))(aP0:qP K bV [.type "ValueError",.type "Exception",.type "BaseException",.type "object"] "ValueError.__new__" = true)(aRf:pW K bV eF=true)(aEx:sE K eF "BaseException" = true)(aQz:dF K (.ref bV) "__getattribute__" = some (some (.builtin "BaseException.__getattribute__")))(asC:dF K (.ref bV) "__getattr__" = some none)(aRP:dF K (.ref bV) "__class__" = some (some (.builtin "object.__class__")))(aAw:ji K bV (.type "BaseException")=some true)(aHy:ji K bV (.type "object")=some true)(aKW:(oV K bV).isSome=true)(Yt:aG K (.ref bV) (.ref bV)=some true)(SW:aG K (.ref bV) (.ref bU)=some false)(Ut:aG K (.ref bV) (.ref bN)=some false)(Q8:aG K (.ref bV) (.ref bT)=some false)(abH:aG K (.ref bV) (.ref bW)=some false)(V4:aG K (.ref bV) (.ref bM)=some false)(abu:aG K (.ref bV) (.ref bO)=some false)(Ot:aG K (.ref bV) (.ref bQ)=some false)(UO:aG K (.ref bV) (.type "ValueError")=some true)(az2:qP K bU [.type "ValueError",.type "Exception",.type "BaseException",.type "object"] "ValueError.__new__" = true)(aM7:pW K bU eF=true)(aMf:sE K eF "BaseException" = true)(aQ8:dF K (.ref bU) "__getattribute__" = some (some (.builtin "BaseException.__getattribute__")))(aPl:dF K (.ref bU) "__getattr__" = some none)(azL:dF K (.ref bU) "__class__" = some (some (.builtin "object.__class__")))(aCf:ji K bU (.type "BaseException")=some true)(aRS:ji K bU (.type "object")=some true)(aL6:(oV K bU).isSome=true)(UC:aG K (.ref bU) (.ref bV)=some false)(R9:aG K (.ref bU) (.ref bU)=some true)(aaW:aG K (.ref bU) (.ref bN)=some false)(Z9:aG K (.ref bU) (.ref bT)=some false)(Tf:aG K (.ref bU) (.ref bW)=some false)(PK:aG K (.ref bU) (.ref bM)=some false)(abv:aG K (.ref bU) (.ref bO)=some false)(Wl:aG K (.ref bU) (.ref bQ)=some false)(ZR:aG K (.ref bU) (.type "ValueError")=some true)(arn:qP K bN [.type "ValueError",.type "Exception",.type "BaseException",.type "object"] "ValueError.__new__" = true)(aOZ:pW K bN eF=true)(aDj:sE K eF "BaseException" = true)(aSm:dF K (.ref bN) "__getattribute__" = some (some (.builtin "BaseException.__getattribute__")))(ata:dF K (.ref bN) "__getattr__" = some none)(atL:dF K (.ref bN) "__class__" = some (some (.builtin "object.__class__")))(awg:ji K bN (.type "BaseException")=some true)(aEE:ji K bN (.type "object")=some true)(aCU:(oV K bN).isSome=true)(Sw:aG K (.ref bN) (.ref bV)=some false)(Vs:aG K (.ref bN) (.ref bU)=some false)(QW:aG K (.ref bN) (.ref bN)=some true)(Wf:aG K (.ref bN) (.ref bT)=some false)(abU:aG K (.ref bN) (.ref bW)=some false)(Uc:aG K (.ref bN) (.ref bM)=some false)(QG:aG K (.ref bN) (.ref bO)=some false)(VJ:aG K (.ref bN) (.ref bQ)=some false)(Ss:aG K (.ref bN) (.type "ValueError")=some true)(aBx:qP K bT [.type "ValueError",.type "Exception",.type "BaseException",.type "object"] "ValueError.__new__" = true)(aJq:pW K bT eF=true)(aEi:sE K eF "BaseException" = true)(azc:dF K (.ref bT) "__getattribute__" = some (some (.builtin "BaseException.__getattribute__")))(aJv:dF K (.ref bT) "__getattr__" = some none)(ay3:dF K (.ref bT) "__class__" = some (some (.builtin "object.__class__")))(aFB:ji K bT (.type "BaseException")=some true)(az3:ji K bT (.type "object")=some true)(aDq:(oV K bT).isSome=true)(Vv:aG K (.ref bT) (.ref bV)=some false)(Zt:aG K (.ref bT) (.ref bU)=some false)(Vh:aG K (.ref bT) (.ref bN)=some false)(ab5:aG K (.ref bT) (.ref bT)=some true)(Um:aG K (.ref bT) (.ref bW)=some false)(Tr:aG K (.ref bT) (.ref bM)=some false)(abA:aG K (.ref bT) (.ref bO)=some false)(Qs:aG K (.ref bT) (.ref bQ)=some false)(Qm:aG K (.ref bT) (.type "ValueError")=some true)(aAy:qP K bW [.type "ValueError",.type "Exception",.type "BaseException",.type "object"] "ValueError.__new__" = true)(avX:pW K bW eF=true)(awD:sE K eF "BaseException" = true)(awH:dF K (.ref bW) "__getattribute__" = some (some (.builtin "BaseException.__getattribute__")))(aHN:dF K (.ref bW) "__getattr__" = some none)(aDJ:dF K (.ref bW) "__class__" = some (some (.builtin "object.__class__")))(az6:ji K bW (.type "BaseException")=some true)(aG0:ji K bW (.type "object")=some true)(avP:(oV K bW).isSome=true)(Wc:aG K (.ref bW) (.ref bV)=some false)(Xk:aG K (.ref bW) (.ref bU)=some false)(acW:aG K (.ref bW) (.ref bN)=some false)(abE:aG K (.ref bW) (.ref bT)=some false)(Qa:aG K (.ref bW) (.ref bW)=some true)(WL:aG K (.ref bW) (.ref bM)=some false)(XM:aG K (.ref bW) (.ref bO)=some false)(abN:aG K (.ref bW) (.ref bQ)=some false)(aan:aG K (.ref bW) (.type "ValueError")=some true)(aAd:qP K bM [.type "ValueError",.type "Exception",.type "BaseException",.type "object"] "ValueError.__new__" = true)(aJZ:pW K bM eF=true)(azO:sE K eF "BaseException" = true)(ayK:dF K (.ref bM) "__getattribute__" = some (some (.builtin "BaseException.__getattribute__")))(avH:dF K (.ref bM) "__getattr__" = some none)(azT:dF K (.ref bM) "__class__" = some (some (.builtin "object.__class__")))(aHv:ji K bM (.type "BaseException")=some true)(atb:ji K bM (.type "object")=some true)(aJr:(oV K bM).isSome=true)(RD:aG K (.ref bM) (.ref bV)=some false)(acJ:aG K (.ref bM) (.ref bU)=some false)(aac:aG K (.ref bM) (.ref bN)=some false)(aa2:aG K (.ref bM) (.ref bT)=some false)(Zn:aG K (.ref bM) (.ref bW)=some false)(aa0:aG K (.ref bM) (.ref bM)=some true)(ZQ:aG K (.ref bM) (.ref bO)=some false)(VX:aG K (.ref bM) (.ref bQ)=some false)(R4:aG K (.ref bM) (.type "ValueError")=some true)(aG7:qP K bO [.type "ValueError",.type "Exception",.type "BaseException",.type "object"] "ValueError.__new__" = true)(aM1:pW K bO eF=true)(aAx:sE K eF "BaseException" = true)(aAU:dF K (.ref bO) "__getattribute__" = some (some (.builtin "BaseException.__getattribute__")))(aHq:dF K (.ref bO) "__getattr__" = some none)(aAZ:dF K (.ref bO) "__class__" = some (some (.builtin "object.__class__")))(aLv:ji K bO (.type "BaseException")=some true)(aHV:ji K bO (.type "object")=some true)(axN:(oV K bO).isSome=true)(Ux:aG K (.ref bO) (.ref bV)=some false)(acA:aG K (.ref bO) (.ref bU)=some false)(aaD:aG K (.ref bO) (.ref bN)=some false)(W2:aG K (.ref bO) (.ref bT)=some false)(abM:aG K (.ref bO) (.ref bW)=some false)(Wg:aG K (.ref bO) (.ref bM)=some false)(Qu:aG K (.ref bO) (.ref bO)=some true)(Uo:aG K (.ref bO) (.ref bQ)=some false)(acX:aG K (.ref bO) (.type "ValueError")=some true)(awz:qP K bQ [.type "ValueError",.type "Exception",.type "BaseException",.type "object"] "ValueError.__new__" = true)(aMG:pW K bQ eF=true)(aIK:sE K eF "BaseException" = true)(aq9:dF K (.ref bQ) "__getattribute__" = some (some (.builtin "BaseException.__getattribute__")))(ay0:dF K (.ref bQ) "__getattr__" = some none)(aMY:dF K (.ref bQ) "__class__" = some (some (.builtin "object.__class__")))(aIq:ji K bQ (.type "BaseException")=some true)(atf:ji K bQ (.type "object")=some true)(atE:(oV K bQ).isSome=true)(Vy:aG K (.ref bQ) (.ref bV)=some false)(QS:aG K (.ref bQ) (.ref bU)=some false)(Tn:aG K (.ref bQ) (.ref bN)=some false)(V5:aG K (.ref bQ) (.ref bT)=some false)(Rv:aG K (.ref bQ) (.ref bW)=some false)(Xc:aG K (.ref bQ) (.ref bM)=some false)(ZG:aG K (.ref bQ) (.ref bO)=some false)(Xm:aG K (.ref bQ) (.ref bQ)=some true)(V3:aG K (.ref bQ) (.type "ValueError")=some true)(aF3:bI K mainGlobals "FORMS" = some (some (.ref nQ))){Vu:List DictEntry}{aKS:Nat}(aC4:K.lookup nQ=some {.type "dict",none,.dict {(Vu)} aKS,#[]})(aEw:Vu.map (λe=>({Cq w.params (sY e.key),.str (sY e.key) (B5 e.key),e.val}:DictEntry))=Vu)(aPt:(nQ==sysModules)=false)(aqZ:vB.all (U0 K nQ)=true)(Xa:(AH.all λs=>match bI K nQ s with|some none=>true|_=>false)=true)(aBJ:bI K mainGlobals "MAKERS" = some (some (.ref mQ))){QC:List DictEntry}{aKz:Nat}(aCt:K.lookup mQ=some {.type "dict",none,.dict {(QC)} aKz,#[]})(aDu:QC.map (λe=>({Cq w.params (sY e.key),.str (sY e.key) (B5 e.key),e.val}:DictEntry))=QC)(ard:(mQ==sysModules)=false)(aNy:AF.map (λp=>bI K mQ p.1)=AF.map λp=>bI K mainGlobals p.2)(ayu:(AF.all λp=>match bI K mQ p.1 with|some (some _)=>true|_=>false)=true)(Ox:(akF.all λs=>match bI K mQ s with|some none=>true|_=>false)=true)(aEM:bI K mainGlobals "TELLERS" = some (some (.ref m9))){XS:List DictEntry}{axq:Nat}(atO:K.lookup m9=some {.type "dict",none,.dict {(XS)} axq,#[]})(aKj:XS.map (λe=>({Cq w.params (sY e.key),.str (sY e.key) (B5 e.key),e.val}:DictEntry))=XS)(aRo:(m9==sysModules)=false)(aBw:BP.map (λp=>bI K m9 p.1)=BP.map λp=>bI K mainGlobals p.2)(ark:(BP.all λp=>match bI K m9 p.1 with|some (some _)=>true|_=>false)=true)(MF:(Ly.all λs=>match bI K m9 s with|some none=>true|_=>false)=true)(bk:bI K cStatics sharingNotToldKey=some none)(ar9:bI K mainGlobals "Desk" = some (some (.ref cR)))(aB5:Hx K cR Str.empty=true)(atJ:J3 K cR=true)(ar4:aaC K cR=true)(aOa:dF K (.ref cR) "__setattr__" = some (some (.builtin "object.__setattr__")))(aOo:K9 K cR=true)(aPc:lU K (.ref cR)=true)(awB:dF K (.ref cR) "kept" = some none)(F0:aL K "is_whole" aag)(F1:aL K "is_prime" Yi)(F2:aL K "is_by" PV)(F3:aL K "is_number" Ur)(F4:aL K "taken" Oj)(F5:aL K "inverse" Ye)(F6:aL K "over" aay)(F7:aL K "are_numbers" RJ)(F8:aL K "is_row" Y0)(F9:aL K "shared_by" WW)(F10:aL K "refuse_prime" Ob)(F11:aL K "next_place" Ve)(F12:aL K "first_places" abr)(F13:aL K "refuse_far" aax)(F14:aL K "places" Yu)(F15:aL K "trimmed" XU)(F16:aL K "number_at" Q0)(F17:aL K "times" SG)(F18:aL K "divided" WR)(F19:aL K "monic" SV)(F20:aL K "greatest" XH)(F21:aL K "of_rule" PN)(F22:aL K "rule_of" QN)(F23:aL K "sum_at" abJ)(F24:aL K "prime_above" VR)(F25:aL K "divides" acn)(F26:aL K "taken_poly" Ze)(F27:aL K "nearest" acf)(F28:aL K "joined" abC)(F29:aL K "whole_greatest" Wj)(F30:aL K "shared_divisor" Wq)(F31:aL K "top_of" acB)(F32:aL K "least_of" WK)(F33:aL K "shortest" Zr)(F34:aL K "parting" Oa)(F35:aL K "behind_first" VZ)(F36:aL K "power_sums" Qf)(F37:aL K "rule_of_sums" QT)(F38:aL K "refuse_long" SJ)(F39:aL K "refuse_far_steps" Rg)(F40:aL K "told_row" Ym)(F41:aL K "sum_place" Pb)(F42:aL K "product_place" XE)(F43:aL K "rolled_place" ZK)(F44:aL K "pair_row" abz)(F45:aL K "joint_row" Xu)(F46:aL K "added" YQ)(F47:aL K "rolled" Vb)(F48:aL K "multiplied" Z2)(F49:aL K "scaled" Ww)(F50:aL K "summed" YF)(F51:aL K "every" Oh)(F52:aL K "put_ahead" acF)(F53:aL K "line_taken" Sh)(F54:aL K "head_line" abG)(F55:aL K "bring_up" acS)(F56:aL K "freed" SQ)(F57:aL K "clear" RM)(F58:aL K "common_divisor" abe)(F59:aL K "lowest" Y7)(F60:aL K "free_numbers" acU)(F61:aL K "solution" Zx)(F62:aL K "paper_against" QZ)(F63:aL K "solved" Us)(F64:aL K "rest_row" YS)(F65:aL K "divisor_of" abT)(F66:aL K "undivided" aaw)(F67:aL K "by_prime" OX)(F68:aL K "refuse_far_jump" Sv)(F69:aL K "power_left" aaH)(F70:aL K "jump" Sd)(F71:aL K "place_at" Tw)(F72:aL K "onward" aas)(F73:aL K "refuse_big" Yg)(F74:aL K "whole_divisors" XQ)(F75:aL K "perhaps_roots" P0)(F76:aL K "divided_out" Q9)(F77:aL K "whole_roots" R6)(F78:aL K "power" WY)(F79:aL K "form_line" abL)(F80:aL K "parts_of" Rk)(F81:aL K "closed" acM)(F82:aL K "refuse_wide" Wi)(F83:aL K "round_row" ach)(F84:aL K "came_round" Xx)(F85:aL K "round_of" Y6)(F86:aL K "where" TX)(F87:aL K "above_all_shown" Oq)(F88:aL K "number_shown" VL)(F89:aL K "shown" RV)(F90:aL K "is_written" O8)(F91:aL K "read_number" Vm)(F92:aL K "read_prime" abj)(F93:aL K "read_words" Oz)(F94:aL K "read" QF)(F95:aL K "words_of" acg)(F96:aL K "kinds_of" PF)(F97:aL K "read_name" Xb)(F98:aL K "row_named" Yo)(F99:aL K "read_word" RK)(aRF:aL K "make_row" abF)(aLf:aL K "make_short" aa1)(aNB:aL K "make_add" Za)(azk:aL K "make_multiply" abk)(awc:aL K "make_roll" abB)(ayr:aL K "make_scale" X7)(aQw:aL K "make_sum" Pu)(aOM:aL K "make_every" Ql)(aJe:aL K "make_ahead" SX)(aPr:aL K "make_on" abh)(asp:aL K "make_rest" aah)(azH:aL K "numbers_shown" acd)(aEG:aL K "tell_show" Vq)(aB0:aL K "tell_places" ZY)(aGe:aL K "tell_at" XD)(ay4:aL K "tell_part" ZD)(arj:aL K "tell_round" aaq)(aNs:aL K "tell_where" Py)(ax3:aL K "tell_closed" acC)(aIZ:aL K "tell_divisor" WT)(aLt:aL K "tell_divides" W4)(aMp:su K cR "__init__" "Desk.__init__" Yz ["self"])(ayY:su K cR "say" "Desk.say" Qw ["self","row"])(aMH:aL K "_law_cell_at" V6)(aNT:aL K "_law_pool" Q6)(aN6:aL K "_law_mix" YB)(aOz:aL K "_law_word" OJ)(aGl:aL K "_law_told" aad)(atG:aL K "_law_filled" PX)(aCb:aL K "_law_no_rows" Tp)(aKh:aL K "_law_no_names" QJ)(aEH:aL K "_law_no_texts" TR)(aD5:aL K "_law_by_stages" Ui)(aQP:aL K "_law_bad" aaE)(avr:aL K "_law_starts" Zg)(axA:aL K "_law_great" abV)(FL:aL K "law" yt)(aup:bI K mainGlobals "ValueError" = some none)(aK5:bI K mainGlobals "abs" = some none)(aOx:bI K mainGlobals "all" = some none)(aye:bI K mainGlobals "any" = some none)(aGA:bI K mainGlobals "bool" = some none)(aIz:bI K mainGlobals "int" = some none)(axx:bI K mainGlobals "isinstance" = some none)(asJ:bI K mainGlobals "len" = some none)(aE7:bI K mainGlobals "list" = some none)(aDn:bI K mainGlobals "max" = some none)(awq:bI K mainGlobals "min" = some none)(aIM:bI K mainGlobals "range" = some none)(awe:bI K mainGlobals "reversed" = some none)(ayo:bI K mainGlobals "str" = some none)(aQv:bI K mainGlobals "sum" = some none)(aqY:bI K mainGlobals "tuple" = some none)(ayx:bI K mainGlobals "zip" = some none)(aa6:∃t,bI K mainGlobals "ABOVE_ALL_BYS" = some (some (.int 1000 t)))(SD:∃t,bI K mainGlobals "ABOVE_ALL_NUMBERS" = some (some (.int 1000000 t)))(Rj:∃t,bI K mainGlobals "BELOW_THE_PRIMES" = some (some (.int 1000000 t)))(ZS:∃t,bI K mainGlobals "FARTHEST" = some (some (.int 300 t)))(abo:∃t,bI K mainGlobals "FARTHEST_BY_0" = some (some (.int 400 t)))(abt:∃t,bI K mainGlobals "FARTHEST_START" = some (some (.int 100 t)))(aak:∃t,bI K mainGlobals "FIGURES" = some (some (.str "0123456789" t)))(JN:∃t,bI K mainGlobals "LONGEST" = some (some (.int 12 t)))(PB:∃t,bI K mainGlobals "LONGEST_NAME" = some (some (.int 8 t)))(aa3:∃t,bI K mainGlobals "MOST_AHEAD" = some (some (.int 12 t)))(Yn:∃t,bI K mainGlobals "MOST_FIGURES_READ" = some (some (.int 60 t)))(ah1:∃t,bI K mainGlobals "MOST_WINDOWS" = some (some (.int 4096 t)))(abZ:∃t,bI K mainGlobals "NAME_SIGNS" = some (some (.str "abcdefghijklmnopqrstuvwxyz0123456789" t)))(Vp:∃t,bI K mainGlobals "WIDEST_STEP" = some (some (.int 10 t))):
  ∃fd:FuncData,(∀(s:Shared) (v:Value),BindsTo s fd {[v],([])} [("_law_script",v)])/\∀base:Heap,K.In base->base.Ns mainGlobals mg->jh P w K mg base (iI P w) VN fa fd ["_law_script"] (Xd K):=by
 intros f oc od kV doc pm an cdv ct sl e1 e2 e3 e4 FL.ex;have e:=hfa.symm.trans (fG X G e1);cases e;have FF:=ab7 (st:=yt) e2 e3 e4;have B:Bt mg:={jC X G aup,jC X G aK5,jC X G aOx,jC X G aye,jC X G aGA,jC X G aIz,jC X G axx,jC X G asJ,jC X G aE7,jC X G aDn,jC X G awq,jC X G aIM,jC X G awe,jC X G ayo,jC X G aQv,jC X G aqY,jC X G ayx,(let⟨t,q⟩:=aa6;{t,fG X G q}),(let⟨t,q⟩:=SD;{t,fG X G q}),(let⟨t,q⟩:=Rj;{t,fG X G q}),(let⟨t,q⟩:=ZS;{t,fG X G q}),(let⟨t,q⟩:=abo;{t,fG X G q}),(let⟨t,q⟩:=abt;{t,fG X G q}),(let⟨t,q⟩:=aak;{t,fG X G q}),(let⟨t,q⟩:=JN;{t,fG X G q}),(let⟨t,q⟩:=PB;{t,fG X G q}),(let⟨t,q⟩:=aa3;{t,fG X G q}),(let⟨t,q⟩:=Yn;{t,fG X G q}),(let⟨t,q⟩:=ah1;{t,fG X G q}),(let⟨t,q⟩:=abZ;{t,fG X G q}),(let⟨t,q⟩:=Vp;{t,fG X G q})};refine{mO "law" "law" (jH yt) (gG yt) (aC yt) .none kV doc pm an cdv ct,λs v=> .of_eq rfl,λbase kB gB=>?_};have M:Ms P w K mg base bV bU bN bT bW eF bM bO bQ:={fG X G akt,fG X G ah0,fG X G apP,fG X G alV,fG X G akc,fG X G ayL,fG X G aj8,fG X G ac2,fG X G aoh,vg kB gB akt aP0 rC ∅,ur kB aRf aEx,{aQz,asC,aRP,aAw,aHy,(aKW)},Yt,SW,Ut,Q8,abH,V4,abu,Ot,UO,vg kB gB ah0 az2 rC ∅,ur kB aM7 aMf,{aQ8,aPl,azL,aCf,aRS,(aL6)},UC,R9,aaW,Z9,Tf,PK,abv,Wl,ZR,vg kB gB apP arn rC ∅,ur kB aOZ aDj,{aSm,ata,atL,awg,aEE,(aCU)},Sw,Vs,QW,Wf,abU,Uc,QG,VJ,Ss,vg kB gB alV aBx rC ∅,ur kB aJq aEi,{azc,aJv,ay3,aFB,az3,(aDq)},Vv,Zt,Vh,ab5,Um,Tr,abA,Qs,Qm,vg kB gB akc aAy rC ∅,ur kB avX awD,{awH,aHN,aDJ,az6,aG0,(avP)},Wc,Xk,acW,abE,Qa,WL,XM,abN,aan,vg kB gB aj8 aAd rC ∅,ur kB aJZ azO,{ayK,avH,azT,aHv,atb,(aJr)},RD,acJ,aac,aa2,Zn,aa0,ZQ,VX,R4,vg kB gB ac2 aG7 rC ∅,ur kB aM1 aAx,{aAU,aHq,aAZ,aLv,aHV,(axN)},Ux,acA,aaD,W2,abM,Wg,Qu,Uo,acX,vg kB gB aoh awz rC ∅,ur kB aMG aIK,{aq9,ay0,aMY,aIq,atf,(atE)},Vy,QS,Tn,V5,Rv,Xc,ZG,Xm,V3};have D:Dk w K mg nQ mQ m9 cR:={{{_,_,aC4,aEw},aPt,fG X G aF3},aPQ aqZ,abf Xa,{{_,_,aCt,aDu},ard,fG X G aBJ},aj7 X G aNy ayu,abf Ox,{{_,_,atO,aKj},aRo,fG X G aEM},aj7 X G aBw ark,abf MF,bk,{{aB5,atJ,ar4,(aOa)},aOo,aPc,fG X G ar9},awB};have Az:=aFa B M D (F0.aO X G);have yO:=aJJ B M D (F1.aO X G);have AW:=ayk B M D (F2.aO X G) Az yO
 have ZC:=aIx B M D (F3.aO X G) Az;have cU:=aHt B M D (F4.aO X G);have acI:=aKB B M D (F5.aO X G) cU;have AZ:=aKp B M D (F6.aO X G) cU acI;have NK:=azR B M D (F7.aO X G) ZC;have Vr:=awY B M D (F8.aO X G) NK AW;have rE:=aJF B M D (F9.aO X G);have j6:=aBZ B M D (F10.aO X G);have Vw:=aQ0 B M D (F11.aO X G) cU;have gQ:=aES B M D (F12.aO X G) Vw;have O1:=aPi B M D (F13.aO X G);have Q7:=arF B M D (F14.aO X G) O1 gQ;have mZ:=atV B M D (F15.aO X G);have TQ:=avn B M D (F16.aO X G);have xQ:=aLM B M D (F17.aO X G) cU mZ;have jO:=aQe B M D (F18.aO X G) cU mZ;have Gm:=av9 B M D (F19.aO X G) AZ;have zX:=aSc B M D (F20.aO X G) Gm jO;have qy:=aJR B M D (F21.aO X G) cU;have Ae:=azx B M D (F22.aO X G) cU;have Ay:=aNa B M D (F23.aO X G) cU;have aaR:=aI1 B M D (F24.aO X G) yO;have MZ:=aEv B M D (F25.aO X G) jO;have NZ:=aL1 B M D (F26.aO X G) mZ cU;have acT:=aPk B M D (F27.aO X G);have UL:=aPs B M D (F28.aO X G);have WC:=aN5 B M D (F29.aO X G) MZ aaR zX NZ acT UL;have U4:=awN B M D (F30.aO X G) WC zX;have Qc:=ay5 B M D (F31.aO X G) cU mZ;have Bu:=aKI B M D (F32.aO X G) qy Qc jO U4;have iH:=auR B M D (F33.aO X G) Bu Ae;have Zq:=asa B M D (F34.aO X G) rE gQ;have yH:=aRh B M D (F35.aO X G);have wL:=aOp B M D (F36.aO X G) yH;have Bs:=aBN B M D (F37.aO X G) yH;have tu:=axD B M D (F38.aO X G);have AX:=aOb B M D (F39.aO X G);have sI:=arU B M D (F40.aO X G) cU iH;have aaX:=aIy B M D (F41.aO X G);have BH:=avc B M D (F42.aO X G);have Om:=avb B M D (F43.aO X G);have BJ:=arY B M D (F44.aO X G) gQ sI BH;have yE:=aNi B M D (F45.aO X G) rE iH tu xQ qy BJ Ae;have Vn:=axM B M D (F46.aO X G) yE aaX;have ab3:=aNb B M D (F47.aO X G) yE Om;have aaz:=aPU B M D (F48.aO X G) rE iH tu wL Bs BJ BH;have aoL:=aJ7 B M D (F49.aO X G);have agh:=aC0 B M D (F50.aO X G);have W6:=aFo B M D (F51.aO X G) AX iH wL gQ Bs sI;have Qt:=auz B M D (F52.aO X G) iH tu sI;have aaU:=aGE B M D (F53.aO X G) cU;have aaK:=ayZ B M D (F54.aO X G);have Td:=aCC B M D (F55.aO X G) cU;have aam:=aRV B M D (F56.aO X G);have Vi:=aHs B M D (F57.aO X G) aaK Td aam;have zW:=aBv B M D (F58.aO X G);have Xp:=aJO B M D (F59.aO X G) AZ zW;have YW:=aHB B M D (F60.aO X G);have X6:=au5 B M D (F61.aO X G) aaU Vi Xp YW;have Yl:=awh B M D (F62.aO X G);have SY:=at6 B M D (F63.aO X G) X6 Yl;have zy:=aAT B M D (F64.aO X G);have Zu:=aE2 B M D (F65.aO X G) j6 zW;have aaL:=aO2 B M D (F66.aO X G) j6 AX gQ zy;have Y5:=aHm B M D (F67.aO X G) j6 zy;have ZP:=asl B M D (F68.aO X G);have aae:=aQL B M D (F69.aO X G) jO xQ;have yZ:=aEc B M D (F70.aO X G) ZP aae qy TQ;have Uq:=ayv B M D (F71.aO X G) Ay yZ;have aaY:=aFr B M D (F72.aO X G) yZ gQ Ay;have ZW:=ayX B M D (F73.aO X G);have WD:=aMX B M D (F74.aO X G);have RB:=ayM B M D (F75.aO X G) WD;have SN:=aRG B M D (F76.aO X G) jO
 have Yd:=aKq B M D (F77.aO X G) ZW RB SN;have Ln:=azd B M D (F78.aO X G);have Wu:=aBy B M D (F79.aO X G) Ln;have Y8:=aEJ B M D (F80.aO X G);have TY:=aFh B M D (F81.aO X G) j6 Yd Bu Wu SY Y8;have acy:=aE3 B M D (F82.aO X G);have Bm:=aKg B M D (F83.aO X G) iH acy;have zK:=aJu B M D (F84.aO X G);have OV:=aOi B M D (F85.aO X G) zK Bm;have XJ:=axy B M D (F86.aO X G) Bm zK gQ;have W9:=aFp B M D (F87.aO X G);have fQ:=awP B M D (F88.aO X G) W9;have acs:=aLz B M D (F89.aO X G) fQ;have acR:=avC B M D (F90.aO X G);have qL:=aKw B M D (F91.aO X G) acR;have zT:=aLN B M D (F92.aO X G) qL AW;have M7:=aOC B M D (F93.aO X G) qL Vr;have ZJ:=aKx B M D (F94.aO X G) M7 zT;have Zo:=aEm B M D (F95.aO X G);have Ol:=aO3 B M D (F96.aO X G);have yN:=aMj B M D (F97.aO X G);have acz:=aAs B M D (F98.aO X G) yN;have acZ:=aBq B M D (F99.aO X G) yN acz qL zT ZJ;have X8:=arX B M D (aRF.aO X G);have R3:=aM9 B M D (aLf.aO X G) iH;have Ru:=aQN B M D (aNB.aO X G) Vn;have aby:=aPC B M D (azk.aO X G) aaz;have RH:=aSr B M D (awc.aO X G) ab3;have Ws:=ax6 B M D (ayr.aO X G) aoL cU;have Va:=ayj B M D (aQw.aO X G) agh;have WH:=aIV B M D (aOM.aO X G) W6;have Wy:=aKQ B M D (aJe.aO X G) Qt cU;have abX:=as3 B M D (aPr.aO X G) aaY;have Yc:=as7 B M D (asp.aO X G) Y5;have tH:=asd B M D (azH.aO X G) fQ;have X3:=ayD B M D (aEG.aO X G) acs;have Vl:=aFA B M D (aB0.aO X G) tH Q7;have R7:=aJy B M D (aGe.aO X G) fQ Uq;have VH:=awU B M D (ay4.aO X G) Zq fQ;have Rp:=aOA B M D (arj.aO X G) tH OV;have Wb:=aKc B M D (aNs.aO X G) XJ cU fQ;have X4:=aCi B M D (ax3.aO X G) TY fQ tH;have PJ:=aEW B M D (aIZ.aO X G) fQ Zu;have Uj:=atP B M D (aLt.aO X G) j6 aaL fQ;have Wh:=aC1 B M D aMp;have Pa:=atU B M D ayY Zo Ol acZ Uj PJ X4 Wb Rp VH R7 Vl X3 Yc abX Wy WH Va Ws RH aby Ru R3 X8;have Aa:=aGk B M D (aMH.aO X G);have RN:=aCB B M D (aNT.aO X G);have Yw:=aGK B M D (aN6.aO X G);have RW:=aJt B M D (aOz.aO X G);have fX:=aGT B M D (aGl.aO X G) Pa RW;have aaA:=aHb B M D (atG.aO X G);have N5:=ate B M D (aCb.aO X G);have JK:=aMe B M D (aKh.aO X G);have Nf:=aOc B M D (aEH.aO X G);have MS:=aIm B M D (aD5.aO X G);have abp:=aPq B M D (aQP.aO X G) MS Nf JK N5 aaA;have aa5:=aHK B M D (avr.aO X G) fX;have Z4:=aRN B M D (axA.aO X G) fX aa5;exact ayU B M D FF RN Aa Wh fX Yw abp Z4
end K54
namespace L2
open PySem PySem.W W.X
def aRu{q:Program}{loose:List Str}{XP:(Str->Option Value)->Heap->Prop}{K:Params->Frag}{as:List Addr}{n t:Nat}{r:RowW}{d:DefRec}{kwd:List (Str×PySem.Expr)}{run:Value->List Value->Sem Value}(keys:∀P,as=(K P).map (·.1))
  (W:WalkO q loose XP (λw h=>(K w.params).In h) r d kwd run):WalkX q loose XP (obsZ as) (valZ K n t) r d kwd run:=
 λw s0 s1 mg mb G y a o pm cd doc dV kV h1 h2 h3 h4 h5 h6 args vals as' L p1 p2 p3 p4 p5=>W w s0 s1 mg mb G (InK.keeps w _ _ (z_facts keys y).2.1 L.keeps) a o pm cd doc dV kV h1 h2 h3 h4 h5 h6 args vals as' p1 p2 p3 p4 p5
end L2
open PySem PySem.W PyProof.Rows
set_option maxRecDepth 100000 in
set_option maxHeartbeats 0 in
theorem PySem.Challenge.cw_nextbyrule_k54_desk_refuses_holds : PySem.Challenge.rw_nextbyrule_k54_desk_refuses.Holds := by
 change K54.rwL.Holds
 w_on;o_law;rename_i said
 refine holds_openX (d:=?d) (kwd:=?kwd) K54.H.left (λs h=>xl_of s (ahE.mp h).1) XL.keeps (by rfl) (by rfl) (by rfl) (λs h=>recFacts_of (ahE.mp h).2) (by rfl) said (by decide +kernel) ⟨rfl,rfl,rfl,rfl,rfl,by decide +kernel⟩ ?hw ?hc;case hw=>w_witness2
 k_fill
 refine L2.aRu (λ_=>by kernel_rfl) ?_;refine L2.azY (l:=K54.rwL) (n:=63) (k:=K54.VN) (x:= "_law_script") (CX:=λw=>L2.iI K54.rwL.prog w) (sp:=λ_=>K54.Xd _) rfl (by decide) rfl ⟨rfl,by decide,by decide⟩ (by kernel_rfl) rfl (λw h Y=>Y) ?F (λw H a ns hl hb _ hS=>⟨a,ns,rfl,hS,hl,hb,λ_=>rfl⟩) (λ_ _ _ _ _ z=>L2.Qd z);case F=>
  intro w mg fa h KX G hmg;apply K54.all_mk KX G hmg;all_goals first|(refine' L2.azW ?a ?l ?c ?k;(case a|l|c|k=>k_is))|(refine' L2.aPa ?a ?i ?l ?c ?k;(case a|i|l|c|k=>k_is))|k_is|exact⟨_,by k_is⟩|k_exc|kernel_rfl|kit_is
