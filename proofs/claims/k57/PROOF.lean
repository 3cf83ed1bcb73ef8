import PyProof.Rows.All
import Wide.All
import OpenK.AllK
import Wide.FinOn
import Lean
import PyProof.EqAt
import PyProof.EqKinds
import PyProof.TupleCall
import PySem.Challenge.RW_nextbyrule_k57_whole_rows_put_together
local macro_rules | `(tactic| lia)=>`(tactic| first|lia -trace|omega)
local macro_rules | `(⋯)=>`(by lia)
local macro_rules | `(∅)=>`(by decide)
set_option Elab.async false
set_option linter.all false
set_option compiler.extract_closed false
set_option maxRecDepth 100000
noncomputable section
open List renaming length_map->aK,size_toArray->fU,length_append->gW,mem_cons_of_mem->jZ,mem_cons->fR,mem_iff_getElem->kW,mem_range->gF,mem_map->fQ,range->d7,map_map->gh,map_append->jo,mem_cons_self->mC,mem_append_right->pX,eq_nil_of_length_eq_zero->vY,mem_singleton->oW,not_mem_nil->nH,replicate->kI,length_take->nT,length_set->nq,length_range->pK,length_cons->qp,map_congr_left->uE,take_of_length_le->yM,mem_filter->rF,mem_append->qT,take_add_one->uP,all_eq_true->uw,take_length->wL,getElem_mem->vG,map_take->rR,length_pos_iff->Bv,length_drop->yC,map->jO,nodup_cons->yq,replicate_succ->DV,filter_eq_self->D4,any_eq_true->BK,map_cons->wW,flatten_cons->KQ,zipWith->Cg,filterMap_cons->Nq,append_nil->JV,forIn_cons->Ke,mem_filterMap->N5,any_eq_false->Qe,filter_cons_of_neg->Yk,filter_cons_of_pos->acs,of_mem_zip->PY,range_succ->Vk,mem_append_left->W0,mem_of_mem_take->aaQ,drop_zero->Nx,filterMap_map->acW,filter_append->abP,length_mapIdx->abf,getElem_drop->Xy,zipIdx_cons->acu,ext_getElem->adk,nodup_range->Xr,zipIdx_nil->agQ,forIn_nil->aaj,foldl->Qc,any_cons->acS,map_nil->XE
open Nat renaming le_refl->aR,mul_le_mul_left->fH,add_sub_cancel->fu,mul_le_mul_right->ig,zero_le->dD,lt_of_lt_of_le->iR,le_trans->eO,le_of_lt->fj,mul_le_mul->iH,succ_pos->gR,mul_comm->gZ,not_lt_zero->kj,pow_succ->iY,strongRecOn->mV,lt_irrefl->lW,pow_le_pow_right->uo,mul_assoc->mz,ne_of_lt->lV,sub_self->kZ,succ_mul->mJ,sub_zero->nO,add_le_add_left->xJ,one_mul->oA,add_sub_cancel_left->Ep,pow_pos->pF,le_add_right->yr,le_of_dvd->uq,mul_add->rC,pow_le_pow_left->D6,lt_or_gt_of_ne->Ew,pow_add->uK,mul_one->v8,lt_of_le_of_lt->Jo,min_eq_left->Cj,add_mul->yR,pow_mul->yx,add_comm->Ci,mul_succ->Bq,eq_of_beq_eq_true->U9,add_zero->BH,zero_mul->zp,le_of_not_lt->Gs,lt_succ_self->Lh,gcd->oJ,dvd_trans->Dr,pow_zero->E1,add_mul_mod_self_left->agl,eq_of_mul_eq_mul_left->YM,gcd_dvd_right->Oo,pow_lt_pow_iff_right->aaT,lt_succ_iff_lt_or_eq->aav,min_le_right->RW,gcd_dvd_left->VB,min_eq_right->SR,le_mul_of_pos_left->aeW,ne_of_gt->FP,le_of_eq->Lb,zero_add->JC,add_le_add->PD,add_assoc->Vt,dvd_mul_right->aaR,le_of_succ_le->afP,div_eq_of_lt->afW,le_max_right->Ym,succ_ne_zero->X5,le_max_left->afk,min_le_left->abK,dvd_refl->Zu,mul_zero->aeT,lt_or_ge->W9,lt_trans->Yq,gcd_comm->Yo,beq->GR
open Int renaming mul_zero->aV,toNat_natCast->cM,mul_comm->bG,mul_assoc->cP,add_zero->cU,mul_left_comm->fW,zero_add->dj,zero_mul->dF,emod_emod_of_dvd->jK,one_mul->fP,natAbs_mul->jD,emod_lt_of_pos->oH,mul_emod->jC,pow_succ->jy,mul_one->iU,neg_mul->iI,dvd_refl->jQ,emod_nonneg->oM,zero_sub->jT,natCast_emod->qD,natCast_mul->rm,add_comm->nK,mul_sub->nJ,mul_add->nY,dvd_of_emod_eq_zero->Eo,natAbs_add_le->Aw,mul_eq_zero->xQ,emod_eq_of_lt->AH,mul_neg->tX,mul_le_mul_of_nonneg_left->Vj,natCast_ediv->Ao,natAbs_natCast->C6,add_mul->uy,sub_zero->vR,neg_one_mul->Af,dvd_add->uc,dvd_mul_right->ED,natAbs_neg->Bg,pow_zero->xV,mul_ediv_cancel_left->R3,mul_fdiv_cancel_left->OD,sub_eq_add_neg->K1,natCast_add->Fq,dvd_trans->DQ,ofNat_dvd->C4,toNat_of_nonneg->O1,ofNat_dvd_left->NV,natAbs->AF,sub_self->FZ,dvd_self_sub_emod->ab7,mul_le_mul->Ub,neg_neg->KP,sub_mul->Hz,add_assoc->QK,zero_emod->Wh,sub_add_cancel->aaE,natAbs_sub_le->adh,dvd_mul_left->adT,ediv_le_ediv->adF,mul_ne_zero->ady,pow_add->Wf,natCast_pow->Zi,natAbs_pow->aej,ediv_one->acR,le_trans->abx,sub_emod->adb
open Bool renaming false_ne_true->fX,and_eq_true->uh,and_eq_true_iff->Kz,eq_iff_iff->Fg,or_eq_true->DL,not_eq_true'->Kl,true_and->GZ,and_true->Gr,eq_false_iff->ael
open PySem.W renaming Frag->aL,mg_none_of->pN,kia_one->nU,nsIn->iB,kitOne->sH,findIn->wg,mg_of->sV,fnOf->qH,looks_findIn->PX,keepIn->BX,callWith_K->Vq,cellsFrom_some->aeA,codeIn->DF,methodObj->LN,hideAll->Ja,mroIn->Cy,instObj->Vr,clsIn->Ia
open PySem.Heap renaming lt_size->dg,SameBut->tU,size_push->DP,IsTuple->Eh,IsList->Jp,FlyingW->aeE
open Classical renaming byContradiction->ur,not_forall->Bf,not_imp->RK,skolem->UC,choose->adK
open PyProof.Rows renaming slot_tuple_getitem->Al,callWith_type1->BR,callWith_builtin1->aAp
open Ne renaming symm->d9
open Option.some renaming inj->qZ
open PySem renaming mem_of_lookup->vN,Within->adH,call->Yl
open Or renaming inr->dX,inl->pO
open PySem.F renaming slot_tuple_iterator_next->Jg,slot_enumerate_next->KR,args_tuple_add_2->QS,entry_tuple_add->Nz,slot_tuple_add->Nv,typeOf_object_class->Pz,args_tuple_iterator_next_1->abT,entry_tuple_iterator_next->abz,slot_zip_next->JK,args_enumerate_next_1->adf,entry_enumerate_next->aaB,excAttr_ValueError->ae4,excBase_ValueError->afm,slot_dict_eq_refl->aeh,slot_gs_get->UH,args_zip_next_1->YX,entry_zip_next->aat,slot_int_rmul->aeQ
open PySem.PyData renaming eqv->oX,depthAll->Fd,canLayAll0->KW,canLay0->Ei,depth->CG,int->Mw,eqvAll->YL,strOk->agt
open PySem.Shared renaming heap->vq
open Array renaming length_toList->Ml,append_assoc->WB,toList->af6
open PySem.Calls renaming Name_function_global->agc,evalArgs_plain->agj
open PyProof renaming noPylong_small->aal
open PySem.Obj renaming mapSeq->D8,data_mapFields->acT
open PySem.Heap.SameBut renaming update->Za
open PySem.Heap.IsSliceOf renaming new->acG
open Sum renaming inl->yj,inr->yH
open List.Pairwise renaming map->aai,filter->ajy,nil->azu
open Option renaming getD_none->W7,getD_some->Xk,none->Vs
open Eq renaming trans->Dt
open PySem.EqNone renaming eq_none_none->akY,eq_none_bool->ayx,eq_bool_none->amx,ne_none_none->ajv,ne_none_bool->arK,ne_bool_none->alL,eq_none_int->ali,eq_none_str->aou,eq_int_none->amK,eq_str_none->awH,ne_none_int->ayA,ne_none_str->asT,ne_int_none->au6,ne_str_none->asL
open PySem.EqMixed renaming eq_bool_str->ahC,eq_str_bool->ax1,ne_bool_str->akm,ne_str_bool->az9,eq_int_str->arX,eq_str_int->anY,ne_int_str->ayG,ne_str_int->awE
open PySem.W.X renaming obsZ->Zv,valZ->ac7
namespace L2
open PySem PySem.Spec PyProof.Rows
def rE(s:Stmt):Arguments:=match s with
 |.FunctionDef _ a _ _ _ _ _ _ _ _=>a
 |_=>{ posonlyargs:=[],args:=[],vararg:=none,kwonlyargs:=[],kw_defaults:=[],kwarg:=none,defaults:=[] }
def mF(s:Stmt):List Stmt:=match s with
 |.FunctionDef _ _ b _ _ _ _ _ _ _=>b
 |_=>[]
def aU(s:Stmt):Scope:=match s with
 |.FunctionDef _ _ _ _ _ _ sc _ _ _=>sc
 |_=>{ kind:= .function,names:=[],isGenerator:=false,isCoroutine:=false }
end L2
namespace K57
def topF(i:Nat):PySem.Stmt:=PySem.Challenge.pw_nextbyrule_k57_whole_rows_put_together.main.body.getD i (.Pass ⟨0,0,0,0⟩)
def pwL:PySem.Program:={ PySem.Challenge.pw_nextbyrule_k57_whole_rows_put_together with main:={ PySem.Challenge.pw_nextbyrule_k57_whole_rows_put_together.main with body:=[topF 0,topF 1,topF 2,topF 3,topF 4,topF 5,topF 6,topF 7,topF 8,topF 9,topF 10,topF 11,topF 12,topF 13,topF 14,topF 15,topF 16,topF 17,topF 18,topF 19,topF 20,topF 21,topF 22,topF 23,topF 24,topF 25,topF 26,topF 27,topF 28,topF 29,topF 30,topF 31,topF 32,topF 33,topF 34,topF 35,topF 36,topF 37,topF 38,topF 39,topF 40,topF 41,topF 42,topF 43,topF 44,topF 45,topF 46,topF 47,topF 48,topF 49,topF 50,topF 51,topF 52,topF 53,topF 54,topF 55,topF 56,topF 57,topF 58,topF 59,topF 60,topF 61,topF 62,topF 63,topF 64,topF 65,topF 66,topF 67,topF 68,topF 69,topF 70,topF 71,topF 72,topF 73,topF 74,topF 75,topF 76,topF 77,topF 78,topF 79,topF 80,topF 81,topF 82,topF 83,topF 84,topF 85,topF 86,topF 87,topF 88,topF 89,topF 90,topF 91] } }
def rwL:PySem.W.OpenLaw:={ PySem.Challenge.rw_nextbyrule_k57_whole_rows_put_together with prog:=pwL }
end K57
namespace K57
namespace H
noncomputable section
open PySem PySem.W PySem.Calls PyProof.Rows
theorem warm:(K57.pwL.main.body.isEmpty||true)=true:=by k_qdec
abbrev kh:=PyData.keyHash
abbrev tt(i:Nat):Stmt:=PySem.W.Fast.tw7339179081924164087 i
def zs(n:Nat):Str:=⟨⟨Nat.rec (motive:=λ_=>Nat->List Nat) (λ_=>[]) (λ_ f n=>cond (GR n 0) [] (Nat.mod n 128::f (Nat.div n 128))) 64 n⟩⟩
def z0:=zs 53901559791857631
def z1:=zs 28545226300506845697797547249400927685487623878358997413145352096022865498783732868182252
def z2:=zs 421105403244511
def z3:=zs 113039760542812094607327
def z4:=zs 883130438894441148383
def z5:=zs 53901488956436447
def z6:=zs 30344151541145318921183520387039
def z7:=zs 14469218985635115783729119
def z8:=zs 53901559540068319
def z9:=zs 2357460733860917196365705647
def n8:=zs 883122557733039566815
def gJ:=zs 8277558478201633490
def wk:=zs 64623894148134862
def vK:=zs 254851022
def vL:=zs 3943197046740
def wF:=zs 456808319416276
def Ln:=zs 57340970975885801
def HD:=zs 29741478132
def Ld:=zs 448184882935657
def KL:=zs 240745327
def ZJ:=zs 372306437449676
def z21:=zs 47655224274624710
def JB:=zs 8774559251769619571
def JD:=zs 938749362540629603054
def Hw:=zs 17498468575365494965318886
def GK:=zs 1058511841034241684210
def Gn:=zs 3978691114608
def Hy:=zs 443304474474868
def Gk:=zs 31083689204
def Gm:=zs 443302050378980
def IB:=zs 26797127661
def Gf:=zs 65811471622830439
def Km:=zs 447945196958575
def Gp:=zs 452440390056690
def HZ:=zs 17666251509096376151192290
def KJ:=zs 1068608436203322996720
def Jr:=zs 17508080618702804554038002
def X6:=zs 3388939034338339719930224380682946
def Js:=zs 120336165584743079508336
def Jj:=zs 509272748045540
def JY:=zs 1123873219935479722228
def Ju:=zs 514152117859054
def KZ:=zs 3463318239210
def Gh:=zs 289441913161409316528838145143
def Ik:=zs 284414884579460083709784913011
def K3:=zs 3534690727924
def IX:=zs 57912373968138988
def Ly:=zs 65811471658644595
def z48:=zs 209569959739691794501685518534
def z49:=zs 95089842311404266267863
def KC:=zs 122623567470796438352626
def Fz:=zs 4700700750792054845086536065200882
def Hq:=zs 67483170342909940
def Gg:=zs 7333979394848553715
def Lp:=zs 1968700103150805736025225584
def K6:=zs 15380469555865120575010802
def Fy:=zs 67483170372219120
def IZ:=zs 8637845808191535082
def J2:=zs 27057009249
def wj:=zs 3463314094066
def Lr:=zs 929674609294162213613
def Kc:=zs 3463313912307
def G9:=zs 3463316208371
def Gu:=zs 32721435493
def JT:=zs 7260813351624456944
def FW:=zs 1021909407318828365036
def G4:=zs 7340207024155161320
def Ko:=zs 63568258281404770
def Gw:=zs 27057027430
def GV:=zs 30806734435
def Kd:=zs 284414884579460084056056362979
def G6:=zs 4016813504492
def Gj:=zs 17513834785821938975078758
def Iw:=zs 62416317197268979
def FD:=zs 57912373670556908
def Jh:=zs 1914086
def KY:=zs 3463331001574
def Jk:=zs 17644825835431594263344735
def Ir:=zs 929683040243566540383
def FJ:=zs 535556634736223
def Jy:=zs 1021909407318865901151
def K8:=zs 135526128861644626359903
def Gy:=zs 7340233240675382879
def IV:=zs 67483170382575199
def K7:=zs 135526489686107770877535
def Hs:=zs 118998566158340453856863
def Lj:=zs 118998638805307084011103
def J7:=zs 7340233137596167775
def Jb:=zs 57375978463721055
def Jd:=zs 8423912107169838687
def Hv:=zs 929675765462320313951
def Ie:=zs 1962220
def z92:=zs 35350842279982780
def z93:=zs 53901867955744735
def jg:=zs 883123151916293124063
def jq:=zs 601773989896021678643699154943881966
def sE:=zs 14469089781839015725264863
def ji:=zs 30344074158132277796980072755167
def jl:=zs 133454983862861831018029446609853876543483871
def RN:=zs 113039831549272488013791
def B6:=zs 3944329476846
def ar3:=zs 505222325449956
def K4:=zs 77026659975835991945842263041131819758
def oK:=zs 15586
def WL:=zs 27342305648
def ai3:=zs 30815418352
def aoW:=zs 3501140572403
def HJ:=zs 244953836
def rO:=zs 1668975
def tQ:=zs 30815173231
def Bl:=zs 36741748820606704607921507807982
def zy:=zs 213596914
def ajU:=zs 3501169685218
def afM:=zs 29196367860
def Cw:=zs 107
def E7:=zs 1964018
def Np:=zs 31371130851
def avt:=zs 3982749104755
def Ry:=zs 27076163558
def Nu:=zs 110
def ZX:=zs 509719678253806
def avJ:=zs 1652581
def xP:=zs 4703570198577737512948329283990254
def Nh:=zs 105
def LY:=zs 1849332
def awd:=zs 29741626223
def aiE:=zs 31354156147
def aoh:=zs 3947051413734
def ab1:=zs 31343606119
def adu:=zs 29219124979
def Jq:=zs 601770833092555334584466076906435310
def Zw:=zs 242973427
def aq2:=zs 1817583
def xq:=zs 601245688890028280284136002178396910
def arT:=zs 7340232966842071021
def Qx:=zs 255539184
def Yg:=zs 509824676214765
def Yz:=zs 245166834
def aAb:=zs 213694445
def GQ:=zs 9945148414371482049252864243888973296366
def aeV:=zs 31381287660
def anR:=zs 3604769125100
def kO:=zs 4697261539627313349707556634637038
def apn:=zs 31379192435
def akb:=zs 236550771
def VL:=zs 243055343
def QC:=zs 3982193423476
def ao6:=zs 938749362540625162480
def uH:=zs 601245656567734219885054901293560558
def Yc:=zs 31083705580
def aAH:=zs 29749801698
def WG:=zs 3809077835747
def avB:=zs 213464311
def an6:=zs 31081394920
def avc:=zs 245166316
def aiU:=zs 14945
def HW:=zs 4500119684782950655196547784782574
def aaX:=zs 29779294059
def aiD:=zs 213824755
def aAI:=zs 1964012
def ara:=zs 219804904
def anI:=zs 3499535971565
def alZ:=zs 27057092980
def afh:=zs 137989276334399845594719
def Li:=zs 3702244537951
def Bj:=zs 7843466381129971295
def Wj:=zs 4133426872076161685923843211294303
def Dj:=zs 15398215025977782705878623
def au0:=zs 8423349363374847583
def acd:=zs 1970971523324088107488802399
def aox:=zs 1077903848374405723743
def ajp:=zs 7339134107004728927
def aog:=zs 136846217224793777272415
def Kg:=zs 930329895887808525919
def aty:=zs 1003179560991236585055
def V6:=zs 8343968884456978015
def az3:=zs 3805323753055
def Ql:=zs 68547669436954207
def aar:=zs 8349638138208482911
def afg:=zs 57345570095265375
def aeg:=zs 1058801290007509759583
def azH:=zs 137915346922420942960223
def awz:=zs 101
def aoy:=zs 8422179208124986975
def auY:=zs 1078180842291477378655
def anj:=zs 8423868298503419487
def akx:=zs 252284354985269344056766920287
def alq:=zs 1970971523313980915569948255
def akE:=zs 7346962664154232415
noncomputable abbrev t0:String:=PySem.W.SL.s14018661285674007319x4
noncomputable abbrev t1:String:=PySem.W.SL.s7097527257260152453x26
noncomputable abbrev t2:String:=PySem.W.SL.s2766695959194262286x5
noncomputable abbrev t3:String:=PySem.W.SL.s5856160107412720595x4
noncomputable abbrev t4:String:=PySem.W.SL.s658472552662922059x5
noncomputable abbrev t5:String:=PySem.W.SL.s6070975301684473832x10
noncomputable abbrev t6:String:=PySem.W.SL.s11030030927630378310x26
noncomputable abbrev t7:String:=PySem.W.SL.s10062305145149207511x16
noncomputable abbrev t8:String:=PySem.W.SL.s17162191345867700912x4
noncomputable abbrev t9:String:=PySem.W.SL.s4209523147560561109x18
noncomputable abbrev t10:String:=PySem.W.SL.s5946037652744460706x9
noncomputable abbrev t11:String:=PySem.W.SL.s4278001404047624695x13
noncomputable abbrev um:String:=PySem.W.SL.s2742458400755230247x6
noncomputable abbrev t13:String:=PySem.W.SL.s14755015743595814543x17
noncomputable abbrev t14:String:=PySem.W.SL.s10220274742760427390x26
noncomputable abbrev xK:String:=PySem.W.SL.s4290257624100764138x5
noncomputable abbrev qJ:String:=PySem.W.SL.s4860613602091757760x24
noncomputable abbrev t17:String:=PySem.W.SL.s7174869446012820540x8
def cd(z:Str)(i:Nat):Obj:=⟨.none,.none,.func ⟨z,z,L2.rE (tt i),.stmts (L2.mF (tt i)),L2.aU (tt i),0,[],.none,.none,.none,.none,.none,.none,.none,0⟩,⟨[]⟩⟩
def fo(z:Str)(i:Nat)(y:Str)(t c:Nat):Obj:=⟨.type t17,.none,.func ⟨z,z,L2.rE (tt i),.stmts (L2.mF (tt i)),L2.aU (tt i),3,[],.none,.none,.none,.str y t,.none,.ref c,.none,0⟩,⟨[]⟩⟩
def cf(z:Str)(a:Nat)(l n:Int)(r:Nat)(x y:Value)(c e:Nat):Obj:=⟨.type t3,.none,.fields ⟨[.str z a,.str z (a+1),.str z9 (a+2),.int l 0,.int n 0,.int 0 0,.int 0 0,.int 3 0,.ref r,.bool true,.int 181 0,.ref (r+1),.none,x,y,.ref c,.int e 0,.int l 0,.str z9 (e+1)]⟩,⟨[]⟩⟩
def cg(z:Str)(a:Nat)(l n:Int)(r c e:Nat):Obj:=cf z a l n r (.ref (r+2)) (.ref (r+3)) c e
def ts(l:List Str)(a:Nat):Obj:=⟨.type t2,.none,.seq ⟨List.rec (motive:=λ_=>Nat->List Value) (λ_=>[]) (λz _ f a=> .str z a::f (a+1)) l a⟩ 0,⟨[]⟩⟩
def er(P:Params)(z:Str)(t r:Nat):DictEntry:=⟨kh P z,.str z t,.ref r⟩
def l3(P:Params):List DictEntry:=[⟨kh P z0,.str z0 165,.str z1 768⟩,⟨kh P z2,.str z2 166,.none⟩,⟨kh P z3,.str z3 167,.none⟩,⟨kh P z4,.str z4 168,.builtin t1⟩,⟨kh P z5,.str z5 169,.none⟩,er P z6 170 6,er P z7 171 4,⟨kh P z8,.str z8 173,.str z9 172⟩,⟨kh P n8,.str n8 174,.none⟩,er P gJ 206 24,er P wk 222 37,er P vK 238 49,er P vL 254 61,er P wF 270 73,er P Ln 280 82,er P HD 288 89,er P Ld 299 96,er P KL 308 103,⟨kh P ZJ,.str ZJ 312,.int 12 311⟩,⟨kh P z21,.str z21 314,.int 300 313⟩,er P JB 322 110,er P JD 333 117,er P Hw 345 124,er P GK 352 131,er P Gn 360 138,er P Hy 370 145,er P Gk 382 152,er P Gm 397 159,er P IB 403 164,er P Gf 415 171,er P Km 421 176,er P Gp 427 181,er P HZ 435 186,er P KJ 446 193,er P Jr 455 200,⟨kh P X6,.str X6 459,.int 1000000 458⟩,er P Js 467 207,er P Jj 475 214,er P JY 481 219,er P Ju 490 226,er P KZ 501 233,er P Gh 507 238,er P Ik 516 245,er P K3 524 250,er P IX 534 257,er P Ly 543 264,⟨kh P z48,.str z48 547,.int 100 546⟩,⟨kh P z49,.str z49 549,.int 10 548⟩,er P KC 556 271,er P Fz 564 278,er P Hq 570 283,er P Gg 579 290,er P Lp 588 297,er P K6 594 302,er P Fy 600 307,er P IZ 613 314,er P J2 621 321,er P wj 629 328,er P Lr 635 333,er P Kc 641 338,er P G9 647 343,er P Gu 653 348,er P JT 663 355,er P FW 671 360,er P G4 681 367,er P Ko 687 372,er P Gw 693 377,er P GV 708 384,er P Kd 719 391,er P G6 725 396,er P Gj 731 401,er P Iw 737 406,er P FD 745 411,er P Jh 754 418,er P KY 767 425,er P Jk 777 432,er P Ir 786 439,er P FJ 793 446,er P Jy 801 453,er P K8 810 460,er P Gy 825 467,er P IV 831 472,er P K7 837 477,er P Hs 843 482,er P Lj 853 489,er P J7 859 494,er P Jb 865 499,er P Jd 875 506,er P Hv 888 513,er P Ie 911 520]
def hv(P:Params)(z:Str)(t n:Nat):Obj:=⟨.type t0,.none,.dict ⟨⟨kh P z0,.str z0 165,.str z t⟩::((l3 P).take n).drop 1⟩ n,⟨[]⟩⟩
def o3(P:Params):Obj:=⟨.type t0,.none,.dict ⟨l3 P⟩ 90,⟨[]⟩⟩
def apm(P:Params):=hv P jq 187 10
def apV(P:Params):=hv P jq 187 11
def azO(P:Params):=hv P jq 187 12
def ajH(P:Params):=hv P jq 187 13
def arV(P:Params):=hv P Bl 309 20
def aib(P:Params):=hv P Jq 428 32
def awm(P:Params):=hv P GQ 517 45
def as5(P:Params):=hv P kO 544 59
def aiy(P:Params):=hv P HW 738 72
def aqt(P:Params):Obj:=⟨.type t0,.none,.dict ⟨(l3 P).take 85⟩ 85,⟨[]⟩⟩
def aH:Obj:=⟨.type t2,.none,.seq ⟨[]⟩ 0,⟨[]⟩⟩
def fl(l:List (Int×Nat)):List Value:=l.flatMap λx=>[.int x.1 0,.int 0 0,.ref x.2]
noncomputable def mR:=fl [(2,20),(4,33),(6,45),(8,57),(10,69),(13,81),(22,88),(26,95),(36,102),(45,109),(49,116),(54,123),(62,130),(65,137),(69,144),(74,151),(80,158),(90,163),(95,170),(103,175),(107,180),(111,185),(114,192),(120,199),(127,206),(132,213),(134,218),(136,225),(139,232),(142,237),(160,244),(163,249),(171,256),(176,263),(183,270),(186,277),(189,282),(193,289),(195,296),(197,301),(199,306),(204,313),(211,320),(213,327),(215,332),(225,337),(227,342),(235,347),(243,354),(249,359),(251,366),(256,371),(261,376),(269,383),(283,390),(291,395),(300,400),(307,405),(322,410),(327,417),(329,424),(343,431),(347,438),(350,445),(352,452),(356,459),(364,466),(373,471),(384,476),(390,481),(395,488),(400,493),(415,498),(430,505),(434,512),(444,519)]
def wY:Obj:=⟨.none,.none,.fields ⟨mR⟩,⟨[]⟩⟩
def aan:Obj:=⟨.none,.none,.fields ⟨mR.take 0⟩,⟨[]⟩⟩
def aqi:Obj:=⟨.none,.none,.fields ⟨mR.take 3⟩,⟨[]⟩⟩
def aiH:Obj:=⟨.none,.none,.fields ⟨mR.take 6⟩,⟨[]⟩⟩
def aya:Obj:=⟨.none,.none,.fields ⟨mR.take 9⟩,⟨[]⟩⟩
def avu:Obj:=⟨.none,.none,.fields ⟨mR.take 12⟩,⟨[]⟩⟩
def aiO:Obj:=⟨.none,.none,.fields ⟨mR.take 27⟩,⟨[]⟩⟩
def ath:Obj:=⟨.none,.none,.fields ⟨mR.take 63⟩,⟨[]⟩⟩
def anS:Obj:=⟨.none,.none,.fields ⟨mR.take 99⟩,⟨[]⟩⟩
def arf:Obj:=⟨.none,.none,.fields ⟨mR.take 135⟩,⟨[]⟩⟩
def ajl:Obj:=⟨.none,.none,.fields ⟨mR.take 174⟩,⟨[]⟩⟩
def ayd:Obj:=⟨.none,.none,.fields ⟨mR.take 213⟩,⟨[]⟩⟩
def vJ:Obj:=⟨.type t3,.none,.fields ⟨[.str z92 182,.str z92 183,.str z9 184,.int 1 0,.int 0 0,.int 0 0,.int 0 0,.int 0 0,.ref 11,.bool false,.int 181 0,.ref 12,.none,.none,.none,.none,.int 185 0,.int 1 0,.str z9 186]⟩,⟨[]⟩⟩
def wC:Obj:=⟨.type t4,.none,.plain,⟨[.some (.ref 13),.some (.ref 3),.some (.ref 3),.none,.some (.str z93 164),.none,.some (.ref 0)]⟩⟩
def yL:Obj:=⟨.type t2,.none,.seq ⟨[.type t5]⟩ 0,⟨[]⟩⟩
def sU:Obj:=⟨.type t6,.none,.fields ⟨[.builtin t7,.type t8]⟩,⟨[]⟩⟩
def o17(P:Params):Obj:=⟨.type t0,.none,.dict ⟨[⟨kh P jg,.str jg 196,.str jq 187⟩,⟨kh P sE,.str sE 198,.str gJ 197⟩,⟨kh P ji,.str ji 200,.int 2 199⟩,⟨kh P jl,.str jl 201,.ref 22⟩]⟩ 4,⟨[]⟩⟩
def aZ:Obj:=⟨.none,.none,.fields ⟨[]⟩,⟨[]⟩⟩
def o20:Obj:=⟨.type t3,.none,.fields ⟨[.str gJ 191,.str gJ 192,.str z9 193,.int 2 0,.int 0 0,.int 0 0,.int 0 0,.int 0 0,.ref 18,.bool false,.int 181 0,.ref 19,.none,.none,.none,.none,.int 194 0,.int 2 0,.str z9 195]⟩,⟨[]⟩⟩
def o21:Obj:=⟨.type t4,.none,.plain,⟨[.some (.ref 20),.some (.ref 3),.some (.ref 17),.none,.some (.str jq 187),.none,.some (.ref 0)]⟩⟩
def o23(P:Params):Obj:=⟨.type t0,.none,.dict ⟨[⟨kh P jg,.str jg 196,.str jq 187⟩,⟨kh P ji,.str ji 200,.int 2 199⟩,⟨kh P jl,.str jl 201,.ref 22⟩,⟨kh P RN,.str RN 203,.ref 25⟩,⟨kh P z2,.str z2 204,.none⟩]⟩ 3,⟨[]⟩⟩
def X4:Obj:=⟨.type t8,.none,.cls ⟨gJ,[.type t5],[.ref 24,.type t5,.type t10,.type t11,.type um],23,gJ,true,[],[.ref 37,.ref 49,.ref 61,.ref 73],false,.none,false⟩,⟨[.some (.ref 15),.none,.some (.str gJ 189),.some (.str gJ 197),.some (.builtin t9),.some (.bool true)]⟩⟩
def aoZ:Obj:=⟨.type t8,.none,.cls ⟨gJ,[.type t5],[.ref 24,.type t5,.type t10,.type t11,.type um],23,gJ,true,[],[],false,.none,false⟩,⟨[.some (.ref 15),.none,.some (.str gJ 189),.some (.str gJ 197),.some (.builtin t9),.some (.bool true)]⟩⟩
def auC:Obj:=⟨.type t8,.none,.cls ⟨gJ,[.type t5],[.ref 24,.type t5,.type t10,.type t11,.type um],23,gJ,true,[],[.ref 37],false,.none,false⟩,⟨[.some (.ref 15),.none,.some (.str gJ 189),.some (.str gJ 197),.some (.builtin t9),.some (.bool true)]⟩⟩
def ay8:Obj:=⟨.type t8,.none,.cls ⟨gJ,[.type t5],[.ref 24,.type t5,.type t10,.type t11,.type um],23,gJ,true,[],[.ref 37,.ref 49],false,.none,false⟩,⟨[.some (.ref 15),.none,.some (.str gJ 189),.some (.str gJ 197),.some (.builtin t9),.some (.bool true)]⟩⟩
def ajV:Obj:=⟨.type t8,.none,.cls ⟨gJ,[.type t5],[.ref 24,.type t5,.type t10,.type t11,.type um],23,gJ,true,[],[.ref 37,.ref 49,.ref 61],false,.none,false⟩,⟨[.some (.ref 15),.none,.some (.str gJ 189),.some (.str gJ 197),.some (.builtin t9),.some (.bool true)]⟩⟩
def o25:Obj:=⟨.type t13,.none,.fields ⟨[.str RN 202,.ref 24,.builtin t14,.none]⟩,⟨[]⟩⟩
def o26:Obj:=⟨.type xK,.none,.fields ⟨[.ref 24,.ref 24,.ref 24]⟩,⟨[]⟩⟩
def o27:Obj:=⟨.type t6,.none,.fields ⟨[.builtin qJ,.ref 24]⟩,⟨[]⟩⟩
def wH:Obj:=⟨.type t2,.none,.seq ⟨[.ref 24]⟩ 0,⟨[]⟩⟩
def o30(P:Params):Obj:=⟨.type t0,.none,.dict ⟨[⟨kh P jg,.str jg 214,.str jq 187⟩,⟨kh P sE,.str sE 216,.str wk 215⟩,⟨kh P ji,.str ji 218,.int 4 217⟩,⟨kh P jl,.str jl 219,.ref 35⟩]⟩ 4,⟨[]⟩⟩
def o33:Obj:=⟨.type t3,.none,.fields ⟨[.str wk 209,.str wk 210,.str z9 211,.int 4 0,.int 0 0,.int 0 0,.int 0 0,.int 0 0,.ref 31,.bool false,.int 181 0,.ref 32,.none,.none,.none,.none,.int 212 0,.int 4 0,.str z9 213]⟩,⟨[]⟩⟩
def o34:Obj:=⟨.type t4,.none,.plain,⟨[.some (.ref 33),.some (.ref 3),.some (.ref 30),.none,.some (.str jq 187),.none,.some (.ref 0)]⟩⟩
def o36(P:Params):Obj:=⟨.type t0,.none,.dict ⟨[⟨kh P jg,.str jg 214,.str jq 187⟩,⟨kh P ji,.str ji 218,.int 4 217⟩,⟨kh P jl,.str jl 219,.ref 35⟩,⟨kh P z2,.str z2 220,.none⟩]⟩ 2,⟨[]⟩⟩
def o37:Obj:=⟨.type t8,.none,.cls ⟨wk,[.ref 24],[.ref 37,.ref 24,.type t5,.type t10,.type t11,.type um],36,wk,true,[],[],false,.none,false⟩,⟨[.some (.ref 28),.none,.some (.str wk 207),.some (.str wk 215),.some (.builtin t9),.some (.bool true)]⟩⟩
def o38:Obj:=⟨.type xK,.none,.fields ⟨[.ref 37,.ref 37,.ref 37]⟩,⟨[]⟩⟩
def o39:Obj:=⟨.type t6,.none,.fields ⟨[.builtin qJ,.ref 37]⟩,⟨[]⟩⟩
def o42(P:Params):Obj:=⟨.type t0,.none,.dict ⟨[⟨kh P jg,.str jg 230,.str jq 187⟩,⟨kh P sE,.str sE 232,.str vK 231⟩,⟨kh P ji,.str ji 234,.int 6 233⟩,⟨kh P jl,.str jl 235,.ref 47⟩]⟩ 4,⟨[]⟩⟩
def o45:Obj:=⟨.type t3,.none,.fields ⟨[.str vK 225,.str vK 226,.str z9 227,.int 6 0,.int 0 0,.int 0 0,.int 0 0,.int 0 0,.ref 43,.bool false,.int 181 0,.ref 44,.none,.none,.none,.none,.int 228 0,.int 6 0,.str z9 229]⟩,⟨[]⟩⟩
def o46:Obj:=⟨.type t4,.none,.plain,⟨[.some (.ref 45),.some (.ref 3),.some (.ref 42),.none,.some (.str jq 187),.none,.some (.ref 0)]⟩⟩
def o48(P:Params):Obj:=⟨.type t0,.none,.dict ⟨[⟨kh P jg,.str jg 230,.str jq 187⟩,⟨kh P ji,.str ji 234,.int 6 233⟩,⟨kh P jl,.str jl 235,.ref 47⟩,⟨kh P z2,.str z2 236,.none⟩]⟩ 2,⟨[]⟩⟩
def o49:Obj:=⟨.type t8,.none,.cls ⟨vK,[.ref 24],[.ref 49,.ref 24,.type t5,.type t10,.type t11,.type um],48,vK,true,[],[],false,.none,false⟩,⟨[.some (.ref 40),.none,.some (.str vK 223),.some (.str vK 231),.some (.builtin t9),.some (.bool true)]⟩⟩
def o50:Obj:=⟨.type xK,.none,.fields ⟨[.ref 49,.ref 49,.ref 49]⟩,⟨[]⟩⟩
def o51:Obj:=⟨.type t6,.none,.fields ⟨[.builtin qJ,.ref 49]⟩,⟨[]⟩⟩
def o54(P:Params):Obj:=⟨.type t0,.none,.dict ⟨[⟨kh P jg,.str jg 246,.str jq 187⟩,⟨kh P sE,.str sE 248,.str vL 247⟩,⟨kh P ji,.str ji 250,.int 8 249⟩,⟨kh P jl,.str jl 251,.ref 59⟩]⟩ 4,⟨[]⟩⟩
def o57:Obj:=⟨.type t3,.none,.fields ⟨[.str vL 241,.str vL 242,.str z9 243,.int 8 0,.int 0 0,.int 0 0,.int 0 0,.int 0 0,.ref 55,.bool false,.int 181 0,.ref 56,.none,.none,.none,.none,.int 244 0,.int 8 0,.str z9 245]⟩,⟨[]⟩⟩
def o58:Obj:=⟨.type t4,.none,.plain,⟨[.some (.ref 57),.some (.ref 3),.some (.ref 54),.none,.some (.str jq 187),.none,.some (.ref 0)]⟩⟩
def o60(P:Params):Obj:=⟨.type t0,.none,.dict ⟨[⟨kh P jg,.str jg 246,.str jq 187⟩,⟨kh P ji,.str ji 250,.int 8 249⟩,⟨kh P jl,.str jl 251,.ref 59⟩,⟨kh P z2,.str z2 252,.none⟩]⟩ 2,⟨[]⟩⟩
def Xb:Obj:=⟨.type t8,.none,.cls ⟨vL,[.ref 24],[.ref 61,.ref 24,.type t5,.type t10,.type t11,.type um],60,vL,true,[],[],false,.none,false⟩,⟨[.some (.ref 52),.none,.some (.str vL 239),.some (.str vL 247),.some (.builtin t9),.some (.bool true)]⟩⟩
def o62:Obj:=⟨.type xK,.none,.fields ⟨[.ref 61,.ref 61,.ref 61]⟩,⟨[]⟩⟩
def o63:Obj:=⟨.type t6,.none,.fields ⟨[.builtin qJ,.ref 61]⟩,⟨[]⟩⟩
def o66(P:Params):Obj:=⟨.type t0,.none,.dict ⟨[⟨kh P jg,.str jg 262,.str jq 187⟩,⟨kh P sE,.str sE 264,.str wF 263⟩,⟨kh P ji,.str ji 266,.int 10 265⟩,⟨kh P jl,.str jl 267,.ref 71⟩]⟩ 4,⟨[]⟩⟩
def o69:Obj:=⟨.type t3,.none,.fields ⟨[.str wF 257,.str wF 258,.str z9 259,.int 10 0,.int 0 0,.int 0 0,.int 0 0,.int 0 0,.ref 67,.bool false,.int 181 0,.ref 68,.none,.none,.none,.none,.int 260 0,.int 10 0,.str z9 261]⟩,⟨[]⟩⟩
def o70:Obj:=⟨.type t4,.none,.plain,⟨[.some (.ref 69),.some (.ref 3),.some (.ref 66),.none,.some (.str jq 187),.none,.some (.ref 0)]⟩⟩
def o72(P:Params):Obj:=⟨.type t0,.none,.dict ⟨[⟨kh P jg,.str jg 262,.str jq 187⟩,⟨kh P ji,.str ji 266,.int 10 265⟩,⟨kh P jl,.str jl 267,.ref 71⟩,⟨kh P z2,.str z2 268,.none⟩]⟩ 2,⟨[]⟩⟩
def ZG:Obj:=⟨.type t8,.none,.cls ⟨wF,[.ref 24],[.ref 73,.ref 24,.type t5,.type t10,.type t11,.type um],72,wF,true,[],[],false,.none,false⟩,⟨[.some (.ref 64),.none,.some (.str wF 255),.some (.str wF 263),.some (.builtin t9),.some (.bool true)]⟩⟩
def o74:Obj:=⟨.type xK,.none,.fields ⟨[.ref 73,.ref 73,.ref 73]⟩,⟨[]⟩⟩
def o75:Obj:=⟨.type t6,.none,.fields ⟨[.builtin qJ,.ref 73]⟩,⟨[]⟩⟩
def o78:=ts [B6,ar3] 276
def o80:=cd Ln 7
def o81:=cg Ln 273 13 1 76 80 278
def YT:=fo Ln 7 K4 271 81
def o85:=ts [oK,B6] 284
def o87:=cd HD 8
def o88:=cg HD 281 22 2 83 87 286
def o89:=fo HD 8 K4 271 88
def o92:=ts [WL,B6,ai3,aoW,HJ] 292
def o94:=cd Ld 9
def o95:=cg Ld 289 26 2 90 94 297
def Yt:=fo Ld 9 K4 271 95
def o99:=ts [oK,rO,tQ] 303
def aAy:=cd KL 10
def ab8:=cg KL 300 36 3 97 101 306
def abj:=fo KL 10 K4 271 102
def avH:=ts [rO,tQ] 318
def avP:=cd JB 14
def YQ:=cg JB 315 45 2 104 108 320
def agO:=fo JB 14 Bl 309 109
def ar5:=ts [oK,zy,ajU,afM,Cw] 326
def atb:=cd JD 15
def Wx:=cg JD 323 49 3 111 115 331
def aaS:=fo JD 15 Bl 309 116
def apQ:=ts [E7,Np,oK,zy,avt,Ry] 337
def apJ:=cd Hw 16
def acj:=cg Hw 334 54 2 118 122 343
def acX:=fo Hw 16 Bl 309 123
def ay0:=ts [Nu] 349
def alW:=cd GK 17
def aen:=cg GK 346 62 1 125 129 350
def XY:=fo GK 17 Bl 309 130
def ayL:=ts [E7,Np] 356
def azG:=cd Gn 18
def adV:=cg Gn 353 65 2 132 136 358
def Wv:=fo Gn 18 Bl 309 137
def ati:=ts [ZX,avJ] 366
def aqR:=cd Hy 20
def adN:=cg Hy 363 69 1 139 143 368
def abW:=fo Hy 20 xP 361 144
def azp:=ts [oK,rO,tQ,afM,Nh,Cw] 374
def aAi:=cd Gk 21
def acH:=cg Gk 371 74 3 146 150 380
def aes:=fo Gk 21 xP 361 151
def ak4:=ts [oK,rO,tQ,LY,awd,HJ,aiE,aoh,Cw] 386
def aoE:=cd Gm 22
def af9:=cg Gm 383 80 3 153 157 395
def afK:=fo Gm 22 xP 361 158
def aq6:=cd IB 23
def agA:=cf IB 398 90 2 160 .none .none 162 401
def agh:=fo IB 23 xP 361 163
def anp:=ts [oK,rO,tQ,ab1,adu,HJ] 407
def auD:=cd Gf 24
def aeP:=cg Gf 404 95 3 165 169 413
def ag1:=fo Gf 24 xP 361 170
def anz:=cd Km 25
def acO:=cf Km 416 103 2 172 .none .none 174 419
def afI:=fo Km 25 xP 361 175
def apF:=cd Gp 26
def adg:=cf Gp 422 107 2 177 .none .none 179 425
def agX:=fo Gp 26 xP 361 180
def al7:=cd HZ 28
def abp:=cf HZ 430 111 3 182 .none .none 184 433
def agK:=fo HZ 28 Jq 428 185
def axj:=ts [zy,Np,Zw,Cw,aq2] 439
def ap4:=cd KJ 29
def abY:=cg KJ 436 114 2 187 191 444
def Wu:=fo KJ 29 Jq 428 192
def axL:=ts [Zw,zy,Cw] 450
def aj9:=cd Jr 30
def Y8:=cg Jr 447 120 1 194 198 453
def o200:=fo Jr 30 Jq 428 199
def aj6:=ts [B6,Ry] 463
def av3:=cd Js 33
def aed:=cg Js 460 127 1 201 205 465
def YH:=fo Js 33 xq 456 206
def awO:=ts [arT,Qx] 471
def alO:=cd Jj 34
def adY:=cg Jj 468 132 2 208 212 473
def ab5:=fo Jj 34 xq 456 213
def ayP:=cd JY 35
def afd:=cf JY 476 134 2 215 .none .none 217 479
def ahB:=fo JY 35 xq 456 218
def aqY:=ts [Yg,B6,Yz] 485
def atU:=cd Ju 36
def XI:=cg Ju 482 136 2 220 224 488
def YG:=fo Ju 36 xq 456 225
def azY:=ts [Yg,B6,WL,Yz,aAb] 494
def ax9:=cd KZ 37
def Zk:=cg KZ 491 139 4 227 231 499
def acg:=fo KZ 37 xq 456 232
def awX:=cd Gh 38
def agU:=cf Gh 502 142 2 234 .none .none 236 505
def aaf:=fo Gh 38 xq 456 237
def azl:=ts [oK,rO,tQ] 511
def atB:=cd Ik 39
def Y4:=cg Ik 508 160 3 239 243 514
def aax:=fo Ik 39 xq 456 244
def aAF:=cd K3 41
def ach:=cf K3 519 163 2 246 .none .none 248 522
def agJ:=fo K3 41 GQ 517 249
def anc:=ts [E7,oK,Qx,LY] 528
def ahQ:=cd IX 42
def Y6:=cg IX 525 171 1 251 255 532
def ace:=fo IX 42 GQ 517 256
def aod:=ts [E7,aeV,zy] 538
def azN:=cd Ly 43
def Z2:=cg Ly 535 176 1 258 262 541
def ZR:=fo Ly 43 GQ 517 263
def ana:=ts [anR] 553
def aoF:=cd KC 47
def abG:=cg KC 550 183 1 265 269 554
def afG:=fo KC 47 kO 544 270
def ajn:=ts [apn,akb] 560
def arP:=cd Fz 48
def Xd:=cg Fz 557 186 2 272 276 562
def adq:=fo Fz 48 kO 544 277
def alw:=cd Hq 49
def Yi:=cf Hq 565 189 3 279 .none .none 281 568
def adz:=fo Hq 49 kO 544 282
def asN:=ts [VL,QC,Nu] 574
def ajP:=cd Gg 50
def abg:=cg Gg 571 193 3 284 288 577
def abB:=fo Gg 50 kO 544 289
def aql:=ts [VL,QC,Nu] 583
def ar9:=cd Lp 51
def ae5:=cg Lp 580 195 3 291 295 586
def ahk:=fo Lp 51 kO 544 296
def o300:=cd K6 52
def Ww:=cf K6 589 197 3 298 .none .none 300 592
def agv:=fo K6 52 kO 544 301
def awc:=cd Fy 53
def af4:=cf Fy 595 199 4 303 .none .none 305 598
def abZ:=fo Fy 53 kO 544 306
def ahX:=ts [rO,tQ,ao6,oK,VL,QC,Qx] 604
def au5:=cd IZ 54
def Xq:=cg IZ 601 204 3 308 312 611
def agf:=fo IZ 54 kO 544 313
def asW:=ts [rO,tQ] 617
def aoV:=cd J2 55
def acp:=cg J2 614 211 2 315 319 619
def Wz:=fo J2 55 kO 544 320
def apE:=ts [rO,tQ] 625
def ao5:=cd wj 56
def WY:=cg wj 622 213 2 322 326 627
def WH:=fo wj 56 kO 544 327
def amt:=cd Lr 57
def agP:=cf Lr 630 215 2 329 .none .none 331 633
def aeG:=fo Lr 57 kO 544 332
def aje:=cd Kc 58
def ag0:=cf Kc 636 225 2 334 .none .none 336 639
def YS:=fo Kc 58 kO 544 337
def avF:=cd G9 59
def WQ:=cf G9 642 227 1 339 .none .none 341 645
def aeR:=fo G9 59 kO 544 342
def aov:=cd Gu 60
def agG:=cf Gu 648 235 3 344 .none .none 346 651
def abC:=fo Gu 60 kO 544 347
def akL:=ts [E7,ZX,aeV,zy] 657
def azF:=cd JT 61
def ad8:=cg JT 654 243 2 349 353 661
def aa9:=fo JT 61 kO 544 354
def arL:=cd FW 63
def adD:=cf FW 666 249 2 356 .none .none 358 669
def Xf:=fo FW 63 uH 664 359
def aru:=ts [Yc,aAH,WG,Nh] 675
def avy:=cd G4 64
def afU:=cg G4 672 251 3 361 365 679
def aeH:=fo G4 64 uH 664 366
def aqH:=cd Ko 65
def afb:=cf Ko 682 256 4 368 .none .none 370 685
def afa:=fo Ko 65 uH 664 371
def akG:=cd Gw 66
def aa5:=cf Gw 688 261 5 373 .none .none 375 691
def o377:=fo Gw 66 uH 664 376
def awo:=ts [oK,avB,Yc,an6,avc,WG,LY,aiU,Nh] 697
def ap8:=cd GV 67
def aek:=cg GV 694 269 3 378 382 706
def WD:=fo GV 67 uH 664 383
def aq7:=ts [rO,tQ,ab1,adu,HJ] 712
def apG:=cd Kd 68
def ac2:=cg Kd 709 283 2 385 389 717
def acE:=fo Kd 68 uH 664 390
def amE:=cd G6 69
def afq:=cf G6 720 291 3 392 .none .none 394 723
def aa8:=fo G6 69 uH 664 395
def awb:=cd Gj 70
def o400:=cf Gj 726 300 5 397 .none .none 399 729
def YC:=fo Gj 70 uH 664 400
def avZ:=cd Iw 71
def Zt:=cf Iw 732 307 4 402 .none .none 404 735
def aeU:=fo Iw 71 uH 664 405
def aAl:=cd FD 73
def ab3:=cf FD 740 322 2 407 .none .none 409 743
def afX:=fo FD 73 HW 738 410
def azU:=ts [oK,aaX,aiD] 749
def asM:=cd Jh 74
def aay:=cg Jh 746 327 3 412 416 752
def afx:=fo Jh 74 HW 738 417
def aol:=ts [oK,aaX,aAI,ara,Ry,anI,alZ] 758
def ayX:=cd KY 75
def ac3:=cg KY 755 329 2 419 423 765
def afT:=fo KY 75 HW 738 424
def ay2:=ts [afh,Li] 773
def amn:=cd Jk 77
def abN:=cg Jk 770 343 2 426 430 775
def aem:=fo Jk 77 z1 768 431
def ai1:=ts [Bj,Li,Wj] 781
def ava:=cd Ir 78
def agy:=cg Ir 778 347 2 433 437 784
def adt:=fo Ir 78 z1 768 438
def aoQ:=ts [Bj] 790
def o444:=cd FJ 79
def agu:=cg FJ 787 350 1 440 444 791
def adJ:=fo FJ 79 z1 768 445
def azS:=ts [Dj,Wj] 797
def aro:=cd Jy 80
def aew:=cg Jy 794 352 2 447 451 799
def aep:=fo Jy 80 z1 768 452
def ap6:=ts [Dj,Bj,au0] 805
def ar4:=cd K8 81
def acM:=cg K8 802 356 3 454 458 808
def aeS:=fo K8 81 z1 768 459
def ahH:=ts [acd,aox,Dj,ajp,aog,Kg,aty,Li,Wj] 814
def ayZ:=cd Gy 82
def W5:=cg Gy 811 364 2 461 465 823
def ae7:=fo Gy 82 z1 768 466
def akS:=cd IV 83
def acL:=cf IV 826 373 4 468 .none .none 470 829
def WK:=fo IV 83 z1 768 471
def ay3:=cd K7 84
def ap7:=cf K7 832 384 2 473 .none .none 475 835
def amD:=fo K7 84 z1 768 476
def ayQ:=cd Hs 85
def Y0:=cf Hs 838 390 3 478 .none .none 480 841
def afu:=fo Hs 85 z1 768 481
def anJ:=ts [Dj,V6,Kg,az3] 847
def auS:=cd Lj 86
def Ze:=cg Lj 844 395 2 483 487 851
def adS:=fo Lj 86 z1 768 488
def aoj:=cd J7 87
def adR:=cf J7 854 400 4 490 .none .none 492 857
def adM:=fo J7 87 z1 768 493
def amq:=cd Jb 88
def agm:=cf Jb 860 415 5 495 .none .none 497 863
def XC:=fo Jb 88 z1 768 498
def atG:=ts [Ql,V6,aar,Bj] 869
def ah0:=cd Jd 89
def abM:=cg Jd 866 430 4 500 504 873
def Yd:=fo Jd 89 z1 768 505
def axG:=ts [Ql,afg,aeg,Bj,azH,Kg,awz] 879
def arb:=cd Hv 90
def acq:=cg Hv 876 434 4 507 511 886
def ag8:=fo Hv 90 z1 768 512
def alY:=ts [afh,Dj,aoy,auY,acd,Li,Bj,afg,V6,aeg,aar,Ql,anj,akx,Kg,alq,akE] 892
def auZ:=cd Ie 91
def aaW:=cg Ie 889 444 1 514 518 909
def afQ:=fo Ie 91 z1 768 519
noncomputable def HL(P:Params):List Obj:=[PySem.W.boot_o_0 P,PySem.W.boot_o_1 P,PySem.W.boot_o_2 P,o3 P,PySem.W.boot_o_4 P,PySem.W.boot_o_5 P,PySem.W.boot_o_6 P,PySem.W.boot_o_7 P,PySem.W.boot_o_8 P,PySem.W.boot_o_9 P,PySem.W.boot_o_10 P,aH,wY,vJ,wC,yL,sU,o17 P,aH,aZ,o20,o21,aH,o23 P,X4,o25,o26,o27,wH,sU,o30 P,aH,aZ,o33,o34,aH,o36 P,o37,o38,o39,wH,sU,o42 P,aH,aZ,o45,o46,aH,o48 P,o49,o50,o51,wH,sU,o54 P,aH,aZ,o57,o58,aH,o60 P,Xb,o62,o63,wH,sU,o66 P,aH,aZ,o69,o70,aH,o72 P,ZG,o74,o75,aH,aZ,o78,aH,o80,o81,YT,aH,aZ,o85,aH,o87,o88,o89,aH,aZ,o92,aH,o94,o95,Yt,aH,aZ,o99,aH,aAy,ab8,abj,aH,aZ,avH,aH,avP,YQ,agO,aH,aZ,ar5,aH,atb,Wx,aaS,aH,aZ,apQ,aH,apJ,acj,acX,aH,aZ,ay0,aH,alW,aen,XY,aH,aZ,ayL,aH,azG,adV,Wv,aH,aZ,ati,aH,aqR,adN,abW,aH,aZ,azp,aH,aAi,acH,aes,aH,aZ,ak4,aH,aoE,af9,afK,aH,aZ,aq6,agA,agh,aH,aZ,anp,aH,auD,aeP,ag1,aH,aZ,anz,acO,afI,aH,aZ,apF,adg,agX,aH,aZ,al7,abp,agK,aH,aZ,axj,aH,ap4,abY,Wu,aH,aZ,axL,aH,aj9,Y8,o200,aH,aZ,aj6,aH,av3,aed,YH,aH,aZ,awO,aH,alO,adY,ab5,aH,aZ,ayP,afd,ahB,aH,aZ,aqY,aH,atU,XI,YG,aH,aZ,azY,aH,ax9,Zk,acg,aH,aZ,awX,agU,aaf,aH,aZ,azl,aH,atB,Y4,aax,aH,aZ,aAF,ach,agJ,aH,aZ,anc,aH,ahQ,Y6,ace,aH,aZ,aod,aH,azN,Z2,ZR,aH,aZ,ana,aH,aoF,abG,afG,aH,aZ,ajn,aH,arP,Xd,adq,aH,aZ,alw,Yi,adz,aH,aZ,asN,aH,ajP,abg,abB,aH,aZ,aql,aH,ar9,ae5,ahk,aH,aZ,o300,Ww,agv,aH,aZ,awc,af4,abZ,aH,aZ,ahX,aH,au5,Xq,agf,aH,aZ,asW,aH,aoV,acp,Wz,aH,aZ,apE,aH,ao5,WY,WH,aH,aZ,amt,agP,aeG,aH,aZ,aje,ag0,YS,aH,aZ,avF,WQ,aeR,aH,aZ,aov,agG,abC,aH,aZ,akL,aH,azF,ad8,aa9,aH,aZ,arL,adD,Xf,aH,aZ,aru,aH,avy,afU,aeH,aH,aZ,aqH,afb,afa,aH,aZ,akG,aa5,o377,aH,aZ,awo,aH,ap8,aek,WD,aH,aZ,aq7,aH,apG,ac2,acE,aH,aZ,amE,afq,aa8,aH,aZ,awb,o400,YC,aH,aZ,avZ,Zt,aeU,aH,aZ,aAl,ab3,afX,aH,aZ,azU,aH,asM,aay,afx,aH,aZ,aol,aH,ayX,ac3,afT,aH,aZ,ay2,aH,amn,abN,aem,aH,aZ,ai1,aH,ava,agy,adt,aH,aZ,aoQ,aH,o444,agu,adJ,aH,aZ,azS,aH,aro,aew,aep,aH,aZ,ap6,aH,ar4,acM,aeS,aH,aZ,ahH,aH,ayZ,W5,ae7,aH,aZ,akS,acL,WK,aH,aZ,ay3,ap7,amD,aH,aZ,ayQ,Y0,afu,aH,aZ,anJ,aH,auS,Ze,adS,aH,aZ,aoj,adR,adM,aH,aZ,amq,agm,XC,aH,aZ,atG,aH,ah0,abM,Yd,aH,aZ,axG,aH,arb,acq,ag8,aH,aZ,alY,aH,auZ,aaW,afQ]
def ev(l:List Obj):Bool->List Obj:=List.rec (motive:=λ_=>Bool->List Obj) (λ_=>[]) (λo _ f b=>cond b (o::f false) (f true)) l
def bt(n:Nat):List Obj->BT:=Nat.rec (motive:=λ_=>List Obj->BT) (λ_=> .nil) (λ_ f l=>List.casesOn l .nil λo l=> .node o (f (ev l true)) (f (ev l false))) n
def TF(P:Params):BT:=bt 16 (HL P)
def HF(P:Params):Heap:=⟨⟨HL P⟩,{}⟩
noncomputable def K(P:Params):Frag:=(nat_lit 0,PySem.W.boot_o_0 P)::(nat_lit 1,PySem.W.boot_o_1 P)::(nat_lit 2,PySem.W.boot_o_2 P)::(nat_lit 3,o3 P)::(nat_lit 4,PySem.W.boot_o_4 P)::(nat_lit 5,PySem.W.boot_o_5 P)::(nat_lit 6,PySem.W.boot_o_6 P)::(nat_lit 7,PySem.W.boot_o_7 P)::(nat_lit 8,PySem.W.boot_o_8 P)::(nat_lit 9,PySem.W.boot_o_9 P)::(nat_lit 10,PySem.W.boot_o_10 P)::(nat_lit 11,aH)::(nat_lit 12,wY)::(nat_lit 13,vJ)::(nat_lit 14,wC)::(nat_lit 15,yL)::(nat_lit 22,aH)::(nat_lit 23,o23 P)::(nat_lit 24,X4)::(nat_lit 25,o25)::(nat_lit 28,wH)::(nat_lit 35,aH)::(nat_lit 36,o36 P)::(nat_lit 37,o37)::(nat_lit 40,wH)::(nat_lit 47,aH)::(nat_lit 48,o48 P)::(nat_lit 49,o49)::(nat_lit 52,wH)::(nat_lit 59,aH)::(nat_lit 60,o60 P)::(nat_lit 61,Xb)::(nat_lit 64,wH)::(nat_lit 71,aH)::(nat_lit 72,o72 P)::(nat_lit 73,ZG)::(nat_lit 81,o81)::(nat_lit 82,YT)::(nat_lit 88,o88)::(nat_lit 89,o89)::(nat_lit 95,o95)::(nat_lit 96,Yt)::(nat_lit 102,ab8)::(nat_lit 103,abj)::(nat_lit 109,YQ)::(nat_lit 110,agO)::(nat_lit 116,Wx)::(nat_lit 117,aaS)::(nat_lit 123,acj)::(nat_lit 124,acX)::(nat_lit 130,aen)::(nat_lit 131,XY)::(nat_lit 137,adV)::(nat_lit 138,Wv)::(nat_lit 144,adN)::(nat_lit 145,abW)::(nat_lit 151,acH)::(nat_lit 152,aes)::(nat_lit 158,af9)::(nat_lit 159,afK)::(nat_lit 163,agA)::(nat_lit 164,agh)::(nat_lit 170,aeP)::(nat_lit 171,ag1)::(nat_lit 175,acO)::(nat_lit 176,afI)::(nat_lit 180,adg)::(nat_lit 181,agX)::(nat_lit 185,abp)::(nat_lit 186,agK)::(nat_lit 192,abY)::(nat_lit 193,Wu)::(nat_lit 199,Y8)::(nat_lit 200,o200)::(nat_lit 206,aed)::(nat_lit 207,YH)::(nat_lit 213,adY)::(nat_lit 214,ab5)::(nat_lit 218,afd)::(nat_lit 219,ahB)::(nat_lit 225,XI)::(nat_lit 226,YG)::(nat_lit 232,Zk)::(nat_lit 233,acg)::(nat_lit 237,agU)::(nat_lit 238,aaf)::(nat_lit 244,Y4)::(nat_lit 245,aax)::(nat_lit 249,ach)::(nat_lit 250,agJ)::(nat_lit 256,Y6)::(nat_lit 257,ace)::(nat_lit 263,Z2)::(nat_lit 264,ZR)::(nat_lit 270,abG)::(nat_lit 271,afG)::(nat_lit 277,Xd)::(nat_lit 278,adq)::(nat_lit 282,Yi)::(nat_lit 283,adz)::(nat_lit 289,abg)::(nat_lit 290,abB)::(nat_lit 296,ae5)::(nat_lit 297,ahk)::(nat_lit 301,Ww)::(nat_lit 302,agv)::(nat_lit 306,af4)::(nat_lit 307,abZ)::(nat_lit 313,Xq)::(nat_lit 314,agf)::(nat_lit 320,acp)::(nat_lit 321,Wz)::(nat_lit 327,WY)::(nat_lit 328,WH)::(nat_lit 332,agP)::(nat_lit 333,aeG)::(nat_lit 337,ag0)::(nat_lit 338,YS)::(nat_lit 342,WQ)::(nat_lit 343,aeR)::(nat_lit 347,agG)::(nat_lit 348,abC)::(nat_lit 354,ad8)::(nat_lit 355,aa9)::(nat_lit 359,adD)::(nat_lit 360,Xf)::(nat_lit 366,afU)::(nat_lit 367,aeH)::(nat_lit 371,afb)::(nat_lit 372,afa)::(nat_lit 376,aa5)::(nat_lit 377,o377)::(nat_lit 383,aek)::(nat_lit 384,WD)::(nat_lit 390,ac2)::(nat_lit 391,acE)::(nat_lit 395,afq)::(nat_lit 396,aa8)::(nat_lit 400,o400)::(nat_lit 401,YC)::(nat_lit 405,Zt)::(nat_lit 406,aeU)::(nat_lit 410,ab3)::(nat_lit 411,afX)::(nat_lit 417,aay)::(nat_lit 418,afx)::(nat_lit 424,ac3)::(nat_lit 425,afT)::(nat_lit 431,abN)::(nat_lit 432,aem)::(nat_lit 438,agy)::(nat_lit 439,adt)::(nat_lit 445,agu)::(nat_lit 446,adJ)::(nat_lit 452,aew)::(nat_lit 453,aep)::(nat_lit 459,acM)::(nat_lit 460,aeS)::(nat_lit 466,W5)::(nat_lit 467,ae7)::(nat_lit 471,acL)::(nat_lit 472,WK)::(nat_lit 481,Y0)::(nat_lit 482,afu)::(nat_lit 488,Ze)::(nat_lit 489,adS)::(nat_lit 493,adR)::(nat_lit 494,adM)::(nat_lit 498,agm)::(nat_lit 499,XC)::(nat_lit 505,abM)::(nat_lit 506,Yd)::(nat_lit 512,acq)::(nat_lit 513,ag8)::(nat_lit 519,aaW)::(nat_lit 520,afQ)::[]
noncomputable def as:List Nat:=[0,1,2,3,4,5,6,7,8,9,10,11,12,13,14,15,22,23,24,25,28,35,36,37,40,47,48,49,52,59,60,61,64,71,72,73,81,82,88,89,95,96,102,103,109,110,116,117,123,124,130,131,137,138,144,145,151,152,158,159,163,164,170,171,175,176,180,181,185,186,192,193,199,200,206,207,213,214,218,219,225,226,232,233,237,238,244,245,249,250,256,257,263,264,270,271,277,278,282,283,289,290,296,297,301,302,306,307,313,314,320,321,327,328,332,333,337,338,342,343,347,348,354,355,359,360,366,367,371,372,376,377,383,384,390,391,395,396,400,401,405,406,410,411,417,418,424,425,431,432,438,439,445,446,452,453,459,460,466,467,471,472,481,482,488,489,493,494,498,499,505,506,512,513,519,520]
def cut(n:Nat)(t:BT):Nat->Nat->BT:=BT.rec (motive:=λ_=>Nat->Nat->BT) (λ_ _=> .nil) (λv _ _ l r a b=>cond (Nat.blt b n) (.node v (l (Nat.mul 2 a) (Nat.add a b)) (r (Nat.mul 2 a) (Nat.add (Nat.mul 2 a) b))) .nil) t
def HA(P:Params):Heap:=⟨⟨[PySem.W.boot_o_0 P,PySem.W.boot_o_1 P,PySem.W.boot_o_2 P,PySem.W.boot_o_3 P,PySem.W.boot_o_4 P,PySem.W.boot_o_5 P,PySem.W.boot_o_6 P,PySem.W.boot_o_7 P,PySem.W.boot_o_8 P,PySem.W.boot_o_9 P,PySem.W.boot_o_10 P,aH,aan,vJ,wC]⟩,{}⟩
def SA(w:World)(os:OsState):Shared:=⟨HA w.params,⟨[]⟩,{},187,os⟩
def T1(P:Params):BT:=((cut 15 (TF P) 1 0).set 3 λ_=>PySem.W.boot_o_3 P).set 12 λ_=>aan
def S1(w:World)(os:OsState):SharedT:=⟨T1 w.params,15,{},⟨[]⟩,{},187,os⟩
def T2(P:Params):BT:=(((cut 28 (TF P) 1 0).set 3 λ_=>apm P).set 12 λ_=>aqi).set 24 λ_=>aoZ
def S2(w:World)(os:OsState):SharedT:=⟨T2 w.params,28,{},⟨[]⟩,{},207,os⟩
def T3(P:Params):BT:=(((cut 40 (TF P) 1 0).set 3 λ_=>apV P).set 12 λ_=>aiH).set 24 λ_=>auC
def S3(w:World)(os:OsState):SharedT:=⟨T3 w.params,40,{},⟨[]⟩,{},223,os⟩
def T4(P:Params):BT:=(((cut 52 (TF P) 1 0).set 3 λ_=>azO P).set 12 λ_=>aya).set 24 λ_=>ay8
def S4(w:World)(os:OsState):SharedT:=⟨T4 w.params,52,{},⟨[]⟩,{},239,os⟩
def T5(P:Params):BT:=(((cut 64 (TF P) 1 0).set 3 λ_=>ajH P).set 12 λ_=>avu).set 24 λ_=>ajV
def S5(w:World)(os:OsState):SharedT:=⟨T5 w.params,64,{},⟨[]⟩,{},255,os⟩
def T6(P:Params):BT:=((cut 104 (TF P) 1 0).set 3 λ_=>arV P).set 12 λ_=>aiO
def S6(w:World)(os:OsState):SharedT:=⟨T6 w.params,104,{},⟨[]⟩,{},315,os⟩
def T7(P:Params):BT:=((cut 182 (TF P) 1 0).set 3 λ_=>aib P).set 12 λ_=>ath
def S7(w:World)(os:OsState):SharedT:=⟨T7 w.params,182,{},⟨[]⟩,{},430,os⟩
def T8(P:Params):BT:=((cut 258 (TF P) 1 0).set 3 λ_=>awm P).set 12 λ_=>anS
def S8(w:World)(os:OsState):SharedT:=⟨T8 w.params,258,{},⟨[]⟩,{},535,os⟩
def T9(P:Params):BT:=((cut 334 (TF P) 1 0).set 3 λ_=>as5 P).set 12 λ_=>arf
def S9(w:World)(os:OsState):SharedT:=⟨T9 w.params,334,{},⟨[]⟩,{},636,os⟩
def T10(P:Params):BT:=((cut 407 (TF P) 1 0).set 3 λ_=>aiy P).set 12 λ_=>ajl
def S10(w:World)(os:OsState):SharedT:=⟨T10 w.params,407,{},⟨[]⟩,{},740,os⟩
def T11(P:Params):BT:=((cut 490 (TF P) 1 0).set 3 λ_=>aqt P).set 12 λ_=>ayd
def Yn(w:World)(os:OsState):SharedT:=⟨T11 w.params,490,{},⟨[]⟩,{},854,os⟩
def T12(P:Params):BT:=cut 521 (TF P) 1 0
def S12(w:World)(os:OsState):SharedT:=⟨T12 w.params,521,{},⟨[]⟩,{},912,os⟩
def SF(w:World)(os:OsState):Shared:=⟨HF w.params,⟨[]⟩,{},912,os⟩
def ann:Option Value:=some (.ref 6)
def env:Env:={ scope:=pwL.main.scope,locals:=mainNs,globals:=mainNs,cells:=[],code:= .ref 13,frame:=some 14 }
def cE:Code:= .body (behindTheImports pwL) env
abbrev BB:List Frame:=[topFrame ⟨0,0,0,0⟩]
noncomputable def q:Program:={ pwL with main:={ pwL.main with body:=[topF 1,topF 2,topF 3,topF 4,topF 5,topF 7,topF 8,topF 9,topF 10,topF 12,topF 13,topF 14,topF 15,topF 16,topF 17,topF 18,topF 20,topF 21,topF 22,topF 23,topF 24,topF 25,topF 26,topF 28,topF 29,topF 30,topF 32,topF 33,topF 34,topF 35,topF 36,topF 37,topF 38,topF 39,topF 41,topF 42,topF 43,topF 45,topF 46,topF 47,topF 48,topF 49,topF 50,topF 51,topF 52,topF 53,topF 54,topF 55,topF 56,topF 57,topF 58,topF 59,topF 60,topF 61,topF 63,topF 64,topF 65,topF 66,topF 67,topF 68,topF 69,topF 70,topF 71,topF 73,topF 74,topF 75,topF 77,topF 78,topF 79,topF 80,topF 81,topF 82,topF 83,topF 84,topF 85,topF 86,topF 87,topF 88,topF 89,topF 90,topF 91] } }
theorem warm2:((λ(_:Env) (_:Code) (_:Program)=>true) env cE q)=true:=by k_qdec
theorem a0:@segRunT=PySem.W.Fast.tw10110043849684766642:=PySem.W.Fast.te10110043849684766642
theorem a1:@treeTable=PySem.W.Fast.tw14364793385576792824:=PySem.W.Fast.te14364793385576792824
theorem a2:@topGo=PySem.W.Fast.tw15667345088766844465:=PySem.W.Fast.te15667345088766844465
theorem a3:@topRun=PySem.W.Fast.tw14082659384304107361:=PySem.W.Fast.te14082659384304107361
theorem a4:@segRun=PySem.W.Fast.tw14374325043358763698:=PySem.W.Fast.te14374325043358763698
theorem a5:@denote=PySem.W.Fast.tw11892475500146522536:=PySem.W.Fast.te11892475500146522536
theorem a6:@cE=PySem.W.Fast.tw14446498116625722874:=PySem.W.Fast.te14446498116625722874
theorem a7:@env=PySem.W.Fast.tw285915102230311393:=PySem.W.Fast.te285915102230311393
theorem a8:@q=PySem.W.Fast.tw18300655917941735473:=PySem.W.Fast.te18300655917941735473
theorem a9:@pwL=PySem.W.Fast.tw7917304471768691869:=PySem.W.Fast.te7917304471768691869
theorem a10:@topF=PySem.W.Fast.tw7339179081924164087:=PySem.W.Fast.te7339179081924164087
theorem a11:@importedModules=PySem.W.Fast.tw5923862056798008813:=PySem.W.Fast.te5923862056798008813
theorem a12:@openSeen=PySem.W.Fast.tw4187177175401517315:=PySem.W.Fast.te4187177175401517315
theorem a13:@Heap.nsMap=PySem.W.Fast.tw8920871248978507458:=PySem.W.Fast.te8920871248978507458
set_option maxHeartbeats 0
theorem pre(w:World)(os:OsState):topGo treeTable pwL w 11 ann 12 ⟨boot_heap w.params,⟨[]⟩,boot_drawn,boot_toks,os⟩ (topStub pwL)=some (SA w os,⟨denote treeTable cE,cE,⟨0,0,0,0⟩,BB⟩):=by
 rw[a1,a2,a5,a6,a9];kernel_rfl
theorem blk(w:World)(os:OsState):segRun treeTable pwL w 11 ann 1 1 (SA w os) (blockOf (behindTheImports pwL) env cE ⟨0,0,0,0⟩ BB)=some (.next,(S1 w os).abs,cE,⟨0,0,0,0⟩):=by
 rw[a1,a4,a6,a7,a9];kernel_rfl
abbrev c1:List Stmt:=[topF 0,topF 1]
theorem p1(w:World)(os:OsState):segRunT treeTable pwL w 11 ann 1 196 (S1 w os) (piecesOf c1 env cE ⟨0,0,0,0⟩ BB)=some (.next,S2 w os,cE,⟨2,0,3,8⟩):=by
 unfold c1;rw[a0,a1,a6,a7,a9,a10];kernel_rfl
abbrev c2:List Stmt:=[topF 2]
theorem p2(w:World)(os:OsState):segRunT treeTable pwL w 11 ann 1 214 (S2 w os) (piecesOf c2 env cE ⟨2,0,3,8⟩ BB)=some (.next,S3 w os,cE,⟨4,0,5,8⟩):=by
 unfold c2;rw[a0,a1,a6,a7,a9,a10];kernel_rfl
abbrev c3:List Stmt:=[topF 3]
theorem p3(w:World)(os:OsState):segRunT treeTable pwL w 11 ann 1 214 (S3 w os) (piecesOf c3 env cE ⟨4,0,5,8⟩ BB)=some (.next,S4 w os,cE,⟨6,0,7,8⟩):=by
 unfold c3;rw[a0,a1,a6,a7,a9,a10];kernel_rfl
abbrev c4:List Stmt:=[topF 4]
theorem p4(w:World)(os:OsState):segRunT treeTable pwL w 11 ann 1 214 (S4 w os) (piecesOf c4 env cE ⟨6,0,7,8⟩ BB)=some (.next,S5 w os,cE,⟨8,0,9,8⟩):=by
 unfold c4;rw[a0,a1,a6,a7,a9,a10];kernel_rfl
abbrev c5:List Stmt:=[topF 5,topF 6,topF 7,topF 8,topF 9,topF 10,topF 11,topF 12,topF 13]
theorem p5(w:World)(os:OsState):segRunT treeTable pwL w 11 ann 1 374 (S5 w os) (piecesOf c5 env cE ⟨8,0,9,8⟩ BB)=some (.next,S6 w os,cE,⟨44,0,44,8⟩):=by
 unfold c5;rw[a0,a1,a6,a7,a9,a10];kernel_rfl
abbrev c6:List Stmt:=[topF 14,topF 15,topF 16,topF 17,topF 18,topF 19,topF 20,topF 21,topF 22,topF 23,topF 24,topF 25,topF 26,topF 27]
theorem p6(w:World)(os:OsState):segRunT treeTable pwL w 11 ann 1 388 (S6 w os) (piecesOf c6 env cE ⟨44,0,44,8⟩ BB)=some (.next,S7 w os,cE,⟨110,0,110,8⟩):=by
 unfold c6;rw[a0,a1,a6,a7,a9,a10];kernel_rfl
abbrev c7:List Stmt:=[topF 28,topF 29,topF 30,topF 31,topF 32,topF 33,topF 34,topF 35,topF 36,topF 37,topF 38,topF 39,topF 40,topF 41,topF 42]
theorem p7(w:World)(os:OsState):segRunT treeTable pwL w 11 ann 1 383 (S7 w os) (piecesOf c7 env cE ⟨110,0,110,8⟩ BB)=some (.next,S8 w os,cE,⟨171,0,175,62⟩):=by
 unfold c7;rw[a0,a1,a6,a7,a9,a10];kernel_rfl
abbrev c8:List Stmt:=[topF 43,topF 44,topF 45,topF 46,topF 47,topF 48,topF 49,topF 50,topF 51,topF 52,topF 53,topF 54,topF 55,topF 56,topF 57]
theorem p8(w:World)(os:OsState):segRunT treeTable pwL w 11 ann 1 379 (S8 w os) (piecesOf c8 env cE ⟨171,0,175,62⟩ BB)=some (.next,S9 w os,cE,⟨215,0,224,54⟩):=by
 unfold c8;rw[a0,a1,a6,a7,a9,a10];kernel_rfl
abbrev c9:List Stmt:=[topF 58,topF 59,topF 60,topF 61,topF 62,topF 63,topF 64,topF 65,topF 66,topF 67,topF 68,topF 69,topF 70,topF 71,topF 72]
theorem p9(w:World)(os:OsState):segRunT treeTable pwL w 11 ann 1 387 (S9 w os) (piecesOf c9 env cE ⟨215,0,224,54⟩ BB)=some (.next,S10 w os,cE,⟨321,0,321,8⟩):=by
 unfold c9;rw[a0,a1,a6,a7,a9,a10];kernel_rfl
abbrev kE:List Stmt:=[topF 73,topF 74,topF 75,topF 76,topF 77,topF 78,topF 79,topF 80,topF 81,topF 82,topF 83,topF 84,topF 85,topF 86]
theorem p10(w:World)(os:OsState):segRunT treeTable pwL w 11 ann 1 400 (S10 w os) (piecesOf kE env cE ⟨321,0,321,8⟩ BB)=some (.next,Yn w os,cE,⟨395,0,399,21⟩):=by
 unfold kE;rw[a0,a1,a6,a7,a9,a10];kernel_rfl
abbrev LX:List Stmt:=[topF 87,topF 88,topF 89,topF 90,topF 91]
theorem p11(w:World)(os:OsState):segRunT treeTable pwL w 11 ann 1 165 (Yn w os) (piecesOf LX env cE ⟨395,0,399,21⟩ BB)=some (.next,S12 w os,cE,⟨444,0,471,15⟩):=by
 unfold LX;rw[a0,a1,a6,a7,a9,a10];kernel_rfl
theorem fin(w:World)(os:OsState):topRun treeTable pwL w 11 ann 2 (S12 w os).abs ⟨doneF .next,cE,⟨444,0,471,15⟩,BB⟩=some (SF w os):=by
 rw[a1,a3,a6,a9];kernel_rfl
theorem body:behindTheImports pwL=c1++(c2++(c3++(c4++(c5++(c6++(c7++(c8++(c9++(kE++(LX++([]))))))))))):=by
 rw[a9];kernel_rfl
theorem run(w:World)(os:OsState):topRun treeTable pwL w 11 ann (12+(1+(196+(214+(214+(214+(374+(388+(383+(379+(387+(400+(165+(2)))))))))))))) ⟨boot_heap w.params,⟨[]⟩,boot_drawn,boot_toks,os⟩ (topStub pwL)=some (SF w os):=
 go_top (pre w os) (piece_block (blk w os) (by rw[body];exact piece_app (segRun_of (p1 w os)) (piece_app (segRun_of (p2 w os)) (piece_app (segRun_of (p3 w os)) (piece_app (segRun_of (p4 w os)) (piece_app (segRun_of (p5 w os)) (piece_app (segRun_of (p6 w os)) (piece_app (segRun_of (p7 w os)) (piece_app (segRun_of (p8 w os)) (piece_app (segRun_of (p9 w os)) (piece_app (segRun_of (p10 w os)) (piece_app (segRun_of (p11 w os)) (piece_nil (fin w os))))))))))))))
theorem size(w:World):((boot_heap w.params).isNs mainGlobals&&(Array.mk ([]:List GenState)).size==0,(boot_heap w.params).objs.size,(boot_heap w.params).nsMap mainGlobals "__annotations__")=(true,11,ann):=by
 rw[a13];kernel_rfl
abbrev Xt(s:Shared):Bool:=xlAt q [] s&&recOk [] s
theorem lk1(w:World)(os:OsState):(staticsOk (importedModules pwL.main.body) (boot_heap w.params) (HF w.params)&&namesBound pwL (HF w.params)&&gensDone (SF w os)&&laidKept (boot_heap w.params) (HF w.params))=true:=by
 rw[a9,a11];kernel_rfl
theorem lk2(w:World)(os:OsState):openSeen q [] (importedModules pwL.main.body) Xt true (SF w os)=openGood q []:=by
 rw[a8,a9,a11,a12];kernel_rfl
theorem lk3(w:World)(os:OsState):Zv as (SF w os)=ac7 K 521 912 w:=by
 kernel_rfl
theorem imports:opening pwL=plainProg pwL.main.scope.names:=by kernel_rfl
theorem left:LeftO pwL q [] Xt (Zv as) (ac7 K 521 912) 6732:=
 LeftO.of_pieces (boot_open imports (by rfl) (λs=>by kernel_rfl)) size run (by rfl) λw=>funext λos=>looks_pair (lk1 w os) (looks_pair (lk2 w os) (lk3 w os))
end
end H
end K57
namespace L2
open PySem PySem.Spec PyProof.Rows
abbrev Key:=Sum Int Str
def afF:Key->Value->Bool
 |.inl k,v=>Value.isInt k v
 |.inr x,v=>Value.isStrOf x v
def auR(w:World):Key->Int
 |.inl k=>hashInt k
 |.inr x=>hashStr w x
def uZ:∀{k:Key} {v:Value},afF k v=true->(∃i t,k=yj i/\v=Value.int i t)∨(∃x t,k=yH x/\v=Value.str x t)
 |.inl i,v,h=>by
  obtain⟨t,e⟩:=Value.isInt_shape (k:=i) (v:=v) h;exact .inl ⟨i,t,rfl,e⟩
 |.inr x,v,h=>by
  obtain⟨t,e⟩:=Value.isStrOf_shape (x:=x) (v:=v) h;exact .inr ⟨x,t,rfl,e⟩
def aip(a b:Int):decide ((yj a:Key)=yj b)=(a==b):=by
 by_cases e:a=b
 .subst e;simp
 .have h:¬(yj a:Key)=yj b:=λq=>e (Sum.inl.inj q);rw[decide_eq_false h];exact(beq_eq_false_iff_ne.mpr e).symm
def amf(a b:Str):decide ((yH a:Key)=yH b)=decide (a=b):=by
 by_cases e:a=b
 .subst e;simp
 .have h:¬(yH a:Key)=yH b:=λq=>e (Sum.inr.inj q);rw[decide_eq_false h,decide_eq_false e]
def apl(a:Int)(b:Str):decide ((yj a:Key)=yH b)=false:=decide_eq_false (λq=>nomatch q)
def apj(a:Str)(b:Int):decide ((yH a:Key)=yj b)=false:=decide_eq_false (λq=>nomatch q)
def yQ(prog:Program)(w:World):PySem.KeyKind prog w Key where
 is:=afF
 hash:=auR w
 inj:=λv a b ha hb=>by
  rcases uZ ha with⟨i,t,rfl,rfl⟩|⟨x,t,rfl,rfl⟩
  .rcases uZ hb with⟨j,u,rfl,e⟩|⟨y,u,rfl,e⟩
   .injection e with e1 _;rw[e1]
   .exact nomatch e
  .rcases uZ hb with⟨j,u,rfl,e⟩|⟨y,u,rfl,e⟩
   .exact nomatch e
   .injection e with e1 _;rw[e1]
 byValue:=λk v h=>by
  rcases uZ h with⟨i,t,rfl,rfl⟩|⟨x,t,rfl,rfl⟩<;>rfl
 pyHash:=λhv h=>by
  rcases uZ hv with⟨i,t,rfl,rfl⟩|⟨x,t,rfl,rfl⟩
  .exact wpAny_pyHash_int h
  .exact wpAny_pyHash_str h
 eqBool:=λhu hv h=>by
  rcases uZ hu with⟨i,t,rfl,rfl⟩|⟨x,t,rfl,rfl⟩
  .rcases uZ hv with⟨j,u,rfl,rfl⟩|⟨y,u,rfl,rfl⟩
   .rw[aip]at h;exact wpAny_eqBool_int h
   .rw[apl]at h;exact SeqAt.EqAt.int_str i t y u _ _ _ _ h
  .rcases uZ hv with⟨j,u,rfl,rfl⟩|⟨y,u,rfl,rfl⟩
   .rw[apj]at h;exact SeqAt.EqAt.str_int x t j u _ _ _ _ h
   .rw[amf]at h;exact wpAny_eqBool_str h
 «strs»:=λk x t v h=>by
  rcases uZ h with⟨i,u,rfl,e⟩|⟨y,u,rfl,e⟩
  .exact nomatch e
  .injection e with e1 _;subst e1;cases v<;>rfl
inductive V where
 |non|bl (b:Bool)|int (i:Int)|str (x:Str)|j6 (b:Array UInt8)|flt (b:UInt64)|ref (a:Addr)|ty (n:String)
 deriving DecidableEq
def RelV:V->Value->Prop
 |.non,u=>u=Value.none
 |.bl b,u=>u=Value.bool b
 |.int i,u=>∃t,u=Value.int i t
 |.str x,u=>∃t,u=Value.str x t
 |.j6 b,u=>∃t,u=Value.bytes b t
 |.flt b,u=>∃t,u=Value.float b t
 |.ref a,u=>u=Value.ref a
 |.ty n,u=>u=Value.type n
abbrev Vals:List V->List Value->Prop:=Paired RelV
theorem Vals.length{xs:List V}{us:List Value}(r:Vals xs us):xs.length=us.length:=Paired.length r
theorem Vals.get:∀{xs:List V} {us:List Value} {i:Nat} {x:V},Vals xs us->xs[i]?=some x->∃u,us[i]?=some u/\RelV x u
 |_,_,_,_,.nil,e=>by simp at e
 |_,_,0,_,.cons r _,e=>by simp at e;subst e;exact⟨_,rfl,r⟩
 |_,_,i+1,x,.cons _ t,e=>by
  obtain⟨u,h1,h2⟩:=Vals.get (i:=i) (x:=x) t (by simpa using e);exact⟨u,by simpa using h1,h2⟩
theorem Vals.set{x:V}{u:Value}(r:RelV x u):∀{xs:List V} {us:List Value} (i:Nat),Vals xs us->Vals (xs.set i x) (us.set i u)
 |_,_,_,.nil=> .nil
 |_,_,0,.cons _ t=> .cons r t
 |_,_,i+1,.cons q t=> .cons q (Vals.set r i t)
theorem Vals.append:∀{xs ys:List V} {us ws:List Value},Vals xs us->Vals ys ws->Vals (xs++ys) (us++ws)
 |_,_,_,_,.nil,s=>s
 |_,_,_,_,.cons r t,s=> .cons r (Vals.append t s)
theorem Vals.take:∀{xs:List V} {us:List Value} (n:Nat),Vals xs us->Vals (xs.take n) (us.take n)
 |_,_,0,_=> .nil
 |_,_,_+1,.nil=> .nil
 |_,_,n+1,.cons r t=> .cons r (Vals.take n t)
theorem Vals.drop:∀{xs:List V} {us:List Value} (n:Nat),Vals xs us->Vals (xs.drop n) (us.drop n)
 |_,_,0,r=>r
 |_,_,_+1,.nil=> .nil
 |_,_,n+1,.cons _ t=>Vals.drop n t
def sI:Option V->Option Value->Prop
 |some v,some u=>RelV v u
 |none,none=>True
 |_,_=>False
def KV{κ:Type}:List (κ×V)->List (κ×Value)->Prop:=Paired λ(p:κ×V) (q:κ×Value)=>p.1=q.1/\RelV p.2 q.2
def kV:Key->V
 |.inl i=> .int i
 |.inr x=> .str x
inductive HO where
 /-- a list -/
 |lst (xs:List V)
 /-- a tuple (never changes) -/
 |tup (xs:List V)
 /-- a dict whose keys are ints and texts;one whose keys are tuples of ints and texts (the empty one is both) -/
 |dK (kvs:List (Key×V))|dT (kvs:List (List Key×V))
 /-- a set of ints: its members,its size -/
 |set (S:Int->Bool) (n:Nat)
 /-- an instance of the class at C,its dict at dx,its attributes -/
 |ins (C dx:Addr) (fs:List (Str×V))
 /-- the dict of the instance at x -/
 |own (x:Addr)
 /-- the dict of an exception -/
 |xd (fs:List (Str×V))
 /-- a bound method,f of x -/
 |met (f x:Addr)
 /-- a range object lo,lo+1,.. below hi -/
 |rng (lo hi:Int)
 /-- a thing that is known to the object (the script;a dict while a loop walks it): read,never written while it is so -/
 |jf (o:Obj) (u:HO)
 /-- a code object's table -/
 |tW (ps:Array Value)
 /-- any other thing,by what is true of its one object (a def of aAQ own: aBk a S n:=HO.ext λh=> ..) -/
 |ext (φ:Heap->Prop)
abbrev Hp:=Addr->Option HO
def upd(H:Hp)(a:Addr)(o:HO):Hp:=λb=>if b=a then some o else H b
def aD{H:Hp}{a:Addr}{o:HO}:upd H a o a=some o:=by unfold upd;rw[if_pos rfl]
def cW{H:Hp}{a b:Addr}{o:HO}(h:b≠a):upd H a o b=H b:=by unfold upd;rw[if_neg h]
def am1{H:Hp}{a:Addr}{o u:HO}:upd (upd H a o) a u=upd H a u:=by
 funext b;unfold upd;split<;>rfl
def nj{H:Hp}{a b:Addr}{o:HO}(h:H a=some o)(h':H b=none):a≠b:=by
 intro e;subst e;rw[h]at h';cases h'
section
variable (P:Program) (w:World)
def gj(H:Hp)(h:Heap)(a:Addr):HO->Prop
 |.lst xs=>xs.length<=sizeLine/\∃(its:List Value) (n:Nat),Vals xs its/\h.get? a=some { cls:= .type "list",data:= .seq its.toArray n }
 |.tup xs=>xs.length<=sizeLine/\∃its:List Value,Vals xs its/\IsTup h a its.toArray
 |.dK kvs=>kvs.length<=sizeLine/\(a==sysModules)=false/\∃vs,KV kvs vs/\h.DictOf (yQ P w) a vs
 |.dT kvs=>kvs.length<=sizeLine/\(a==sysModules)=false/\∃xs:List (List Key×Addr×Value),
   Paired (λ(p:List Key×V) (q:List Key×Addr×Value)=>p.1=q.1/\H q.2.1=some (.tup (p.1.map kV))/\RelV p.2 q.2.2) kvs xs/\
   ∃o es ep,h.get? a=some o/\o.ExactDict/\o.data = .dict es ep/\es.toList=xs.map (entryOfKey (tupleKind (yQ P w)))/\(xs.map (·.1)).Nodup
 |.set S n=>h.SetOf (intKind P w) a S n
 |.ins C dx fs=>H dx=some (.own a)/\fs.length<=1000/\dx≠a/\h.get? a=some (Vr C dx)/\
   ∃mA,h.Ns1 dx mA/\(∀f,sI (fs.lookup f) (mA f))/\adH mA (fs.map (·.1))
 |.own _=>∃o,h.get? a=some o
 |.xd fs=>∃mA,h.Ns1 a mA/\∀f,sI (fs.lookup f) (mA f)
 |.rng lo hi=>∃t u v,h.get? a=some { cls:= .type "range",data:= .fields #[.int lo t,.int hi u,.int 1 v] }
 |.jf o u=>h.get? a=some o/\gj H h a u
 |.tW ps=>h.get? a=some { cls:= .none,data:= .fields ps }
 |.met f x=>h.get? a=some (LN (.ref f) (.ref x))
 |.ext φ=>φ h/\(∃o,h.get? a=some o)/\∀h1 h2:Heap,φ h1->(∀o,h1.get? a=some o->h2.get? a=some o)->φ h2
def fZ(H:Hp)(h:Heap):Prop:=∀a o,H a=some o->gj P w H h a o
end
section
variable {P:Program} {w:World} {H H':Hp} {h h':Heap} {a:Addr} {o:HO}
theorem gj.lt(x:gj P w H h a o):a<h.objs.size:=by
 cases o with
 |lst xs=>obtain⟨_,_,_,_,e⟩:=x;exact dg e
 |tup xs=>obtain⟨_,_,_,p⟩:=x;exact p.lt
 |dK kvs=>obtain⟨_,_,_,_,o,_,_,e,_⟩:=x;exact dg e
 |dT kvs=>obtain⟨_,_,_,_,o,_,_,e,_⟩:=x;exact dg e
 |set S n=>obtain⟨o,_,_,_,e,_⟩:=x;exact dg e
 |ins C dx fs=>obtain⟨_,_,_,e,_⟩:=x;exact dg e
 |own y=>obtain⟨_,e⟩:=x;exact dg e
 |xd fs=>obtain⟨_,⟨_,_,_,e,_⟩,_⟩:=x;exact dg e
 |rng lo hi=>obtain⟨_,_,_,e⟩:=x;exact dg e
 |jf ob u=>obtain⟨e,_⟩:=x;exact dg e
 |tW ps=>exact dg (show h.get? a=some _ from x)
 |met f y=>exact dg (show h.get? a=some _ from x)
 |ext φ=>obtain⟨_,⟨_,e⟩,_⟩:=x;exact dg e
theorem Paired.ac4{α β:Type}{F G:α->β->Prop}:∀{l₁:List α} {l₂:List β},Paired F l₁ l₂->(∀a b,F a b->G a b)->Paired G l₁ l₂
 |_,_,.nil,_=> .nil
 |_,_,.cons r t,f=> .cons (f _ _ r) (Paired.ac4 t f)
def gj.stay(x:gj P w H h a o)(k:∀b u,(b=a∨H b=some (.own a))->h.get? b=some u->h'.get? b=some u)
  (ho:∀b,H b=some (.own a)->H' b=some (.own a)) (ht:∀b xs,H b=some (.tup xs)->H' b=some (.tup xs)):gj P w H' h' a o:=by
 induction o with
 |lst xs=>obtain⟨z,its,n,r,e⟩:=x;exact⟨z,its,n,r,k _ _ (.inl rfl) e⟩
 |tup xs=>obtain⟨z,its,r,ob,e,c⟩:=x;exact⟨z,its,r,ob,k _ _ (.inl rfl) e,c⟩
 |dK kvs=>obtain⟨z,y,vs,r,ob,es,ep,e,c⟩:=x;exact⟨z,y,vs,r,ob,es,ep,k _ _ (.inl rfl) e,c⟩
 |dT kvs=>
  obtain⟨z,y,xs,r,ob,es,ep,e,c⟩:=x;exact⟨z,y,xs,Paired.ac4 r λp q z=>⟨z.1,ht _ _ z.2.1,z.2.2⟩,ob,es,ep,k _ _ (.inl rfl) e,c⟩
 |set S n=>obtain⟨ob,es,ep,t,e,c⟩:=x;exact⟨ob,es,ep,t,k _ _ (.inl rfl) e,c⟩
 |ins C dx fs=>
  obtain⟨d,z,ne,e,mA,⟨od,es,ep,e2,c⟩,r⟩:=x;exact⟨ho _ d,z,ne,k _ _ (.inl rfl) e,mA,⟨od,es,ep,k _ _ (.inr d) e2,c⟩,r⟩
 |own y=>obtain⟨ob,e⟩:=x;exact⟨ob,k _ _ (.inl rfl) e⟩
 |xd fs=>obtain⟨mA,⟨od,es,ep,e,c⟩,r⟩:=x;exact⟨mA,⟨od,es,ep,k _ _ (.inl rfl) e,c⟩,r⟩
 |rng lo hi=>obtain⟨t,u,v,e⟩:=x;exact⟨t,u,v,k _ _ (.inl rfl) e⟩
 |jf ob u ih=>obtain⟨e,q⟩:=x;exact⟨k _ _ (.inl rfl) e,ih q⟩
 |tW ps=>
  have e:h.get? a=some { cls:= .none,data:= .fields ps }:=x;show h'.get? a=some { cls:= .none,data:= .fields ps };exact k a _ (.inl rfl) e
 |met f y=>
  have e:h.get? a=some (LN (.ref f) (.ref y)):=x;show h'.get? a=some (LN (.ref f) (.ref y));exact k a _ (.inl rfl) e
 |ext φ=>obtain⟨p,⟨o,e⟩,st⟩:=x;exact⟨st _ _ p λo q=>k _ _ (.inl rfl) q,⟨o,k _ _ (.inl rfl) e⟩,st⟩
theorem fZ.lt(x:fZ P w H h)(e:H a=some o):a<h.objs.size:=(x a o e).lt
def fZ.fresh(x:fZ P w H h)(e:h.objs.size<=a):H a=none:=by
 cases q:H a with
 |none=>rfl
 |some u=>exact absurd (iR (x.lt q) e) (lW _)
def fZ.kept(x:fZ P w H h)(k:∀b u,h.get? b=some u->h'.get? b=some u):fZ P w H h':=λa o e=>
 (x a o e).stay (λb u _ q=>k b u q) (λ_ q=>q) λ_ _ q=>q
def fZ.laid(x:fZ P w H h)(k:∀b u,h.get? b=some u->h'.get? b=some u)(hp:h.objs.size<=a)(new:gj P w (upd H a o) h' a o):fZ P w (upd H a o) h':=λb u e=>by
 have hn:=x.fresh hp;by_cases hb:b=a
 .subst hb;rw[aD]at e;cases e;exact new
 .rw[cW hb]at e;exact(x b u e).stay (λc v _ q=>k c v q) (λc q=>by rw[cW (nj q hn)];exact q) λc xs q=>by rw[cW (nj q hn)];exact q
end
def Rd(H:Hp)(a:Addr)(u:HO):Prop:=H a=some u∨∃o,H a=some (.jf o u)
def Rd.ok{P:Program}{w:World}{H:Hp}{h:Heap}{a:Addr}{u:HO}(r:Rd H a u)(x:fZ P w H h):gj P w H h a u:=by
 rcases r with r|⟨o,r⟩
 .exact x a u r
 .obtain⟨_,q⟩:=x a _ r;exact q
def J8:Option HO->Prop
 |some (.lst _)=>True
 |some (.dK _)=>True
 |some (.dT _)=>True
 |some (.set _ _)=>True
 |some (.ins _ _ _)=>True
 |some (.ext _)=>True
 |_=>False
section
variable {P:Program} {w:World} {H:Hp} {h h':Heap} {x e:Addr} {o':HO}
def fZ.write(ok:fZ P w H h)(mu:J8 (H x))(he:e=x∨H e=some (.own x))(k:∀b u,b≠e->h.get? b=some u->h'.get? b=some u)(heo:∃u,h'.get? e=some u)
  (new:gj P w (upd H x o') h' x o'):fZ P w (upd H x o') h':=λb u q=>by
 have abb:∀c y,H c=some (.own y)->c≠x:=λc y r z=>by subst z;rw[r]at mu;exact mu
 have at4:∀c xs,H c=some (.tup xs)->c≠x:=λc xs r z=>by subst z;rw[r]at mu;exact mu
 by_cases hb:b=x
 .subst hb;rw[aD]at q;cases q;exact new
 .rw[cW hb]at q;by_cases hbe:b=e
  .have q':H b=some (.own x):=by
    rcases he with z|z
    .exact absurd (hbe.trans z) hb
    .rw[hbe];exact z
   rw[q]at q';cases q';obtain⟨v,hv⟩:=heo;exact⟨v,by rw[hbe];exact hv⟩
  .refine(ok b u q).stay (λc v hc r=>k c v ?_ r) (λc r=>by rw[cW (abb c b r)];exact r) λc xs r=>by rw[cW (at4 c xs r)];exact r
   rcases hc with rfl|hc
   .exact hbe
   .rintro rfl;rcases he with z|z
    .exact abb c b hc z
    .rw[hc]at z;cases z;exact hb rfl
end
structure Un(fs ex:List Addr)(H H':Hp)(h h':Heap):Prop where
 keep:∀b o,h.get? b=some o->H b=none->b∉fs->b∉ex->h'.get? b=some o
 slot:∀b o,h.get? b=some o->H b=none->b∈fs->b∉ex->∃sl,h'.get? b=some { o with slots:=sl }
 free:∀b o,h.get? b=some o->H b=none->b∉ex->H' b=none
 there:∀b o,h.get? b=some o->b∉ex->∃o',h'.get? b=some o'
 tups:∀b xs,H b=some (.tup xs)->H' b=some (.tup xs)
 kY:∀b o u,H b=some (.jf o u)->H' b=some (.jf o u)
 lZ:∀b ps,H b=some (.tW ps)->∃more,H' b=some (.tW (ps++more))
section
variable {fs fs' ex ex':List Addr} {H H1 H2:Hp} {h h1 h2 h':Heap} {a x e:Addr} {o:HO}
def Un.any(u:Un fs ex H H1 h h1){b:Addr}{ob:Obj}(q:h.get? b=some ob)(n:H b=none)(hx:b∉ex):∃sl,h1.get? b=some { ob with slots:=sl }:=by
 by_cases hb:b∈fs
 .exact u.slot b ob q n hb hx
 .exact⟨ob.slots,u.keep b ob q n hb hx⟩
def Un.kept(k:∀b u,h.get? b=some u->h'.get? b=some u):Un fs ex H H h h':=
 ⟨λb ob q _ _ _=>k b ob q,λb ob q _ _ _=>⟨ob.slots,k b ob q⟩,λ_ _ _ n _=>n,λb ob q _=>⟨ob,k b ob q⟩,λ_ _ q=>q,λ_ _ _ q=>q,λ_ ps q=>⟨#[],by rw[q];simp⟩⟩
def Un.refl:Un fs ex H H h h:=Un.kept λ_ _ q=>q
def Un.laid(k:∀b u,h.get? b=some u->h'.get? b=some u)(hp:h.objs.size<=a)(hn:H a=none):Un fs ex H (upd H a o) h h' where
 keep:=λb u q _ _ _=>k b u q
 slot:=λb u q _ _ _=>⟨u.slots,k b u q⟩
 free:=λb u q n _=>by rw[cW (lV (iR (dg q) hp))];exact n
 there:=λb u q _=>⟨u,k b u q⟩
 tups:=λb xs q=>by rw[cW (nj q hn)];exact q
 kY:=λb u xs q=>by rw[cW (nj q hn)];exact q
 lZ:=λb ps q=>⟨#[],by rw[cW (nj q hn),q];simp⟩
def Un.write(mu:J8 (H x))(he:e=x∨H e=some (.own x))(k:∀b u,b≠e->h.get? b=some u->h'.get? b=some u)(heo:∃u,h'.get? e=some u):Un fs ex H (upd H x o) h h':=by
 have hx:∀b,H b=none->b≠x:=λb n z=>by subst z;rw[n]at mu;exact mu
 have hb:∀b,H b=none->b≠e:=λb n z=>by
  subst z;rcases he with r|r
  .exact hx b n r
  .rw[n]at r;cases r
 have hm:∀b u,H b=some u->¬J8 (some u)->b≠x:=λb u q nm z=>by subst z;rw[q]at mu;exact nm mu
 refine⟨λb u q n _ _=>k b u (hb b n) q,λb u q n _ _=>⟨u.slots,k b u (hb b n) q⟩,λb u q n _=>by rw[cW (hx b n)];exact n,λb u q _=>?_,
  λb xs q=>by rw[cW (hm b _ q λz=>z)];exact q,λb u xs q=>by rw[cW (hm b _ q λz=>z)];exact q,λb ps q=>⟨#[],by rw[cW (hm b _ q λz=>z),q];simp⟩⟩
 by_cases hbe:b=e
 .subst hbe;exact heo
 .exact⟨u,k b u hbe q⟩
end
def Fv(h:Heap)(H:Hp):List Addr:=(d7 h.objs.size).filter λa=>(H a).isSome
def uO(h:Heap)(H:Hp):Heap:=Ja h (Fv h H)
def ane(h:Heap)(H:Hp):(uO h H).objs.size=h.objs.size:=W.hideAll_size _ _
def aiB{h:Heap}{H:Hp}{b:Addr}{o:Obj}(e:h.get? b=some o)(n:H b=none):(uO h H).get? b=some o:=
 W.hideAll_get _ e λhm=>by
  have q:(H b).isSome=true:=(rF.mp hm).2;rw[n]at q;simp at q
def ajf{h:Heap}{H:Hp}{b:Addr}{o:Obj}(e:(uO h H).get? b=some o):h.get? b=some o/\H b=none:=by
 have e':h.get? b=some o:=W.of_hideAll (Fv h H) e;refine⟨e',?_⟩;cases q:H b with
 |none=>rfl
 |some x=>
  have hm:b∈Fv h H:=rF.mpr ⟨gF.mpr (dg e'),by simp[q]⟩;have z:(uO h H).get? b=none:=W.hideAll_none (Fv h H) hm;rw[z]at e;cases e
structure Mod(K:aL)(mg:Str->Option Value)(base:Heap):Prop where
 C8:K.In base
 glob:base.Ns mainGlobals mg
 blt:∃mb,base.Ns builtinsNs mb/\∀x:Str,x≠ "__name__" -> mb x=bootBuiltins x
 nolimit:base.NoLimit
 digits:base.NoDigits
 seer:base.NoSeer
structure Cx where
 prog:Program
 w:World
 K:aL
 mg:Str->Option Value
 base:Heap
 A:Around
 N:List Str
 s₀:Shared
 H₀:Hp
 env:Env
 outer:List Env
 stack:List Env
 ex:List Addr
 fn:Str->Bool
 calm:Bool
 pn:List (Addr×Obj)
 xe:Value->Shared->Prop
def frs(l:List Env):List Addr:=l.filterMap (·.frame)
abbrev Cx.fs(X:Cx):List Addr:=frs X.outer
def FT(sc:Scope)(x:Str):Prop:=sc.names.lookup x=some .local∨sc.names.lookup x=some .cell∨sc.names.lookup x=some .free
def Loc(sc:Scope)(x:Str):Prop:=sc.names.lookup x=some .local∨sc.names.lookup x=some .cell
def Look(env:Env)(h:Heap)(m:Str->Option Value)(x:Str)(u:Value):Prop:=
 (env.kindOf x=some .local/\m x=some u)∨((env.kindOf x=some .cell∨env.kindOf x=some .free)/\∃c,env.cells.lookup x=some c/\h.IsCell c (some u))
structure Cx.Ok(X:Cx):Prop where
 mod:Mod X.K X.mg X.base
 kind:X.env.scope.kind = .function
 glob:X.env.globals=mainGlobals
 blt:X.env.builtins=builtinsNs
 above:X.s₀.heap.objs.size<=X.env.locals
 inj:∀x y c,X.env.cells.lookup x=some c->X.env.cells.lookup y=some c->x=y
 has:∀x,(X.env.kindOf x=some .cell∨X.env.kindOf x=some .free)->∃c,X.env.cells.lookup x=some c
 cab:∀x c,X.fn x=true->X.env.cells.lookup x=some c->X.s₀.heap.objs.size<=c
 hd:X.calm=true->X.A.handled=none
 frames:X.A.frames=some X.stack
 stk:X.stack=X.outer∨(X.stack=X.env::X.outer/\X.env.frame=some X.env.locals)
 QJ:∀b∈X.ex,b≠X.env.locals/\∀x c,X.env.cells.lookup x=some c->c≠b
 bs:∀b o,X.base.get? b=some o->X.s₀.heap.get? b=some o/\X.H₀ b=none
 u0:X.base.objs.size<=X.s₀.heap.objs.size
 zJ:∀b o,X.base.get? b=some o->b∉X.ex
 AX:∀b∈X.ex,b∉X.fs
 qd:X.s₀.heap.FunFrames X.base X.outer
 rZ:∀b∈X.fs,X.H₀ b=none
 tree:X.prog.given.tree=none
 top:∃e l,X.stack=e::l/\e.scope.isGenerator=false/\e.scope.isCoroutine=false/\e.builtins=builtinsNs/\e.globals=mainGlobals
structure Inv(X:Cx)(pins:List (Addr×Obj))(σ:List (Option V))(H:Hp)(s:Shared):Prop where
 ok:X.Ok
 os:s.os=X.s₀.os
 bare:AllBare s.gens
 base:Un X.fs X.ex X.H₀ H X.s₀.heap s.heap
 loc:∃m,s.heap.Ns X.env.locals m/\∀(i:Nat) (x:Str) (v:V),X.N[i]?=some x->σ[i]?=some (some v)->FT X.env.scope x->∃u,RelV v u/\Look X.env s.heap m x u
 cell:∀x c,X.env.cells.lookup x=some c->∃v,s.heap.IsCell c v
 free:H X.env.locals=none
 m9:∀x c,X.env.cells.lookup x=some c->H c=none
 pin:∀p∈X.pn++pins,s.heap.get? p.1=some p.2/\H p.1=none/\p.1≠X.env.locals/\p.1∉X.fs/\∀v,p.2.data≠ .cell v
 hok:fZ X.prog X.w H s.heap
 len:σ.length=X.N.length
section
variable {X:Cx} {pins:List (Addr×Obj)} {σ:List (Option V)} {H H':Hp} {s:Shared} {h':Heap}
section
variable {t' i:Nat}{ch:List Addr}{M:Model}{A:Around}{E:Value->Shared->Prop}{x:Str}{v:V}{u:Value}{Q:Unit->Shared->Prop}
def Cx.Ok.aoL(ok:X.Ok){b:Addr}{o:Obj}(e:X.base.get? b=some o):b∉X.fs:=λhb=>by
 have:=(ok.qd.mem hb).1;rw[e]at this;cases this
theorem Inv.bs(I:Inv X pins σ H s):∀b o,X.base.get? b=some o->s.heap.get? b=some o/\H b=none:=λb o e=>
 ⟨I.base.keep b o (I.ok.bs b o e).1 (I.ok.bs b o e).2 (I.ok.aoL e) (I.ok.zJ b o e),I.base.free b o (I.ok.bs b o e).1 (I.ok.bs b o e).2 (I.ok.zJ b o e)⟩
def Inv.bk(I:Inv X pins σ H s):∀b o,X.base.get? b=some o->s.heap.get? b=some o:=λb o e=>(I.bs b o e).1
theorem Inv.mod(I:Inv X pins σ H s):Mod X.K X.mg X.base:=I.ok.mod
def Inv.gU(I:Inv X pins σ H s):X.K.In s.heap:=I.ok.mod.C8.keeps I.bk
theorem Inv.nolimit(I:Inv X pins σ H s):s.heap.NoLimit:=I.ok.mod.nolimit.keeps I.bk
theorem Inv.lt(I:Inv X pins σ H s):X.env.locals<s.heap.objs.size:=let⟨_,hn,_⟩:=I.loc;hn.lt
def Inv.sz(I:Inv X pins σ H s):X.s₀.heap.objs.size<=s.heap.objs.size:=eO I.ok.above (fj I.lt)
def Inv.avI(I:Inv X pins σ H s){a:Addr}(h:s.heap.objs.size<=a):a∉X.fs:=λhb=>by
 obtain⟨_,o,ho,_⟩:=I.ok.qd.mem hb;exact absurd (iR (dg ho) (eO I.sz h)) (lW _)
def Inv.tZ(I:Inv X pins σ H s):∀x c,X.env.cells.lookup x=some c->c≠X.env.locals:=λx c e z=>by
 obtain⟨v,o,ho,hd⟩:=I.cell x c e;obtain⟨m,⟨o',es,ep,ho',hd',_⟩,_⟩:=I.loc;rw[z,ho']at ho;cases ho;rw[hd']at hd;cases hd
theorem Inv.qd(I:Inv X pins σ H s):s.heap.FunFrames X.base X.outer:=by
 have all:∀(l:List Env),(∀b∈frs l,b∈X.fs)->X.s₀.heap.FunFrames X.base l->s.heap.FunFrames X.base l:=by
  intro l;induction l with
  |nil=>intro _ _;trivial
  |cons env r ih=>
   intro hs hl;obtain⟨hk,⟨L,o,hf,hn,ho,hd⟩,hr⟩:=hl;have hL:L∈X.fs:=hs L (by unfold frs;rw[Nq,hf];exact mC);obtain⟨sl,e⟩:=I.base.slot L o ho (I.ok.rZ L hL) hL λz=>I.ok.AX L z hL;exact⟨hk,⟨L,_,hf,hn,e,hd⟩,ih (λb hb=>hs b (by unfold frs;rw[Nq,hf];exact jZ _ hb)) hr⟩
 exact all X.outer (λ_ hb=>hb) I.ok.qd
theorem Inv.stack(I:Inv X pins σ H s):s.heap.FunFrames X.base X.stack:=by
 rcases I.ok.stk with e|⟨e,hf⟩
 .rw[e];exact I.qd
 .rw[e];obtain⟨m,hn,_⟩:=I.loc;refine .cons (by rw[I.ok.kind];decide) hf hn ?_ I.qd;exact Heap.get?_none_of_le (eO I.ok.u0 I.ok.above)
def Inv.Ji(I:Inv X pins σ H s):∀b∈frs X.stack,b∈X.env.locals::X.fs:=λb hb=>by
 rcases I.ok.stk with e|⟨e,hf⟩
 .rw[e]at hb;exact jZ _ hb
 .rw[e]at hb;unfold frs at hb;rw[Nq,hf]at hb;exact hb
def Inv.RQ(I:Inv X pins σ H s):∀b∈frs X.stack,H b=none:=λb hb=>by
 rcases fR.mp (I.Ji b hb)with e|hb
 .rw[e];exact I.free
 .obtain⟨_,o,ho,_⟩:=I.ok.qd.mem hb;exact I.base.free b o ho (I.ok.rZ b hb) λz=>I.ok.AX b z hb
def Inv.step{g':Array GenState}{t':Nat}{d':Drawn}{ch:List Addr}(I:Inv X pins σ H s)
  (hch:∀b∈ch,(b∈X.ex∨X.s₀.heap.objs.size<=b)/\b≠X.env.locals/\(∀x c,X.env.cells.lookup x=some c->c≠b)/\∀p∈X.pn++pins,p.1≠b)
  (keep:∀b o,b≠X.env.locals->b∉X.fs->b∉ch->s.heap.get? b=some o->H b=none->h'.get? b=some o)
  (slot:∀b o,b≠X.env.locals->b∈X.fs->b∉ch->s.heap.get? b=some o->H b=none->∃sl,h'.get? b=some { o with slots:=sl }) (free:∀b o,b∉ch->s.heap.get? b=some o->H b=none->H' b=none)
  (there:∀b o,b∉ch->s.heap.get? b=some o->∃o',h'.get? b=some o')
  (tups:∀b xs,H b=some (.tup xs)->H' b=some (.tup xs)) (kY:∀b o u,H b=some (.jf o u)->H' b=some (.jf o u)) (lZ:∀b ps,H b=some (.tW ps)->∃more,H' b=some (.tW (ps++more)))
  (ns:∀m,s.heap.Ns X.env.locals m->h'.Ns X.env.locals m) (hok:fZ X.prog X.w H' h') (hg:AllBare g'):
  Inv X pins σ H' { s with heap:=h',gens:=g',drawn:=d',toks:=t' }:=by
 have neL:∀b o,X.s₀.heap.get? b=some o->b≠X.env.locals:=λb o e=>lV (iR (dg e) I.ok.above);have J5:∀b o,X.s₀.heap.get? b=some o->b∉X.ex->b∉ch:=λb o e hx hb=>by
  rcases(hch b hb).1 with z|z
  .exact hx z
  .exact absurd (iR (dg e) z) (lW _)
 have cellK:∀x c,X.env.cells.lookup x=some c->∀v,s.heap.IsCell c v->h'.IsCell c v:=λx c e v ⟨o,ho,hd⟩=>by
  have DR:c∉ch:=λz=>(hch c z).2.2.1 x c e rfl;by_cases hc:c∈X.fs
  .obtain⟨sl,q⟩:=slot c o (I.tZ x c e) hc DR ho (I.m9 x c e);exact⟨_,q,hd⟩
  .exact⟨o,keep c o (I.tZ x c e) hc DR ho (I.m9 x c e),hd⟩
 refine⟨I.ok,I.os,hg,⟨λb o e n hb hx=>?_,λb o e n hb hx=>?_,λb o e n hx=>?_,λb o e hx=>?_,λb xs e=>tups b xs (I.base.tups b xs e),λb o xs e=>kY b o xs (I.base.kY b o xs e),λb ps e=>?_⟩,?_,λx c e=>?_,?_,λx c e=>?_,λp hp=>?_,hok,I.len⟩
 .exact keep b o (neL b o e) hb (J5 b o e hx) (I.base.keep b o e n hb hx) (I.base.free b o e n hx)
 .obtain⟨sl,e1⟩:=I.base.slot b o e n hb hx;obtain⟨sl',e2⟩:=slot b _ (neL b o e) hb (J5 b o e hx) e1 (I.base.free b o e n hx);exact⟨sl',e2⟩
 .obtain⟨o',e1⟩:=I.base.there b o e hx;exact free b o' (J5 b o e hx) e1 (I.base.free b o e n hx)
 .obtain⟨o',e1⟩:=I.base.there b o e hx;exact there b o' (J5 b o e hx) e1
 .obtain⟨m1,e1⟩:=I.base.lZ b ps e;obtain⟨m2,e2⟩:=lZ b _ e1;exact⟨m1++m2,by rw[e2,WB]⟩
 .obtain⟨m,hn,hl⟩:=I.loc;refine⟨m,ns m hn,λi x v e1 e2 e3=>?_⟩;obtain⟨u,r,l⟩:=hl i x v e1 e2 e3;refine⟨u,r,?_⟩;rcases l with l|⟨k,c,e,z⟩
  .exact .inl l
  .exact .inr ⟨k,c,e,cellK x c e _ z⟩
 .obtain⟨v,z⟩:=I.cell x c e;exact⟨v,cellK x c e v z⟩
 .obtain⟨m,⟨o,_,_,ho,_⟩,_⟩:=I.loc;exact free _ o (λz=>(hch _ z).2.1 rfl) ho I.free
 .obtain⟨v,o,ho,hd⟩:=I.cell x c e;exact free c o (λz=>(hch c z).2.2.1 x c e rfl) ho (I.m9 x c e)
 .obtain⟨e,n,ne,nf,d⟩:=I.pin p hp;have DR:p.1∉ch:=λz=>(hch p.1 z).2.2.2 p hp rfl;exact⟨keep p.1 p.2 ne nf DR e n,free p.1 p.2 DR e n,ne,nf,d⟩
def Inv.un(I:Inv X pins σ H s)(u:Un X.fs [] H H' s.heap h')(hok:fZ X.prog X.w H' h'):Inv X pins σ H' { s with heap:=h',toks:=t' }:=by
 obtain⟨m,⟨o,es,ep,ho,r⟩,_⟩:=id I.loc;obtain⟨sl,hL⟩:=u.any ho I.free (by simp);exact I.step (g':=s.gens) (d':=s.drawn) (ch:=[]) (λ_ z=>nomatch z) (λb o _ hb _ e n=>u.keep b o e n hb (by simp)) (λb o _ hb _ e n=>u.slot b o e n hb (by simp)) (λb o _ e n=>u.free b o e n (by simp)) (λb o _ e=>u.there b o e (by simp)) u.tups u.kY u.lZ (λm' hm=>by
  obtain⟨o',es',ep',ho',r'⟩:=hm;rw[ho]at ho';cases ho';exact⟨_,es',ep',hL,r'⟩) hok I.bare
def Inv.call{g':Array GenState}{d':Drawn}(I:Inv X pins σ H s)(u:Un (frs X.stack) ch H H' s.heap h')(hok:fZ X.prog X.w H' h')(hg:AllBare g')
  (hch:∀b∈ch,(b∈X.ex∨X.s₀.heap.objs.size<=b)/\b≠X.env.locals/\(∀x c,X.env.cells.lookup x=some c->c≠b)/\∀p∈X.pn++pins,p.1≠b):
  Inv X pins σ H' { s with heap:=h',gens:=g',drawn:=d',toks:=t' }:=by
 obtain⟨m,⟨o,es,ep,ho,r⟩,_⟩:=id I.loc;obtain⟨sl,hL⟩:=u.any ho I.free λz=>(hch _ z).2.1 rfl;exact I.step (ch:=ch) hch (λb o hL hb hc e n=>u.keep b o e n (λz=>(fR.mp (I.Ji b z)).elim hL hb) hc) (λb o _ _ hc e n=>u.any e n hc) (λb o hc e n=>u.free b o e n hc) (λb o hc e=>u.there b o e hc) u.tups u.kY u.lZ (λm' hm=>by
  obtain⟨o',es',ep',ho',r'⟩:=hm;rw[ho]at ho';cases ho';exact⟨_,es',ep',hL,r'⟩) hok hg
def Inv.turned{it:Addr}(I:Inv X pins σ H s)(k:∀b o,b≠it->s.heap.get? b=some o->h'.get? b=some o)(hn:H it=none)(hL:it≠X.env.locals)
  (h1:it∈X.ex∨X.s₀.heap.objs.size<=it) (h2:∀x c,X.env.cells.lookup x=some c->c≠it) (h3:∀p∈X.pn++pins,p.1≠it):Inv X pins σ H { s with heap:=h',toks:=t' }:=by
 have YK:∀b u,H b=some u->b≠it:=λb u e z=>by rw[z,hn]at e;cases e
 refine I.step (g':=s.gens) (d':=s.drawn) (ch:=[it]) (λb hb=>?_) (λb o _ _ hc e _=>k b o (λz=>hc (by simp[z])) e) (λb o _ _ hc e _=>⟨o.slots,k b o (λz=>hc (by simp[z])) e⟩) (λ_ _ _ _ n=>n)
  (λb o hc e=>⟨o,k b o (λz=>hc (by simp[z])) e⟩) (λ_ _ e=>e) (λ_ _ _ e=>e) (λb ps e=>⟨#[],by rw[e];simp⟩) (λm hm=>?_) (λb u e=>?_) I.bare
 .have e:b=it:=by simpa using hb
  subst e;exact⟨h1,hL,h2,h3⟩
 .obtain⟨o,es,ep,ho,r⟩:=hm;exact⟨o,es,ep,k _ o (d9 hL) ho,r⟩
 .refine(I.hok b u e).stay (λc v hc q=>k c v ?_ q) (λ_ q=>q) λ_ _ q=>q;rcases hc with z|z
  .rw[z];exact YK b u e
  .exact YK c _ z
def Inv.tok(I:Inv X pins σ H s)(t:Nat):Inv X pins σ H { s with toks:=t }:=I.un (h':=s.heap) (t':=t) Un.refl I.hok
theorem Inv.kept{t':Nat}(I:Inv X pins σ H s)(k:∀b u,s.heap.get? b=some u->h'.get? b=some u):Inv X pins σ H { s with heap:=h',toks:=t' }:=I.un (Un.kept k) (I.hok.kept k)
theorem Inv.laid{a:Addr}{o:HO}{t':Nat}(I:Inv X pins σ H s)(k:∀b u,s.heap.get? b=some u->h'.get? b=some u)(hp:s.heap.objs.size<=a)(new:gj X.prog X.w (upd H a o) h' a o):
  Inv X pins σ (upd H a o) { s with heap:=h',toks:=t' }:=I.un (Un.laid k hp (I.hok.fresh hp)) (I.hok.laid k hp new)
theorem Inv.write{x e:Addr}{o:HO}{t':Nat}(I:Inv X pins σ H s)(mu:J8 (H x))(he:e=x∨H e=some (.own x))(k:∀b u,b≠e->s.heap.get? b=some u->h'.get? b=some u)(heo:∃u,h'.get? e=some u)
  (new:gj X.prog X.w (upd H x o) h' x o):Inv X pins σ (upd H x o) { s with heap:=h',toks:=t' }:=I.un (Un.write mu he k heo) (I.hok.write mu he k heo new)
def Inv.ac9{acf:List (Addr×Obj)}(I:Inv X pins σ H s)(h:∀p∈acf,s.heap.get? p.1=some p.2/\H p.1=none/\p.1≠X.env.locals/\p.1∉X.fs/\∀v,p.2.data≠ .cell v):Inv X acf σ H s:=
 ⟨I.ok,I.os,I.bare,I.base,I.loc,I.cell,I.free,I.m9,λp hp=>(qT.mp hp).elim (λz=>I.pin p (W0 _ z)) (h p),I.hok,I.len⟩
def Wl{N:List Str}(hN:N.Nodup){i j:Nat}{x:Str}(a:N[i]?=some x)(b:N[j]?=some x):i=j:=by
 obtain⟨h1,e1⟩:=List.getElem?_eq_some_iff.mp a;obtain⟨h2,e2⟩:=List.getElem?_eq_some_iff.mp b;exact(List.getElem_inj hN).mp (e1.trans e2.symm)
def aqv(I:Inv X pins σ H s)(hN:X.N.Nodup)(hi:X.N[i]?=some x)(hx:Loc X.env.scope x)(r:RelV v u)
  (h:∀s',Inv X pins (σ.set i (some v)) H s'->(∃a,tU a s.heap s'.heap/\(a=X.env.locals∨X.env.cells.lookup x=some a))->Q () s') (hf:X.fn x=true∨X.env.scope.names.lookup x=some .local:=by first|exact .inl rfl|exact .inr rfl|assumption):wpAny M A (storeName X.env x u) Q E s:=by
 obtain⟨m,hn,hl⟩:=id I.loc;have hcls:(X.env.scope.kind== .class||(X.env.scope.kind== .module&&X.env.locals != X.env.globals))=false:=by rw[I.ok.kind];rfl
 have hiσ:i < σ.length:=by rw[I.len];exact(List.getElem?_eq_some_iff.mp hi).1
 have tZ:=I.tZ;have tracked:∀{a:Addr} {h':Heap},(∃o,s.heap.get? a=some o/\H a=none)->tU a s.heap h'->fZ X.prog X.w H h':=λ{a h'} ha hs b ob e=>by
  obtain⟨_,_,hfree⟩:=ha;refine(I.hok b ob e).stay (λc w' hc q=>(hs.2 c ?_).trans q) (λ_ q=>q) λ_ _ q=>q;rintro rfl;rcases hc with rfl|hc
  .rw[hfree]at e;cases e
  .rw[hfree]at hc;cases hc
 rcases hx with hk|hk
 .refine wpAny_storeName_local hk hn (λh' hn' hs=>?_) hcls;obtain⟨oL,_,_,hoL,_⟩:=id hn;refine h _ ⟨I.ok,I.os,I.bare,⟨λb o e n hb hx=>?_,λb o e n hb hx=>?_,I.base.free,λb o e hx=>?_,I.base.tups,I.base.kY,I.base.lZ⟩,⟨_,hn',λj y v' e1 e2 e3=>?_⟩,λy c e=>?_,I.free,I.m9,λp hp=>?_,tracked ⟨oL,hoL,I.free⟩ hs,by simpa using I.len⟩ ⟨_,hs,.inl rfl⟩
  .exact(hs.2 b (lV (iR (dg e) I.ok.above))).trans (I.base.keep b o e n hb hx)
  .obtain⟨sl,e1⟩:=I.base.slot b o e n hb hx;exact⟨sl,(hs.2 b (lV (iR (dg e) I.ok.above))).trans e1⟩
  .obtain⟨o',e1⟩:=I.base.there b o e hx;exact⟨o',(hs.2 b (lV (iR (dg e) I.ok.above))).trans e1⟩
  .by_cases hj:j=i
   .subst hj;rw[hi]at e1;cases e1;rw[List.getElem?_set_self hiσ]at e2;cases e2;exact⟨u,r,.inl ⟨hk,by simp⟩⟩
   .rw[List.getElem?_set_ne (d9 hj)]at e2;obtain⟨u',r',q⟩:=hl j y v' e1 e2 e3;refine⟨u',r',?_⟩;rcases q with⟨k,e⟩|⟨k,c,e,z⟩
    .refine .inl ⟨k,?_⟩;have:y≠x:=λe=>hj (Wl hN e1 (e▸hi));simp[this,e]
    .exact .inr ⟨k,c,e,z.sameBut hs (tZ y c e)⟩
  .obtain⟨w',z⟩:=I.cell y c e;exact⟨w',z.sameBut hs (tZ y c e)⟩
  .obtain⟨e,n,ne,nf,d⟩:=I.pin p hp;exact⟨(hs.2 p.1 ne).trans e,n,ne,nf,d⟩
 .have hfn:X.fn x=true:=by
   rcases hf with z|z
   .exact z
   .rw[z]at hk;cases hk
  obtain⟨c,hc⟩:=I.ok.has x (.inl hk);obtain⟨w',z⟩:=I.cell x c hc;refine wpAny_storeName_cell I.ok.kind hk hc z (λh' hc' hs=>?_);obtain⟨oc,hoc,aqf⟩:=id z;refine h { s with heap:=h' } ⟨I.ok,I.os,I.bare,⟨λb o e n hb hx=>?_,λb o e n hb hx=>?_,I.base.free,λb o e hx=>?_,I.base.tups,I.base.kY,I.base.lZ⟩,⟨m,hn.sameBut hs (d9 (tZ x c hc)),λj y v' e1 e2 e3=>?_⟩,λy c' e=>?_,I.free,I.m9,λp hp=>?_,tracked ⟨oc,hoc,I.m9 x c hc⟩ hs,by simpa using I.len⟩ ⟨c,hs,.inr hc⟩
  .exact(hs.2 b (lV (iR (dg e) (I.ok.cab x c hfn hc)))).trans (I.base.keep b o e n hb hx)
  .obtain⟨sl,e1⟩:=I.base.slot b o e n hb hx;exact⟨sl,(hs.2 b (lV (iR (dg e) (I.ok.cab x c hfn hc)))).trans e1⟩
  .obtain⟨o',e1⟩:=I.base.there b o e hx;exact⟨o',(hs.2 b (lV (iR (dg e) (I.ok.cab x c hfn hc)))).trans e1⟩
  .by_cases hj:j=i
   .subst hj;rw[hi]at e1;cases e1;rw[List.getElem?_set_self hiσ]at e2;cases e2;exact⟨u,r,.inr ⟨.inl hk,c,hc,hc'⟩⟩
   .rw[List.getElem?_set_ne (d9 hj)]at e2;obtain⟨u',r',q⟩:=hl j y v' e1 e2 e3;refine⟨u',r',?_⟩;rcases q with q|⟨k,c',e,z'⟩
    .exact .inl q
    .refine .inr ⟨k,c',e,z'.sameBut hs ?_⟩;rintro rfl;exact hj (Wl hN e1 (I.ok.inj _ _ _ e hc▸hi))
  .by_cases hcc:c'=c
   .subst hcc;exact⟨_,hc'⟩
   .obtain⟨w2,z2⟩:=I.cell y c' e;exact⟨w2,z2.sameBut hs hcc⟩
  .obtain⟨e,n,ne,nf,d⟩:=I.pin p hp;refine⟨(hs.2 p.1 ?_).trans e,n,ne,nf,d⟩;intro q;rw[q,hoc]at e;have q':oc=p.2:=qZ e;exact d w' (by rw[<-q'];exact aqf)
def CN(I:Inv X pins σ H s)(hN:X.N.Nodup)(hi:X.N[i]?=some x)(hx:Loc X.env.scope x)(r:RelV v u)
  (h:∀s',Inv X pins (σ.set i (some v)) H s'->Q () s') (hf:X.fn x=true∨X.env.scope.names.lookup x=some .local:=by first|exact .inl rfl|exact .inr rfl|assumption):wpAny M A (storeName X.env x u) Q E s:=
 aqv I hN hi hx r (λs' I' _=>h s' I') hf
def Inv.agW{s':Shared}(I:Inv X pins σ H s)(ho:s'.os=s.os)(u:Un (frs X.stack) ch H H' s.heap s'.heap)(hok:fZ X.prog X.w H' s'.heap)(hg:AllBare s'.gens)
  (hch:∀b∈ch,(b∈X.ex∨X.s₀.heap.objs.size<=b)/\b≠X.env.locals/\(∀x c,X.env.cells.lookup x=some c->c≠b)/\∀p∈X.pn++pins,p.1≠b):Inv X pins σ H' s':=by
 obtain⟨h',g',d',t',o'⟩:=s';have e:o'=s.os:=ho;subst e;exact I.call (g':=g') (t':=t') (d':=d') u hok hg hch
end
end
abbrev XK:=Value->Option Addr->Hp->Prop
abbrev St:=List (Option V)
abbrev VK:=V->Hp->Prop
abbrev TE:=St->Hp->VK->Prop
abbrev TT:=St->Hp->(Bool->Hp->Prop)->Prop
abbrev TA:=St->Hp->(List V->Hp->Prop)->Prop
structure Ends where
 nx:St->Hp->Prop
 rt:VK
 bk:St->Hp->Prop:=λ_ _=>False
 ct:St->Hp->Prop:=λ_ _=>False
abbrev TS:=Ends->St->Hp->Prop
def EP(X:Cx)(pins:List (Addr×Obj))(σ:St)(Q:VK)(u:Value)(s':Shared):Prop:=∃v H',Inv X pins σ H' s'/\RelV v u/\Q v H'
def TP(X:Cx)(pins:List (Addr×Obj))(σ:St)(Q:Bool->Hp->Prop)(b:Bool)(s':Shared):Prop:=∃H',Inv X pins σ H' s'/\Q b H'
def AP(X:Cx)(pins:List (Addr×Obj))(σ:St)(Q:List V->Hp->Prop)(us:List Value)(s':Shared):Prop:=∃vs H',Inv X pins σ H' s'/\Vals vs us/\Q vs H'
def SP(X:Cx)(pins:List (Addr×Obj))(D:Ends)(f:Flow)(s':Shared):Prop:=
 match f with
 |.next=>∃σ' H',Inv X pins σ' H' s'/\D.nx σ' H'
 |.brk=>∃σ' H',Inv X pins σ' H' s'/\D.bk σ' H'
 |.cont=>∃σ' H',Inv X pins σ' H' s'/\D.ct σ' H'
 |.ret u=>∃v σ' H',Inv X pins σ' H' s'/\RelV v u/\D.rt v H'
def PE(X:Cx)(e:Expr)(t:TE):Prop:=
 ∀(pins:List (Addr×Obj)) (s:Shared) (σ:St) (H:Hp) (Q:VK),Inv X pins σ H s->t σ H Q->wpAny (model X.prog X.w) X.A (eval e X.env) (EP X pins σ Q) X.xe s
def PT(X:Cx)(e:Expr)(t:TT):Prop:=
 ∀(pins:List (Addr×Obj)) (s:Shared) (σ:St) (H:Hp) (Q:Bool->Hp->Prop),Inv X pins σ H s->t σ H Q->wpAny (model X.prog X.w) X.A (isTrue e X.env (eval e X.env)) (TP X pins σ Q) X.xe s
def PW(X:Cx)(e:Expr)(t:TT):Prop:=
 ∀(whole:Sem Value) (pins:List (Addr×Obj)) (s:Shared) (σ:St) (H:Hp) (Q:Bool->Hp->Prop),Inv X pins σ H s->t σ H Q->wpAny (model X.prog X.w) X.A (isTrue e X.env whole) (TP X pins σ Q) X.xe s
def PW.pt{X:Cx}{e:Expr}{t:TT}(h:PW X e t):PT X e t:=h _
def PA(X:Cx)(es:List Expr)(t:TA):Prop:=
 ∀(pos:Pos) (pins:List (Addr×Obj)) (s:Shared) (σ:St) (H:Hp) (Q:List V->Hp->Prop),Inv X pins σ H s->t σ H Q->wpAny (model X.prog X.w) X.A (spliced (backTo pos (starEach es X.env))) (AP X pins σ Q) X.xe s
def PS(X:Cx)(st:Stmt)(t:TS):Prop:=
 ∀(pins:List (Addr×Obj)) (s:Shared) (σ:St) (H:Hp) (D:Ends),Inv X pins σ H s->t D σ H->wpAny (model X.prog X.w) X.A (exec st X.env) (SP X pins D) X.xe s
def jE(X:Cx)(st:List Stmt)(t:TS):Prop:=
 ∀(pins:List (Addr×Obj)) (s:Shared) (σ:St) (H:Hp) (D:Ends),Inv X pins σ H s->t D σ H->wpAny (model X.prog X.w) X.A (execs st X.env) (SP X pins D) X.xe s
def bw{α:Type}{t:Sem α}{Q Q':α->Shared->Prop}{M:Model}{A:Around}{E:Value->Shared->Prop}{s:Shared}(h:wpAny M A t Q E s)(hQ:∀a s,Q a s->Q' a s):wpAny M A t Q' E s:=wpAny_mono h hQ λ_ _ x=>x
section
variable {X:Cx}
section
variable {x:Str}{pos:Pos}{E Q:Value->Shared->Prop}{pins:List (Addr×Obj)}{s:Shared}{σ:St}{H:Hp}{u:Value}{v:V}
inductive axN(i:Nat)(σ:St)(H:Hp)(Q:VK):Prop|mk (z:V) (h:σ[i]?=some (some z)) (q:Q z H)
def adX(i:Nat):TE:=λσ H Q=>axN i σ H Q
def tC(v:V):TE:=λ_ H Q=>Q v H
def awZ{i:Nat}(hN:X.N[i]?=some x)(hv:FT X.env.scope x)(hd:(x==("__debug__" : Str))=false:=by decide)(hcd:(x==("__classdict__" : Str))=false:=by decide):PE X (.Name x pos) (adX i):=by
 intro pins s σ H Q I h;obtain⟨v,e,h⟩:=h;obtain⟨m,hn,hl⟩:=I.loc;obtain⟨u,r,l⟩:=hl i x v hN e hv;have fin:EP X pins σ Q u s:=⟨v,H,I,r,h⟩;rcases l with⟨hk,hm⟩|⟨hk,c,hc,hcell⟩
 .exact wpAny_Name (wpAny_loadName_local I.ok.kind hk hn hm fin) hd
 .rcases hk with hk|hk
  .exact wpAny_Name (wpAny_loadName_cell I.ok.kind hk hc hcell fin) hd
  .exact wpAny_Name (wpAny_loadName_free I.ok.kind hk hc hcell fin hcd) hd
def ao{i j pos}:PE X (.Constant (.int i) j pos) (tC (.int i)):=λ_ _ _ H _ I h=>wpAny_Constant_int ⟨.int i,H,I.tok _,⟨_,rfl⟩,h⟩
def sG{b j pos}:PE X (.Constant (.bool b) j pos) (tC (.bl b)):=λ_ _ _ H _ I h=>Constant_bool ⟨.bl b,H,I,rfl,h⟩
def J3{j pos}:PE X (.Constant .none j pos) (tC .non):=λ_ _ _ H _ I h=>Constant_none ⟨.non,H,I,rfl,h⟩
def Dd{x j pos}:PE X (.Constant (.str x) j pos) (tC (.str x)):=λ_ _ _ H _ I h=>Calls.Constant_str ⟨.str x,H,I.tok _,⟨_,rfl⟩,h⟩
def Gl(X:Cx)(x:Str):Prop:=X.env.kindOf x=some .globalImplicit
def Dc(I:Inv X pins σ H s)(hg:Gl X x)(hm:X.mg x=some u)(h:Q u s)
  (hd:(x==("__debug__" : Str))=false:=by decide):wpAny (model X.prog X.w) X.A (eval (.Name x pos) X.env) Q E s:=
 agc I.ok.kind hg (Calls.loadGlobal_global (by rw[I.ok.glob];exact I.mod.glob.keeps I.bk) hm h) hd
def wJ(I:Inv X pins σ H s)(hg:Gl X x)(hm:X.mg x=none)(hv:bootBuiltins x=some u)(h:Q u s)
  (hn:x≠ "__name__" := by decide) (hd:(x==("__debug__" : Str))=false:=by decide):wpAny (model X.prog X.w) X.A (eval (.Name x pos) X.env) Q E s:=by
 obtain⟨mb,h1,h2⟩:=I.mod.blt;exact agc I.ok.kind hg (Calls.loadGlobal_builtin (by rw[I.ok.glob];exact I.mod.glob.keeps I.bk) hm (by rw[I.ok.blt];exact h1.keeps I.bk) ((h2 x hn).trans hv) h) hd
def Qi(hg:Gl X x)(hm:X.mg x=some u)(r:RelV v u)(hd:(x==("__debug__" : Str))=false:=by decide):PE X (.Name x pos) (tC v):=
 λ_ _ _ H _ I h=>Dc I hg hm ⟨v,H,I,r,h⟩ hd
def alP(hg:Gl X x)(hm:X.mg x=none)(hv:bootBuiltins x=some u)(r:RelV v u)(hn:x≠ "__name__" := by decide)(hd:(x==("__debug__" : Str))=false:=by decide):PE X (.Name x pos) (tC v):=
 λ_ _ _ H _ I h=>wJ I hg hm hv ⟨v,H,I,r,h⟩ hn hd
end
variable {a b:Expr} {ta tb:TE} {pos:Pos}
def PC(X:Cx)(op:CmpOp)(a b:Expr)(t:TE):Prop:=
 ∀(pins:List (Addr×Obj)) (s:Shared) (σ:St) (H:Hp) (Q:VK),Inv X pins σ H s->t σ H Q->
  wpAny (model X.prog X.w) X.A (eval a X.env) (λv s₁=>wpAny (model X.prog X.w) X.A (eval b X.env) (λu s₂=>wpAny (model X.prog X.w) X.A (compareOp op v u) (EP X pins σ Q) X.xe s₂) X.xe s₁) X.xe s
def ag4(b:Expr){op:CmpOp}(h:op≠ .In)(h2:op≠ .NotIn):behindInMarks op b=false:=by
 have e1:(op==CmpOp.In)=false:=by cases op<;>first|rfl|exact absurd rfl h
 have e2:(op==CmpOp.NotIn)=false:=by cases op<;>first|rfl|exact absurd rfl h2
 cases b<;>simp[behindInMarks,e1,e2]
def at3(ta:TE):TE:=λσ H Q=>ta σ H λx H1=>Q (.bl (decide (x = .non))) H1
def ajc(ta:TE):TE:=λσ H Q=>ta σ H λx H1=>Q (.bl (!decide (x = .non))) H1
def RelV.Xw{x:V}{v:Value}(r:RelV x v):(v==Value.none)=decide (x = .non):=by
 cases x with
 |non=>cases r;rfl
 |bl _=>cases r;rfl
 |int _=>obtain⟨t,rfl⟩:=r;rfl
 |str _=>obtain⟨t,rfl⟩:=r;rfl
 |j6 _=>obtain⟨t,rfl⟩:=r;rfl
 |flt _=>obtain⟨t,rfl⟩:=r;rfl
 |ref _=>cases r;rfl
 |ty _=>cases r;rfl
def awI{j pos'}(ha:PE X a ta):PC X .Is a (.Constant .none j pos') (at3 ta):=by
 intro pins s σ H Q I h;refine bw (ha pins s σ H _ I h) λv s1 ⟨x,H1,I1,r1,q1⟩=>?_;exact Constant_none (is_none_gen ⟨.bl _,H1,I1,by rw[r1.Xw];rfl,q1⟩)
def adE{j pos'}(ha:PE X a ta):PC X .IsNot a (.Constant .none j pos') (ajc ta):=by
 intro pins s σ H Q I h;refine bw (ha pins s σ H _ I h) λv s1 ⟨x,H1,I1,r1,q1⟩=>?_;exact Constant_none (isnot_none_gen ⟨.bl _,H1,I1,by rw[r1.Xw];rfl,q1⟩)
def tB(t:TE):TT:=λσ H Q=>t σ H λx H1=>∃c,x = .bl c/\Q c H1
def az4{op:CmpOp}{t:TE}(h:PC X op a b t)(h1:behindInMarks op b=false:=by first|exact ag4 _ ∅ ∅ | rfl):PE X (.Compare a [op] [b] pos) t:=λpins s σ H Q I hw=>wpAny_Compare1 (h pins s σ H Q I hw) h1
def Uc{op:CmpOp}{t:TE}(h:PC X op a b t)(h1:behindInMarks op b=false:=by first|exact ag4 _ ∅ ∅ | rfl):PT X (.Compare a [op] [b] pos) (tB t):=by
 intro pins s σ H Q I hw;refine wpAny_isTrue_Compare1 (bw (h pins s σ H _ I hw) λv s1 h1=>bw h1 λu s2 h2=>bw h2 λc s3 ⟨x,H1,I1,r1,q1⟩=>?_) h1;obtain⟨d,rfl,q⟩:=q1;cases r1;exact wpAny_truthy_bool ⟨H1,I1,q⟩
def zf{e:Expr}{t:TE}(h:PE X e t)(he:∀whole,isTrue e X.env whole=(do let v<-whole;standAt e.pos;holding [v] (truthy v)):=by intro _;rfl):PT X e (tB t):=by
 intro pins s σ H Q I hw;refine isTrue_plain (bw (h pins s σ H _ I hw) λv s1 ⟨x,H1,I1,r1,q1⟩=>?_) (he _);obtain⟨d,rfl,q⟩:=q1;cases r1;exact wpAny_truthy_bool ⟨H1,I1,q⟩
variable {tA Jz:TT} {rest:List Expr}
def ayz(t u:TT):TT:=λσ H Q=>t σ H λc H1=>if c=true then u σ H1 Q else Q false H1
def tOr(t u:TT):TT:=λσ H Q=>t σ H λc H1=>if c=true then Q true H1 else u σ H1 Q
def akA(t:TT):TT:=λσ H Q=>t σ H λc H1=>Q (!c) H1
def Lw(ha:PT X a tA):PW X (.BoolOp .And [a] pos) tA:=by
 intro wh pins s σ H Q I h;refine isTrue_and (bw (ha pins s σ H Q I h) λc s1 e=>?_);cases c with
 |true=>exact isTrue_and_nil e
 |false=>exact e
def Ij(ha:PT X a tA):PW X (.BoolOp .Or [a] pos) tA:=by
 intro wh pins s σ H Q I h;refine isTrue_or (bw (ha pins s σ H Q I h) λc s1 e=>?_);cases c with
 |false=>exact isTrue_or_nil e
 |true=>exact e
def Hf(ha:PT X a tA)(hb:PW X (.BoolOp .And (b::rest) pos) Jz):PW X (.BoolOp .And (a::b::rest) pos) (ayz tA Jz):=by
 intro wh pins s σ H Q I h;refine isTrue_and (bw (ha pins s σ H _ I h) λc s1 ⟨H1,I1,q1⟩=>?_);cases c with
 |true=>exact hb wh pins s1 σ H1 Q I1 q1
 |false=>exact⟨H1,I1,q1⟩
def vU(ha:PT X a tA)(hb:PW X (.BoolOp .Or (b::rest) pos) Jz):PW X (.BoolOp .Or (a::b::rest) pos) (tOr tA Jz):=by
 intro wh pins s σ H Q I h;refine isTrue_or (bw (ha pins s σ H _ I h) λc s1 ⟨H1,I1,q1⟩=>?_);cases c with
 |true=>exact⟨H1,I1,q1⟩
 |false=>exact hb wh pins s1 σ H1 Q I1 q1
def DK(ha:PT X a tA):PT X (.UnaryOp .Not a pos) (akA tA):=by
 intro pins s σ H Q I h;exact isTrue_not (ha pins s σ H (λc H1=>Q (!c) H1) I h)
def tIf(t:TT)(ta tb:TE):TE:=λσ H Q=>t σ H λc H1=>if c=true then ta σ H1 Q else tb σ H1 Q
def Ou{c:Expr}(hc:PT X c tA)(ha:PE X a ta)(hb:PE X b tb):PE X (.IfExp c a b pos) (tIf tA ta tb):=by
 intro pins s σ H Q I h;refine wpAny_IfExp (bw (hc pins s σ H _ I h) λd s1 ⟨H1,I1,q1⟩=>?_);cases d with
 |true=>exact ha pins s1 σ H1 Q I1 q1
 |false=>exact hb pins s1 σ H1 Q I1 q1
end
def aA(K:aL)(H:Hp)(a:Addr)(xs:List V):Prop:=
 Rd H a (.lst xs)∨
  ∃(o:Obj) (its:Array Value) (n:Nat),K.lookup a=some o/\o.cls = .type "list" /\ o.dict=none/\o.data = .seq its n/\its.size<=sizeLine/\Vals xs its.toList
def aB(K:aL)(H:Hp)(a:Addr)(xs:List V):Prop:=
 Rd H a (.tup xs)∨
  ∃(o:Obj) (its:Array Value) (n:Nat),K.lookup a=some o/\o.cls = .type "tuple" /\ o.data = .seq its n/\its.size<=sizeLine/\Vals xs its.toList
def axq:Value->Option V
 |.none=>some .non
 |.bool b=>some (.bl b)
 |.int i _=>some (.int i)
 |.str x _=>some (.str x)
 |.bytes b _=>some (.j6 b)
 |.float b _=>some (.flt b)
 |.ref a=>some (.ref a)
 |.type n=>some (.ty n)
 |_=>none
def RelV.abs{x:V}{u:Value}(r:RelV x u):axq u=some x:=by
 cases x with
 |non=>cases r;rfl
 |bl _=>cases r;rfl
 |int _=>obtain⟨t,rfl⟩:=r;rfl
 |str _=>obtain⟨t,rfl⟩:=r;rfl
 |j6 _=>obtain⟨t,rfl⟩:=r;rfl
 |flt _=>obtain⟨t,rfl⟩:=r;rfl
 |ref _=>cases r;rfl
 |ty _=>cases r;rfl
theorem RelV.inj{x y:V}{u:Value}(r:RelV x u)(q:RelV y u):x=y:=qZ (r.abs.symm.trans q.abs)
theorem Vals.inj{xs ys:List V}{us:List Value}(h:Vals xs us)(h':Vals ys us):xs=ys:=by
 induction h generalizing ys with
 |nil=>cases h';rfl
 |cons r t ih=>
  cases h' with
  |cons r' t'=>rw[r.inj r',ih t']
section
variable {X:Cx} {pins:List (Addr×Obj)} {σ:St} {H:Hp} {s:Shared} {a:Addr} {xs ys:List V}
def aA.of{K:aL}(h:H a=some (.lst xs)):aA K H a xs:= .inl (.inl h)
def aB.of{K:aL}(h:H a=some (.tup xs)):aB K H a xs:= .inl (.inl h)
def Inv.list(I:Inv X pins σ H s)(h:aA X.K H a xs):∃its:List Value,Vals xs its/\PlainL s.heap a its.toArray/\xs.length<=sizeLine:=by
 rcases h with h|⟨o,its,n,hk,hc,hd,hs,hz,r⟩
 .obtain⟨z,its,n,r,e⟩:=h.ok I.hok;exact⟨its,r,⟨_,n,e,rfl,rfl,rfl⟩,z⟩
 .refine⟨its.toList,r,⟨o,n,I.gU a o hk,hc,hd,by simpa using hs⟩,?_⟩;have e:=r.length;simp only[Ml]at e;lia
def Inv.tuple(I:Inv X pins σ H s)(h:aB X.K H a xs):∃its:List Value,Vals xs its/\IsTup s.heap a its.toArray/\xs.length<=sizeLine:=by
 rcases h with h|⟨o,its,n,hk,hc,hs,hz,r⟩
 .obtain⟨z,its,r,p⟩:=h.ok I.hok;exact⟨its,r,p,z⟩
 .refine⟨its.toList,r,⟨o,I.gU a o hk,hc,n,by simpa using hs⟩,?_⟩;have e:=r.length;simp only[Ml]at e;lia
def Inv.ahr(I:Inv X pins σ H s)(h:aA X.K H a xs)(h':aA X.K H a ys):xs=ys:=by
 obtain⟨its,r,⟨o,n,e,_,_,d⟩,_⟩:=I.list h;obtain⟨its',r',⟨o',n',e',_,_,d'⟩,_⟩:=I.list h';rw[e]at e';cases e';rw[d]at d';injection d' with d1 _;have:its=its':=by simpa using congrArg af6 d1
 subst this;exact r.inj r'
def Inv.abl(I:Inv X pins σ H s)(h:aB X.K H a xs)(h':aB X.K H a ys):xs=ys:=by
 obtain⟨its,r,⟨o,e,_,n,d⟩,_⟩:=I.tuple h;obtain⟨its',r',⟨o',e',_,n',d'⟩,_⟩:=I.tuple h';rw[e]at e';cases e';rw[d]at d';injection d' with d1 _;have:its=its':=by simpa using congrArg af6 d1
 subst this;exact r.inj r'
end
abbrev Cx.wish(X:Cx)(E:Value->Shared->Prop):Cx:={ X with xe:=E }
abbrev Cx.Ai(X:Cx):Cx:=X.wish λ_ _=>False
theorem Cx.Ok.wish{X:Cx}(ok:X.Ok)(E:Value->Shared->Prop):(X.wish E).Ok:=
 ⟨ok.mod,ok.kind,ok.glob,ok.blt,ok.above,ok.inj,ok.has,ok.cab,ok.hd,ok.frames,ok.stk,ok.QJ,ok.bs,ok.u0,ok.zJ,ok.AX,ok.qd,ok.rZ,ok.tree,ok.top⟩
def Cx.Ok.uG{X:Cx}{E:Value->Shared->Prop}(ok:(X.wish E).Ok):X.Ok:=
 ⟨ok.mod,ok.kind,ok.glob,ok.blt,ok.above,ok.inj,ok.has,ok.cab,ok.hd,ok.frames,ok.stk,ok.QJ,ok.bs,ok.u0,ok.zJ,ok.AX,ok.qd,ok.rZ,ok.tree,ok.top⟩
section
variable {X:Cx} {pins:List (Addr×Obj)} {σ:St} {H:Hp} {s:Shared} {E:Value->Shared->Prop}
theorem Inv.wish(I:Inv X pins σ H s)(E:Value->Shared->Prop):Inv (X.wish E) pins σ H s:=⟨I.ok.wish E,I.os,I.bare,I.base,I.loc,I.cell,I.free,I.m9,I.pin,I.hok,I.len⟩
theorem Inv.uG(I:Inv (X.wish E) pins σ H s):Inv X pins σ H s:=⟨I.ok.uG,I.os,I.bare,I.base,I.loc,I.cell,I.free,I.m9,I.pin,I.hok,I.len⟩
theorem SP.uG{D:Ends}{f:Flow}{s':Shared}(h:SP (X.wish E) pins D f s'):SP X pins D f s':=by
 cases f with
 |next=>obtain⟨σ',H',I,q⟩:=h;exact⟨σ',H',I.uG,q⟩
 |brk=>obtain⟨σ',H',I,q⟩:=h;exact⟨σ',H',I.uG,q⟩
 |cont=>obtain⟨σ',H',I,q⟩:=h;exact⟨σ',H',I.uG,q⟩
 |ret u=>obtain⟨v,σ',H',I,r,q⟩:=h;exact⟨v,σ',H',I.uG,r,q⟩
theorem jE.Ai{st:List Stmt}{t:TS}(h:jE X.Ai st t):jE X st t:=λpins s σ H D I hw=>
 wpAny_mono (h pins s σ H D (I.wish _) hw) (λ_ _ q=>q.uG) λ_ _ z=>False.elim z
end
section
variable {X:Cx} {st:Stmt} {rest:List Stmt} {t u:TS} {e:Expr} {te:TE} {pos:Pos}
def au1:TS:=λD σ H=>D.nx σ H
def ado(t u:TS):TS:=λD σ H=>t { D with nx:=u D } σ H
def cR:jE X [] au1:=λ_ _ σ H _ I h=>wpAny_execs_nil ⟨σ,H,I,h⟩
def au(h1:PS X st t)(h2:jE X rest u):jE X (st::rest) (ado t u):=by
 intro pins s σ H D I h;refine wpAny_execs_cons (bw (h1 pins s σ H { D with nx:=u D } I h) λf s1 q=>?_);cases f with
 |next=>
  obtain⟨σ',H',I',q⟩:=q;exact h2 pins s1 σ' H' D I' q
 |ret v=>exact q
 |brk=>exact q
 |cont=>exact q
def aC(h1:PS X st t):jE X [st] t:=by
 intro pins s σ H D I h;refine wpAny_execs_cons (bw (h1 pins s σ H D I h) λf s1 q=>?_);cases f with
 |next=>exact wpAny_execs_nil q
 |ret v=>exact q
 |brk=>exact q
 |cont=>exact q
def Inv.quiet{pins:List (Addr×Obj)}{σ:St}{H:Hp}{s:Shared}(I:Inv X pins σ H s):interactive X.env=false:=by simp[interactive,I.ok.kind]
def aq1(te:TE):TS:=λD σ H=>te σ H λ_ H1=>D.nx σ H1
def jm(he:PE X e te)(hs:swapsWith e none pos.line X.env=pure false:=by rfl):PS X (.Expr e pos) (aq1 te):=by
 intro pins s σ H D I h;exact wpAny_Expr_any (bw (he pins s σ H _ I h) λv s1 ⟨x,H1,I1,r1,q1⟩=>⟨σ,H1,I1,q1⟩) I.quiet hs
def aqb(te:TE):TS:=λD σ H=>te σ H D.rt
def aP(he:PE X e te):PS X (.Return (some e) pos) (aqb te):=by
 intro pins s σ H D I h;exact wpAny_Return_some (bw (he pins s σ H _ I h) λv s1 ⟨x,H1,I1,r1,q1⟩=>⟨x,σ,H1,I1,r1,q1⟩)
def anx(c:TT)(t u:TS):TS:=λD σ H=>c σ H λb H1=>if b=true then t D σ H1 else u D σ H1
def cO{c:Expr}{a b:List Stmt}{tc:TT}(hc:PT X c tc)(ha:jE X a t)(hb:jE X b u):PS X (.If c a b pos) (anx tc t u):=by
 intro pins s σ H D I h;refine wpAny_If (bw (hc pins s σ H _ I h) λd s1 ⟨H1,I1,q1⟩=>?_);cases d with
 |true=>exact ha pins s1 σ H1 D I1 q1
 |false=>exact hb pins s1 σ H1 D I1 q1
def ax4:TS:=λ_ _ _=>False
def D5:PS X st ax4:=λ_ _ _ _ _ _ h=>h.elim
end
abbrev TG:=V->St->Hp->(St->Hp->Prop)->Prop
abbrev u5:=List V->St->Hp->(St->Hp->Prop)->Prop
def PG(X:Cx)(target:Expr)(t:TG):Prop:=
 ∀(pins:List (Addr×Obj)) (s:Shared) (σ:St) (H:Hp) (v:V) (u:Value) (Q:St->Hp->Prop),Inv X pins σ H s->RelV v u->t v σ H Q->
  wpAny (model X.prog X.w) X.A (assign target X.env u) (λ_ s'=>∃σ' H',Inv X pins σ' H' s'/\Q σ' H') X.xe s
def zY(X:Cx)(ts:List Expr)(t:u5):Prop:=
 ∀(pins:List (Addr×Obj)) (s:Shared) (σ:St) (H:Hp) (vs:List V) (us:List Value) (Q:St->Hp->Prop),Inv X pins σ H s->Vals vs us->t vs σ H Q->
  wpAny (model X.prog X.w) X.A (assignInOrder ((assignEach ts X.env).map (·.2)) us) (λ_ s'=>∃σ' H',Inv X pins σ' H' s'/\Q σ' H') X.xe s
abbrev Qm:=V->V->V->Hp->(Hp->Prop)->Prop
def Xh(X:Cx)(t:Qm):Prop:=
 ∀(pins:List (Addr×Obj)) (s:Shared) (σ:St) (H:Hp) (o i v:V) (ov iv u:Value) (Q:Hp->Prop),Inv X pins σ H s->RelV o ov->RelV i iv->RelV v u->t o i v H Q->
  wpAny (model X.prog X.w) X.A (setItem ov iv u) (λ_ s'=>∃H',Inv X pins σ H' s'/\Q H') X.xe s
section
variable {X:Cx} {pos:Pos}
def iQ(i:Nat):TG:=λv σ H Q=>Q (σ.set i (some v)) H
def JR{i:Nat}{x:Str}(hN:X.N.Nodup)(hi:X.N[i]?=some x)(hx:Loc X.env.scope x)(hf:X.fn x=true∨X.env.scope.names.lookup x=some .local:=by first|exact .inl rfl|exact .inr rfl|assumption):PG X (.Name x pos) (iQ i):=by
 intro pins s σ H v u Q I r h;exact wpAny_assign_Name (CN I hN hi hx r (λs' I'=>⟨_,H,I',h⟩) hf)
def Vo:u5:=λvs σ H Q=>vs=[]/\Q σ H
inductive awy(t:TG)(u:u5)(vs:List V)(σ:St)(H:Hp)(Q:St->Hp->Prop):Prop|mk (v:V) (r:List V) (h:vs=v::r) (q:t v σ H λσ' H'=>u r σ' H' Q)
def Cz(t:TG)(u:u5):u5:=λvs σ H Q=>awy t u vs σ H Q
def xr:zY X [] Vo:=by
 intro pins s σ H vs us Q I r h;obtain⟨e,h⟩:=h;subst e;cases r;exact assignInOrder_nil ⟨σ,H,I,h⟩
def mO{e:Expr}{es:List Expr}{t:TG}{u:u5}(h1:PG X e t)(h2:zY X es u)
  (hs:(assignEach (e::es) X.env).map (·.2)=assign e X.env::(assignEach es X.env).map (·.2):=by rfl):zY X (e::es) (Cz t u):=by
 intro pins s σ H vs us Q I r h;obtain⟨v,vr,e1,h⟩:=h;subst e1;cases r with
 |cons r rr=>
  rw[hs];refine assignInOrder_cons (bw (h1 pins s σ H _ _ _ I r h) λ_ s1 ⟨σ1,H1,I1,q1⟩=>?_);exact h2 pins s1 σ1 H1 _ _ Q I1 rr q1
def Lx(K:aL)(n:Nat)(t:u5):TG:=λv σ H Q=>∃a xs,v = .ref a/\aB K H a xs/\xs.length=n/\t xs σ H Q
def aor{es:List Expr}{k:Nat}{t:u5}{n:Nat}(hc:X.calm=true)(h:zY X es t)
  (hn:(assignEach es X.env).length=n:=by rfl) (hst:(assignEach es X.env).findIdx? (·.1)=none:=by rfl):PG X (.Tuple es k pos) (Lx X.K n t):=by
 intro pins s σ H v u Q I r hw;obtain⟨a,xs,e1,hq,hl,hw⟩:=hw;subst e1;cases r;obtain⟨its,rv,ht,hz⟩:=I.tuple hq;refine assign_Tuple_tuple (I.ok.hd hc) ht (by simp[hn,<-hl,rv.length]) hst λh' hx=>?_;have I1:Inv X pins σ H { s with heap:=h' }:=I.kept (t':=s.toks) λb o e=>hx b o (lV (dg e)) e;exact h pins _ σ H xs _ Q I1 (by simpa using rv) hw
def am2(to ti:TE)(t:Qm):TG:=λv σ H Q=>to σ H λo H1=>ti σ H1 λi H2=>t o i v H2 λH3=>Q σ H3
def uI{o i:Expr}{to ti:TE}{t:Qm}(ho:PE X o to)(hi:PE X i ti)(hs:Xh X t)
  (ha:∀v,assign (.Subscript o i pos) X.env v=(do
   let ov<-holding [v] (eval o X.env)
   let iv<-holding [v,ov] (eval i X.env)
   standAt pos
   holding [v,ov,iv] (setItem ov iv v)
   release [v,ov,iv] []):=by intro _;rfl):PG X (.Subscript o i pos) (am2 to ti t):=by
 intro pins s σ H v u Q I r h;rw[ha];refine wpAny_bind (wpAny_holding (bw (ho pins s σ H _ I h) λov s1 ⟨x,H1,I1,r1,q1⟩=>?_));refine wpAny_bind (wpAny_holding (bw (hi pins s1 σ H1 _ I1 q1) λiv s2 ⟨y,H2,I2,r2,q2⟩=>?_));refine wpAny_bind (wpAny_standAt (wpAny_bind (wpAny_holding (bw (hs pins s2 σ H2 x y v ov iv u _ I2 r1 r2 r q2) λ_ s3 ⟨H3,I3,q3⟩=>?_))));exact wpAny_release ⟨σ,H3,I3,q3⟩
def Gb(te:TE)(g:TG):TS:=λD σ H=>te σ H λx H1=>g x σ H1 D.nx
def pZ{tg e:Expr}{te:TE}{g:TG}(he:PE X e te)(hg:PG X tg g)(hs:swapsWithSole [tg] e pos.line X.env=pure false:=by rfl)(hw:swappedStores [tg] e X.env=pure none:=by rfl)
  (h1:(assignEach [tg] X.env).map (·.2)=[assign tg X.env]:=by rfl):PS X (.Assign [tg] e pos) (Gb te g):=by
 intro pins s σ H D I h;refine wpAny_Assign_stores (bw (he pins s σ H _ I h) λv s1 ⟨x,H1,I1,r1,q1⟩=>?_) hs hw;rw[h1];exact bw (hg pins s1 σ H1 x v _ I1 r1 q1) λ_ s2 q=>q
def fL{i:Nat}{x:Str}{e:Expr}{te:TE}{pos':Pos}(hN:X.N.Nodup)(hi:X.N[i]?=some x)(hx:Loc X.env.scope x)(he:PE X e te)(hs:swapsWith e (some (.Name x pos')) pos.line X.env=pure false:=by rfl)(hf:X.fn x=true∨X.env.scope.names.lookup x=some .local:=by first|exact .inl rfl|exact .inr rfl|assumption):
  PS X (.Assign [.Name x pos'] e pos) (Gb te (iQ i)):=by
 intro pins s σ H D I h;refine wpAny_Assign_Name (bw (he pins s σ H _ I h) λv s1 ⟨y,H1,I1,r1,q1⟩=>?_) hs;exact CN I1 hN hi hx r1 (λs2 I2=>⟨_,H1,I2,q1⟩) hf
end
section
variable {X:Cx} {pos:Pos}
def auV(c:TT)(tb:TS):TS:=λD σ H=>∃W:Nat->St->Hp->Prop,(∃m,W m σ H)/\∀m σ H,W m σ H->
 c σ H λb H1=>if b=true then ∃N:St->Hp->Prop,(∀σ' H',N σ' H'->∃m',m'<m/\W m' σ' H')/\tb { D with nx:=N,ct:=N,bk:=D.nx } σ H1 else D.nx σ H1
def sW{c:Expr}{body:List Stmt}{tc:TT}{tb:TS}(hp:PassesOwn (model X.prog X.w) X.A X.env X.xe)(hc:PT X c tc)(hb:jE X body tb):PS X (.While c body [] pos) (auV tc tb):=by
 intro pins s σ H D I h;obtain⟨W,⟨m0,w0⟩,turn⟩:=h;refine wpAny_While (codeAny_whileLoop (λn s'=>∃σ' H',Inv X pins σ' H' s'/\W n σ' H') ?_ m0 ⟨σ,H,I,w0⟩);rintro n s1 ⟨σ1,H1,I1,w1⟩;refine wpAny_passesOwn hp (bw (hc pins s1 σ1 H1 _ I1 (turn n σ1 H1 w1)) λb s2 ⟨H2,I2,q2⟩=>?_);cases b with
 |true=>
  obtain⟨N,hN,q2⟩:=q2;rw[if_pos rfl];refine wpAny_passesOwn hp (bw (hb pins s2 σ1 H2 _ I2 q2) λf s3 q3=>?_);cases f with
  |next=>
   obtain⟨σ3,H3,I3,n3⟩:=q3;obtain⟨m',hm,w3⟩:=hN σ3 H3 n3;exact⟨m',hm,σ3,H3,I3,w3⟩
  |cont=>
   obtain⟨σ3,H3,I3,n3⟩:=q3;obtain⟨m',hm,w3⟩:=hN σ3 H3 n3;exact⟨m',hm,σ3,H3,I3,w3⟩
  |brk=>exact q3
  |ret v=>exact q3
 |false=>
  rw[if_neg fX];exact wpAny_execs_nil ⟨σ1,H2,I2,q2⟩
end
section
variable {s:Shared}{tg:Expr}{P:Program}{w:World}{K:aL}
structure It where
 go:Nat->Hp->Prop
 mq:Nat->Hp->V->Hp->Prop
 stop:Nat->Hp->Prop
def qI(X:Cx)(pins:List (Addr×Obj))(H:Hp)(b:Addr):Prop:=
 H b=none/\b≠X.env.locals/\b∉X.fs/\(b∈X.ex∨X.s₀.heap.objs.size<=b)/\(∀x c,X.env.cells.lookup x=some c->c≠b)/\∀p∈X.pn++pins,p.1≠b
def Inv.uD{X:Cx}{pins:List (Addr×Obj)}{σ:St}{H H':Hp}{b:Addr}(I:Inv X pins σ H s)(hb:s.heap.objs.size<=b)(hn:H' b=none):qI X pins H' b:=by
 refine⟨hn,FP (iR I.lt hb),I.avI hb,.inr (eO I.sz hb),λx c e z=>?_,λp hp z=>?_⟩
 .obtain⟨v,q⟩:=I.cell x c e;exact absurd (iR q.lt (by rw[z];exact hb)) (lW _)
 .exact absurd (iR (dg (I.pin p hp).1) (by rw[z];exact hb)) (lW _)
structure Turn(P:Program)(w:World)(K:aL)(tg:Expr)(J:It)(fp:List Addr)(it:Addr)(tn:Nat->Heap->Prop):Prop where
 mem:it∈fp
 obj:∀i h,tn i h->∀b∈fp,∃o,h.get? b=some o/\∀v,o.data≠ .cell v
 keep:∀i h h',tn i h->(∀b∈fp,∀o,h.get? b=some o->h'.get? b=some o)->tn i h'
 item:∀(X:Cx),X.prog=P->X.w=w->X.K=K->X.calm=true->∀(i:Nat) (pins:List (Addr×Obj)) (s:Shared) (σ:St) (H:Hp) (E:Value->Shared->Prop),Inv X pins σ H s->(∀b∈fp,qI X pins H b)->tn i s.heap->J.go i H->
  wpAny (model P w) X.A (pyNext (.ref it)) (λr s1=>∃u,r=some u/\
   wpAny (model P w) X.A (letOwnedTupleGo tg (.ref it) u) (λ_ s2=>∃x H',Inv X pins σ H' s2/\RelV x u/\J.mq i H x H'/\tn (i+1) s2.heap/\∀b∈fp,H' b=none) E s1) E s
 done:∀(X:Cx),X.prog=P->X.w=w->X.K=K->X.calm=true->∀(i:Nat) (pins:List (Addr×Obj)) (s:Shared) (σ:St) (H:Hp) (E:Value->Shared->Prop),Inv X pins σ H s->(∀b∈fp,qI X pins H b)->tn i s.heap->J.stop i H->
  wpAny (model P w) X.A (pyNext (.ref it)) (λr s1=>r=none/\Inv X pins σ H s1) E s
 self:∀(A:Around) (i:Nat) (s:Shared) (Q:Value->Shared->Prop) (E:Value->Shared->Prop),tn i s.heap->Q (.ref it) s->wpAny (model P w) A (pyIter (.ref it)) Q E s
abbrev TI:=St->Hp->(It->Hp->Prop)->Prop
def Rj(X:Cx)(pins:List (Addr×Obj))(σ:St)(tg:Expr)(R:It->Hp->Prop)(itv:Value)(s2:Shared):Prop:=
 ∃(it:Addr) (fp:List Addr) (tn:Nat->Heap->Prop) (J:It) (H':Hp),itv = .ref it/\Inv X pins σ H' s2/\Turn X.prog X.w X.K tg J fp it tn/\tn 0 s2.heap/\(∀b∈fp,qI X pins H' b)/\R J H'
def PI(X:Cx)(tg iter:Expr)(wi:TI):Prop:=
 ∀(pins:List (Addr×Obj)) (s:Shared) (σ:St) (H:Hp) (R:It->Hp->Prop),Inv X pins σ H s->wi σ H R->
  wpAny (model X.prog X.w) X.A (eval iter X.env) (λv s1=>wpAny (model X.prog X.w) X.A (pyIter v) (Rj X pins σ tg R) X.xe s1) X.xe s
def HM{M:Model}{A:Around}{E:Value->Shared->Prop}{it:Addr}{u:Value}{o:Obj}{n:String}{vs:Array Value}{Q:Unit->Shared->Prop}(ho:s.heap.get? it=some o)(hc:o.cls = .type n)(hd:o.data = .fields vs)
  (hn:["enumerate","zip","dict_itemiterator","dict_reverseitemiterator","odict_iterator","itertools.zip_longest","itertools.pairwise"].contains n=false) (hQ:Q () s):wpAny M A (letOwnedTupleGo tg (.ref it) u) Q E s:=by
 unfold letOwnedTupleGo;cases tg<;>first
  |exact wpAny_pure hQ
  |(cases u<;>first
    |exact wpAny_pure hQ
    |(refine wpAny_bind (wpAny_load ho ?_);rw[hc,hd];show wpAny M A (if(["enumerate","zip","dict_itemiterator","dict_reverseitemiterator","odict_iterator","itertools.zip_longest","itertools.pairwise"].contains n&&vs[0]?==some (rawInt _))=true then _ else _) Q E s;rw[if_neg (by intro h;rw[hn,Bool.false_and]at h;cases h)];exact wpAny_pure hQ))
def BL(K:aL)(a:Addr):It:=
 ⟨λi H=>∃xs x,aA K H a xs/\xs[i]?=some x,λi H x H'=>H'=H/\∀xs,aA K H a xs->xs[i]?=some x,λi H=>∃xs,aA K H a xs/\xs.length<=i⟩
def yV(K:aL)(a:Addr):It:=
 ⟨λi H=>∃xs x,aB K H a xs/\xs[i]?=some x,λi H x H'=>H'=H/\∀xs,aB K H a xs->xs[i]?=some x,λi H=>∃xs,aB K H a xs/\xs.length<=i⟩
def pY(lo:Int)(n:Nat):It:=⟨λi _=>i<n,λi H x H'=>H'=H/\x = .int (lo+i),λi _=>n<=i⟩
def aoq(a it:Addr):Turn P w K tg (BL K a) [it] it (λi h=>h.IsListIter it a i) where
 mem:=by simp
 obj:=λi h st b hb=>by
  have e:b=it:=by simpa using hb
  subst e;obtain⟨o,e,c,d⟩:=st;exact⟨o,e,λv z=>by rw[d]at z;cases z⟩
 keep:=λi h h' st k=>st.at λo e=>k it (by simp) o e
 item:=by
  intro X hP hw hK hc i pins s σ H E I hf st hg;subst hP hw hK;obtain⟨xs,x,hq,hx⟩:=hg;obtain⟨its,rv,p,hz⟩:=I.list hq;obtain⟨u,hu,ru⟩:=rv.get hx;obtain⟨f0,f1,f2,f3,f4,f5⟩:=hf it (by simp);refine wpAny_pyNext_list_item st p.isList (x:=u) (by simpa using hu) λh' st' sb=>?_;have I1:Inv X pins σ H { s with heap:=h' }:=I.turned (t':=s.toks) (λb o hb e=>(sb.2 b hb).trans e) f0 f1 f3 f4 f5;obtain⟨o,e,c,d⟩:=id st';exact⟨u,rfl,HM (s:={ s with heap:=h' }) e c d ∅ ⟨x,H,I1,ru,⟨rfl,λys hy=>by rw[I.ahr hy hq];exact hx⟩,st',λb hb=>(hf b hb).1⟩⟩
 done:=by
  intro X hP hw hK hc i pins s σ H E I hf st hg;subst hP hw hK;obtain⟨xs,hq,hx⟩:=hg;obtain⟨its,rv,p,hz⟩:=I.list hq;obtain⟨f0,f1,f2,f3,f4,f5⟩:=hf it (by simp);have hl:=rv.length;exact wpAny_pyNext_list_end (I.ok.hd hc) st p.isList (by simp;lia) λh' eb=>⟨rfl,I.turned (t':=s.toks) (λb o hb e=>eb b o hb e) f0 f1 f3 f4 f5⟩
 self:=λ_ _ _ _ _ st h=>wpAny_pyIter_listiter st h
def ayR(a it:Addr):Turn P w K tg (yV K a) [it] it (λi h=>h.IsTupleIter it a i) where
 mem:=by simp
 obj:=λi h st b hb=>by
  have e:b=it:=by simpa using hb
  subst e;obtain⟨o,e,c,d⟩:=st;exact⟨o,e,λv z=>by rw[d]at z;cases z⟩
 keep:=λi h h' st k=>st.at λo e=>k it (by simp) o e
 item:=by
  intro X hP hw hK hc i pins s σ H E I hf st hg;subst hP hw hK;obtain⟨xs,x,hq,hx⟩:=hg;obtain⟨its,rv,p,hz⟩:=I.tuple hq;obtain⟨u,hu,ru⟩:=rv.get hx;obtain⟨f0,f1,f2,f3,f4,f5⟩:=hf it (by simp);refine wpAny_pyNext_tuple_item st (show s.heap.IsTuple a its.toArray from p) (x:=u) (by simpa using hu) λh' st' sb=>?_;have I1:Inv X pins σ H { s with heap:=h' }:=I.turned (t':=s.toks) (λb o hb e=>(sb.2 b hb).trans e) f0 f1 f3 f4 f5;obtain⟨o,e,c,d⟩:=id st';exact⟨u,rfl,HM (s:={ s with heap:=h' }) e c d ∅ ⟨x,H,I1,ru,⟨rfl,λys hy=>by rw[I.abl hy hq];exact hx⟩,st',λb hb=>(hf b hb).1⟩⟩
 done:=by
  intro X hP hw hK hc i pins s σ H E I hf st hg;subst hP hw hK;obtain⟨xs,hq,hx⟩:=hg;obtain⟨its,rv,p,hz⟩:=I.tuple hq;obtain⟨f0,f1,f2,f3,f4,f5⟩:=hf it (by simp);have hl:=rv.length;exact wpAny_pyNext_tuple_end (I.ok.hd hc) st (show s.heap.IsTuple a its.toArray from p) (by simp;lia) λh' eb=>⟨rfl,I.turned (t':=s.toks) (λb o hb e=>eb b o hb e) f0 f1 f3 f4 f5⟩
 self:=λ_ _ _ _ _ st h=>wpAny_pyIter_tupleiter st h
def as9(it:Addr)(lo:Int)(n:Nat):Turn P w K tg (pY lo n) [it] it (λi h=>IsRangeIter h it (lo+(i:Nat)*1) ((n:Int)-(i:Nat)) 1) where
 mem:=by simp
 obj:=λi h st b hb=>by
  have e:b=it:=by simpa using hb
  subst e;exact⟨_,st,λv z=>by
   have z':Data.fields _=Data.cell v:=z;cases z'⟩
 keep:=λi h h' st k=>k it (by simp) _ st
 item:=by
  intro X hP hw hK hc i pins s σ H E I hf st hg;subst hP hw hK;obtain⟨f0,f1,f2,f3,f4,f5⟩:=hf it (by simp);have W:=Walks.range (prog:=X.prog) (w:=X.w) (I.ok.hd hc) it lo 1 n;refine W.item i s _ _ hg st λv h' tk hv st' kk=>?_;obtain⟨t,rfl⟩:=hv;have I1:Inv X pins σ H { s with heap:=h',toks:=tk }:=I.turned (λb o hb e=>kk b o (by simpa using hb) e) f0 f1 f3 f4 f5;refine⟨_,rfl,HM (s:={ s with heap:=h',toks:=tk }) (n:= "range_iterator") st' rfl rfl ∅ ⟨.int (lo+i),H,I1,⟨t,?_⟩,⟨rfl,rfl⟩,st',λb hb=>(hf b hb).1⟩⟩;rw[iU]
 done:=by
  intro X hP hw hK hc i pins s σ H E I hf st hg;subst hP hw hK;obtain⟨f0,f1,f2,f3,f4,f5⟩:=hf it (by simp);exact wpAny_pyNext_range_end (I.ok.hd hc) st (by have:n<=i:=hg;lia) λh' eb=>⟨rfl,I.turned (t':=s.toks) (λb o hb e=>eb b o hb e) f0 f1 f3 f4 f5⟩
 self:=λ_ _ _ _ _ st h=>wpAny_pyIter_rangeiter st h
end
section
variable {X:Cx} {tg:Expr}
section
variable {pins:List (Addr×Obj)}{σ:St}{H:Hp}{s:Shared}{a:Expr}{ta:TA}{p pos:Pos}{fp:List Addr}{h:Heap}
def ait(K:aL)(tl:TE):TI:=λσ H R=>tl σ H λx H1=>∃a,x = .ref a/\(∃xs,aA K H1 a xs)/\R (BL K a) H1
def Wt{R:It->Hp->Prop}{E:Value->Shared->Prop}{lo hi:Int}{t u v:Tok}{tk:Nat}(I:Inv X pins σ H s)(h1:-(2^62)<=lo)(h2:lo<2^62)(h3:-(2^62)<=hi)(h4:hi<2^62)
  (q:R (pY lo (hi-lo).toNat) H):wpAny (model X.prog X.w) X.A (pyIter (.ref s.heap.objs.size)) (Rj X pins σ tg R) E { s with heap:=s.heap.push { cls:= .type "range",data:= .fields #[.int lo t,.int hi u,.int 1 v] },toks:=tk }:=by
 refine wpAny_pyIter_range (IsRange.new ..) (small_one h1 h2 h3 h4) ?_;have I1:Inv X pins σ H { s with heap:=s.heap.push { cls:= .type "range",data:= .fields #[.int lo t,.int hi u,.int 1 v] },toks:=tk }:=I.kept λb o e=>Heap.get?_push_of_some _ e;refine⟨(s.heap.push { cls:= .type "range",data:= .fields #[.int lo t,.int hi u,.int 1 v] }).objs.size,[(s.heap.push { cls:= .type "range",data:= .fields #[.int lo t,.int hi u,.int 1 v] }).objs.size],_,_,H,rfl,
  I1.kept (t':=tk) λb o e=>Heap.get?_push_of_some _ e,as9 _ lo (hi-lo).toNat,?_,λb hb=>?_,q⟩
 .have e1:lo+((0:Nat):Int)*1=lo:=by simp
  have e2:(((hi-lo).toNat:Nat):Int)-((0:Nat):Int)=Builtin.Range.rangeSize lo hi 1:=by rw[rangeSize_one];split<;>lia
  show IsRangeIter _ _ (lo+((0:Nat):Int)*1) ((((hi-lo).toNat:Nat):Int)-((0:Nat):Int)) 1;rw[e1,e2];exact Heap.get?_push_size _ rfl
 .have e:b=(s.heap.push { cls:= .type "range",data:= .fields #[.int lo t,.int hi u,.int 1 v] }).objs.size:=by simpa using hb
  subst e;exact I1.uD (aR _) (I1.hok.fresh (aR _))
inductive arl(vs:List V)(H:Hp)(R:It->Hp->Prop):Prop|mk (j:Int) (h:vs=[.int j]) (h1:-(2^62)<=j) (h2:j<2^62) (q:R (pY 0 j.toNat) H)
def azc(ta:TA):TI:=λσ H R=>ta σ H λvs H1=>arl vs H1 R
def aj5(ta:TA):TI:=λσ H R=>ta σ H λvs H1=>∃i j:Int,vs=[.int i,.int j]/\(-(2^62)<=i/\i<2^62/\-(2^62)<=j/\j<2^62)/\R (pY i (j-i).toNat) H1
def fK(hg:Gl X "range")(hm:X.mg "range" = none)(ha:PA X [a] ta)(hs:starEach [a] X.env=[(false,eval a X.env)]:=by rfl):PI X tg (.Call (.Name "range" p) [a] [] pos) (azc ta):=by
 intro pins s σ H R I h;refine Call_ (wJ I hg hm boot_range (BR (bw (ha pos pins s σ H _ I h) λus s1 ⟨vs,H1,I1,r1,q1⟩=>?_) hs rfl));obtain⟨j,e,q1,q2,q⟩:=q1;subst e;cases r1 with
 |cons r rr=>
  cases rr;obtain⟨t,rfl⟩:=r;exact call_range_1 (Wt I1 ⋯ ⋯ q1 q2 (by simpa using q))
def Bb{b:Expr}(hg:Gl X "range")(hm:X.mg "range" = none)(ha:PA X [a,b] ta)(hs:starEach [a,b] X.env=[(false,eval a X.env),(false,eval b X.env)]:=by rfl)(hs2:starEach [b] X.env=[(false,eval b X.env)]:=by rfl):
  PI X tg (.Call (.Name "range" p) [a,b] [] pos) (aj5 ta):=by
 intro pins s σ H R I h;refine Call_ (wJ I hg hm boot_range (BR (bw (ha pos pins s σ H _ I h) λus s1 ⟨vs,H1,I1,r1,q1⟩=>?_) (by rw[hs,hs2]) (by rw[hs2];rfl)));obtain⟨i,j,e,⟨q1,q2,q3,q4⟩,q⟩:=q1;subst e;cases r1 with
 |cons r rr=>
  cases rr with
  |cons r' rr=>
   cases rr;obtain⟨t,rfl⟩:=r;obtain⟨t',rfl⟩:=r';exact call_range_2 (Wt I1 q1 q2 q3 q4 q)
def axn(wi:TI)(g:TG)(tb:TS):TS:=λD σ H=>wi σ H λJ H1=>∃W:Nat->Nat->St->Hp->Prop,(∃m,W 0 m σ H1)/\∀i m σ H,W i m σ H->
 (J.stop i H/\D.nx σ H)∨(J.go i H/\∃N:St->Hp->Prop,(∀σ' H',N σ' H'->∃m',m'<m/\W (i+1) m' σ' H')/\∀x H',J.mq i H x H'->g x σ H' λσ2 H2=>tb { D with nx:=N,ct:=N,bk:=D.nx } σ2 H2)
def Cm(fp:List Addr)(h:Heap):List (Addr×Obj):=fp.filterMap λb=>(h.get? b).map λo=>(b,o)
def DN{b:Addr}{o:Obj}(hb:b∈fp)(e:h.get? b=some o):(b,o)∈Cm fp h:=N5.mpr ⟨b,hb,by rw[e];rfl⟩
def apy{p:Addr×Obj}(hp:p∈Cm fp h):p.1∈fp/\h.get? p.1=some p.2:=by
 obtain⟨b,hb,e⟩:=N5.mp hp;cases q:h.get? b with
 |none=>rw[q]at e;cases e
 |some o=>
  rw[q]at e;have e':(b,o)=p:=qZ e;subst e';exact⟨hb,q⟩
def Inv.pinned(I:Inv X pins σ H s)(hf:∀b∈fp,qI X pins H b)(ho:∀b∈fp,∃o,s.heap.get? b=some o/\∀v,o.data≠ .cell v):Inv X (pins++Cm fp s.heap) σ H s:=
 I.ac9 λp hp=>(qT.mp hp).elim (λz=>I.pin p (pX _ z)) λz=>by
  obtain⟨hb,e⟩:=apy z;obtain⟨f0,f1,f2,_⟩:=hf p.1 hb;obtain⟨o,e',d⟩:=ho p.1 hb;rw[e]at e';cases e';exact⟨e,f0,f1,f2,d⟩
def Inv.E8{pl:List (Addr×Obj)}(I:Inv X (pins++pl) σ H s):Inv X pins σ H s:=I.ac9 λp hp=>I.pin p (pX _ (W0 _ hp))
def jj{iter:Expr}{body:List Stmt}{wi:TI}{g:TG}{tb:TS}(hp:PassesOwn (model X.prog X.w) X.A X.env X.xe)(hc:X.calm=true)(hi:PI X tg iter wi)(hg:PG X tg g)(hb:jE X body tb)
  (hs:∀x,foldedSetIterable iter X.env x=pure x:=by intro _;rfl):PS X (.For tg iter body [] pos) (axn wi g tb):=by
 intro pins s σ H D I h;refine wpAny_For (bw (hi pins s σ H _ I h) λv s1 h1=>bw h1 λitv s2 h2=>?_) hs;obtain⟨it,fp,tn,J,H2,e,I2,T,st2,f2,W,⟨m0,w0⟩,turn⟩:=h2;subst e;have stat:∀{H':Hp},(∀b∈fp,H' b=none)->∀b∈fp,qI X pins H' b:=λhn b hb=>⟨hn b hb,(f2 b hb).2⟩;refine codeAny_forLoop_any (λn s'=>∃i σ' H',Inv X pins σ' H' s'/\tn i s'.heap/\(∀b∈fp,H' b=none)/\W i n σ' H') ?_ m0 ⟨0,σ,H2,I2,st2,λb hb=>(f2 b hb).1,w0⟩;rintro n s3 ⟨i,σ3,H3,I3,st3,fr3,w3⟩;rcases turn i n σ3 H3 w3 with⟨stop,qn⟩|⟨go,N,hN,step⟩
 .refine wpAny_passesOwn hp (bw (T.done X rfl rfl rfl hc i pins s3 σ3 H3 X.xe I3 (stat fr3) st3 stop) λr s4 ⟨hr,I4⟩=>?_);subst hr;exact wpAny_execs_nil ⟨σ3,H3,I4,qn⟩
 .refine wpAny_passesOwn hp (bw (T.item X rfl rfl rfl hc i pins s3 σ3 H3 X.xe I3 (stat fr3) st3 go) λr s4 ⟨u,hr,h4⟩=>?_);subst hr;refine wpAny_passesOwn hp (bw h4 λ_ s5 ⟨x,H5,I5,r5,y5,zW,HC⟩=>?_);have I5':=I5.pinned (stat HC) (T.obj _ _ zW);refine wpAny_passesOwn hp (bw (hg _ s5 σ3 H5 x u _ I5' r5 (step x H5 y5)) λ_ s6 ⟨σ6,H6,I6,q6⟩=>?_);refine wpAny_passesOwn hp (bw (hb _ s6 σ6 H6 _ I6 q6) λf s7 q7=>?_);have again:∀{σ7:St} {H7:Hp},Inv X (pins++Cm fp s5.heap) σ7 H7 s7->N σ7 H7->∃m,m<n/\∃i σ' H',Inv X pins σ' H' s7/\tn i s7.heap/\(∀b∈fp,H' b=none)/\W i m σ' H':=λ{σ7 H7} I7 n7=>by
   obtain⟨m',hm,w7⟩:=hN σ7 H7 n7;refine⟨m',hm,i+1,σ7,H7,I7.E8,T.keep _ _ _ zW λb hb o e=>(I7.pin (b,o) (pX _ (pX _ (DN hb e)))).1,λb hb=>?_,w7⟩;obtain⟨o,e,d⟩:=T.obj _ _ zW b hb;exact(I7.pin (b,o) (pX _ (pX _ (DN hb e)))).2.1
  cases f with
  |next=>obtain⟨σ7,H7,I7,n7⟩:=q7;exact again I7 n7
  |cont=>obtain⟨σ7,H7,I7,n7⟩:=q7;exact again I7 n7
  |brk=>obtain⟨σ7,H7,I7,q7⟩:=q7;exact⟨σ7,H7,I7.E8,q7⟩
  |ret v=>obtain⟨x7,σ7,H7,I7,r7,q7⟩:=q7;exact⟨x7,σ7,H7,I7.E8,r7,q7⟩
end
end
def j8{lo:Int}{n:Nat}{g:TG}{tb:TS}{D:Ends}{σ:St}{H:Hp}(Pv:Nat->St->Hp->Prop)(h0:Pv 0 σ H)
  (hs:∀i σ H,i<n->Pv i σ H->g (.int (lo+i)) σ H λσ2 H2=>tb { D with nx:=Pv (i+1),ct:=Pv (i+1),bk:=D.nx } σ2 H2) (hd:∀σ H,Pv n σ H->D.nx σ H):
  ∃W:Nat->Nat->St->Hp->Prop,(∃m,W 0 m σ H)/\∀i m σ H,W i m σ H->
   ((pY lo n).stop i H/\D.nx σ H)∨((pY lo n).go i H/\∃N:St->Hp->Prop,(∀σ' H',N σ' H'->∃m',m'<m/\W (i+1) m' σ' H')/\∀x H',(pY lo n).mq i H x H'->g x σ H' λσ2 H2=>tb { D with nx:=N,ct:=N,bk:=D.nx } σ2 H2):=by
 refine⟨λi m σ H=>m=n-i/\i<=n/\Pv i σ H,⟨n,by simp,dD _,h0⟩,?_⟩;rintro i m σ H ⟨rfl,hi,p⟩;by_cases hlt:i<n
 .refine .inr ⟨hlt,Pv (i+1),λσ' H' p'=>⟨n-(i+1),⋯,rfl,hlt,p'⟩,λx H' y=>?_⟩;obtain⟨e,y⟩:=y;subst e y;exact hs i σ _ hlt p
 .have e:i=n:=⋯;subst e;exact .inl ⟨aR _,hd σ H p⟩
abbrev R2:=V->V->Hp->VK->Prop
def cZ(X:Cx)(f:Value->Value->Sem Value)(r:R2):Prop:=
 ∀(pins:List (Addr×Obj)) (s:Shared) (σ:St) (H:Hp) (x y:V) (v u:Value) (Q:VK),Inv X pins σ H s->RelV x v->RelV y u->r x y H Q->
  wpAny (model X.prog X.w) X.A (f v u) (EP X pins σ Q) X.xe s
def Vp(X:Cx)(f:Value->Sem Value)(r:V->Hp->VK->Prop):Prop:=
 ∀(pins:List (Addr×Obj)) (s:Shared) (σ:St) (H:Hp) (x:V) (v:Value) (Q:VK),Inv X pins σ H s->RelV x v->r x H Q->
  wpAny (model X.prog X.w) X.A (f v) (EP X pins σ Q) X.xe s
def jH(X:Cx)(f:Value)(r:List V->Hp->VK->Prop):Prop:=
 ∀(pins:List (Addr×Obj)) (s:Shared) (σ:St) (H:Hp) (xs:List V) (us:List Value) (Q:VK),Inv X pins σ H s->Vals xs us->r xs H Q->
  wpAny (model X.prog X.w) X.A (call f us) (EP X pins σ Q) X.xe s
def yg(r:R2)(ta tb:TE):TE:=λσ H Q=>ta σ H λx H1=>tb σ H1 λy H2=>r x y H2 Q
def tUn(r:V->Hp->VK->Prop)(ta:TE):TE:=λσ H Q=>ta σ H λx H1=>r x H1 Q
inductive SII(C:Int->Int->Prop)(g:Int->Int->V)(x y:V)(H:Hp)(Q:VK):Prop|mk (i j:Int) (hx:x = .int i) (hy:y = .int j) (c:C i j) (q:Q (g i j) H)
def rI(C:Int->Int->Prop)(g:Int->Int->V):R2:=λx y H Q=>SII C g x y H Q
inductive SI0(g:Int->Int->V)(x y:V)(H:Hp)(Q:VK):Prop|mk (i j:Int) (hx:x = .int i) (hy:y = .int j) (q:Q (g i j) H)
def yd(g:Int->Int->V):R2:=λx y H Q=>SI0 g x y H Q
inductive SU(g:Int->V)(x:V)(H:Hp)(Q:VK):Prop|mk (i:Int) (hx:x = .int i) (q:Q (g i) H)
def rU(g:Int->V):V->Hp->VK->Prop:=λx H Q=>SU g x H Q
section
variable {X:Cx} {a b c:Expr} {ta tb tc:TE} {pos:Pos}
section
variable {f:Value->Value->Sem Value}{g:Int->Int->Int}
def LZ(ha:PE X a ta)(hb:PE X b tb){pins:List (Addr×Obj)}{s:Shared}{σ:St}{H:Hp}{R:V->V->Hp->Prop}(I:Inv X pins σ H s)
  (h:ta σ H λx H1=>tb σ H1 λy H2=>R x y H2) {Q:Value->Shared->Prop} {f:Value->Value->Sem Value}
  (hf:∀v u s2 x y H2,Inv X pins σ H2 s2->RelV x v->RelV y u->R x y H2->wpAny (model X.prog X.w) X.A (f v u) Q X.xe s2):
  wpAny (model X.prog X.w) X.A (eval a X.env) (λv s₁=>wpAny (model X.prog X.w) X.A (eval b X.env) (λu s₂=>wpAny (model X.prog X.w) X.A (f v u) Q X.xe s₂) X.xe s₁) X.xe s:=by
 refine bw (ha pins s σ H _ I h) λv s1 ⟨x,H1,I1,r1,q1⟩=>?_;refine bw (hb pins s1 σ H1 _ I1 q1) λu s2 ⟨y,H2,I2,r2,q2⟩=>?_;exact hf v u s2 x y H2 I2 r1 r2 q2
def aF{op:Operator}{r:R2}(ho:cZ X (binaryOp op) r)(ha:PE X a ta)(hb:PE X b tb):PE X (.BinOp a op b pos) (yg r ta tb):=by
 intro pins s σ H Q I h;exact wpAny_BinOp (LZ ha hb I h λv u s2 x y H2 I2 rx ry q=>ho pins s2 σ H2 x y v u Q I2 rx ry q)
def Dg{op:UnaryOp}{r:V->Hp->VK->Prop}(ho:Vp X (unaryOp op) r)(ha:PE X a ta):PE X (.UnaryOp op a pos) (tUn r ta):=by
 intro pins s σ H Q I h;exact UnaryOp_ (bw (ha pins s σ H _ I h) λv s1 ⟨x,H1,I1,r1,q1⟩=>ho pins s1 σ H1 x v Q I1 r1 q1)
def HB{C:Int->Int->Prop}
  (rule:∀(i j:Int) (t u:Tok) (s:Shared) (Q:Value->Shared->Prop) (E:Value->Shared->Prop),C i j->Q (.int (g i j) s.toks) { s with toks:=s.toks+1 }->wpAny (model X.prog X.w) X.A (f (.int i t) (.int j u)) Q E s):
  cZ X f (rI C λi j=> .int (g i j)):=by
 intro pins s σ H x y v u Q I rx ry h;obtain⟨i,j,rfl,rfl,hc,q⟩:=h;obtain⟨t,rfl⟩:=rx;obtain⟨t',rfl⟩:=ry;exact rule i j t t' s _ _ hc ⟨.int (g i j),H,I.tok _,⟨_,rfl⟩,q⟩
def ac6
  (rule:∀(i j:Int) (t u:Tok) (s:Shared) (Q:Value->Shared->Prop) (E:Value->Shared->Prop),Q (.int (g i j) s.toks) { s with toks:=s.toks+1 }->wpAny (model X.prog X.w) X.A (f (.int i t) (.int j u)) Q E s):
  cZ X f (yd λi j=> .int (g i j)):=by
 intro pins s σ H x y v u Q I rx ry h;obtain⟨i,j,rfl,rfl,q⟩:=h;obtain⟨t,rfl⟩:=rx;obtain⟨t',rfl⟩:=ry;exact rule i j t t' s _ _ ⟨.int (g i j),H,I.tok _,⟨_,rfl⟩,q⟩
def M5{g:Int->Int->Bool}
  (rule:∀(i j:Int) (t u:Tok) (s:Shared) (Q:Value->Shared->Prop) (E:Value->Shared->Prop),Q (.bool (g i j)) s->wpAny (model X.prog X.w) X.A (f (.int i t) (.int j u)) Q E s):
  cZ X f (yd λi j=> .bl (g i j)):=by
 intro pins s σ H x y v u Q I rx ry h;obtain⟨i,j,rfl,rfl,q⟩:=h;obtain⟨t,rfl⟩:=rx;obtain⟨t',rfl⟩:=ry;exact rule i j t t' s _ _ ⟨.bl (g i j),H,I,rfl,q⟩
def ayI(i j:Int):Prop:=0<j/\j<1073741824
def ami(i j:Int):Prop:=0<=j/\j<=1000000/\i.natAbs<2^64
def ay4:cZ X (binaryOp .Add) (yd λi j=> .int (i+j)):=ac6 λ_ _ _ _ _ _ _ q=>add_int q
def cV:cZ X (binaryOp .Sub) (yd λi j=> .int (i-j)):=ac6 λ_ _ _ _ _ _ _ q=>sub_int q
def pC:cZ X (binaryOp .FloorDiv) (rI ayI λi j=> .int (i/j)):=HB λi j _ _ _ _ _ hc q=>by
 have h1:(0:Int)<j:=hc.1;have h2:j<1073741824:=hc.2;exact floordiv_int ⋯ (by rw[Int.fdiv_eq_ediv_of_nonneg i ⋯];exact q) (.inl (aal ⋯))
def eG:cZ X (binaryOp .Mod) (rI (λ_ j=>0<j) λi j=> .int (i%j)):=HB λi j _ _ _ _ _ hc q=>by
 have h1:(0:Int)<j:=hc;exact mod_int' ⋯ (by rw[Int.fmod_eq_emod_of_nonneg i ⋯];exact q)
def QM:cZ X (binaryOp .Pow) (rI ami λi j=> .int (i^j.toNat)):=HB λ_ _ _ _ _ _ _ hc q=>pow_int_small hc.1 hc.2.1 hc.2.2 q
def unI{f:Value->Sem Value}{g:Int->Int}
  (rule:∀(i:Int) (t:Tok) (s:Shared) (Q:Value->Shared->Prop) (E:Value->Shared->Prop),Q (.int (g i) s.toks) { s with toks:=s.toks+1 }->wpAny (model X.prog X.w) X.A (f (.int i t)) Q E s):
  Vp X f (rU λi=> .int (g i)):=by
 intro pins s σ H x v Q I rx h;obtain⟨i,rfl,q⟩:=h;obtain⟨t,rfl⟩:=rx;exact rule i t s _ _ ⟨.int (g i),H,I.tok _,⟨_,rfl⟩,q⟩
def Dq:Vp X (unaryOp .USub) (rU λi=> .int (-i)):=unI λ_ _ _ _ _ q=>neg_int q
end
end
def UY:V->V->Bool
 |.non,.non=>true | .non,.int _=>true | .int _,.non=>true | .non,.bl _=>true | .bl _,.non=>true | .non,.str _=>true | .str _,.non=>true
 |.int _,.int _=>true | .bl _,.bl _=>true | .str _,.str _=>true | .j6 _,.j6 _=>true
 |.int _,.str _=>true | .str _,.int _=>true | .bl _,.str _=>true | .str _,.bl _=>true
 |_,_=>false
def rEq:R2:=λx y H Q=>UY x y=true/\Q (.bl (decide (x=y))) H
def rNe:R2:=λx y H Q=>UY x y=true/\Q (.bl (!decide (x=y))) H
def WR{i j:Int}:decide (V.int i=V.int j)=(i==j):=by
 rw[Fg];simp
def Xo{i j:Bool}:decide (V.bl i=V.bl j)=(i==j):=by
 rw[Fg];simp
def afS{i j:Str}:decide (V.str i=V.str j)=(i==j):=by
 rw[Fg];simp
def ab4{i j:Array UInt8}:decide (V.j6 i=V.j6 j)=(i.toList==j.toList):=by
 rw[Fg];cases i;cases j;simp
section
variable {X:Cx} {a b c:Expr} {ta tb tc:TE} {pos:Pos}
def fJ{pins:List (Addr×Obj)}{σ:St}{H:Hp}{s:Shared}{Q:VK}{k k':Bool}(I:Inv X pins σ H s)(q:Q (.bl k) H)(e:k=k'):EP X pins σ Q (.bool k') s:=by
 subst e;exact⟨.bl k,H,I,rfl,q⟩
def atu:cZ X (compareOp .Eq) rEq:=by
 intro pins s σ H x y v u Q I rx ry h;obtain⟨hs,q⟩:=h;cases x with
 |non=>
  cases rx;cases y with
  |non=>cases ry;exact akY (fJ I q (by simp))
  |bl j=>cases ry;exact ayx (fJ I q (by simp))
  |int j=>obtain⟨t',rfl⟩:=ry;exact ali (fJ I q (by simp))
  |str j=>obtain⟨t',rfl⟩:=ry;exact aou (fJ I q (by simp))
  |_=>exact absurd (show false=true from hs) fX
 |bl i=>
  cases rx;cases y with
  |non=>cases ry;exact amx (fJ I q (by simp))
  |bl j=>cases ry;exact eq_bool (fJ I q Xo)
  |str j=>obtain⟨t',rfl⟩:=ry;exact ahC (fJ I q (by simp))
  |_=>exact absurd (show false=true from hs) fX
 |int i=>
  obtain⟨t,rfl⟩:=rx;cases y with
  |non=>cases ry;exact amK (fJ I q (by simp))
  |int j=>obtain⟨t',rfl⟩:=ry;exact eq_int (fJ I q WR)
  |str j=>obtain⟨t',rfl⟩:=ry;exact arX (fJ I q (by simp))
  |_=>exact absurd (show false=true from hs) fX
 |str i=>
  obtain⟨t,rfl⟩:=rx;cases y with
  |non=>cases ry;exact awH (fJ I q (by simp))
  |bl j=>cases ry;exact ax1 (fJ I q (by simp))
  |int j=>obtain⟨t',rfl⟩:=ry;exact anY (fJ I q (by simp))
  |str j=>obtain⟨t',rfl⟩:=ry;exact eq_str (fJ I q afS)
  |_=>exact absurd (show false=true from hs) fX
 |j6 i=>
  obtain⟨t,rfl⟩:=rx;cases y with
  |j6 j=>obtain⟨t',rfl⟩:=ry;exact W.eq_bytes (fJ I q ab4)
  |_=>exact absurd (show false=true from hs) fX
 |_=>cases y<;>exact absurd (show false=true from hs) fX
def amo:cZ X (compareOp .NotEq) rNe:=by
 intro pins s σ H x y v u Q I rx ry h;obtain⟨hs,q⟩:=h;cases x with
 |non=>
  cases rx;cases y with
  |non=>cases ry;exact ajv (fJ I q (by simp))
  |bl j=>cases ry;exact arK (fJ I q (by simp))
  |int j=>obtain⟨t',rfl⟩:=ry;exact ayA (fJ I q (by simp))
  |str j=>obtain⟨t',rfl⟩:=ry;exact asT (fJ I q (by simp))
  |_=>exact absurd (show false=true from hs) fX
 |bl i=>
  cases rx;cases y with
  |non=>cases ry;exact alL (fJ I q (by simp))
  |bl j=>cases ry;exact ne_bool (fJ I q (congrArg not Xo))
  |str j=>obtain⟨t',rfl⟩:=ry;exact akm (fJ I q (by simp))
  |_=>exact absurd (show false=true from hs) fX
 |int i=>
  obtain⟨t,rfl⟩:=rx;cases y with
  |non=>cases ry;exact au6 (fJ I q (by simp))
  |int j=>obtain⟨t',rfl⟩:=ry;exact ne_int (fJ I q (congrArg not WR))
  |str j=>obtain⟨t',rfl⟩:=ry;exact ayG (fJ I q (by simp))
  |_=>exact absurd (show false=true from hs) fX
 |str i=>
  obtain⟨t,rfl⟩:=rx;cases y with
  |non=>cases ry;exact asL (fJ I q (by simp))
  |bl j=>cases ry;exact az9 (fJ I q (by simp))
  |int j=>obtain⟨t',rfl⟩:=ry;exact awE (fJ I q (by simp))
  |str j=>obtain⟨t',rfl⟩:=ry;exact ne_str (fJ I q (congrArg not afS))
  |_=>exact absurd (show false=true from hs) fX
 |j6 i=>
  obtain⟨t,rfl⟩:=rx;cases y with
  |j6 j=>obtain⟨t',rfl⟩:=ry;exact W.ne_bytes (fJ I q (congrArg not ab4))
  |_=>exact absurd (show false=true from hs) fX
 |_=>cases y<;>exact absurd (show false=true from hs) fX
def rD:cZ X (compareOp .Lt) (yd λi j=> .bl (decide (i<j))):=M5 λ_ _ _ _ _ _ _ q=>lt_int q
def abE:cZ X (compareOp .LtE) (yd λi j=> .bl (decide (i<=j))):=M5 λ_ _ _ _ _ _ _ q=>le_int q
def nZ:cZ X (compareOp .Gt) (yd λi j=> .bl (decide (j<i))):=M5 λ_ _ _ _ _ _ _ q=>gt_int q
def cZ.or{f:Value->Value->Sem Value}{r r':R2}(h:cZ X f r)(h':cZ X f r'):cZ X f (λx y H Q=>r x y H Q∨r' x y H Q):=by
 intro pins s σ H x y v u Q I rx ry q;rcases q with q|q
 .exact h pins s σ H x y v u Q I rx ry q
 .exact h' pins s σ H x y v u Q I rx ry q
def Ku(b:Expr){op:CmpOp}(h:op≠ .In:=by decide)(h2:op≠ .NotIn:=by decide):behindInMarks op b=false:=by
 have e1:(op==CmpOp.In)=false:=by cases op<;>first|rfl|exact absurd rfl h
 have e2:(op==CmpOp.NotIn)=false:=by cases op<;>first|rfl|exact absurd rfl h2
 cases b<;>simp[behindInMarks,e1,e2]
def V0{op:CmpOp}{r:R2}(ho:cZ X (compareOp op) r)(ha:PE X a ta)(hb:PE X b tb)(hm:behindInMarks op b=false):PE X (.Compare a [op] [b] pos) (yg r ta tb):=by
 intro pins s σ H Q I h;exact wpAny_Compare1 (LZ ha hb I h λv u s2 x y H2 I2 rx ry q=>ho pins s2 σ H2 x y v u Q I2 rx ry q) hm
inductive ahZ(x:V)(H:Hp)(Q:Bool->Hp->Prop):Prop|mk (k:Bool) (hx:x = .bl k) (q:Q k H)
def aaU(t:TE):TT:=λσ H Q=>t σ H λx H'=>ahZ x H' Q
def YB{op:CmpOp}{r:R2}(ho:cZ X (compareOp op) r)(ha:PE X a ta)(hb:PE X b tb)(hm:behindInMarks op b=false):PT X (.Compare a [op] [b] pos) (aaU (yg r ta tb)):=by
 intro pins s σ H Q I h;refine wpAny_isTrue_Compare1 (bw (ha pins s σ H _ I h) λv s1 ⟨x,H1,I1,r1,q1⟩=>bw (hb pins s1 σ H1 _ I1 q1) λu s2 ⟨y,H2,I2,r2,q2⟩=>
  bw (ho pins s2 σ H2 x y v u _ I2 r1 r2 q2) λc s3 ⟨z,H3,I3,r3,k,e,q3⟩=>?_) hm
 subst e;cases r3;exact wpAny_truthy_bool ⟨H3,I3,q3⟩
def aBf{κ:Type}{kvs:List (κ×V)}{vs:List (κ×Value)}(r:KV kvs vs):(!vs.isEmpty)=!kvs.isEmpty:=by
 cases r<;>rfl
def aA9{xs:List V}{its:List Value}(r:Vals xs its):(!its.toArray.isEmpty)=!xs.isEmpty:=by
 cases r<;>simp
def Dz:(sizeLine:Nat)<2^63:=by rw[sizeLine_eq];decide
def avW:cZ X (binaryOp .Add) (λx y H Q=>∃i j,x = .str i/\y = .str j/\i.length+j.length<=sizeLine/\Q (.str (i++j)) H):=by
 intro pins s σ H x y v u Q I rx ry h;obtain⟨i,j,rfl,rfl,hz,q⟩:=h;obtain⟨t,rfl⟩:=rx;obtain⟨t',rfl⟩:=ry;exact add_str (λt' tk=>⟨.str (i++j),H,I.tok _,⟨_,rfl⟩,q⟩) hz
def vals1{x:V}{us:List Value}(r:Vals [x] us):∃u,us=[u]/\RelV x u:=by
 cases r with
 |cons r1 r2=>cases r2;exact⟨_,rfl,r1⟩
def vals2{x y:V}{us:List Value}(r:Vals [x,y] us):∃u w',us=[u,w']/\RelV x u/\RelV y w':=by
 cases r with
 |cons r1 r2=>
  cases r2 with
  |cons r3 r4=>cases r4;exact⟨_,_,rfl,r1,r3⟩
def OG:jH X (.builtin "abs") (λxs H Q=>∃i,xs=[.int i]/\Q (.int (if i<0 then -i else i)) H):=by
 intro pins s σ H xs us Q I r h;obtain⟨i,rfl,q⟩:=h;obtain⟨u,rfl,t,rfl⟩:=vals1 r;exact call_abs_int λu tk=>⟨.int (if i<0 then -i else i),H,I.tok _,⟨_,rfl⟩,q⟩
def aiu(hc:X.calm=true):jH X (.builtin "max") (λxs H Q=>∃i j,xs=[.int i,.int j]/\Q (.int (if j>i then j else i)) H):=by
 intro pins s σ H xs us Q I r h;obtain⟨i,j,rfl,q⟩:=h;obtain⟨u,w',rfl,⟨t,rfl⟩,⟨t',rfl⟩⟩:=vals2 r;refine max_two_ints (I.ok.hd hc) λh' tk k=>⟨_,H,I.kept k,?_,q⟩;by_cases hj:j>i
 .rw[if_pos hj,if_pos hj];exact⟨_,rfl⟩
 .rw[if_neg hj,if_neg hj];exact⟨_,rfl⟩
def agp(hc:X.calm=true):jH X (.builtin "min") (λxs H Q=>∃i j,xs=[.int i,.int j]/\Q (.int (if j<i then j else i)) H):=by
 intro pins s σ H xs us Q I r h;obtain⟨i,j,rfl,q⟩:=h;obtain⟨u,w',rfl,⟨t,rfl⟩,⟨t',rfl⟩⟩:=vals2 r;refine min_two_ints (I.ok.hd hc) λh' tk k=>⟨_,H,I.kept k,?_,q⟩;by_cases hj:j<i
 .rw[if_pos hj,if_pos hj];exact⟨_,rfl⟩
 .rw[if_neg hj,if_neg hj];exact⟨_,rfl⟩
def apI(K:aL)(x:V)(H:Hp)(n:Nat):Prop:=
 match x with
 |.str y=>y.length<=sizeLine/\n=y.length
 |.j6 y=>y.size<=sizeLine/\n=y.size
 |.ref p=>(∃xs,aA K H p xs/\n=xs.length)∨∃xs,aB K H p xs/\n=xs.length
 |_=>False
inductive Tq(K:aL)(xs:List V)(H:Hp)(Q:VK):Prop|mk (x:V) (n:Nat) (h:xs=[x]) (l:apI K x H n) (q:Q (.int n) H)
def ajK:jH X (.builtin "len") (Tq X.K):=by
 intro pins s σ H xs us Q I r h;obtain⟨x,n,rfl,e,q⟩:=h;obtain⟨u,rfl,rx⟩:=vals1 r;have hl:=Dz;have hs:sizeLine=16777216:=sizeLine_eq;cases x with
 |str y=>
  obtain⟨t,rfl⟩:=rx;obtain⟨hy,e'⟩:y.length<=sizeLine/\n=y.length:=e;subst e';exact len_str ⋯ ⟨.int _,H,I.tok _,⟨_,rfl⟩,q⟩
 |j6 y=>
  obtain⟨t,rfl⟩:=rx;obtain⟨hy,e'⟩:y.size<=sizeLine/\n=y.size:=e;subst e';exact W.len_bytes ⋯ ⟨.int _,H,I.tok _,⟨_,rfl⟩,q⟩
 |ref p=>
  cases rx;have e':(∃xs,aA X.K H p xs/\n=xs.length)∨∃xs,aB X.K H p xs/\n=xs.length:=e;rcases e' with⟨xs,hx,e'⟩|⟨xs,hx,e'⟩
  .subst e';obtain⟨its,r',pl,hz⟩:=I.list hx;have hlen:=r'.length;exact Calls.call_len_list pl.isList (by simp only[fU];lia) ⟨.int xs.length,H,I.tok _,⟨_,by simp only[fU];rw[hlen]⟩,q⟩
  .subst e';obtain⟨its,r',pl,hz⟩:=I.tuple hx;have hlen:=r'.length;exact len_tuple pl (by simp only[fU];lia) ⟨.int xs.length,H,I.tok _,⟨_,by simp only[fU];rw[hlen]⟩,q⟩
 |_=>exact(show False from e).elim
end
structure MZ(h:Heap)(x dx C:Addr)(mA:Str->Option Value):Prop where
 obj:h.get? x=some (Vr C dx)
 ns:h.Ns1 dx mA
 ne:dx≠x
def ajB{h:Heap}{dx:Addr}{mA:Str->Option Value}(n:h.Ns1 dx mA):∃od,h.get? dx=some od/\∀name,W.lookIn name od=some (mA name):=by
 obtain⟨o,es,ep,ho,hd,hk,_,hm⟩:=n;refine⟨o,ho,λname=>?_⟩;have e:=hm name;unfold nsFind findBy at e;rw[<-Array.find?_toList]at e;unfold W.lookIn;rw[hd];dsimp only;split
 .rename_i y q
  rw[q]at e;exact congrArg some e
 .rename_i q
  rw[q]at e;have a:es.toList.any (·.refKey)=false:=by
   rw[Qe];intro y hy;obtain⟨z,t,hkey⟩:=hk y (Array.mem_toList_iff.mp hy);simp[DictEntry.refKey,hkey]
  have a':¬es.toList.any (·.refKey)=true:=by rw[a];exact fX
  rw[if_neg a'];exact congrArg some e
def MZ.look{h:Heap}{x dx C:Addr}{mA:Str->Option Value}(I:MZ h x dx C mA):∃od,W.InstAt h x (Vr C dx) C (some od)/\∀name,W.lookIn name od=some (mA name):=
 let⟨od,ho,hl⟩:=ajB I.ns
 ⟨od,⟨I.obj,rfl,rfl,ho⟩,hl⟩
section
variable {prog:Program} {w:World} {A:Around} {E:Value->Shared->Prop} {s:Shared} {K:aL} {x dx C f:Addr} {mA:Str->Option Value} {name:Str} {v:Value}
end
def sI.some_of{v:V}{o:Option Value}(r:sI (some v) o):∃u,o=some u/\RelV v u:=by
 cases o with
 |none=>exact(show False from r).elim
 |some u=>exact⟨u,rfl,r⟩
def sI.none_of{o:Option Value}(r:sI none o):o=none:=by
 cases o with
 |none=>rfl
 |some u=>exact(show False from r).elim
section
variable {P:Program} {w:World} {H H':Hp} {h h':Heap} {a C dx:Addr} {fs fs':List (Str×V)}
def ajq(hok:fZ P w H h)(e:H a=some (.ins C dx fs)):∃mA,MZ h a dx C mA/\(∀f,sI (fs.lookup f) (mA f))/\adH mA (fs.map (·.1))/\fs.length<=1000/\H dx=some (.own a):=by
 obtain⟨d,z,ne,ob,mA,n,r,q⟩:=(show gj P w H h a (.ins C dx fs)from hok a _ e);exact⟨mA,⟨ob,n,ne⟩,r,q,z,d⟩
end
structure Cls(K:aL)(C:Addr):Prop where
 pg:W.plainGet K C Str.empty=true
 hd:W.hasDictIn K C=true
 po:W.plainOver K C=true
 sa:wg K (.ref C) "__setattr__" = some (some (.builtin "object.__setattr__"))
def Cls.get{K:aL}{C:Addr}(c:Cls K C)(f:Str):W.plainGet K C f=true:=c.pg
section
variable {X:Cx} {pins:List (Addr×Obj)} {σ:St} {H:Hp} {s:Shared} {a C dx:Addr} {fs:List (Str×V)} {f:Str} {v:V} {A:Around} {E:Value->Shared->Prop}
end
section
variable {X:Cx} {o e value:Expr} {f:Str} {pos pos' tpos:Pos} {ta tv:TE}
end
section
variable {X:Cx} {pins:List (Addr×Obj)} {σ:St} {H:Hp} {s:Shared} {A:Around} {E:Value->Shared->Prop} {Q:Value->Shared->Prop} {c:Value} {b:Bool}
inductive nM(K:aL)(H:Hp):V->Value->Prop where
 |non:nM K H .non (.type "NoneType")
 |bl (x:Bool):nM K H (.bl x) (.type "bool")
 |int (i:Int):nM K H (.int i) (.type "int")
 |str (x:Str):nM K H (.str x) (.type "str")
 |flt (x:UInt64):nM K H (.flt x) (.type "float")
 |lst {a:Addr} {xs:List V} (e:H a=some (.lst xs)):nM K H (.ref a) (.type "list")
 |jf {a:Addr} {o:Obj} {xs:List V} (e:H a=some (.jf o (.lst xs))):nM K H (.ref a) (.type "list")
 |tup {a:Addr} {xs:List V} (e:H a=some (.tup xs)):nM K H (.ref a) (.type "tuple")
 |dK {a:Addr} {kvs:List (Key×V)} (e:H a=some (.dK kvs)):nM K H (.ref a) (.type "dict")
 |dT {a:Addr} {kvs:List (List Key×V)} (e:H a=some (.dT kvs)):nM K H (.ref a) (.type "dict")
 |ins {a C dx:Addr} {fs:List (Str×V)} (e:H a=some (.ins C dx fs)) (cl:Cls K C) (ha:wg K (.ref C) "__class__" = some (some (.builtin "object.__class__")))
   (hn:W.specialIn K (.builtin "object.__class__") "__get__" = some (some (.builtin "getset_descriptor.__get__"))) (htk:W.takesIn K (.builtin "object.__class__")=some true)
   (hm:Cy K C (.type "object")=some true):nM K H (.ref a) (.ref C)
def apM{x:V}{u t:Value}(I:Inv X pins σ H s)(rx:RelV x u)(ty:nM X.K H x t)(e:sH X.K t c=some b)(h:∀tk,Q (.bool b) { s with toks:=tk }):
  wpAny (model X.prog X.w) A (call (.builtin "isinstance") [u,c]) Q E s:=by
 cases ty with
 |non=>cases (show u=Value.none from rx);exact nU W.kitx_none I.gU True.intro e (λz=>nomatch z) h
 |bl y=>cases (show u=Value.bool y from rx);exact nU W.kitx_bool I.gU True.intro e (λz=>nomatch z) h
 |int i=>obtain⟨t,q⟩:=(show ∃t,u=Value.int i t from rx);cases q;exact nU W.kitx_int I.gU True.intro e (λz=>nomatch z) h
 |str y=>obtain⟨t,q⟩:=(show ∃t,u=Value.str y t from rx);cases q;exact nU W.kitx_str I.gU True.intro e (λz=>nomatch z) h
 |flt y=>obtain⟨t,q⟩:=(show ∃t,u=Value.float y t from rx);cases q;exact nU W.kitx_float I.gU True.intro e (λz=>nomatch z) h
 |@lst a xs ea=>
  cases (show u=Value.ref a from rx);obtain⟨_,_,n,_,h1⟩:=(show gj X.prog X.w H s.heap a (.lst xs)from I.hok a _ ea);exact nU W.kitx_list I.gU ⟨_,h1,rfl⟩ e (λz=>nomatch z) h
 |@jf a ob xs ea=>
  cases (show u=Value.ref a from rx);obtain⟨_,_,_,n,_,h1⟩:=(show gj X.prog X.w H s.heap a (.jf ob (.lst xs))from I.hok a _ ea);exact nU W.kitx_list I.gU ⟨_,h1,rfl⟩ e (λz=>nomatch z) h
 |@tup a xs ea=>
  cases (show u=Value.ref a from rx);obtain⟨_,_,_,p⟩:=(show gj X.prog X.w H s.heap a (.tup xs)from I.hok a _ ea);obtain⟨o,h1,h2,_⟩:=p;exact nU W.kitx_tuple I.gU ⟨o,h1,h2⟩ e (λz=>nomatch z) h
 |@dK a kvs ea=>
  cases (show u=Value.ref a from rx);obtain⟨_,_,vs,_,p⟩:=(show gj X.prog X.w H s.heap a (.dK kvs)from I.hok a _ ea);obtain⟨o,es,ep,h1,h2,_⟩:=p;exact nU W.kitx_dict I.gU ⟨o,h1,h2.1⟩ e (λz=>nomatch z) h
 |@dT a kvs ea=>
  cases (show u=Value.ref a from rx);obtain⟨_,_,xs,_,o,es,ep,h1,h2,_⟩:=(show gj X.prog X.w H s.heap a (.dT kvs)from I.hok a _ ea);exact nU W.kitx_dict I.gU ⟨o,h1,h2.1⟩ e (λz=>nomatch z) h
 |@ins a C dx fs ea cl ha hn htk hm=>
  cases (show u=Value.ref a from rx);obtain⟨mA,O,_⟩:=ajq I.hok ea;obtain⟨od,J,_⟩:=O.look;exact nU (W.kitx_own (cl.get _) cl.hd ha hn htk hm) I.gU J e (λz=>nomatch z) h
end
structure dh(k:Nat)(A:Around):Prop where
 hd:A.handled=none
 dp:A.depth+3*k+105<recursionLimit
 un:A.units+16*k+200<cLine
def dh.mono{j k:Nat}{A:Around}(r:dh k A)(h:j<=k):dh j A:=⟨r.hd,by have:=r.dp;lia,by have:=r.un;lia⟩
theorem dh.deeper{k:Nat}{A:Around}(r:dh (k+1) A)(env:Env):dh k (A.deeper env):=
 ⟨r.hd,by have:=r.dp;show A.depth+1+3*k+105<_;lia,by have:=r.un;show A.units+3+16*k+200<_;lia⟩
theorem dh.depth{k:Nat}{A:Around}(r:dh k A):A.depth<recursionLimit:=by have:=r.dp;lia
theorem dh.units{k:Nat}{A:Around}(r:dh k A):A.units+64<cLine:=by have:=r.un;lia
def dh.af7{k:Nat}{A:Around}(r:dh k A):A.units<cLine:=by have:=r.un;lia
def agn:TA:=λ_ H Q=>Q [] H
def wX(ta:TE)(tr:TA):TA:=λσ H Q=>ta σ H λx H1=>tr σ H1 λxs H2=>Q (x::xs) H2
section
variable {X:Cx} {e:Expr} {es:List Expr} {te:TE} {t:TA} {pos:Pos}
def ak:PA X [] agn:=λ_ _ _ _ H Q I h=>Calls.spliced_nil ⟨[],H,I,.nil,h⟩
def aM(ha:PE X e te)(hr:PA X es t)(hs:starEach (e::es) X.env=(false,eval e X.env)::starEach es X.env:=by rfl):PA X (e::es) (wX te t):=by
 intro pos pins s σ H Q I h;rw[hs];show wpAny _ _ (spliced ((false,eval e X.env)::backTo pos (starEach es X.env))) _ _ s;refine Calls.spliced_cons (bw (ha pins s σ H _ I h) λu s1 ⟨x,H1,I1,r1,q1⟩=>?_);exact bw (hr pos pins s1 σ H1 _ I1 q1) λus s2 ⟨xs,H2,I2,r2,q2⟩=>⟨x::xs,H2,I2,.cons r1 r2,q2⟩
inductive aez(xs:List V)(o:HO)(H:Hp)(Q:VK):Prop|mk (hz:xs.length<=sizeLine) (q:∀p,H p=none->Q (.ref p) (upd H p o))
def alT(t:TA):TE:=λσ H Q=>t σ H λxs H1=>aez xs (.tup xs) H1 Q
def am9(t:TA):TE:=λσ H Q=>t σ H λxs H1=>aez xs (.lst xs) H1 Q
def lX{x1}(h:PA X es t):PE X (.Tuple es x1 pos) (alT t):=by
 intro pins s σ H Q I hq;refine wpAny_Tuple_spliced (bw (h pos pins s σ H _ I hq) λus s1 ⟨xs,H1,I1,r,z,q⟩=>⟨by rw[<-r.length];exact z,?_⟩);have hf:H1 s1.heap.objs.size=none:=I1.hok.fresh (aR _);refine⟨.ref s1.heap.objs.size,upd H1 s1.heap.objs.size (.tup xs),I1.laid (t':=s1.toks) (λb u e=>Heap.get?_push_of_some _ e) (aR _) ?_,rfl,q _ hf⟩;exact⟨z,us,r,⟨_,Heap.get?_push_size _ rfl,rfl,_,rfl⟩⟩
def jc(h:PA X es t):PE X (.List es pos) (am9 t):=by
 intro pins s σ H Q I hq;refine wpAny_List_spliced (bw (h pos pins s σ H _ I hq) λus s1 ⟨xs,H1,I1,r,z,q⟩=>⟨by rw[<-r.length];exact z,?_⟩);have hf:H1 s1.heap.objs.size=none:=I1.hok.fresh (aR _);refine⟨.ref s1.heap.objs.size,upd H1 s1.heap.objs.size (.lst xs),I1.laid (t':=s1.toks) (λb u e=>Heap.get?_push_of_some _ e) (aR _) ?_,rfl,q _ hf⟩;exact⟨z,us,0,r,Heap.get?_push_size _ rfl⟩
end
abbrev Sp:=List V->Hp->VK->XK->Prop
abbrev sY:=List Env->Hp->Shared->XK->Value->Shared->Prop
structure Ks(P:Program)(w:World)(K:aL)(mg:Str->Option Value)(base:Heap)(A:Around)(outer:List Env)(s:Shared)(H:Hp):Prop where
 frames:A.frames=some outer
 mod:Mod K mg base
 bs:∀b o,base.get? b=some o->s.heap.get? b=some o/\H b=none
 u0:base.objs.size<=s.heap.objs.size
 qd:s.heap.FunFrames base outer
 rZ:∀b∈frs outer,H b=none
 hok:fZ P w H s.heap
 bare:AllBare s.gens
 tree:P.given.tree=none
def CE(outer:List Env)(P:Program)(w:World)(H:Hp)(s:Shared)(Q:VK)(u:Value)(s':Shared):Prop:=
 ∃v H',s'.os=s.os/\AllBare s'.gens/\Un (frs outer) [] H H' s.heap s'.heap/\fZ P w H' s'.heap/\RelV v u/\Q v H'
def CR(CX:sY)(outer:List Env)(P:Program)(w:World)(H:Hp)(s:Shared)(Q:VK)(E:XK)(r:Result)(s':Shared):Prop:=
 match r with
 |.ok (.ret u)=>CE outer P w H s Q u s'
 |.ok _=>False
 |.error e=>CX outer H s E e s'
structure sX(P:Program)(w:World)(K:aL)(mg:Str->Option Value)(base:Heap)(CX:sY)(k:Nat)(f:Addr)(fd:FuncData)(ps:List Str)(sp:Sp):Prop where
 len:∀vs H Q E,sp vs H Q E->vs.length=ps.length
 run:∀(A:Around) (outer:List Env) (s:Shared) (H:Hp) (args:Args) (us:List Value) (vs:List V) (Q:VK) (E:XK),dh k A->Ks P w K mg base A outer s H->BindsTo s fd args (ps.zip us)->Vals vs us->sp vs H Q E->
  codeAny (model P w) A (.call (.ref f) args) (CR CX outer P w H s Q E) s
section
variable {X:Cx} {pins:List (Addr×Obj)} {σ:St} {H:Hp} {s s':Shared}
def Inv.env0(I:Inv X pins σ H s):Ks X.prog X.w X.K X.mg X.base X.A X.stack s H:=
 ⟨I.ok.frames,I.ok.mod,I.bs,eO I.ok.u0 I.sz,I.stack,I.RQ,I.hok,I.bare,I.ok.tree⟩
def Inv.after{Q:VK}{u:Value}(I:Inv X pins σ H s)(h:CE X.stack X.prog X.w H s Q u s'):EP X pins σ Q u s':=by
 obtain⟨v,H',os,bare,un,hok,r,q⟩:=h;obtain⟨hh,g,d,t,os'⟩:=s';obtain rfl:os'=s.os:=os;exact⟨v,H',I.call (h':=hh) (g':=g) (d':=d) (t':=t) (ch:=[]) un hok bare (λb z=>absurd z (by simp)),r,q⟩
end
def GY(sp:Sp)(vI:List V)(E:XK)(t:TA):TE:=λσ H Q=>t σ H λvs H1=>sp (vs++vI) H1 Q E
def Binds(K:aL)(fd:FuncData)(ps:List Str)(ds:List Value):Prop:=
 ∀(s:Shared) (us:List Value),K.In s.heap->(us++ds).length=ps.length->BindsTo s fd ⟨us,[]⟩ (ps.zip (us++ds))
def Binds.all{K:aL}{fd:FuncData}{ps:List Str}(h:∀us:List Value,us.length=ps.length->bindArgs fd ⟨us,[]⟩=pure (ps.zip us)):Binds K fd ps []:=λs us _ hl=>by
 rw[JV]at hl⊢;exact .of_eq (h us hl)
def Passes(CX:sY)(X:Cx)(E:XK):Prop:=∀(pins:List (Addr×Obj)) (σ:St) (H:Hp) (s:Shared) (e:Value) (s':Shared),Inv X pins σ H s->CX X.stack H s E e s'->X.xe e s'
section
variable {X:Cx} {CX:sY} {k:Nat} {f C:Addr} {fd:FuncData} {ps:List Str} {sp:Sp} {vI:List V} {ds:List Value} {E:XK} {x m:Str} {p pos apos:Pos} {e o:Expr} {es:List Expr} {ta:TE} {t:TA}
def aa6{pins:List (Addr×Obj)}{σ:St}{H:Hp}{s:Shared}{Q:VK}{us:List Value}{vs:List V}(F:sX X.prog X.w X.K X.mg X.base CX k f fd ps sp)(hr:dh k X.A)(hb:Binds X.K fd ps ds)(hd:Vals vI ds)(hx:Passes CX X E)
  (I:Inv X pins σ H s) (r:Vals vs us) (h:sp (vs++vI) H Q E):wpAny (model X.prog X.w) X.A (call (.ref f) us) (EP X pins σ Q) X.xe s:=by
 have r2:Vals (vs++vI) (us++ds):=r.append hd;have hl:(us++ds).length=ps.length:=by rw[<-r2.length];exact F.len _ _ _ _ h
 refine wpAny_call (codeAny_mono (F.run X.A X.stack s H ⟨us,[]⟩ (us++ds) (vs++vI) Q E hr I.env0 (hb s us I.gU hl) r2 h) λr s' hq=>?_);cases r with
 |error e=>exact hx pins σ H s e s' I hq
 |ok fl=>
  cases fl with
  |ret u=>exact I.after hq
  |next=>exact False.elim hq
  |brk=>exact False.elim hq
  |cont=>exact False.elim hq
def acy(F:sX X.prog X.w X.K X.mg X.base CX k f fd ps sp)(hr:dh k X.A)(hg:Gl X x)(hm:X.mg x=some (.ref f))(hk:BX X.K (.ref f)=true)(hb:Binds X.K fd ps ds)(hd:Vals vI ds)(hx:Passes CX X E)
  (ha:PA X (e::es) t) (hdb:(x==("__debug__" : Str))=false:=by decide) (he:starEach (e::es) X.env=(false,eval e X.env)::starEach es X.env:=by rfl) (hpl:(backTo pos (starEach es X.env)).any (·.1)=false:=by rfl):
  PE X (.Call (.Name x p) (e::es) [] pos) (GY sp vI E t):=by
 intro pins s σ H Q I h;refine wpAny_Call_Name_kw (Dc I hg hm ?_ hdb);refine Vq (h₀:=X.base) I.ok.mod.C8 hk (bw (ha pos pins s σ H _ I h) λus s1 ⟨vs,H1,I1,r,q⟩=>⟨I1.gU,?_⟩) he hpl;exact aa6 F hr hb hd hx I1 r q
end
section
variable {X:Cx} {CX:sY} {k:Nat} {f C:Addr} {fd:FuncData} {ps ks:List Str} {sp:Sp} {E:XK} {x m:Str} {p pos apos kpos:Pos} {e o:Expr} {es:List Expr} {kws:List Keyword} {te ta:TE} {t tk:TA} {nm:Option Str}
variable {g:List Value->List Value->List Value} {gV:List V->List V->List V}
end
section
variable {CX:sY}{P:Program}{w:World}{K:aL}{mg:Str->Option Value}{base:Heap}{qual:Str}{scope:Scope}{f:Addr}
structure aY(N P:List Str)(sc:Scope):Prop where
 kind:sc.kind = .function
 co:sc.isCoroutine=false
 gen:sc.isGenerator=false
 nd:N.Nodup
 pre:N.take P.length=P
 par:∀x∈P,sc.names.lookup x=some .local∨sc.names.lookup x=some .cell
 VH:∀y∈sc.names,y.2≠ .free
theorem afc{kindOf:Str->Option NameKind}{x:Str}:∀{binds:List (Str×Value)} {m:Str->Option Value},(∀v,(x,v)∉binds)->bindL kindOf binds m x=m x
 |[],_,_=>rfl
 |(n,v)::r,m,h=>by
  unfold bindL;rw[afc λw hw=>h w (jZ _ hw)];split
  .have:x≠n:=by rintro rfl;exact h v mC
   simp[this]
  .rfl
theorem aa2{kindOf:Str->Option NameKind}{x:Str}:∀{binds:List (Str×Value)} {m:Str->Option Value},(∀v,(x,v)∉binds)->bindC kindOf binds m x=m x
 |[],_,_=>rfl
 |(n,v)::r,m,h=>by
  unfold bindC;rw[aa2 λw hw=>h w (jZ _ hw)];split
  .rfl
  .have:x≠n:=by rintro rfl;exact h v mC
   simp[this]
theorem agd{kindOf:Str->Option NameKind}{x:Str}{v:Value}:∀{P:List Str} {vs:List Value} {i:Nat} {m:Str->Option Value},P.Nodup->P[i]?=some x->vs[i]?=some v->kindOf x=some .local->
  bindL kindOf (P.zip vs) m x=some v
 |[],_,_,_,_,h,_,_=>by simp at h
 |_::_,[],_,_,_,_,h,_=>by simp at h
 |p::P,w::vs,0,m,nd,h1,h2,hk=>by
  simp at h1 h2;subst h1;subst h2;show bindL kindOf ((p,w)::P.zip vs) m p=_;unfold bindL;rw[afc λv hv=>(yq.mp nd).1 (PY hv).1,if_pos hk];simp
 |p::P,w::vs,i+1,m,nd,h1,h2,hk=>by
  show bindL kindOf ((p,w)::P.zip vs) m x=_;unfold bindL;exact agd (i:=i) (yq.mp nd).2 (by simpa using h1) (by simpa using h2) hk
theorem adx{kindOf:Str->Option NameKind}{x:Str}{v:Value}:∀{P:List Str} {vs:List Value} {i:Nat} {m:Str->Option Value},P.Nodup->P[i]?=some x->vs[i]?=some v->kindOf x≠some .local->
  bindC kindOf (P.zip vs) m x=some v
 |[],_,_,_,_,h,_,_=>by simp at h
 |_::_,[],_,_,_,_,h,_=>by simp at h
 |p::P,w::vs,0,m,nd,h1,h2,hk=>by
  simp at h1 h2;subst h1;subst h2;show bindC kindOf ((p,w)::P.zip vs) m p=_;unfold bindC;rw[aa2 λv hv=>(yq.mp nd).1 (PY hv).1,if_neg hk];simp
 |p::P,w::vs,i+1,m,nd,h1,h2,hk=>by
  show bindC kindOf ((p,w)::P.zip vs) m x=_;unfold bindC;exact adx (i:=i) (yq.mp nd).2 (by simpa using h1) (by simpa using h2) hk
def start(N:List Str)(vs:List V):St:=vs.map some++kI (N.length-vs.length) none
def zK(CX:sY)(P:Program)(w:World)(K:aL)(mg:Str->Option Value)(base:Heap)(N:List Str)(qual:Str)(scope:Scope)(f:Addr)(cd:Value)(A:Around)(outer:List Env)(s:Shared)(H:Hp)(E:XK):Cx where
 prog:=P
 w:=w
 K:=K
 mg:=mg
 base:=base
 A:=A.deeper (envOfC qual scope s.heap.objs.size f cd)
 N:=N
 s₀:=s
 H₀:=H
 env:=envOfC qual scope s.heap.objs.size f cd
 outer:=outer
 stack:=envOfC qual scope s.heap.objs.size f cd::outer
 ex:=[]
 calm:=true
 fn:=λ_=>true
 pn:=[]
 xe:=λe s'=>wpAny (model P w) (A.deeper (envOfC qual scope s.heap.objs.size f cd)) (leaving (envOfC qual scope s.heap.objs.size f cd) e) (λ_ s''=>CX outer H s E e s'') (λe' s''=>CX outer H s E e' s'') s'
def ZM{sc:Scope}{n:Nat}{x:Str}(h:sc.names.lookup x=some .cell):∃c,(cellsFrom n sc.names []).lookup x=some c:=by
 have q:=aeA sc.names n [] (.inl h);exact Option.isSome_iff_exists.mp q
def alA{N ps:List Str}{cd:Value}{A:Around}{outer:List Env}{s s1:Shared}{H:Hp}{E:XK}{us:List Value}{vs:List V}
  (S:aY N ps scope) (hd:A.handled=none) (e0:Ks P w K mg base A outer s H) (hl:vs.length=ps.length) (r:Vals vs us)
  (x:InCallC s s.heap.objs.size (bindL (envOfC qual scope s.heap.objs.size f cd).kindOf (ps.zip us) λ_=>none) (cellsFrom (s.heap.objs.size+1) scope.names []) (bindC (envOfC qual scope s.heap.objs.size f cd).kindOf (ps.zip us) λ_=>none) s1):
  Inv (zK CX P w K mg base N qual scope f cd A outer s H E) [] (start N vs) H s1:=by
 have hpl:ps.length<=N.length:=by have:=congrArg List.length S.pre;rw[nT]at this;lia
 obtain⟨h1,tk,rfl,hk⟩:=x.done;have DG:∀b:Addr,b∉(zK CX P w K mg base N qual scope f cd A outer s H E).ex:=λb z=>absurd (show b∈([]:List Addr)from z) (by simp);refine⟨⟨e0.mod,S.kind,rfl,rfl,aR _,λy z c h1 h2=>?_,λy hy=>?_,λy c _ h=>?_,λ_=>hd,Around.frames_deeper e0.frames,.inr ⟨rfl,rfl⟩,λb z=>absurd z (DG b),e0.bs,e0.u0,λb _ _=>DG b,λb z=>absurd z (DG b),e0.qd,e0.rZ,e0.tree,⟨_,_,rfl,S.gen,S.co,rfl,rfl⟩⟩,
  rfl,e0.bare,Un.kept hk,⟨_,x.toInCall.ns,λi y v h1 h2 h3=>?_⟩,λy c h=>⟨_,x.cell y c h⟩,e0.hok.fresh (aR _),λy c h=>?_,λp hp=>absurd (show p∈([]:List (Addr×Obj))from hp) (by simp),e0.hok.kept hk,?_⟩
 .exact name_of_addr x.apart (vN h1) (vN h2)
 .have hy:scope.names.lookup y=some .cell∨scope.names.lookup y=some .free:=hy;rcases hy with hy|hy
  .exact ZM hy
  .exact absurd rfl (S.VH _ (vN hy))
 .exact fj (x.above y c (vN h))
 .have hi:i<vs.length:=by
   unfold start at h2;by_cases hi:i<vs.length
   .exact hi
   .rw[List.getElem?_append_right (by simpa using hi)]at h2;rw[List.getElem?_replicate]at h2;split at h2<;>cases h2
  have ha:vs[i]?=some v:=by
   unfold start at h2;rw[List.getElem?_append_left (by simpa using hi),List.getElem?_map]at h2;cases e:vs[i]? with
   |none=>rw[e]at h2;cases h2
   |some a=>rw[e]at h2;cases h2;rfl
  obtain⟨u,hu,rv⟩:=r.get ha;have hp:ps[i]?=some y:=by
   rw[<-S.pre,List.getElem?_take_of_lt ⋯];exact h1
  have ndP:ps.Nodup:=by rw[<-S.pre];exact S.nd.sublist (List.take_sublist _ _)
  refine⟨u,rv,?_⟩;rcases S.par y (List.mem_of_getElem? hp)with k|k
  .exact .inl ⟨k,agd ndP hp hu k⟩
  .obtain⟨c,e⟩:=ZM (n:=s.heap.objs.size+1) k;refine .inr ⟨.inl k,c,e,?_⟩;have q:=x.cell y c e;rw[adx ndP hp hu (by show scope.names.lookup y≠_;rw[k];decide)]at q;exact q
 .exact e0.hok.fresh (fj (x.above y c (vN h)))
 .unfold start;show _=N.length;rw[gW,aK,List.length_replicate];lia
def apO{k:Nat}{name:Str}{params:Arguments}{body:List Stmt}{dV kV doc pm cdv ct oc:Value}{an od:Option Addr}
  {osl:Array (Option Value)} {N ps:List Str} {sp:Sp} (lk:K.lookup f=some ⟨oc,od,.func (qH name qual params body scope dV kV doc pm an cdv ct),osl⟩) (hcd:DF K cdv qual=true) (S:aY N ps scope)
  (len:∀vs H Q E,sp vs H Q E->vs.length=ps.length)
  (hbody:∀(A:Around) (outer:List Env) (s:Shared) (H:Hp) (vs:List V) (Q:VK) (E:XK),dh k (A.deeper (envOfC qual scope s.heap.objs.size f cdv))->sp vs H Q E->
   ∃t,jE (zK CX P w K mg base N qual scope f cdv A outer s H E) body t/\t { nx:=λ_ H'=>Q .non H',rt:=Q } (start N vs) H):
  sX P w K mg base CX (k+1) f (qH name qual params body scope dV kV doc pm an cdv ct) ps sp:=by
 refine⟨len,λA outer s H args us vs Q E hr e0 hb r hsp=>?_⟩;have hl:=len _ _ _ _ hsp;have KX:K.In s.heap:=e0.mod.C8.keeps λb o e=>(e0.bs b o e).1;have lim:s.heap.NoLimit:=e0.mod.nolimit.keeps λb o e=>(e0.bs b o e).1;have hkind:∀y∈ps.zip us,scope.names.lookup y.1=some .local∨(scope.names.lookup y.1=some .cell/\((cellsFrom (s.heap.objs.size+1) scope.names []).lookup y.1).isSome=true):=λ⟨n,v⟩ hy=>by
  rcases S.par n (PY hy).1 with q|q
  .exact .inl q
  .exact .inr ⟨q,aeA _ _ _ (.inl q)⟩
 refine codeAny_call_function hr.depth (KX _ _ lk) rfl S.co S.gen rfl (W.codeRec_of KX hcd) (hb _ _ _ _ ?_);refine wpAny_newFunctionEnv_cells S.kind hkind λenv he s1 x=>?_;subst he;refine⟨lim.keeps x.toInCall.keep,codeAny_func ?_⟩;obtain⟨t,ht,hq⟩:=hbody A outer s H vs Q E (hr.deeper _) hsp;have I:Inv (zK CX P w K mg base N qual scope f cdv A outer s H E) [] (start N vs) H s1:=alA S hr.hd e0 hl r x;refine wpAny_mono (ht [] s1 (start N vs) H _ I hq) (λfl s' hs=>?_) λe s' hs=>hs;have fin:∀{σ':St} {H':Hp} {v:V} {u:Value},Inv (zK CX P w K mg base N qual scope f cdv A outer s H E) [] σ' H' s'->RelV v u->Q v H'->CE outer P w H s Q u s':=
  λ{σ' H' v u} J rv q=>⟨v,H',J.os,J.bare,J.base,J.hok,rv,q⟩
 cases fl with
 |ret u=>
  obtain⟨v,σ',H',J,rv,q⟩:=hs;exact fin J rv q
 |next=>
  obtain⟨σ',H',J,q⟩:=hs;exact fin (v:=V.non) (u:=Value.none) J rfl q
 |brk=>
  obtain⟨_,_,_,q⟩:=hs;exact False.elim q
 |cont=>
  obtain⟨_,_,_,q⟩:=hs;exact False.elim q
end
section
variable {X:Cx} {x:Str} {p pos:Pos} {e:Expr} {es:List Expr} {t:TA} {id T:String} {r:List V->Hp->VK->Prop}
def VR(r:List V->Hp->VK->Prop)(t:TA):TE:=λσ H Q=>t σ H λvs H1=>r vs H1 Q
def lu(hc:jH X (.builtin id) r)(hg:Gl X x)(hm:X.mg x=none)(hv:bootBuiltins x=some (.builtin id))(ha:PA X (e::es) t)(hn:x≠ "__name__" := by decide)(hdb:(x==("__debug__" : Str))=false:=by decide)
  (he:starEach (e::es) X.env=(false,eval e X.env)::starEach es X.env:=by rfl) (hpl:(backTo pos (starEach es X.env)).any (·.1)=false:=by rfl):PE X (.Call (.Name x p) (e::es) [] pos) (VR r t):=by
 intro pins s σ H Q I h;refine wpAny_Call_Name_kw (wJ I hg hm hv ?_ hn hdb);exact aAp (bw (ha pos pins s σ H _ I h) λus s1 ⟨vs,H1,I1,r1,q1⟩=>hc pins s1 σ H1 vs us Q I1 r1 q1) he hpl
def jP(hc:jH X (.type T) r)(hg:Gl X x)(hm:X.mg x=none)(hv:bootBuiltins x=some (.type T))(ha:PA X (e::es) t)(hn:x≠ "__name__" := by decide)(hdb:(x==("__debug__" : Str))=false:=by decide)
  (he:starEach (e::es) X.env=(false,eval e X.env)::starEach es X.env:=by rfl) (hpl:(backTo pos (starEach es X.env)).any (·.1)=false:=by rfl):PE X (.Call (.Name x p) (e::es) [] pos) (VR r t):=by
 intro pins s σ H Q I h;refine wpAny_Call_Name_kw (wJ I hg hm hv ?_ hn hdb);exact BR (bw (ha pos pins s σ H _ I h) λus s1 ⟨vs,H1,I1,r1,q1⟩=>hc pins s1 σ H1 vs us Q I1 r1 q1) he hpl
end
end L2
namespace HT
open PySem PyProof.Rows
section
open PySem.SeqAt
open PySem.AutoSeq1 (wpAny_loadPart')
open PySem.MeetsSeq PySem.MeetsSeq2 PySem.MeetsSeq3
end
section
variable {prog:Program} {w:World} {A:Around} {E:Value->Shared->Prop} {s:Shared}
section
variable {t sl:Addr}{Q:Value->Shared->Prop}{vl vu:Value}{lo hi:Option Int}
def arv{b:Addr}{vs ws:List Value}(ht:IsTup s.heap t vs.toArray)(hb:IsTup s.heap b ws.toArray)(hv:vs≠[])
  (h1:ws=[]->Q (.ref t) s) (h2:ws≠[]->Q (.ref s.heap.objs.size) { s with heap:=s.heap.push { cls:= .type "tuple",data:= .seq (vs++ws).toArray } })
  (hsz:vs.length+ws.length<=sizeLine):wpAny (model prog w) A (binaryOp .Add (.ref t) (.ref b)) Q E s:=by
 obtain⟨⟨cls,dd,data,sl⟩,ho,hc,n,hd⟩:=id ht;obtain⟨⟨cls2,dd2,data2,sl2⟩,ho2,hc2,n2,hd2⟩:=id hb;simp only at hc hd hc2 hd2;subst hc hd hc2 hd2;have e:vs.toArray++ws.toArray=(vs++ws).toArray:=by simp
 by_cases hw:ws=[]
 .exact concat_meets ⟨_,ho,rfl⟩ ⟨_,ho2,rfl⟩ noFill_tuple_add seq_tuple_add Nv Nz (QS _ _)
   (tuple_addW1 t b vs.toArray ws.toArray n n2 dd dd2 sl sl2 (by simpa using hv) (by simp[hw])) ⟨ho,ho2,h1 hw⟩
 .refine concat_meets ⟨_,ho,rfl⟩ ⟨_,ho2,rfl⟩ noFill_tuple_add seq_tuple_add Nv Nz (QS _ _)
   (tuple_addW2 t b vs.toArray ws.toArray n n2 dd dd2 sl sl2 (by simpa using hv) (by simpa using hw) (by rw[fU,fU];exact hsz)) ⟨ho,ho2,?_⟩
  rw[e];exact h2 hw
def bH(n d:Nat):Option Int->Nat
 |none=>d
 |some v=>if v<0 then(v+(n:Int)).toNat else min v.toNat n
def tM(n d:Nat):bH n d none=d:=rfl
def rP(n d k:Nat):bH n d (some (k:Int))=min k n:=by
 show(if(k:Int)<0 then((k:Int)+(n:Int)).toNat else min (k:Int).toNat n)=min k n;rw[if_neg ⋯,cM]
def aoI(n d:Nat)(hd:d<=n)(o:Option Int):bH n d o<=n:=by
 cases o with
 |none=>exact hd
 |some v=>
  show(if v<0 then(v+(n:Int)).toNat else min v.toNat n)<=n;by_cases hv:v<0
  .rw[if_pos hv];lia
  .rw[if_neg hv];exact RW _ _
def acr(v:Int)(n d:Nat):(if v<0 then max (v+(n:Int)) 0 else min v (n:Int))=((bH n d (some v):Nat):Int):=by
 show(if v<0 then max (v+(n:Int)) 0 else min v (n:Int))=(((if v<0 then(v+(n:Int)).toNat else min v.toNat n):Nat):Int);by_cases hv:v<0
 .simp only[if_pos hv];lia
 .simp only[if_neg hv];lia
def auL(lo hi:Option Int)(n:Nat):Builtin.Slice.sliceAdjust lo hi 1 (n:Int)=(((bH n 0 lo:Nat):Int),((bH n n hi:Nat):Int)):=by
 have h1:¬((1:Int)<0):=⋯;unfold Builtin.Slice.sliceAdjust;simp only[h1,if_false];refine Prod.ext ?_ ?_
 .cases lo with
  |none=>rfl
  |some v=>exact acr v n 0
 .cases hi with
  |none=>rfl
  |some v=>exact acr v n n
def aoA(i j:Nat):Builtin.Slice.slicePlaces (i:Int) (j:Int) 1=j-i:=by
 unfold Builtin.Slice.slicePlaces;have h1:(1:Int)>0:=⋯;simp only[h1,if_true,acR];split<;>lia
def ZP{v:Value}{o:Option Int}{Q:Option Int->Shared->Prop}(p:IsPart v o)(h:Q o s):wpAny (model prog w) A (Builtin.Slice.slicePartIndex v) Q E s:=by
 cases p with
 |none=>exact slicePart_none h
 |int i t=>exact slicePart_int h
def Ye{n:Nat}{Q:Int×Int×Nat->Shared->Prop}(hs:s.heap.IsSliceOf sl vl vu .none)(pl:IsPart vl lo)(pu:IsPart vu hi)
  (h:Q (((bH n 0 lo:Nat):Int),1,bH n n hi-bH n 0 lo) s):wpAny (model prog w) A (Builtin.Slice.sliceApplied (.ref sl) (pure (n:Int))) Q E s:=by
 obtain⟨os,hos,hcs,hds⟩:=id hs;unfold Builtin.Slice.sliceApplied Builtin.Slice.sliceFields;refine wpAny_bind (wpAny_bind (wpAny_field hos hds (x:=vl) rfl (wpAny_bind (wpAny_field hos hds (x:=vu) rfl (wpAny_bind (wpAny_field hos hds (x:= .none) rfl (wpAny_pure ?_)))))));refine wpAny_bind (slicePart_none ?_);show wpAny _ _ (if((1:Int)==0)=true then _ else _) _ _ s;rw[if_neg ∅];refine wpAny_bind (ZP pl (wpAny_bind (ZP pu (wpAny_bind (wpAny_pure ?_)))));show wpAny _ _ (match Builtin.Slice.sliceAdjust lo hi 1 (n:Int)with|(lo,hi)=>pure (lo,(1:Int),Builtin.Slice.slicePlaces lo hi 1)) _ _ s
 rw[auL lo hi n];show wpAny _ _ (pure (((bH n 0 lo:Nat):Int),(1:Int),Builtin.Slice.slicePlaces ((bH n 0 lo:Nat):Int) ((bH n n hi:Nat):Int) 1)) _ _ s;rw[aoA];exact wpAny_pure h
def asl(xs:Array Value)(i k:Nat):((d7 k).filterMap λ(m:Nat)=>xs[((i:Int)+(m:Int)*1).toNat]?).toArray=((xs.toList.drop i).take k).toArray:=by
 have e:(λ(m:Nat)=>xs[((i:Int)+(m:Int)*1).toNat]?)=λm=>xs[i+m]?:=by
  funext m
  have:((i:Int)+(m:Int)*1).toNat=i+m:=⋯;rw[this]
 rw[e];have:=pick_run xs i k;rw[acW]at this;have e2:((λx=>xs[x]?)∘λx=>i+x)=λm=>xs[i+m]?:=rfl;rw[e2]at this;rw[this]
def atY{items:Array Value}(ht:IsTup s.heap t items)(hs:s.heap.IsSliceOf sl vl vu .none)(pl:IsPart vl lo)(pu:IsPart vu hi)
  (hw:¬(bH items.size 0 lo=0/\bH items.size items.size hi=items.size))
  (h:Q (.ref s.heap.objs.size) { s with heap:=s.heap.push { cls:= .type "tuple",data:= .seq ((items.toList.drop (bH items.size 0 lo)).take (bH items.size items.size hi-bH items.size 0 lo)).toArray } })
  (hsz:items.size<=sizeLine):wpAny (model prog w) A (getItem (.ref t) (.ref sl)) Q E s:=by
 have Hu:sizeOk (.seq ((items.toList.drop (bH items.size 0 lo)).take (bH items.size items.size hi-bH items.size 0 lo)).toArray):=by
  show((items.toList.drop (bH items.size 0 lo)).take (bH items.size items.size hi-bH items.size 0 lo)).toArray.size<=sizeLine;rw[fU,nT,yC,Ml];lia
 have hj:bH items.size items.size hi<=items.size:=aoI _ _ (aR _) hi;obtain⟨os,hos,hcs,hds⟩:=id hs;have hTs:s.TypeIs (.ref sl) "slice" := ⟨os,hos,hcs⟩;unfold getItem;try with_reducible refine wpAny_holding ?_
 first|refine wpAny_bind (wpAny_pure ?_)|skip
 refine wpAny_bind (wpAny_sequenceKey ht.typeIs ∅ ?_);refine wpAny_bind (wpAny_callSpecial?_slot (name:=Str.ofString "__getitem__") ht.typeIs Al
  (wpAny_call_entry Al ht.typeIs entry_tuple_getitem ?_ (args_tuple_getitem _ _)))
 show wpAny _ _ (Builtin.Tuple.tupleItemsOf (.ref t)>>=_) _ _ s;refine wpAny_bind (tupleItemsOf_ ht ?_);refine wpAny_bind (wpAny_typeOf hTs ?_);rw[if_pos ∅];refine wpAny_bind (Ye hs pl pu ?_);have hno:¬((((bH items.size 0 lo:Nat):Int)==0&&(1:Int)==1&&(bH items.size items.size hi-bH items.size 0 lo)==items.size)=true):=by
  intro q;rw[uh,uh]at q;have q1:((bH items.size 0 lo:Nat):Int)=0:=eq_of_beq q.1.1;have q2:bH items.size items.size hi-bH items.size 0 lo=items.size:=eq_of_beq q.2;exact hw ⟨⋯,⋯⟩
 show wpAny _ _ (if(((bH items.size 0 lo:Nat):Int)==0&&(1:Int)==1&&(bH items.size items.size hi-bH items.size 0 lo)==items.size)=true then _ else _) _ _ s;rw[if_neg hno,asl];first
  |exact wpAny_bind (m:=Builtin.Tuple.tupleExact _) (wpAny_newObj_type (wpAny_pure ⟨_,rfl,wpAny_pure h⟩) Hu)
  |exact wpAny_bind (m:=Builtin.Tuple.tupleExact _) (wpAny_newObj_type (wpAny_bind (wpAny_pure (wpAny_pure ⟨_,rfl,wpAny_pure h⟩))) Hu)
  |exact wpAny_bind (wpAny_bind (m:=Builtin.Tuple.tupleExact _) (wpAny_newObj_type (wpAny_pure (wpAny_pure ⟨_,rfl,wpAny_pure h⟩)) Hu))
  |exact wpAny_bind (wpAny_bind (m:=Builtin.Tuple.tupleExact _) (wpAny_newObj_type (wpAny_pure ⟨_,rfl,wpAny_pure h⟩) Hu))
end
end
end HT
namespace L2
open PySem PySem.Spec PyProof.Rows
abbrev TO:=St->Hp->(Option Int->Hp->Prop)->Prop
def PO(X:Cx)(e:Option Expr)(t:TO):Prop:=
 ∀(pins:List (Addr×Obj)) (s:Shared) (σ:St) (H:Hp) (Q:Option Int->Hp->Prop),Inv X pins σ H s->t σ H Q->
  wpAny (model X.prog X.w) X.A (evalPart e X.env) (λu s'=>∃o H',Inv X pins σ H' s'/\IsPart u o/\Q o H') X.xe s
def apb:TO:=λ_ H Q=>Q none H
inductive arZ(x:V)(H:Hp)(Q:Option Int->Hp->Prop):Prop|mk (i:Int) (hx:x = .int i) (q:Q (some i) H)
def ajD(t:TE):TO:=λσ H Q=>t σ H λx H1=>arZ x H1 Q
def intsAre_of{ns:List Int}:∀{us:List Value},Vals (ns.map V.int) us->IntsAre us ns:=by
 induction ns with
 |nil=>intro us r;rw[XE]at r;cases r;exact .nil
 |cons n ns ih=>
  intro us r;rw[wW]at r;cases r with
  |cons r1 r2=>
   obtain⟨t,e⟩:=r1;subst e;exact .cons n t (ih r2)
section
variable {X:Cx} {e:Expr} {te:TE} {lo hi:Option Expr} {tl th:TO} {pos p2:Pos}
def rW:PO X none apb:=by
 intro pins s σ H Q I h;rw[evalPart_none];exact wpAny_pure ⟨none,H,I,.none,h⟩
def tO(h:PE X e te):PO X (some e) (ajD te):=by
 intro pins s σ H Q I hw;rw[evalPart_some];refine bw (h pins s σ H _ I hw) λu s1 ⟨x,H1,I1,r1,q1⟩=>?_;obtain⟨i,rfl,q⟩:=q1;obtain⟨t,rfl⟩:=r1;exact⟨some i,H1,I1,.int i t,q⟩
def ql(X:Cx)(r:V->Option Int->Option Int->Hp->VK->Prop):Prop:=
 ∀(pins:List (Addr×Obj)) (s:Shared) (σ:St) (H:Hp) (x:V) (v vl vu:Value) (lo hi:Option Int) (sl:Addr) (Q:VK),Inv X pins σ H s->RelV x v->s.heap.IsSliceOf sl vl vu .none->IsPart vl lo->IsPart vu hi->r x lo hi H Q->
  ∃T id,typeLookup (.type T) "__getitem__" = pure (some (.builtin id))/\s.TypeIs v T/\wpAny (model X.prog X.w) X.A (getItem v (.ref sl)) (EP X pins σ Q) X.xe s
def ql.or{r r':V->Option Int->Option Int->Hp->VK->Prop}(h:ql X r)(h':ql X r'):ql X (λx lo hi H Q=>r x lo hi H Q∨r' x lo hi H Q):=by
 intro pins s σ H x v vl vu lo hi sl Q I rx hs pl pu q;rcases q with q|q
 .exact h pins s σ H x v vl vu lo hi sl Q I rx hs pl pu q
 .exact h' pins s σ H x v vl vu lo hi sl Q I rx hs pl pu q
def tSl(r:V->Option Int->Option Int->Hp->VK->Prop)(te:TE)(tl th:TO):TE:=λσ H Q=>te σ H λx H1=>tl σ H1 λl H2=>th σ H2 λu H3=>r x l u H3 Q
def rN{r:V->Option Int->Option Int->Hp->VK->Prop}(hr:ql X r)(he:PE X e te)(hl:PO X lo tl)(hu:PO X hi th):PE X (.Subscript e (.Slice lo hi none p2) pos) (tSl r te tl th):=by
 intro pins s σ H Q I h;refine Subscript_ (bw (he pins s σ H _ I h) λv s1 ⟨x,H1,I1,r1,q1⟩=>?_);refine wpAny_Slice (bw (hl pins s1 σ H1 _ I1 q1) λvl s2 ⟨l,H2,I2,pl,q2⟩=>bw (hu pins s2 σ H2 _ I2 q2) λvu s3 ⟨u,H3,I3,pu,q3⟩=>?_);rw[evalPart_none];refine wpAny_pure ?_;have I4:Inv X pins σ H3 { s3 with heap:=s3.heap.push { cls:= .type "slice",data:= .fields #[vl,vu,.none] } }:=I3.kept (t':=s3.toks) λb ob q=>Heap.get?_push_of_some _ q;obtain⟨T,id,hT,ht,hg⟩:=hr pins { s3 with heap:=s3.heap.push { cls:= .type "slice",data:= .fields #[vl,vu,.none] } } σ H3 x v vl vu l u s3.heap.objs.size Q I4 r1 (acG ..) pl pu q3;show wpAny (model X.prog X.w) X.A (subscriptTail e (.Slice lo hi none p2) v (.ref s3.heap.objs.size)) (EP X pins σ Q) X.xe { s3 with heap:=s3.heap.push { cls:= .type "slice",data:= .fields #[vl,vu,.none] } };exact tail_any (ops:=[.ref s3.heap.objs.size,v]) ht hT hg (by with_unfolding_all rfl)
def gC(xs:List V)(lo hi:Option Int):List V:=(xs.drop (HT.bH xs.length 0 lo)).take (HT.bH xs.length xs.length hi-HT.bH xs.length 0 lo)
def Xj(xs:List V)(lo hi:Option Int):(gC xs lo hi).length<=xs.length:=by
 unfold gC;rw[nT,yC];lia
def au3(K:aL):V->Option Int->Option Int->Hp->VK->Prop:=λx lo hi H Q=>∃a xs,x = .ref a/\aB K H a xs/\
 ¬(HT.bH xs.length 0 lo=0/\HT.bH xs.length xs.length hi=xs.length)/\∀p,H p=none->Q (.ref p) (upd H p (.tup (gC xs lo hi)))
def aqm:ql X (au3 X.K):=by
 intro pins s σ H x v vl vu lo hi sl Q I rx hs pl pu h;obtain⟨a,xs,rfl,hx,hw,q⟩:=h;cases rx;obtain⟨its,r,ht,hz⟩:=I.tuple hx;have hlen:its.toArray.size=xs.length:=by rw[fU];exact r.length.symm
 refine⟨"tuple",_,Al.lookup,ht.typeIs,?_⟩;refine HT.atY ht hs pl pu (by rw[hlen];exact hw) ?_ (by rw[hlen];exact hz);rw[hlen];refine⟨.ref s.heap.objs.size,_,I.laid (t':=s.toks) (o:= .tup (gC xs lo hi)) (λb ob q=>Heap.get?_push_of_some _ q) (aR _) ?_,rfl,q _ (I.hok.fresh (aR _))⟩;exact⟨eO (Xj xs lo hi) hz,_,(r.drop (HT.bH xs.length 0 lo)).take (HT.bH xs.length xs.length hi-HT.bH xs.length 0 lo),IsTup.new _ _⟩
def azB(K:aL):R2:=λx y H Q=>∃a b xs ys,x = .ref a/\y = .ref b/\aB K H a xs/\aB K H b ys/\xs≠[]/\xs.length+ys.length<=sizeLine/\
 (ys=[]->Q (.ref a) H)/\(ys≠[]->∀p,H p=none->Q (.ref p) (upd H p (.tup (xs++ys))))
def Vals.Iv{xs:List V}{us:List Value}(r:Vals xs us):us=[]↔xs=[]:=by
 cases r with
 |nil=>simp
 |cons _ _=>simp
def asp:cZ X (binaryOp .Add) (azB X.K):=by
 intro pins s σ H x y v u Q I rx ry h;obtain⟨a,b,xs,ys,rfl,rfl,ha,hb,hx,hz,q1,q2⟩:=h;cases rx;cases ry;obtain⟨its,r1,p1,_⟩:=I.tuple ha;obtain⟨its2,r2,p2,_⟩:=I.tuple hb;refine HT.arv p1 p2 (λz=>hx (r1.Iv.mp z)) (λz=>⟨.ref a,H,I,rfl,q1 (r2.Iv.mp z)⟩) (λz=>?_) (by rw[<-r1.length,<-r2.length];exact hz);refine⟨.ref s.heap.objs.size,_,I.laid (t':=s.toks) (o:= .tup (xs++ys)) (λb ob q=>Heap.get?_push_of_some _ q) (aR _) ?_,rfl,q2 (λw=>z (r2.Iv.mpr w)) _ (I.hok.fresh (aR _))⟩;exact⟨by rw[gW];exact hz,_,r1.append r2,IsTup.new _ _⟩
end
def qO(n:Nat)(i:Int):Option Nat:=if 0<=i then(if i<n then some i.toNat else none)else if -(n:Int)<=i then some (i+n).toNat else none
def jX{α:Type}(xs:List α)(i:Int):Option α:=(qO xs.length i).bind λj=>xs[j]?
def ahm{n:Nat}{i:Int}{j:Nat}(h:qO n i=some j):seqIndex? i n=some j/\j<n/\-(n:Int)<=i/\i<n:=by
 unfold qO at h;by_cases h0:0<=i
 .rw[if_pos h0]at h;by_cases h1:i<n
  .rw[if_pos h1]at h;have e:i.toNat=j:=qZ h;exact⟨by rw[seqIndex_of h0 h1,e],⋯,⋯,h1⟩
  .rw[if_neg h1]at h;cases h
 .rw[if_neg h0]at h;by_cases h1:-(n:Int)<=i
  .rw[if_pos h1]at h;have e:(i+n).toNat=j:=qZ h;exact⟨by rw[seqIndex_neg ⋯ h1,e],⋯,h1,⋯⟩
  .rw[if_neg h1]at h;cases h
def Pq{α:Type}{xs:List α}{i:Int}{v:α}(h:jX xs i=some v):∃j,seqIndex? i xs.length=some j/\xs[j]?=some v/\j<xs.length/\-(xs.length:Int)<=i/\i<xs.length:=by
 unfold jX at h;cases e:qO xs.length i with
 |none=>rw[e]at h;cases h
 |some j=>
  rw[e]at h;obtain⟨h1,h2,h3,h4⟩:=ahm e;exact⟨j,h1,h,h2,h3,h4⟩
def XH{α:Type}{xs:List α}{j:Nat}{v:α}(h:xs[j]?=some v):jX xs (j:Int)=some v:=by
 have hj:j<xs.length:=(List.getElem?_eq_some_iff.mp h).1;have e:qO xs.length (j:Int)=some j:=by
  unfold qO;rw[if_pos ⋯,if_pos ⋯];simp
 unfold jX;rw[e];exact h
def Xu(b:Expr):Prop:=∀o i,subscripted b false o i=operate [o,i] (getItem o i)
def mU(X:Cx)(r:R2):Prop:=
 ∀(value slice:Expr) (pins:List (Addr×Obj)) (s:Shared) (σ:St) (H:Hp) (x y:V) (v u:Value) (Q:VK),Inv X pins σ H s->RelV x v->RelV y u->r x y H Q->
  subscripted slice false v u=operate [v,u] (getItem v u)->wpAny (model X.prog X.w) X.A (subscriptTail value slice v u) (EP X pins σ Q) X.xe s
def MtR(X:Cx)(id:String)(r:V->List V->Hp->VK->Prop):Prop:=
 ∀(pins:List (Addr×Obj)) (s:Shared) (σ:St) (H:Hp) (x:V) (xs:List V) (v:Value) (us:List Value) (Q:VK),Inv X pins σ H s->RelV x v->Vals xs us->r x xs H Q->
  wpAny (model X.prog X.w) X.A (call (.builtin id) (v::us)) (EP X pins σ Q) X.xe s
section
variable {X:Cx} {a b:Expr} {ta tb:TE} {pos:Pos}
section
variable {r:R2}{pins:List (Addr×Obj)}{σ:St}{H:Hp}{s:Shared}{x:V}{v:Value}
def mU.or{r':R2}(h:mU X r)(h':mU X r'):mU X (λx y H Q=>r x y H Q∨r' x y H Q):=by
 intro value slice pins s σ H x y v u Q I rx ry q hs;rcases q with q|q
 .exact h value slice pins s σ H x y v u Q I rx ry q hs
 .exact h' value slice pins s σ H x y v u Q I rx ry q hs
def atP(hr:mU X r)(ha:PE X a ta)(hb:PE X b tb)(hs:Xu b):PE X (.Subscript a b pos) (yg r ta tb):=by
 intro pins s σ H Q I h;exact Subscript_ (LZ ha hb I h λv u s2 x y H2 I2 rx ry q=>hr a b pins s2 σ H2 x y v u Q I2 rx ry q (hs _ _))
def aa1(K:aL):R2:=λx y H Q=>∃p xs i v,x = .ref p/\y = .int i/\aA K H p xs/\jX xs i=some v/\Q v H
def afL(K:aL):R2:=λx y H Q=>∃p xs i v,x = .ref p/\y = .int i/\aB K H p xs/\jX xs i=some v/\Q v H
def abA:R2:=λx y H Q=>∃z i c,x = .str z/\y = .int i/\z.length<=sizeLine/\jX z.cps.toList i=some c/\Q (.str ⟨#[c]⟩) H
def aqV:mU X (aa1 X.K):=by
 intro value slice pins s σ H x y v u Q I rx ry h hs;obtain⟨p,xs,i,z,rfl,rfl,hq,he,q⟩:=h;cases rx;obtain⟨t,rfl⟩:=ry;obtain⟨its,r,pl,hz⟩:=I.list hq;obtain⟨j,h1,h2,h3,h4,h5⟩:=Pq he;obtain⟨w,ew,LR⟩:=r.get h2;have hl:=r.length;have hn:=Dz;have fin:EP X pins σ Q w s:=⟨z,H,I,LR,q⟩;by_cases h0:0<=i
 .have hj:i.toNat=j:=by
   rw[seqIndex_of h0 h5]at h1;exact qZ h1
  exact item_listR pl.isList h0 ⋯ (by rw[hj];simpa using ew) fin hs
 .have hj:(i+(its.toArray.size:Int)).toNat=j:=by
   rw[seqIndex_neg ⋯ h4]at h1;rw[fU,<-hl];exact qZ h1
  exact subscriptTail_builtinR (x:=w) pl.isList.typeIs slot_list_getitem.lookup
   (wpAny_getItem_list_neg (Q:=λr s'=>r=w/\EP X pins σ Q r s') pl.isList ⋯ (by rw[fU]<;>lia) ⋯ (by rw[hj];simpa using ew) ⟨rfl,fin⟩) hs
def aqo:mU X (afL X.K):=by
 intro value slice pins s σ H x y v u Q I rx ry h hs;obtain⟨p,xs,i,z,rfl,rfl,hq,he,q⟩:=h;cases rx;obtain⟨t,rfl⟩:=ry;obtain⟨its,r,pl,hz⟩:=I.tuple hq;obtain⟨j,h1,h2,h3,h4,h5⟩:=Pq he;obtain⟨w,ew,LR⟩:=r.get h2;have hl:=r.length;have hn:=Dz;have fin:EP X pins σ Q w s:=⟨z,H,I,LR,q⟩;exact subscriptTail_builtinR (x:=w) pl.typeIs slot_tuple_getitem.lookup
  (getItem_tuple (j:=j) (Q:=λr s'=>r=w/\EP X pins σ Q r s') pl ⋯ ⋯ (by rw[fU,<-hl];exact h1) (by simpa using ew) ⟨rfl,fin⟩) hs
def aqa:mU X abA:=by
 intro value slice pins s σ H x y v u Q I rx ry h hs;obtain⟨z,i,c,rfl,rfl,hz,he,q⟩:=h;obtain⟨t,rfl⟩:=rx;obtain⟨t',rfl⟩:=ry;obtain⟨j,h1,h2,h3,h4,h5⟩:=Pq he;have hl:z.cps.toList.length=z.length:=by simp[Str.length]
 rw[hl]at h1 h4 h5;have hn:=Dz;exact tail_any (typeIs_str s z t) slot_str_getitem.lookup (getItem_str (c:=c) (by
  have e1:decide (i < -(2^63:Int))=false:=decide_eq_false ⋯;have e2:decide (i≥2^63)=false:=decide_eq_false ⋯;rw[e1,e2,Bool.or_false]) (by rw[h1];simpa using h2) ⟨.str ⟨#[c]⟩,H,I.tok _,⟨_,rfl⟩,q⟩) hs
def rIx(K:aL):R2:=λx y H Q=>aa1 K x y H Q∨afL K x y H Q∨abA x y H Q
def akO:mU X (rIx X.K):=aqV.or (aqo.or aqa)
def aqd(its:List Value)(n j:Nat)(u:Value):D8 (·.setIfInBounds j u) { cls:= .type "list",data:= .seq its.toArray n }={ cls:= .type "list",data:= .seq (its.set j u).toArray n }:=by
 simp[D8]
theorem Inv.lst{pins:List (Addr×Obj)}{σ:St}{H:Hp}{s:Shared}{p:Addr}{xs:List V}(I:Inv X pins σ H s)(h:H p=some (.lst xs)):
  ∃(its:List Value) (n:Nat),Vals xs its/\s.heap.get? p=some { cls:= .type "list",data:= .seq its.toArray n }/\xs.length<=sizeLine:=by
 obtain⟨z,its,n,r,e⟩:=I.hok p _ h;exact⟨its,n,r,e,z⟩
def Inv.axM{p:Addr}{xs ys:List V}{its its':List Value}{n n':Nat}{f:Obj->Obj}(I:Inv X pins σ H s)(h:H p=some (.lst xs))
  (ho:s.heap.get? p=some { cls:= .type "list",data:= .seq its.toArray n }) (hf:f { cls:= .type "list",data:= .seq its.toArray n }={ cls:= .type "list",data:= .seq its'.toArray n' }) (r:Vals ys its') (hz:ys.length<=sizeLine) (t:Nat):
  Inv X pins σ (upd H p (.lst ys)) { s with heap:=s.heap.update p f,toks:=t }:=by
 have e:(s.heap.update p f).get? p=some { cls:= .type "list",data:= .seq its'.toArray n' }:=by
  rw[Heap.get?_update_self f ho (by rw[hf]<;>rfl),hf]
 refine I.write (x:=p) (e:=p) (by rw[h];trivial) (.inl rfl) (λb u hb q=>(Heap.get?_update_other _ _ (d9 hb)).trans q) ⟨_,e⟩ ?_;exact⟨hz,its',n',r,e⟩
inductive SSet(o i z:V)(H:Hp)(Q:Hp->Prop):Prop|mk (p:Addr) (xs:List V) (k:Int) (j:Nat) (ho:o = .ref p) (hi:i = .int k) (hp:H p=some (.lst xs)) (hj:qO xs.length k=some j) (q:Q (upd H p (.lst (xs.set j z))))
def an9:V->V->V->Hp->(Hp->Prop)->Prop:=λo i v H Q=>SSet o i v H Q
def set_list:Xh X an9:=by
 intro pins s σ H o i v ov iv u Q I ro ri rv h;obtain⟨p,xs,k,j,rfl,rfl,hp,hj,q⟩:=h;cases ro;obtain⟨t,rfl⟩:=ri;obtain⟨its,n,r,ho,hz⟩:=I.lst hp;obtain⟨h1,h2,h3,h4⟩:=ahm hj;have hl:=r.length;have hn:=Dz;have I':Inv X pins σ (upd H p (.lst (xs.set j v))) { s with heap:=s.heap.update p (D8 (·.setIfInBounds j u)) }:=
  I.axM hp ho (aqd its n j u) (r.set rv j) (by rw[nq];exact hz) s.toks
 by_cases h0:0<=k
 .have hk:k.toNat=j:=by
   rw[seqIndex_of h0 h4]at h1;exact qZ h1
  exact W.ki_setAt ho h0 ⋯ (by rw[fU,<-hl];exact h4) (by rw[hk];exact⟨_,I',q⟩)
 .have hk:(k+(its.toArray.size:Int)).toNat=j:=by
   rw[seqIndex_neg ⋯ h3]at h1;rw[fU,<-hl];exact qZ h1
  exact W.ki_setBack ho ⋯ (by rw[fU,<-hl];exact h3) ⋯ (by rw[hk];exact⟨_,I',q⟩)
def ajZ(lo hi:Option Int)(n:Nat):(sliceBounds lo hi none n).1=((HT.bH n 0 lo:Nat):Int)/\(sliceBounds lo hi none n).2.1=((HT.bH n n hi:Nat):Int)/\(sliceBounds lo hi none n).2.2=1:=by
 refine⟨?_,?_,rfl⟩
 .cases lo with
  |none=>simp[sliceBounds,HT.bH]
  |some i=>
   simp only[sliceBounds,HT.bH,W7,(∅:(1:Int)>0),if_true];by_cases h:i<0
   .simp only[h,if_true]<;>lia
   .simp only[h,if_false]<;>lia
 .cases hi with
  |none=>simp[sliceBounds,HT.bH]
  |some i=>
   simp only[sliceBounds,HT.bH,W7,(∅:(1:Int)>0),if_true];by_cases h:i<0
   .simp only[h,if_true]<;>lia
   .simp only[h,if_false]<;>lia
def avU(its:List Value)(lo hi:Option Int):slicePick its.toArray lo hi none=((its.drop (HT.bH its.length 0 lo)).take (HT.bH its.length its.length hi-HT.bH its.length 0 lo)).toArray:=by
 obtain⟨h1,h2,h3⟩:=ajZ lo hi its.toArray.size;unfold slicePick;rw[h1,h2,h3];simp only[sliceRange_one,pick_run,fU]<;>rfl
def auH(K:aL):V->Option Int->Option Int->Hp->VK->Prop:=λx lo hi H Q=>∃a xs,x = .ref a/\aA K H a xs/\∀p,H p=none->Q (.ref p) (upd H p (.lst (gC xs lo hi)))
def aAx:ql X (auH X.K):=by
 intro pins s σ H x v vl vu lo hi sl Q I rx hs pl pu h;obtain⟨a,xs,rfl,hx,q⟩:=h;cases rx;obtain⟨its,r,ht,hz⟩:=I.list hx;have hlen:=r.length;refine⟨"list",_,slot_list_getitem.lookup,ht.isList.typeIs,?_⟩;refine wpAny_getItem_list_slice ht.isList hs pl pu .none (by simp) ?_ (by rw[fU]<;>lia);rw[avU,<-hlen];refine⟨.ref s.heap.objs.size,_,I.laid (t':=s.toks) (o:= .lst (gC xs lo hi)) (λb ob q=>Heap.get?_push_of_some _ q) (aR _) ?_,rfl,q _ (I.hok.fresh (aR _))⟩;exact⟨eO (Xj xs lo hi) hz,_,0,(r.drop (HT.bH xs.length 0 lo)).take (HT.bH xs.length xs.length hi-HT.bH xs.length 0 lo),Heap.get?_push_size _ rfl⟩
def rz:V->Bool
 |.non=>true
 |.bl _=>true
 |.int _=>true
 |.str _=>true
 |_=>false
def UN:V->V->Bool
 |.non,.non=>true
 |.bl a,.bl b=>a==b
 |.bl a,.int b=>(if a then 1 else 0)==b
 |.int a,.bl b=>a==(if b then 1 else 0)
 |.int a,.int b=>a==b
 |.str a,.str b=>a==b
 |_,_=>false
def aye{A:Around}{y:V}{u:Value}(ry:RelV y u)(rx:RelV x v)(fy:rz y=true)(fx:rz x=true):SeqAt.EqAt A s u v (UN y x):=by
 cases y with
 |non=>
  cases ry;cases x with
  |non=>cases rx;exact SeqAt.EqAt.same _
  |bl b=>cases rx;exact SeqAt.EqAt.none_bool b
  |int b=>obtain⟨t,rfl⟩:=rx;exact SeqAt.EqAt.none_int b t
  |str b=>obtain⟨t,rfl⟩:=rx;exact SeqAt.EqAt.none_str b t
  |_=>exact absurd (show false=true from fx) fX
 |bl a=>
  cases ry;cases x with
  |non=>cases rx;exact SeqAt.EqAt.bool_none a
  |bl b=>cases rx;exact SeqAt.EqAt.bool_bool a b
  |int b=>obtain⟨t,rfl⟩:=rx;exact SeqAt.EqAt.bool_int a b t
  |str b=>obtain⟨t,rfl⟩:=rx;exact SeqAt.EqAt.bool_str a b t
  |_=>exact absurd (show false=true from fx) fX
 |int a=>
  obtain⟨t',rfl⟩:=ry;cases x with
  |non=>cases rx;exact SeqAt.EqAt.int_none a t'
  |bl b=>cases rx;exact SeqAt.EqAt.int_bool a t' b
  |int b=>obtain⟨t,rfl⟩:=rx;exact SeqAt.EqAt.int_int a t' b t
  |str b=>obtain⟨t,rfl⟩:=rx;exact SeqAt.EqAt.int_str a t' b t
  |_=>exact absurd (show false=true from fx) fX
 |str a=>
  obtain⟨t',rfl⟩:=ry;cases x with
  |non=>cases rx;exact SeqAt.EqAt.str_none a t'
  |bl b=>cases rx;exact SeqAt.EqAt.str_bool a t' b
  |int b=>obtain⟨t,rfl⟩:=rx;exact SeqAt.EqAt.str_int a t' b t
  |str b=>obtain⟨t,rfl⟩:=rx;exact SeqAt.EqAt.str_str a t' b t
  |_=>exact absurd (show false=true from fx) fX
 |_=>exact absurd (show false=true from fy) fX
def ahG:jH X (.type "list") (λxs H Q=>∃p ys,xs=[.ref p]/\(aA X.K H p ys∨aB X.K H p ys)/\∀l,H l=none->Q (.ref l) (upd H l (.lst ys))):=by
 intro pins s σ H xs us Q I r h;obtain⟨p,ys,rfl,hq,q⟩:=h;obtain⟨u,rfl,rx⟩:=vals1 r;cases rx;have fin:∀(its:List Value),Vals ys its->ys.length<=sizeLine->∀(h':Heap) (c':Nat),(∀b o',s.heap.get? b=some o'->h'.get? b=some o')->
   h'.get? s.heap.objs.size=some { cls:= .type "list",dict:=none,data:= .seq its.toArray c',slots:=#[] }->EP X pins σ Q (.ref s.heap.objs.size) { s with heap:=h' }:=λits r' hz h' c' kp e=>
  ⟨.ref s.heap.objs.size,_,I.laid (t':=s.toks) kp (aR _) (show gj X.prog X.w _ h' _ (.lst ys)from⟨hz,its,c',r',e⟩),rfl,q _ (I.hok.fresh (aR _))⟩
 rcases hq with hq|hq
 .obtain⟨its,r',pl,hz⟩:=I.list hq;have hlen:=r'.length;obtain⟨o,ho,hc,n,hd⟩:=pl.isList;exact call_list_seq p (.inl rfl) ho hc hd (λh' c' kp e=>fin its r' hz h' c' kp e) (by simp only[fU]<;>lia)
 .obtain⟨its,r',pl,hz⟩:=I.tuple hq;have hlen:=r'.length;obtain⟨o,ho,hc,n,hd⟩:=pl;exact call_list_seq p (.inr rfl) ho hc hd (λh' c' kp e=>fin its r' hz h' c' kp e) (by simp only[fU]<;>lia)
def akr:jH X (.type "tuple") (λxs H Q=>∃p ys,xs=[.ref p]/\((aA X.K H p ys/\∀l,H l=none->Q (.ref l) (upd H l (.tup ys)))∨(aB X.K H p ys/\Q (.ref p) H))):=by
 intro pins s σ H xs us Q I r h;obtain⟨p,ys,rfl,h⟩:=h;obtain⟨u,rfl,rx⟩:=vals1 r;cases rx;rcases h with⟨hq,q⟩|⟨hq,q⟩
 .obtain⟨its,r',pl,hz⟩:=I.list hq;have hlen:=r'.length;refine call_tuple_list pl.isList (λh' kp=>?_) (by simp only[fU]<;>lia);have I1:Inv X pins σ H { s with heap:=h' }:=I.kept (t':=s.toks) kp;have I2:Inv X pins σ (upd H h'.objs.size (.tup ys)) { s with heap:=h'.push { cls:= .type "tuple",data:= .seq its.toArray } }:=
   I1.laid (t':=s.toks) (λb o e=>Heap.get?_push_of_some _ e) (aR _) (show gj X.prog X.w _ _ _ (.tup ys)from⟨hz,its,r',IsTup.new _ _⟩)
  exact⟨.ref h'.objs.size,_,I2,rfl,q _ (I1.hok.fresh (aR _))⟩
 .obtain⟨its,r',pl,hz⟩:=I.tuple hq;exact call_tuple_same pl ⟨.ref p,H,I,rfl,q⟩
def tyV(K:aL)(T:String)(x:V)(H:Hp):Prop:=match x with
 |.str _=>T = "str"
 |.int _=>T = "int"
 |.ref p=>(T = "list" /\ ∃xs,aA K H p xs)∨(T = "tuple" /\ ∃o,K.lookup p=some o/\o.cls = .type "tuple" /\ o.dict=none)∨
   (T = "dict" /\ ((∃kvs,H p=some (.dK kvs))∨∃kvs,H p=some (.dT kvs)))∨(T = "set" /\ ∃S n,H p=some (.set S n))
 |_=>False
def apZ{T:String}(I:Inv X pins σ H s)(r:RelV x v)(ty:tyV X.K T x H):
  s.TypeIs v T/\∀a,v = .ref a->∃ob,s.heap.get? a=some ob/\ob.dict=none:=by
 cases x with
 |str z=>
  obtain⟨t,rfl⟩:=r;cases (show T = "str" from ty);exact⟨typeIs_str s z t,λ_ e=>nomatch e⟩
 |int i=>
  obtain⟨t,rfl⟩:=r;cases (show T = "int" from ty);exact⟨typeIs_int s i t,λ_ e=>nomatch e⟩
 |ref p=>
  cases r;rcases ty with⟨rfl,xs,hq⟩|⟨rfl,o,hk,hc,hd⟩|⟨rfl,hk⟩|⟨rfl,S,n,hk⟩
  .obtain⟨its,_,pl,_⟩:=I.list hq;refine⟨pl.isList.typeIs,λa e=>?_⟩;cases e;obtain⟨o,n,e,c,hd,_⟩:=pl;exact⟨o,e,hd⟩
  .refine⟨⟨o,I.gU p o hk,hc⟩,λa e=>?_⟩;cases e;exact⟨o,I.gU _ o hk,hd⟩
  .have z:∃o,s.heap.get? p=some o/\o.ExactDict:=by
    rcases hk with⟨kvs,hk⟩|⟨kvs,hk⟩
    .obtain⟨_,_,_,_,o,_,_,e,ex,_⟩:=I.hok p _ hk;exact⟨o,e,ex⟩
    .obtain⟨_,_,_,_,o,_,_,e,ex,_⟩:=I.hok p _ hk;exact⟨o,e,ex⟩
   obtain⟨o,e,ex⟩:=z;refine⟨⟨o,e,ex.1⟩,λa e2=>?_⟩;cases e2;exact⟨o,e,ex.2.1⟩
  .obtain⟨o,_,_,_,e,ex,_⟩:=I.hok p _ hk;refine⟨⟨o,e,ex.1⟩,λa e2=>?_⟩;cases e2;exact⟨o,e,ex.2.1⟩
 |_=>exact False.elim ty
inductive SBM(K:aL)(T:String)(r:V->List V->Hp->VK->Prop)(t:TA)(x:V)(σ:St)(H:Hp)(Q:VK):Prop|mk (h:tyV K T x H) (q:t σ H λxs H2=>r x xs H2 Q)
def ZQ(K:aL)(T:String)(r:V->List V->Hp->VK->Prop)(to:TE)(t:TA):TE:=λσ H Q=>to σ H λx H1=>SBM K T r t x σ H1 Q
end
variable {o e:Expr} {es:List Expr} {to:TE} {t:TA} {name:Str} {apos cpos:Pos} {T id:String} {r:V->List V->Hp->VK->Prop}
def atR(pa:PlainAttrs T)(slot:Slot T name id)(hty:typeOf (.builtin id)=pure (.type "method_descriptor"))(hm:MtR X id r)(ho:PE X o to)(ha:PA X (e::es) t)
  (hbase:attributeBase o name X.env (eval o X.env)=eval o X.env:=by rfl)
  (hfew:((backTo cpos (starEach (e::es) X.env)).all (λx=>!x.1)&&(backToKw cpos (keywordEach [] X.env)).all (λx=>x.1.isSome)
   && decide ((e::es).length+([]:List Keyword).length+(if([]:List Keyword).isEmpty then 0 else 1)<30))=true:=by rfl)
  (hline:(apos.endLine==cpos.line)=true:=by rfl) (hs:starEach (e::es) X.env=(false,eval e X.env)::starEach es X.env:=by rfl) (hplain:(backTo cpos (starEach es X.env)).any (·.1)=false:=by rfl):
  PE X (.Call (.Attribute o name apos) (e::es) [] cpos) (ZQ X.K T r to t):=by
 intro pins s σ H Q I h;refine wpAny_Call_method_late hbase hfew hline rfl (bw (ho pins s σ H _ I h) λv s1 ⟨x,H1,I1,r1,ty,q1⟩=>?_);obtain⟨h1,h2⟩:=apZ I1 r1 ty;refine⟨T,id,pa,slot,hty,h1,h2,?_⟩;have hA:=ha cpos pins s1 σ H1 _ I1 q1;rw[hs]at hA⊢;refine Calls.callWith_builtin (by show(false||(backTo cpos (starEach es X.env)).any (·.1))=false;rw[hplain]<;>rfl) (agj ?_);exact bw hA λus s2 ⟨vs,H2,I2,r2,q2⟩=>hm pins s2 σ H2 x vs v us Q I2 r1 r2 q2
end
def MtM(X:Cx)(id:String)(r:V->List V->Hp->VK->Prop):Prop:=
 ∀(pins:List (Addr×Obj)) (s:Shared) (σ:St) (H:Hp) (x:V) (xs:List V) (v:Value) (us:List Value) (Q:VK),Inv X pins σ H s->RelV x v->Vals xs us->r x xs H Q->
  wpAny (model X.prog X.w) X.A (call (.builtin id) (v::us)) (EP X pins σ Q) X.xe s
def Vals.one{x:V}{us:List Value}(h:Vals [x] us):∃u,us=[u]/\RelV x u:=by
 cases h with
 |cons r h=>cases h;exact⟨_,rfl,r⟩
def Vals.two{x y:V}{us:List Value}(h:Vals [x,y] us):∃u v,us=[u,v]/\RelV x u/\RelV y v:=by
 cases h with
 |cons r h=>
  obtain⟨v,rfl,q⟩:=Vals.one h;exact⟨_,_,rfl,r,q⟩
theorem Vals.rep{xs:List V}{us:List Value}(h:Vals xs us):∀k:Nat,Vals (kI k xs).flatten (kI k us).flatten
 |0=> .nil
 |k+1=>by
  rw[DV,DV,KQ,KQ];exact Vals.append h (Vals.rep h k)
theorem foldl_rep(its:List Value):∀(k:Nat) (acc:List Value),
  Qc (λx1 x2=>x1++x2) acc.toArray (kI k its.toArray)=(acc++(kI k its).flatten).toArray
 |0,acc=>by simp
 |k+1,acc=>by
  have e:acc.toArray++its.toArray=(acc++its).toArray:=by simp
  have e2:(acc++its)++(kI k its).flatten=acc++(kI (k+1) its).flatten:=by
   rw[DV,KQ,List.append_assoc]
  rw[<-e2,<-foldl_rep its k (acc++its),<-e,DV,List.foldl_cons]
section
variable {X:Cx} {pins:List (Addr×Obj)} {σ:St} {H:Hp} {s:Shared} {l b:Addr} {xs ys zs:List V}
def Inv.akB{its its':List Value}{n:Nat}{f:Array Value->Array Value}{t':Nat}(I:Inv X pins σ H s)(hH:H l=some (.lst xs))
  (e:s.heap.get? l=some { cls:= .type "list",data:= .seq its.toArray n }) (hf:f its.toArray=its'.toArray) (hv:Vals ys its') (hz:ys.length<=sizeLine):
  Inv X pins σ (upd H l (.lst ys)) { s with heap:=s.heap.update l (D8 f),toks:=t' }:=by
 have q:=PySem.IsL.update e f;rw[hf]at q;refine I.write (x:=l) (e:=l) (by rw[hH];exact trivial) (.inl rfl) (λb' u hb hu=>(Heap.get?_update_other s.heap (D8 f) (d9 hb)).trans hu) ⟨_,q⟩ ?_;exact⟨hz,its',_,hv,q⟩
def Inv.Qz{its:List Value}{t':Nat}(I:Inv X pins σ H s)(hv:Vals ys its)(hz:ys.length<=sizeLine):
  Inv X pins σ (upd H s.heap.objs.size (.lst ys)) { s with heap:=s.heap.push { cls:= .type "list",data:= .seq its.toArray },toks:=t' }:=
 I.laid (λ_ _ q=>Heap.get?_push_of_some _ q) (aR _) ⟨hz,its,0,hv,Heap.get?_push_size _ rfl⟩
theorem Inv.fresh(I:Inv X pins σ H s):H s.heap.objs.size=none:=I.hok.fresh (aR _)
def Inv.JW(I:Inv X pins σ H s)(hH:H l=some (.lst xs)):xs.length<=sizeLine/\∃(its:List Value) (n:Nat),Vals xs its/\xs.length=its.length/\s.heap.get? l=some { cls:= .type "list",data:= .seq its.toArray n }:=by
 obtain⟨z,its,n,r,e⟩:=I.hok l _ hH;exact⟨z,its,n,r,r.length,e⟩
def az1{n:Nat}(h:n<=sizeLine):Builtin.List.listTooLong n=false:=by
 unfold Builtin.List.listTooLong;exact decide_eq_false ⋯
end
section
variable {X:Cx}
inductive alQ(x:V)(vs:List V)(H:Hp)(Q:VK):Prop|mk (l:Addr) (xs:List V) (y:V) (hx:x = .ref l) (hv:vs=[y]) (hl:H l=some (.lst xs)) (hz:xs.length<sizeLine) (q:Q .non (upd H l (.lst (xs++[y]))))
def aad:V->List V->Hp->VK->Prop:=λx vs H Q=>alQ x vs H Q
def aaK:MtM X "list.append" aad:=by
 intro pins s σ H x vs v us Q I rx rv h;obtain⟨l,xs,y,rfl,rfl,hH,hz,q⟩:=h;cases rx;obtain⟨u,rfl,ru⟩:=rv.one;obtain⟨z,its,n,r,hl,e⟩:=I.JW hH;refine call_meets F.slot_list_append ⟨_,e,rfl⟩ F.entry_list_append (F.args_list_append_2 _ _) (PySem.list_append l its.toArray n u (by rw[fU];lia)) ⟨e,?_⟩;refine⟨.non,_,I.akB (its':=its++[u]) hH e (by simp) (r.append (.cons ru .nil)) ?_,rfl,q⟩;rw[gW,List.length_singleton];lia
def awn:R2:=λx y H Q=>∃l b xs zs,x = .ref l/\y = .ref b/\H l=some (.lst xs)/\H b=some (.lst zs)/\xs.length+zs.length<=sizeLine/\∀p,H p=none->Q (.ref p) (upd H p (.lst (xs++zs)))
def ajY:cZ X (binaryOp .Add) awn:=by
 intro pins s σ H x y v u Q I rx ry h;obtain⟨l,b,xs,zs,rfl,rfl,hH,hB,hz,q⟩:=h;cases rx;cases ry;obtain⟨z,its,n,r,hl,e⟩:=I.JW hH;obtain⟨z2,its2,n2,r2,hl2,e2⟩:=I.JW hB;refine PySem.P.add_list e e2 ?_ (by rw[fU,fU];lia);have ea:its.toArray++its2.toArray=(its++its2).toArray:=by simp
 rw[ea];exact⟨.ref _,_,I.Qz (t':=s.toks) (r.append r2) (by rw[gW];lia),rfl,q _ I.fresh⟩
def auc:R2:=λx y H Q=>∃l k xs,x = .ref l/\y = .int k/\H l=some (.lst xs)/\-(2^63)<=k/\k<2^63/\xs.length*k.toNat<=sizeLine/\
 ∀p,H p=none->Q (.ref p) (upd H p (.lst (kI k.toNat xs).flatten))
def len_rep{α:Type}(xs:List α)(k:Nat):(kI k xs).flatten.length=k*xs.length:=by
 induction k with
 |zero=>simp
 |succ k ih=>rw[DV,KQ,gW,ih,mJ,Ci]
def ahL:cZ X (binaryOp .Mult) auc:=by
 intro pins s σ H x y v u Q I rx ry h;obtain⟨l,k,xs,rfl,rfl,hH,h1,h2,hz,q⟩:=h;cases rx;obtain⟨t,rfl⟩:=ry;obtain⟨z,its,n,r,hl,e⟩:=I.JW hH;have hlen:its.toArray.size*k.toNat<=sizeLine:=by rw[fU,<-hl];exact hz
 have hcap:¬its.toArray.size*k.toNat>(2^63-1)/8:=by
  have:(sizeLine:Nat)<=(2^63-1)/8:=∅;lia
 have hfit:¬(!Builtin.List.listFitsIndex k)=true:=by
  rw[fitsIndex_both h1 h2];exact fX
 have Oh:¬Builtin.List.listTooLong (its.toArray.size*k.toNat)=true:=by
  rw[az1 hlen];exact fX
 have hnew:Qc (λx1 x2=>x1++x2) #[] (kI (if its.toArray.isEmpty=true then 0 else k.toNat) its.toArray)=(kI k.toNat its).flatten.toArray:=by
  have f0:∀m:Nat,Qc (λx1 x2=>x1++x2) #[] (kI m its.toArray)=(kI m its).flatten.toArray:=λm=>by
   have:=foldl_rep its m [];rw[List.nil_append]at this;exact this
  rw[f0];cases its with
  |nil=>simp
  |cons a r'=>rw[if_neg (by simp)]
 refine wpAny_binaryOp_repeat_ref (T:= "list") (U:= "int") ∅ ⟨_,e,rfl⟩ (λs'=>typeIs_int s' k t) noFill_list_mul F.fills_int_mul aeQ repeat_list F.slot_int_index.lookup
  (call_meets aeQ (typeIs_int s k t) F.entry_int_rmul (F.args_int_rmul_2 _ _) (int___rmul___int_list k t l its.toArray n)
   ⟨e,rfl,⟨_,e,rfl⟩,call_meets F.slot_list_mul ⟨_,e,rfl⟩ F.entry_list_mul (F.args_list_mul_2 _ _) (AutoListH.list___mul___list_int_3 l its.toArray n k t hfit hcap Oh) ⟨e,?_⟩⟩)
 rw[hnew];exact⟨.ref _,_,I.Qz (t':=s.toks) (r.rep k.toNat) (by rw[len_rep,gZ];exact hz),rfl,q _ I.fresh⟩
end
section
variable {prog:Program} {w:World} {A:Around} {E:Value->Shared->Prop} {s:Shared}
end
section
variable {X:Cx}
end
section
variable {κ:Type} [DecidableEq κ]
def uQ(kvs:List (κ×V))(k:κ):Option V:=(kvs.find? λkv=>decide (kv.1=k)).map (·.2)
def avo{p:κ×V}{r:List (κ×V)}{k:κ}(e:p.1=k):uQ (p::r) k=some p.2:=by simp[uQ,List.find?_cons,e]
def amG{p:κ×V}{r:List (κ×V)}{k:κ}(e:¬p.1=k):uQ (p::r) k=uQ r k:=by simp[uQ,List.find?_cons,e]
def KV.val{kvs:List (κ×V)}{vs:List (κ×Value)}(r:KV kvs vs)(k:κ):sI (uQ kvs k) (valueAt vs k):=by
 unfold KV at r;induction r with
 |nil=>exact True.intro
 |@cons p q ps qs h t ih=>
  obtain⟨h1,h2⟩:=h;by_cases e:p.1=k
  .have e':q.1=k:=h1.symm.trans e;have b:valueAt (q::qs) k=some q.2:=by simp[valueAt,List.find?_cons,e']
   rw[avo e,b];exact h2
  .have e':¬q.1=k:=λz=>e (h1.trans z);have b:valueAt (q::qs) k=valueAt qs k:=by simp[valueAt,List.find?_cons,e']
   rw[amG e,b];exact ih
end
section
variable {P:Program} {w:World} {H:Hp} {h:Heap} {a:Addr}
end
section
variable {X:Cx} {pins:List (Addr×Obj)} {σ:St} {H:Hp} {s:Shared} {a:Addr} {y v:V} {u r:Value} {o:Option V} {A:Around} {E:Value->Shared->Prop}
end
section
variable {X:Cx} {pins:List (Addr×Obj)} {σ:St} {H:Hp} {s:Shared} {a:Addr} {kvs:List (Key×V)} {k:Key} {u:Value} {A:Around} {E:Value->Shared->Prop}
end
section
variable {X:Cx} {o i e value:Expr} {pos pos' tpos:Pos} {td ty tv:TE}
end
section
variable {X:Cx} {pos:Pos}
end
section
variable {X:Cx} {pins:List (Addr×Obj)} {σ:St} {H:Hp} {s:Shared} {a:Addr} {y d:V} {u r:Value} {o:Option V} {A:Around} {E:Value->Shared->Prop}
end
section
variable {X:Cx} {o e f:Expr} {apos cpos:Pos} {td ty tx:TE}
end
section
variable {X:Cx} {pins:List (Addr×Obj)} {σ:St} {H:Hp} {s:Shared} {a:Addr} {kvs:List (Key×V)} {A:Around} {E:Value->Shared->Prop}
end
section
variable {X:Cx} {pins:List (Addr×Obj)} {σ:St} {H:Hp} {s:Shared} {a:Addr} {y:V} {u:Value} {A:Around} {E:Value->Shared->Prop}
end
end L2
namespace Att
open PySem PySem.W PySem.Calls PyProof.Rows
def avn{P:Params}{h:Heap}:∀(ns:List Int) (vs:List Value),WellAll P h vs (ns.map WData.int)->IntsAre vs ns:=by
 intro ns;induction ns with
 |nil=>
  intro vs w;rw[XE]at w;cases w;exact .nil
 |cons n ns ih=>
  intro vs w;rw[wW]at w;cases w with
  |cons a b=>
   cases a;exact .cons _ _ (ih _ b)
def axr{l:OpenLaw}{n:Nat}(hn:l.most=some n){P:Params}{h:Heap}{args:List WData}{vals:List Value}
  (hpre:l.row.toRowW.claim.pre args=true) (hwl:WellAll P h vals args):
  ∃a vs ns,vals=[Value.ref a]/\args=[WData.list (ns.map WData.int)]/\h.get? a=some { cls:= .type "list",data:= .seq vs.toArray }/\IntsAre vs ns/\ns.length<=n:=by
 have hsh:WShape.hasAll [] args [.list .int]=true:=(pre_splitW hpre).1;have hc:l.pre.holds [] { args:=args }=true:=(pre_splitW hpre).2;obtain⟨d,r,rfl,h1,h2⟩:=hasAllW_cons hsh;obtain rfl:=hasAllW_nil h2;obtain⟨xs,rfl,h3⟩:=hasW_list h1;obtain⟨ns,rfl⟩:=items_int h3;have hlen:ns.length<=n:=by
  unfold OpenLaw.pre at hc;have h4:(WTm.not (.lt (.lit (.int (n:Int))) (.len (.arg 0)))).holds [] { args:=[.list (ns.map .int)] }=true:=by
   have h4:=(holds_andW hc).1;rw[hn]at h4;exact h4
  have h5:=condW_of h4 (w_not (w_lt w_lit (w_len_list (w_arg rfl))));rw[aK]at h5;refine Gs λq=>?_;have q':(n:Int)<((ns.length:Nat):Int):=⋯;first
   |(rw[decide_eq_true q']at h5;exact absurd h5 ∅)
   |(simp at h5;lia)
 cases hwl with
 |cons w1 w2=>
  cases w2;cases w1 with
  |list ho hall=>exact⟨_,_,ns,rfl,rfl,ho,avn ns _ hall,hlen⟩
def aw2(l:OpenLaw)(args:List WData):l.row.toRowW.claim.post args (.bool true) args=true:=
 postW_of (r:=l.row.toRowW) (X:=(true==true))
  (show WShape.has [] (.bool true) .bool=true by first|rfl|decide|simp[WShape.has,WShape.arms,WShape.armsAll])
  (show(WTm.eq .res (.lit (.bool true))).value [] { args:=args,res:=some (.bool true),after:=args }=some (.bool (true==true))from w_eq_bool (w_res rfl) w_lit) rfl
def ajd{l:OpenLaw}{n:Nat}{q:Program}{loose:List Str}{XP:(Str->Option Value)->Heap->Prop}{YP:World->Heap->Prop}{d:DefRec}
  (hn:l.most=some n) (hdf:d.params.defaults=[])
  (call:∀(w:World) (s₀ s₁:Shared) (mg mb:Str->Option Value) (fa:Addr) (o:Obj) (pm cd doc:Value) (a:Addr) (vs:List Value) (ns:List Int),
   Ground q loose [] XP w s₀ mg mb s₁.heap->YP w s₁.heap->
   s₁.heap.get? fa=some o->o.data = .func (docDef d.name d.params d.body d.scope pm cd doc)->s₁.heap.CodeRec cd d.name->mg d.name=some (.ref fa)->
   s₁.heap.get? a=some { cls:= .type "list",data:= .seq vs.toArray }->IntsAre vs ns->ns.length<=n->s₁.gens=#[]->
   codeAny (model l.prog w) callerA (.call (.ref fa) ⟨[.ref a],[]⟩) (λr s'=>r = .ok (.ret (.bool true))/\OldK s₁.heap s'.heap/\s'.os=s₁.os/\AllBare s'.gens) s₁):
  WalkO q loose XP YP l.row.toRowW d [] (λf vs=>Yl f vs):=by
 intro w s₀ s₁ mg mb G Y fa o pm cd doc dV kV ho hd hcd hD hmg hg args vals as hpre hlay hrd hwl hlo;obtain rfl:dV = .none:=Dflts.none hD hdf;obtain rfl:kV = .none:=Dflts.noKw hD;obtain⟨a,vs,ns,rfl,rfl,hobj,hints,hlen⟩:=axr hn hpre hwl;refine enter_call (codeAny_mono (call w s₀ s₁ mg mb fa o pm cd doc a vs ns G Y ho (fd_plain hd) hcd hmg hobj hints hlen hg) λr s' hq=>?_);obtain⟨rfl,h2,h3,h4⟩:=hq;exact⟨.inl ⟨.bool true,.bool true,[],rfl,λ_=>rfl,.bool true,aw2 l _,λ_=>⟨azu,λ_ hm=>(nomatch hm)⟩⟩,h2,h3,h4⟩
section
variable {prog:Program} {w:World} {A:Around} {E:Value->Shared->Prop} {s:Shared} {K:Frag}
end
end Att
namespace L2
open PySem PySem.Spec PyProof.Rows
def atX{vs:List Value}{ns:List Int}(h:IntsAre vs ns):Vals (ns.map V.int) vs:=by
 induction h with
 |nil=>exact .nil
 |cons n t h ih=>exact .cons ⟨t,rfl⟩ ih
def Only(H:Hp):Prop:=∀b,H b=none∨∃o xs,H b=some (.jf o (.lst xs))
def an0{P:Program}{w:World}{K:aL}{mg mb:Str->Option Value}{CX:sY}{k:Nat}{fa a:Addr}{fd:FuncData}{x:Str}{sp:Sp}{s₁:Shared}{vs:List Value}{ns:List Int}
  (KX:K.In s₁.heap) (hns:s₁.heap.Ns mainGlobals mg) (hb:s₁.heap.Ns builtinsNs mb) (hbb:∀x:Str,x≠ "__name__" -> mb x=bootBuiltins x) (hlim:s₁.heap.NoLimit) (hdig:s₁.heap.NoDigits) (hse:s₁.heap.NoSeer) (htr:P.given.tree=none) (hg:s₁.gens=#[])
  (ha:s₁.heap.get? a=some { cls:= .type "list",data:= .seq vs.toArray }) (hi:IntsAre vs ns) (hl:ns.length<=sizeLine) (hr:dh k callerA)
  (F:∀base:Heap,K.In base->base.Ns mainGlobals mg->sX P w K mg base CX k fa fd [x] sp) (hbind:∀(s:Shared) (u:Value),BindsTo s fd ⟨[u],[]⟩ [(x,u)])
  (hsp:∀H:Hp,Only H->aA K H a (ns.map V.int)->sp [.ref a] H (λv _=>v = .bl true) λ_ _ _=>False)
  (UJ:∀H e s',CX [] H s₁ (λ_ _ _=>False) e s'->False):
  codeAny (model P w) callerA (.call (.ref fa) ⟨[.ref a],[]⟩) (λr s'=>r = .ok (.ret (.bool true))/\OldK s₁.heap s'.heap/\s'.os=s₁.os/\AllBare s'.gens) s₁:=by
 have rv:=atX hi;have lenV:=hi.length;have core:∀H:Hp,Only H->aA K H a (ns.map V.int)->fZ P w H s₁.heap->(∀b,H b≠none->b=a)->(H a≠none->K.lookup a=none)->
   codeAny (model P w) callerA (.call (.ref fa) ⟨[.ref a],[]⟩) (λr s'=>r = .ok (.ret (.bool true))/\OldK s₁.heap s'.heap/\s'.os=s₁.os/\AllBare s'.gens) s₁:=by
  intro H hO hS hok hA hK;have Vd:∀{b:Addr} {o:Obj},s₁.heap.get? b=some o->H b=none->(uO s₁.heap H).get? b=some o:=λe n=>aiB e n;have DG:∀{b:Addr} {o:Obj} {es:Array DictEntry} {ep:Nat},s₁.heap.get? b=some o->o.data = .dict es ep->H b=none:=λ{b o es ep} e d=>by
   cases q:H b with
   |none=>rfl
   |some u=>
    have e':b=a:=hA b (by rw[q];simp);subst e';rw[ha]at e;cases e;have d':Data.seq vs.toArray _=Data.dict es ep:=d;cases d'
  have noC:∀{b:Addr} {o:Obj},s₁.heap.get? b=some o->o.cls = .type "module" -> H b=none:=λ{b o} e d=>by
   cases q:H b with
   |none=>rfl
   |some u=>
    have e':b=a:=hA b (by rw[q];simp);subst e';rw[ha]at e;cases e;exact absurd (show Value.type "list" = Value.type "module" from d) ∅
  have ud:∀{b:Addr} {m:Str->Option Value},s₁.heap.Ns b m->(uO s₁.heap H).Ns b m:=λ{b m} ⟨o,es,ep,e,d,r⟩=>⟨o,es,ep,Vd e (DG e d),d,r⟩;have hKb:K.In (uO s₁.heap H):=λb o e=>Vd (KX b o e) (by
   cases q:H b with
   |none=>rfl
   |some u=>
    have e':b=a:=hA b (by rw[q];simp);subst e';rw[hK (by rw[q];simp)]at e;cases e)
  have hM:Mod K mg (uO s₁.heap H):=⟨hKb,ud hns,⟨mb,ud hb,hbb⟩,let⟨mc,h1,h2⟩:=hlim;⟨mc,ud h1,h2⟩,let⟨mc,h1,h2⟩:=hdig;⟨mc,ud h1,h2⟩,let⟨⟨mc,a1,a2⟩,⟨mm,b1,b2⟩,⟨mb,c1,c2⟩,m,bm,ob,d1,d2,d3,d4,d5⟩:=hse;⟨⟨mc,ud a1,a2⟩,⟨mm,ud b1,b2⟩,⟨mb,ud c1,c2⟩,m,bm,ob,ud d1,d2,Vd d3 (noC d3 d4),d4,d5⟩⟩;have e0:Ks P w K mg (uO s₁.heap H) callerA [] s₁ H:=⟨rfl,hM,λb o e=>ajf e,Lb (ane _ _),trivial,λb hb=>absurd (show b∈([]:List Addr)from hb) (by simp),hok,.of_eq hg,htr⟩;refine codeAny_mono ((F _ hKb (ud hns)).run callerA [] s₁ H ⟨[.ref a],[]⟩ [.ref a] [.ref a] _ _ hr e0 (hbind s₁ (.ref a)) (.cons rfl .nil) (hsp H hO hS)) λr s' h=>?_;cases r with
  |error e=>exact(UJ H e s' h).elim
  |ok fl=>
   cases fl with
   |next=>exact False.elim h
   |brk=>exact False.elim h
   |cont=>exact False.elim h
   |ret u=>
    obtain⟨v,H',os,bare,un,hok',r',q⟩:=h;have q':v = .bl true:=q;subst q';obtain rfl:u=Value.bool true:=r';refine⟨rfl,OldK.of_keep λb o e=>?_,os,bare⟩;cases q:H b with
    |none=>exact un.keep b o e q (by intro z;exact absurd (show b∈([]:List Addr)from z) (by simp)) (by simp)
    |some u=>
     rcases hO b with z|⟨ob,xs,z⟩
     .rw[q]at z;cases z
     .have z2:=un.kY b ob _ z;obtain⟨e1,_⟩:=hok b _ z;obtain⟨e2,_⟩:=hok' b _ z2;rw[e]at e1;cases e1;exact e2
 cases hk:K.lookup a with
 |some o=>
  have e:=KX a o hk;rw[ha]at e;cases e;refine core (λ_=>none) (λ_=> .inl rfl) (.inr ⟨_,vs.toArray,_,hk,rfl,rfl,rfl,by rw[fU,lenV];exact hl,by simpa using rv⟩) (λb u z=>by have z':(none:Option HO)=some u:=z;cases z') (λb z=>absurd rfl z) λz=>absurd rfl z
 |none=>
  refine core (λb=>if b=a then some (.jf { cls:= .type "list",data:= .seq vs.toArray } (.lst (ns.map V.int)))else none) (λb=>?_) (.inl (.inr ⟨{ cls:= .type "list",data:= .seq vs.toArray },if_pos rfl⟩)) (λb u z=>?_) (λb z=>?_) λ_=>hk
  .by_cases hb:b=a
   .exact .inr ⟨_,_,if_pos hb⟩
   .exact .inl (if_neg hb)
  .by_cases hb:b=a
   .have z':=(if_pos hb).symm.trans z;cases z';subst hb;exact⟨ha,by rw[aK];exact hl,vs,_,rv,ha⟩
   .have z':=(if_neg hb).symm.trans z;cases z'
  .by_cases hb:b=a
   .exact hb
   .exact absurd (if_neg hb) z
def ank{l:W.OpenLaw}{n k:Nat}{q:Program}{loose:List Str}{XP:(Str->Option Value)->Heap->Prop}{YP:World->Heap->Prop}{d:DefRec}{K:Params->aL}{CX:World->sY}{sp:World->Sp}{x:Str}
  (hn:l.most=some n) (hn2:n<=sizeLine) (hdf:d.params.defaults=[]) (hr:dh k callerA) (hIm:importsNone q=true) (htr:l.prog.given.tree=none)
  (hY:∀(w:World) (h:Heap),YP w h->(K w.params).In h)
  (F:∀(w:World) (mg:Str->Option Value) (fa:Addr) (h:Heap),(K w.params).In h->h.Ns mainGlobals mg->mg d.name=some (.ref fa)->
   ∃fd:FuncData,(∀(s:Shared) (u:Value),BindsTo s fd ⟨[u],[]⟩ [(x,u)])/\
    ∀base:Heap,(K w.params).In base->base.Ns mainGlobals mg->sX l.prog w (K w.params) mg base (CX w) k fa fd [x] (sp w))
  (hsp:∀(w:World) (H:Hp) (a:Addr) (ns:List Int),ns.length<=n->Only H->aA (K w.params) H a (ns.map V.int)->sp w [.ref a] H (λv _=>v = .bl true) λ_ _ _=>False)
  (UJ:∀(w:World) (H:Hp) (s:Shared) (e:Value) (s':Shared),CX w [] H s (λ_ _ _=>False) e s'->False):
  W.WalkO q loose XP YP l.row.toRowW d [] (λf vs=>Yl f vs):=by
 refine Att.ajd hn hdf λw s₀ s₁ mg mb fa o pm cd doc a vs ns G Y ho hd hcd hmg hobj hints hlen hg=>?_;have KX:=hY w _ Y;obtain⟨fd,hb,hF⟩:=F w mg fa _ KX G.T.g hmg;exact an0 KX G.T.g G.T.b G.T.builtins G.T.nolimit G.T.nodigits (G.T.seer hIm) htr hg hobj hints (eO hlen hn2) hr hF hb (λH hO hS=>hsp w H a ns hlen hO hS) λH e s'=>UJ w H s₁ e s'
abbrev E0:XK:=λ_ _ _=>False
structure uY(K:aL)(x qual:Str)(st:Stmt)(f:Addr)(fd:FuncData):Prop where
 ex:∃(oc:Value) (od:Option Addr) (kV doc pm:Value) (an:Option Addr) (cdv ct:Value) (osl:Array (Option Value)),
  fd=qH x qual (rE st) (mF st) (aU st) .none kV doc pm an cdv ct/\K.lookup f=some ⟨oc,od,.func fd,osl⟩/\DF K cdv qual=true
 kp:BX K (.ref f)=true
section
variable {P:Program} {w:World} {K:aL} {mg:Str->Option Value} {base:Heap}
def uY.binds{x qual:Str}{st:Stmt}{f:Addr}{fd:FuncData}{ps:List Str}(F:uY K x qual st f fd)
  (h:∀(kV doc pm:Value) (an:Option Addr) (cdv ct:Value) (us:List Value),us.length=ps.length->bindArgs (qH x qual (rE st) (mF st) (aU st) .none kV doc pm an cdv ct) ⟨us,[]⟩=pure (ps.zip us)):Binds K fd ps []:=by
 obtain⟨oc,od,kV,doc,pm,an,cdv,ct,osl,rfl,lk,hcd⟩:=F.ex;exact .all (h kV doc pm an cdv ct)
def afB{x qual:Str}{st:Stmt}{f:Addr}{oc:Value}{od an:Option Addr}{osl:Array (Option Value)}{kV doc pm cdv ct:Value}(l:K.lookup f=some ⟨oc,od,.func (qH x qual (rE st) (mF st) (aU st) .none kV doc pm an cdv ct),osl⟩)
  (c:DF K cdv qual=true) (k:BX K (.ref f)=true):uY K x qual st f (qH x qual (rE st) (mF st) (aU st) .none kV doc pm an cdv ct):=⟨⟨oc,od,kV,doc,pm,an,cdv,ct,osl,rfl,l,c⟩,k⟩
end
def dW{n:Nat}(h:n<=1000):n<sizeLine:=Jo h ∅
section
variable {X:Cx}
def pv(i:Nat){x:Str}{pos:Pos}(hN:X.N[i]?=some x:=by rfl)(hv:FT X.env.scope x:=by first|exact pO rfl|exact dX (pO rfl)|exact dX (dX rfl))(hd:(x==("__debug__" : Str))=false:=by decide)
  (hcd:(x==("__classdict__" : Str))=false:=by decide):PE X (.Name x pos) (adX i):=awZ hN hv hd hcd
end
def bU{A B:Prop}(h:B):if false=true then A else B:=by
 rw[if_neg fX];exact h
def iM{A B:Prop}(h:A):if true=true then A else B:=by
 rw[if_pos rfl];exact h
def cX{c A B:Prop}[Decidable c](h1:c->A)(h2:¬c->B):if c then A else B:=by
 by_cases h:c
 .rw[if_pos h];exact h1 h
 .rw[if_neg h];exact h2 h
def TN{c A B:Prop}[Decidable c](hc:c)(h:B):if(!decide c)=true then A else B:=by
 rw[decide_eq_true hc];exact bU h
def Same(H H':Hp):Prop:=∀b o,H b=some o->H' b=some o
def Same.refl(H:Hp):Same H H:=λ_ _ h=>h
def Same.trans{H H1 H2:Hp}(a:Same H H1)(b:Same H1 H2):Same H H2:=λc o h=>b c o (a c o h)
def Same.free{H H':Hp}(e:Same H H'){l:Addr}(h:H' l=Vs):H l=Vs:=by
 cases q:H l with
 |none=>rfl
 |some o=>
  rw[e l o q]at h;cases h
def Same.seq{K:aL}{H H':Hp}{a:Addr}{xs:List V}(e:Same H H')(h:aA K H a xs):aA K H' a xs:=by
 rcases h with(h|⟨o,h⟩)|h
 .exact .inl (.inl (e _ _ h))
 .exact .inl (.inr ⟨o,e _ _ h⟩)
 .exact .inr h
section
variable {κ:Type} [DecidableEq κ]
end
section
variable {us:List Value}
def us0(h:us.length=0):us=[]:=vY h
def Ed{n:Nat}(h:us.length=n+1):∃a r,us=a::r/\r.length=n:=by
 cases us with
 |nil=>cases h
 |cons a r=>exact⟨a,r,rfl,Nat.succ.inj h⟩
def Y7(h:us.length=1):∃a,us=[a]:=by
 obtain⟨a,r,rfl,k⟩:=Ed h;obtain rfl:=us0 k;exact⟨a,rfl⟩
def us2(h:us.length=2):∃a b,us=[a,b]:=by
 obtain⟨a,r,rfl,k⟩:=Ed h;obtain⟨b,rfl⟩:=Y7 k;exact⟨a,b,rfl⟩
def YW(h:us.length=3):∃a b c,us=[a,b,c]:=by
 obtain⟨a,r,rfl,k⟩:=Ed h;obtain⟨b,c,rfl⟩:=us2 k;exact⟨a,b,c,rfl⟩
def Zn(h:us.length=4):∃a b c d,us=[a,b,c,d]:=by
 obtain⟨a,r,rfl,k⟩:=Ed h;obtain⟨b,c,d,rfl⟩:=YW k;exact⟨a,b,c,d,rfl⟩
def us5(h:us.length=5):∃a b c d e,us=[a,b,c,d,e]:=by
 obtain⟨a,r,rfl,k⟩:=Ed h;obtain⟨b,c,d,e,rfl⟩:=Zn k;exact⟨a,b,c,d,e,rfl⟩
structure rK(P:Program)(w:World)(outer:List Env)(H:Hp)(s:Shared)(E:XK)(e:Value)(s':Shared):Prop where
 ex:∃(ea C:Addr) (a0:Value) (B:Heap) (H':Hp),e = .ref ea/\s'.os=s.os/\AllBare s'.gens/\aeE B outer ea (.ref C) a0 s'.heap/\fZ P w H' B/\Un (frs outer) [] H H' s.heap s'.heap/\
  (∀b o,s.heap.get? b=some o->b∈frs outer∨∃o',B.get? b=some o')/\E (.ref C) none H'
def abV{P:Program}{w:World}{outer:List Env}{H:Hp}{s s':Shared}{e:Value}(h:rK P w outer H s E0 e s'):False:=by
 obtain⟨_,_,_,_,_,_,_,_,_,_,_,_,q⟩:=h.ex;exact q
def ag5{X:Cx}:Passes (rK X.prog X.w) X E0:=λ_ _ _ _ _ _ _ h=>(abV h).elim
end
section
variable {X:Cx} {pins:List (Addr×Obj)} {σ:St} {H:Hp} {s:Shared}
def Inv.LQ(I:Inv X pins σ H s){b:Addr}{o:Obj}(e:X.s₀.heap.get? b=some o)(hb:b∉X.fs):b∉frs X.stack:=λz=>by
 rcases fR.mp (I.Ji b z)with q|q
 .exact absurd (iR (dg e) I.ok.above) (by rw[<-q];exact lW _)
 .exact hb q
def Jm(I:Inv X pins σ H s){b:Addr}{o:Obj}(e:s.heap.get? b=some o)(hb:b∉frs X.stack):(Ja s.heap (frs X.stack)).get? b=some o:=W.hideAll_get _ e hb
def Inv.awC(I:Inv X pins σ H s):fZ X.prog X.w H (Ja s.heap (frs X.stack)):=λb o e=>
 (I.hok b o e).stay (λc u hc q=>Jm I q λz=>by
  have n:=I.RQ c z;rcases hc with rfl|hc
  .rw[n]at e;cases e
  .rw[n]at hc;cases hc) (λ_ q=>q) λ_ _ q=>q
def Inv.YF(I:Inv X pins σ H s)(hex:X.ex=[]){H':Hp}{h':Heap}(keep:∀b o,s.heap.get? b=some o->H b=none->b∉frs X.stack->h'.get? b=some o)
  (slot:∀b o,s.heap.get? b=some o->H b=none->b∈X.fs->∃sl,h'.get? b=some { o with slots:=sl }) (free:∀b o,s.heap.get? b=some o->H b=none->H' b=none) (there:∀b o,s.heap.get? b=some o->∃o',h'.get? b=some o')
  (tups:∀b xs,H b=some (.tup xs)->H' b=some (.tup xs)) (kY:∀b o u,H b=some (.jf o u)->H' b=some (.jf o u)) (lZ:∀b ps,H b=some (.tW ps)->∃more,H' b=some (.tW (ps++more))):
  Un (frs X.outer) [] X.H₀ H' X.s₀.heap h':=by
 have nx:∀b:Addr,b∉X.ex:=λb=>by rw[hex];simp
 refine⟨λb o e n hb _=>?_,λb o e n hb _=>?_,λb o e n _=>?_,λb o e _=>?_,λb xs e=>tups b xs (I.base.tups b xs e),λb o u e=>kY b o u (I.base.kY b o u e),λb ps e=>?_⟩
 .exact keep b o (I.base.keep b o e n hb (nx b)) (I.base.free b o e n (nx b)) (I.LQ e hb)
 .obtain⟨sl,e1⟩:=I.base.slot b o e n hb (nx b);obtain⟨sl',e2⟩:=slot b _ e1 (I.base.free b o e n (nx b)) hb;exact⟨sl',e2⟩
 .obtain⟨o',e1⟩:=I.base.there b o e (nx b);exact free b o' e1 (I.base.free b o e n (nx b))
 .obtain⟨o',e1⟩:=I.base.there b o e (nx b);exact there b o' e1
 .obtain⟨m1,e1⟩:=I.base.lZ b ps e;obtain⟨m2,e2⟩:=lZ b _ e1;exact⟨m1++m2,by rw[e2,WB]⟩
end
abbrev gQ(P:Program)(w:World)(K:aL)(mg:Str->Option Value)(base:Heap)(N:List Str)(qual:Str)(scope:Scope)(f:Addr)(cdv:Value)(A:Around)(outer:List Env)(s:Shared)(H:Hp)(E:XK):Cx:=
 zK (rK P w) P w K mg base N qual scope f cdv A outer s H E
section
variable {P:Program} {w:World} {K:aL} {mg:Str->Option Value} {base:Heap} {N:List Str} {qual:Str} {scope:Scope} {f:Addr} {cdv:Value} {A:Around} {outer:List Env} {s₀:Shared} {H₀:Hp} {E:XK}
def amI{pins:List (Addr×Obj)}{σ:St}{H:Hp}{s:Shared}{h1:Heap}{e C:Addr}{vs:List Value}(I:Inv (gQ P w K mg base N qual scope f cdv A outer s₀ H₀ E) pins σ H s)(hx:Heap.MadeExcOf s.heap h1 e (.ref C) vs)(q:E (.ref C) none H):
  (gQ P w K mg base N qual scope f cdv A outer s₀ H₀ E).xe (.ref e) { s with heap:=h1 }:=by
 have hin:∀env∈envOfC qual scope s₀.heap.objs.size f cdv::outer,∀a,env.frame=some a->a∈frs (envOfC qual scope s₀.heap.objs.size f cdv::outer):=λenv he a ha=>N5.mpr ⟨env,he,ha⟩;refine wpAny_leaves_madeW (base:=Ja s.heap (frs (envOfC qual scope s₀.heap.objs.size f cdv::outer))) (h:=s.heap) (L:=s₀.heap.objs.size) I.ok.frames rfl (λb o q=>W.of_hideAll _ q) (W.funFrames_hide I.stack hin) hx λh' t x1 x2 x3 x4=>?_;have up:∀b o,s.heap.get? b=some o->b∈frs (envOfC qual scope s₀.heap.objs.size f cdv::outer)->∃sl,h'.get? b=some { o with slots:=sl }:=λb o e hb=>by
  obtain⟨_,o',ho',hd⟩:=I.stack.mem hb;rw[e]at ho';cases ho';exact x4 b o (hx.keeps b o e) hd
 refine⟨e,C,.ref t,_,H,rfl,I.os,I.bare,x1,I.awC,I.YF rfl (λb o e _ hb=>x1.1 b o (Jm I e hb)) (λb o e _ hb=>up b o e (jZ _ hb)) (λ_ _ _ n=>n) (λb o e=>?_) (λ_ _ z=>z) (λ_ _ _ z=>z) (λb ps z=>⟨#[],by rw[z];simp⟩),λb o e=>?_,q⟩
 .by_cases hb:b∈frs (envOfC qual scope s₀.heap.objs.size f cdv::outer)
  .obtain⟨sl,z⟩:=up b o e hb;exact⟨_,z⟩
  .exact⟨o,x1.1 b o (Jm I e hb)⟩
 .by_cases hb:b∈frs outer
  .exact .inl hb
  .obtain⟨o',e1⟩:=I.base.there b o e (by intro z;cases z);exact .inr ⟨o',Jm I e1 (I.LQ e hb)⟩
def asq:Passes (rK P w) (gQ P w K mg base N qual scope f cdv A outer s₀ H₀ E) E:=by
 intro pins σ H s e s' I h;obtain⟨ea,C,a0,B,H',rfl,os,bare,fl,hok,un,old,q⟩:=h.ex;refine wpAny_leaves_onW (L:=s₀.heap.objs.size) I.ok.frames rfl fl λh' x1 x2=>?_;have inB:∀b o,s.heap.get? b=some o->b∉frs (envOfC qual scope s₀.heap.objs.size f cdv::outer)->∃o',B.get? b=some o'/\s'.heap.get? b=some o':=λb o e hb=>by
  rcases old b o e with z|⟨o',z⟩
  .exact absurd z hb
  .exact⟨o',z,fl.1 b o' z⟩
 have up:∀b o,s'.heap.get? b=some o->b∈frs (envOfC qual scope s₀.heap.objs.size f cdv::outer)->∃sl,h'.get? b=some { o with slots:=sl }:=λb o e hb=>by
  obtain⟨_,o',ho',hd⟩:=fl.2.2.1.mem hb;rw[e]at ho';cases ho';exact x2 b o e hd
 refine⟨ea,C,a0,B,H',rfl,os.trans I.os,bare,x1,hok,I.YF rfl (λb o e n hb=>?_) (λb o e n hb=>?_) (λb o e n=>un.free b o e n (by simp)) (λb o e=>?_) un.tups un.kY un.lZ,λb o e=>?_,q⟩
 .obtain⟨o',e1,e2⟩:=inB b o e hb;have e3:=un.keep b o e n hb (by simp);rw[e2]at e3;cases e3;exact x1.1 b _ e1
 .obtain⟨sl,e1⟩:=un.slot b o e n (jZ _ hb) (by simp);obtain⟨sl',e2⟩:=up b _ e1 (jZ _ hb);exact⟨sl',e2⟩
 .by_cases hb:b∈frs (envOfC qual scope s₀.heap.objs.size f cdv::outer)
  .obtain⟨o',e1⟩:=un.there b o e (by simp);obtain⟨sl,e2⟩:=up b o' e1 hb;exact⟨_,e2⟩
  .obtain⟨o',e1,_⟩:=inB b o e hb;exact⟨o',x1.1 b o' e1⟩
 .by_cases hb:b∈frs outer
  .exact .inl hb
  .obtain⟨o',e1⟩:=I.base.there b o e (by intro z;cases z);obtain⟨o2,e2,_⟩:=inB b o' e1 (I.LQ e hb);exact .inr ⟨o2,e2⟩
end
section
variable {P:Program}{w:World}{K:aL}{mg:Str->Option Value}{base:Heap}{N ps:List Str}{qual x:Str}{f:Addr}{st:Stmt}{fd:FuncData}{k:Nat}{sp:Sp}
def axJ(C:Addr)(E:XK)(t:TA):TS:=λ_ σ H=>t σ H λvs H1=>vs.length<=sizeLine/\E (.ref C) none H1
structure R4(mg:Str->Option Value)(base:Heap)(x:Str)(C:Addr):Prop where
 ex:∃bm newId,OwnCls x C bm newId mg base/\∃(Bn inN:String) (bmN:List Value) (B nid initId:String),ExcBaseFacts Bn newId inN bmN/\bm.contains (.type Bn)=true/\ExcBaseFacts B nid initId bm
def ar0{scope:Scope}{cdv:Value}{A:Around}{outer:List Env}{s₀:Shared}{H₀:Hp}{E:XK}
  {x:Str} {C:Addr} {np cpos pos:Pos} {e:Expr} {es:List Expr} {t:TA} (O:R4 mg base x C) (hg:Gl (gQ P w K mg base N qual scope f cdv A outer s₀ H₀ E) x) (ha:PA (gQ P w K mg base N qual scope f cdv A outer s₀ H₀ E) (e::es) t)
  (hdb:(x==("__debug__" : Str))=false:=by decide)
  (he:starEach (e::es) (gQ P w K mg base N qual scope f cdv A outer s₀ H₀ E).env=(false,eval e (gQ P w K mg base N qual scope f cdv A outer s₀ H₀ E).env)::starEach es (gQ P w K mg base N qual scope f cdv A outer s₀ H₀ E).env:=by rfl)
  (hpl:(backTo cpos (starEach es (gQ P w K mg base N qual scope f cdv A outer s₀ H₀ E).env)).any (·.1)=false:=by rfl):
  PS (gQ P w K mg base N qual scope f cdv A outer s₀ H₀ E) (.Raise (some (.Call (.Name x np) (e::es) [] cpos)) none pos) (axJ C E t):=by
 intro pins s σ H D I h;obtain⟨bm,newId,O,Bn,inN,bmN,B,nid,initId,Fn,hBn,FB⟩:=O.ex;obtain⟨tl,Nn,nm,q,bs,hdct,sn,sub,ab,col,dd,k0,k1,k2,k3,k5,mN,hC,hN,hni,T⟩:=O.obj;refine wpAny_Raise_call_subU (C:=C) (nm:=nm) (q:=q) (N:=Nn) (bs:=bs) (bm:=tl) (hdct:=hdct) (sn:=sn) (sub:=sub) (ab:=ab) (col:=col) (dd:=dd) (k0:=k0) (k1:=k1) (k2:=k2) (k3:=k3) (k5:=k5)
  Fn hBn FB (mN:=mN) (T.hasType FB.hasBase) (I.ok.hd rfl) (by rw[he];show(false||(backTo cpos (starEach es (gQ P w K mg base N qual scope f cdv A outer s₀ H₀ E).env)).any (·.1))=false;rw[hpl];rfl) hni (Dc I hg O.bound ⟨rfl,?_⟩ hdb)
 have h2:=ha cpos pins s σ H _ I h;rw[he]at h2⊢;refine agj (wpAny_mono h2 (λus s2 ⟨vs,H2,I2,r,z,q⟩=>⟨rfl,by rw[<-r.length];exact z,I2.bk _ _ hC,hN.keeps I2.bk,T.keeps I2.bk,λh' e hm=>amI I2 hm q⟩) λ_ _ y=>y)
def uY.Zb(F:uY K x qual st f fd)(S:aY N ps (aU st))(len:∀vs H Q E,sp vs H Q E->vs.length=ps.length)
  (hbody:∀(cdv:Value) (A:Around) (outer:List Env) (s:Shared) (H:Hp) (vs:List V) (Q:VK) (E:XK),dh k (A.deeper (envOfC qual (aU st) s.heap.objs.size f cdv))->sp vs H Q E->
   ∃t,jE (gQ P w K mg base N qual (aU st) f cdv A outer s H E) (mF st) t/\t { nx:=λ_ H'=>Q .non H',rt:=Q } (start N vs) H):sX P w K mg base (rK P w) (k+1) f fd ps sp:=by
 obtain⟨oc,od,kV,doc,pm,an,cdv,ct,osl,rfl,lk,hcd⟩:=F.ex;exact apO lk hcd S len λA outer s H vs Q E hr hsp=>hbody cdv A outer s H vs Q E hr hsp
def uY.okN(F:uY K x qual st f fd)(S:aY N ps (aU st))(len:∀vs H Q E,sp vs H Q E->vs.length=ps.length)
  (hbody:∀(cdv:Value) (A:Around) (outer:List Env) (s:Shared) (H:Hp) (vs:List V) (Q:VK) (E:XK),dh k (A.deeper (envOfC qual (aU st) s.heap.objs.size f cdv))->sp vs H Q E->
   ∃t,jE (gQ P w K mg base N qual (aU st) f cdv A outer s H E).Ai (mF st) t/\t { nx:=λ_ H'=>Q .non H',rt:=Q } (start N vs) H):sX P w K mg base (rK P w) (k+1) f fd ps sp:=
 F.Zb S len λcdv A outer s H vs Q E hr h=>let⟨t,a,b⟩:=hbody cdv A outer s H vs Q E hr h;⟨t,a.Ai,b⟩
end
section
variable {X:Cx}
section
variable {r r':R2}{x:Str}{pos:Pos}{t:String}{w:World}{K:aL}{A:Around}{s:Shared}
def cZ.imp{f:Value->Value->Sem Value}(h:cZ X f r)(i:∀x y H Q,r' x y H Q->r x y H Q):cZ X f r':=λpins s σ H x y v u Q I rx ry q=>h pins s σ H x y v u Q I rx ry (i _ _ _ _ q)
def mU.imp(h:mU X r)(i:∀x y H Q,r' x y H Q->r x y H Q):mU X r':=λvalue slice pins s σ H x y v u Q I rx ry q hs=>h value slice pins s σ H x y v u Q I rx ry (i _ _ _ _ q) hs
def Fj{i:Int}(hg:Gl X x)(hm:∃t,X.mg x=some (.int i t))(hd:(x==("__debug__" : Str))=false:=by decide):PE X (.Name x pos) (tC (.int i)):=by
 obtain⟨t,e⟩:=hm;exact Qi hg e ⟨t,rfl⟩ hd
def anK{n:String}(hg:Gl X x)(hm:X.mg x=none)(hv:bootBuiltins x=some (.type n))(hn:x≠ "__name__" := by decide)(hd:(x==("__debug__" : Str))=false:=by decide):PE X (.Name x pos) (tC (.ty n)):=
 alP hg hm hv (v:= .ty n) rfl hn hd
structure fM(P:Program)(w:World)(K:aL)(mg:Str->Option Value)(base:Heap)(x:Str)(k:Nat)(ps:List Str)(sp:Sp):Prop where
 ex:∃(g:Addr) (gd:FuncData),mg x=some (.ref g)/\BX K (.ref g)=true/\Binds K gd ps []/\sX P w K mg base (rK P w) k g gd ps sp
def aiF{k k':Nat}{ps:List Str}{sp:Sp}{p:Pos}{e:Expr}{es:List Expr}{t:TA}(C:fM X.prog X.w X.K X.mg X.base x k ps sp)(hr:dh k' X.A)(hg:Gl X x)(ha:PA X (e::es) t)
  (hk:k<=k':=by decide) (hd:(x==("__debug__" : Str))=false:=by decide)
  (he:starEach (e::es) X.env=(false,eval e X.env)::starEach es X.env:=by rfl) (hpl:(backTo pos (starEach es X.env)).any (·.1)=false:=by rfl):PE X (.Call (.Name x p) (e::es) [] pos) (GY sp [] E0 t):=by
 obtain⟨g,gd,hm,hkp,hb,F⟩:=C.ex;exact acy F (hr.mono hk) hg hm hkp hb .nil ag5 ha hd he hpl
def qU{P:Program}{mg:Str->Option Value}{base:Heap}{N:List Str}{qual:Str}{scope:Scope}{f:Addr}{cdv:Value}{outer:List Env}{s₀:Shared}{H₀:Hp}{E:XK}
  {x:Str} {k k':Nat} {ps:List Str} {sp:Sp} {p pos:Pos} {e:Expr} {es:List Expr} {t:TA} (C:fM P w K mg base x k ps sp) (hr:dh k' (gQ P w K mg base N qual scope f cdv A outer s₀ H₀ E).A) (hg:Gl (gQ P w K mg base N qual scope f cdv A outer s₀ H₀ E) x)
  (ha:PA (gQ P w K mg base N qual scope f cdv A outer s₀ H₀ E) (e::es) t) (hk:k<=k':=by decide) (hd:(x==("__debug__" : Str))=false:=by decide)
  (he:starEach (e::es) (gQ P w K mg base N qual scope f cdv A outer s₀ H₀ E).env=(false,eval e (gQ P w K mg base N qual scope f cdv A outer s₀ H₀ E).env)::starEach es (gQ P w K mg base N qual scope f cdv A outer s₀ H₀ E).env:=by rfl)
  (hpl:(backTo pos (starEach es (gQ P w K mg base N qual scope f cdv A outer s₀ H₀ E).env)).any (·.1)=false:=by rfl):
  PE (gQ P w K mg base N qual scope f cdv A outer s₀ H₀ E) (.Call (.Name x p) (e::es) [] pos) (GY sp [] E t):=by
 obtain⟨g,gd,hm,hkp,hb,F⟩:=C.ex;exact acy (X:=gQ P w K mg base N qual scope f cdv A outer s₀ H₀ E) F (hr.mono hk) hg hm hkp hb .nil asq ha hd he hpl
def axI{prog:Program}{E:Value->Shared->Prop}{t b:Addr}{vs ws:List Value}{Q:Value->Shared->Prop}(ht:IsTup s.heap t vs.toArray)(hb:IsTup s.heap b ws.toArray)(hv:vs=[])
  (h1:Q (.ref b) s):wpAny (model prog w) A (binaryOp .Add (.ref t) (.ref b)) Q E s:=by
 obtain⟨⟨cls,dd,data,sl⟩,ho,hc,n,hd⟩:=id ht;obtain⟨⟨cls2,dd2,data2,sl2⟩,ho2,hc2,n2,hd2⟩:=id hb;simp only at hc hd hc2 hd2;subst hc hd hc2 hd2;exact concat_meets ⟨_,ho,rfl⟩ ⟨_,ho2,rfl⟩ noFill_tuple_add seq_tuple_add Nv Nz (QS _ _)
   (tuple_addW0 t b vs.toArray ws.toArray n n2 dd dd2 sl sl2 (by simp[hv])) ⟨ho,ho2,h1⟩
def atH(K:aL):R2:=λx y H Q=>∃a b ys,x = .ref a/\y = .ref b/\aB K H a []/\aB K H b ys/\Q (.ref b) H
def aiJ:cZ X (binaryOp .Add) (atH X.K):=by
 intro pins s σ H x y v u Q I rx ry h;obtain⟨a,b,ys,rfl,rfl,ha,hb,q⟩:=h;cases rx;cases ry;obtain⟨its,r1,p1,_⟩:=I.tuple ha;obtain⟨its2,r2,p2,_⟩:=I.tuple hb;exact axI p1 p2 (r1.Iv.mpr rfl) ⟨.ref b,H,I,rfl,q⟩
inductive aiv(a b:Addr)(H:Hp)(Q:VK):Prop|mk (xs ys:List V) (h1:H a=some (.lst xs)) (h2:H b=some (.lst ys)) (hz:xs.length+ys.length<=sizeLine) (q:∀p,H p=none->Q (.ref p) (upd H p (.lst (xs++ys))))
def Jl(K:aL):R2:=λx y H Q=>match x,y with
 |.int i,.int j=>Q (.int (i+j)) H
 |.str i,.str j=>i.length+j.length<=sizeLine/\Q (.str (i++j)) H
 |.ref a,.ref b=>aiv a b H Q∨
   (∃xs ys,aB K H a xs/\aB K H b ys/\xs.length+ys.length<=sizeLine/\(xs=[]->Q (.ref b) H)/\(xs≠[]->ys=[]->Q (.ref a) H)/\(xs≠[]->ys≠[]->∀p,H p=none->Q (.ref p) (upd H p (.tup (xs++ys)))))
 |_,_=>False
def v_add:cZ X (binaryOp .Add) (Jl X.K):=by
 refine((ay4.or avW).or (ajY.or (asp.or aiJ))).imp λx y H Q h=>?_;unfold Jl at h;split at h
 .exact .inl (.inl ⟨_,_,rfl,rfl,h⟩)
 .exact .inl (.inr ⟨_,_,rfl,rfl,h⟩)
 .rcases h with⟨xs,ys,h1,h2,h3,h4⟩|⟨xs,ys,h1,h2,h3,h4,h5,h6⟩
  .exact .inr (.inl ⟨_,_,xs,ys,rfl,rfl,h1,h2,h3,h4⟩)
  .by_cases hx:xs=[]
   .subst hx;exact .inr (.inr (.inr ⟨_,_,ys,rfl,rfl,h1,h2,h4 rfl⟩))
   .exact .inr (.inr (.inl ⟨_,_,xs,ys,rfl,rfl,h1,h2,hx,h3,h5 hx,h6 hx⟩))
 .exact h.elim
inductive asO(i j:Int)(H:Hp)(Q:VK):Prop|mk (h:IntMulOk i j) (q:Q (.int (i*j)) H)
inductive ars(l:Addr)(k:Int)(H:Hp)(Q:VK):Prop|mk (xs:List V) (h:H l=some (.lst xs)) (h1:-(2^63)<=k) (h2:k<2^63) (hz:xs.length*k.toNat<=sizeLine) (q:∀p,H p=none->Q (.ref p) (upd H p (.lst (kI k.toNat xs).flatten)))
def XG:R2:=λx y H Q=>match x,y with
 |.int i,.int j=>asO i j H Q
 |.ref l,.int k=>ars l k H Q
 |_,_=>False
def anu:cZ X (binaryOp .Mult) (rI IntMulOk λi j=> .int (i*j)):=HB λ_ _ _ _ _ _ _ hc q=>mul_int q hc
def v_mul:cZ X (binaryOp .Mult) XG:=by
 refine(anu.or ahL).imp λx y H Q h=>?_;unfold XG at h;split at h
 .obtain⟨h1,h2⟩:=h;exact .inl ⟨_,_,rfl,rfl,h1,h2⟩
 .obtain⟨xs,h1,h2,h3,h4,h5⟩:=h;exact .inr ⟨_,_,xs,rfl,rfl,h1,h2,h3,h4,h5⟩
 .exact h.elim
inductive SIx(K:aL)(p:Addr)(i:Int)(H:Hp)(Q:VK):Prop|mk (xs:List V) (v:V) (hs:aA K H p xs∨aB K H p xs) (ha:jX xs i=some v) (q:Q v H)
def Iz(K:aL):R2:=λx y H Q=>match x,y with
 |.ref p,.int i=>SIx K p i H Q
 |.str z,.int i=>∃c,z.length<=sizeLine/\jX z.cps.toList i=some c/\Q (.str ⟨#[c]⟩) H
 |_,_=>False
def aly:mU X (Iz X.K):=by
 refine akO.imp λx y H Q h=>?_;unfold Iz at h;split at h
 .obtain⟨xs,v,h1|h1,h2,h3⟩:=h
  .exact .inl ⟨_,xs,_,v,rfl,rfl,h1,h2,h3⟩
  .exact .inr (.inl ⟨_,xs,_,v,rfl,rfl,h1,h2,h3⟩)
 .obtain⟨c,h1,h2,h3⟩:=h;exact .inr (.inr ⟨_,_,c,rfl,rfl,h1,h2,h3⟩)
 .exact h.elim
def zF(H:Hp):V->Option String
 |.non=>some "NoneType"
 |.bl _=>some "bool"
 |.int _=>some "int"
 |.str _=>some "str"
 |.ref a=>match H a with
  |some (.lst _)=>some "list"
  |some (.jf _ (.lst _))=>some "list"
  |some (.tup _)=>some "tuple"
  |some (.dK _)=>some "dict"
  |_=>none
 |_=>none
def subB(t c:String):Bool:=t==c||(t== "bool" && c== "int")
def asQ{c:String}(ht:t∈["NoneType","bool","int","str","list","tuple","dict"])(hc:c∈["int","bool","tuple","list","str","dict"]):sH K (.type t) (.type c)=some (subB t c):=by
 simp only[fR,nH,or_false]at ht hc;rcases ht with rfl|rfl|rfl|rfl|rfl|rfl|rfl<;>rcases hc with rfl|rfl|rfl|rfl|rfl|rfl<;>kernel_rfl
def ap5{H:Hp}{x:V}(h:zF H x=some t):nM K H x (.type t)/\t∈["NoneType","bool","int","str","list","tuple","dict"]:=by
 unfold zF at h;split at h
 .cases h;exact⟨.non,by simp⟩
 .cases h;exact⟨.bl _,by simp⟩
 .cases h;exact⟨.int _,by simp⟩
 .cases h;exact⟨.str _,by simp⟩
 .split at h
  .rename_i e;cases h;exact⟨.lst e,by simp⟩
  .rename_i e;cases h;exact⟨.jf e,by simp⟩
  .rename_i e;cases h;exact⟨.tup e,by simp⟩
  .rename_i e;cases h;exact⟨.dK e,by simp⟩
  .cases h
 .cases h
def ayb:jH X (.builtin "isinstance") (λxs H Q=>∃x c t,xs=[x,.ty c]/\zF H x=some t/\c∈["int","bool","tuple","list","str","dict"]/\Q (.bl (subB t c)) H):=by
 intro pins s σ H xs us Q I r h;obtain⟨x,c,t,rfl,ht,hc,q⟩:=h;obtain⟨u,v,rfl,ru,rv⟩:=r.two;cases rv;obtain⟨ty,hm⟩:=ap5 (K:=X.K) ht;exact apM I ru ty (asQ hm hc) λtk=>⟨.bl _,H,I.tok tk,rfl,q⟩
theorem adw:∀{bs:List Bool} {us:List Value},Vals (bs.map V.bl) us->us=bs.map Value.bool
 |[],_,.nil=>rfl
 |b::bs,_,.cons r t=>by
  have e:=adw (bs:=bs) t;cases (show _=Value.bool b from r);rw[e];rfl
def aqZ{h':Heap}{o:Obj}(hk:∀b x,b∉[s.heap.objs.size]->(s.heap.push o).get? b=some x->h'.get? b=some x):∀b x,s.heap.get? b=some x->h'.get? b=some x:=
 λb x e=>hk b x (λhm=>by rw[oW.mp hm]at e;exact lW _ (dg e)) (Heap.get?_push_of_some _ e)
def v_sum(hc:X.calm=true):jH X (.builtin "sum") (λxs H Q=>∃(l:Addr) (ns:List Int),xs=[.ref l]/\aA X.K H l (ns.map V.int)/\Q (.int ns.sum) H):=by
 intro pins s σ H xs us Q I r h;obtain⟨l,ns,rfl,hl,q⟩:=h;obtain⟨u,rfl,ru⟩:=r.one;cases ru;obtain⟨its,rv,pl,hz⟩:=I.list hl;have hi:=intsAre_of rv;obtain⟨xs,hx⟩:=hi.allInts.items;have hl':s.heap.IsList l (intItems xs):=hx▸pl.isList;refine sum_intListG (I.ok.hd hc) hl' λh' tk t' hk=>?_;have e1:ns=xs.toList.map (·.1):=by
  rw[<-nums_intItems,<-hx];exact(show numsOf its.toArray.toList=ns from hi.numsOf).symm
 have e2:preSum (numAt xs) xs.size=ns.sum:=by
  rw[preSum_eq,yM (by simp),e1]
 rw[e2];exact⟨.int _,H,I.kept hk,⟨_,rfl⟩,q⟩
inductive Yb(P:Prop)(R:It->Hp->Prop)(J:It)(H:Hp):Prop|mk (h:P) (q:R J H)
inductive SSq(z:aL)(a:Addr)(H:Hp)(R:It->Hp->Prop):Prop
 |inl (h:Yb (∃xs,aA z H a xs) R (BL z a) H)
 |inr (h:Yb (∃xs,aB z H a xs) R (yV z a) H)
inductive ad7(K:aL)(x:V)(H:Hp)(R:It->Hp->Prop):Prop|mk (a:Addr) (hx:x = .ref a) (q:SSq K a H R)
def ac0(K:aL)(tl:TE):TI:=λσ H R=>tl σ H λx H1=>ad7 K x H1 R
def azR{tg l:Expr}{tl:TE}(hl:PE X l tl):PI X tg l (ac0 X.K tl):=by
 intro pins s σ H R I h;refine bw (hl pins s σ H _ I h) λv s1 ⟨x,H1,I1,r1,a,e,q⟩=>?_;subst e;cases r1;rcases q with⟨⟨xs,hq⟩,q⟩|⟨⟨xs,hq⟩,q⟩
 .have hh:PI X tg l (ait X.K λσ' H' Q=>Q (.ref a) H')->True:=λ_=>trivial;obtain⟨its,rv,p,hz⟩:=I1.list hq;refine wpAny_pyIter_list p.isList ?_;refine⟨s1.heap.objs.size,[s1.heap.objs.size],_,_,H1,rfl,I1.kept (t':=s1.toks) λb o e=>Heap.get?_push_of_some _ e,aoq a _,⟨_,Heap.get?_push_size _ rfl,rfl,rfl⟩,λb hb=>?_,q⟩;have e:b=s1.heap.objs.size:=by simpa using hb
  subst e;exact I1.uD (aR _) (I1.hok.fresh (aR _))
 .obtain⟨its,rv,p,hz⟩:=I1.tuple hq;refine wpAny_pyIter_tuple (show s1.heap.IsTuple a its.toArray from p) ?_;refine⟨s1.heap.objs.size,[s1.heap.objs.size],_,_,H1,rfl,I1.kept (t':=s1.toks) λb o e=>Heap.get?_push_of_some _ e,ayR a _,⟨_,Heap.get?_push_size _ rfl,rfl,rfl⟩,λb hb=>?_,q⟩;have e:b=s1.heap.objs.size:=by simpa using hb
  subst e;exact I1.uD (aR _) (I1.hok.fresh (aR _))
end
end
section
variable {env:Env}{scope sc:Scope}{X:Cx}{elt iter tg:Expr}{ifs:List Expr}{pos:Pos}{wi:TI}{g:TG}{tc:TT}{te:TE}{N:List Str}{ix:List (Option Nat)}
theorem Uh{env:Env}:∀(names:List (Str×NameKind)) (acc:List (Str×Addr)),(∀y∈names,y.2 = .free->∃c,env.cells.lookup y.1=some c)->(∀p∈acc,env.cells.lookup p.1=some p.2)->
 ∃cl,(forIn names acc λ(y:Str×NameKind) (cs:List (Str×Addr))=>match y with|(name,kind)=>if(kind== .free)=true then do let a<-cellOf env name;pure (ForInStep.yield ((name,a)::cs))else pure (ForInStep.yield cs))=(pure cl:Sem _)/\(∀p∈cl,env.cells.lookup p.1=some p.2)/\(∀p∈acc,p∈cl)/\∀y∈names,y.2 = .free->∃c,(y.1,c)∈cl
 |[],acc,_,ha=>⟨acc,rfl,ha,λ_ h=>h,λ_ h=>nomatch h⟩
 |(n,k)::r,acc,hf,ha=>by
  have hr:∀y∈r,y.2 = .free->∃c,env.cells.lookup y.1=some c:=λy hy=>hf y (jZ _ hy);by_cases hk:k = .free
  .subst hk;obtain⟨c,hc⟩:=hf (n,.free) mC rfl;obtain⟨cl,e,h1,h2,h3⟩:=Uh r ((n,c)::acc) hr (λp hp=>by
    rcases fR.mp hp with rfl|hp
    .exact hc
    .exact ha p hp)
   refine⟨cl,?_,h1,λp hp=>h2 p (jZ _ hp),λy hy hyf=>?_⟩
   .rw[Ke];simp only[beq_self_eq_true,if_true,cellOf,hc,pure_bind];exact e
   .rcases fR.mp hy with rfl|hy
    .exact⟨c,h2 _ mC⟩
    .exact h3 y hy hyf
  .have hb:(k==NameKind.free)=false:=by simpa using hk
   obtain⟨cl,e,h1,h2,h3⟩:=Uh r acc hr ha;refine⟨cl,?_,h1,h2,λy hy hyf=>?_⟩
   .rw[Ke];simp only[hb,Bool.false_eq_true,if_false,pure_bind];exact e
   .rcases fR.mp hy with rfl|hy
    .exact absurd hyf hk
    .exact h3 y hy hyf
def arn(hf:∀y∈scope.names,y.2 = .free->∃c,env.cells.lookup y.1=some c):
  ∃cl,closureFor scope env=pure cl/\(∀x c,cl.lookup x=some c->env.cells.lookup x=some c)/\∀y∈scope.names,y.2 = .free->∃c,cl.lookup y.1=some c:=by
 obtain⟨cl,e,h1,_,h3⟩:=Uh (env:=env) scope.names [] hf (λ_ h=>nomatch h);refine⟨cl,?_,λx c h=>h1 (x,c) (vN h),λy hy hyf=>?_⟩
 .unfold closureFor;simp only[bind_pure_comp]at e⊢;rw[e];rfl
 .obtain⟨c,hc⟩:=h3 y hy hyf;cases q:cl.lookup y.1 with
  |some d=>exact⟨d,rfl⟩
  |none=>
   have z:=List.lookup_eq_none_iff.mp q (y.1,c) hc;simp at z
def Uu(sc:Scope)(cl:List (Str×Addr))(C:Addr)(env:Env):Env:=
 { scope:=sc,locals:=C,globals:=env.globals,cells:=cl,qual:=env.qual,func:=none,code:=env.code,frame:=env.frame,builtins:=env.builtins }
def j5(X:Cx)(sc:Scope)(N:List Str)(cl:List (Str×Addr))(C:Addr)(s₀:Shared)(H₀:Hp)(ex:List Addr):Cx:=
 { X with env:=Uu sc cl C X.env,N:=N,s₀:=s₀,H₀:=H₀,outer:=X.stack,ex:=ex,fn:=λ_=>false,pn:=[],xe:=λ_ _=>False }
def cst(ix:List (Option Nat))(σ:St):St:=ix.map λo=>match o with
 |none=>none
 |some i=>match σ[i]? with
  |some v=>v
  |none=>none
def zx(X:Cx)(ifs:List Expr)(t:TT):Prop:=
 ∀(pins:List (Addr×Obj)) (s:Shared) (σ:St) (H:Hp) (Q:Bool->Hp->Prop),Inv X pins σ H s->t σ H Q->
  wpAny (model X.prog X.w) X.A (forIn ifs true λc r=>if r=true then do let ok<-isTrue c X.env (eval c X.env);pure (ForInStep.yield ok)else pure (ForInStep.yield r)) (TP X pins σ Q) X.xe s
def oF:TT:=λ_ H Q=>Q true H
def dM:zx X [] oF:=λ_ _ _ H _ I h=>wpAny_tests_nil ⟨H,I,h⟩
def ao1{c:Expr}{t:TT}(h:PT X c t):zx X [c] t:=λpins s σ H Q I q=>wpAny_tests_one (h pins s σ H Q I q)
def aAt{prog:Program}{w:World}{A:Around}{R:Result->Shared->Prop}{s:Shared}{target:Expr}{it acc:Value}(I:Nat->Shared->Prop)
  (turn:∀n s,I n s->wpAny (model prog w) A (pyNext it) (λr s₁=>match r with
   |none=>R (.ok .next) s₁
   |some v=>wpAny (model prog w) A (letOwnedTupleGo target it v) (λ_ s₀=>wpAny (model prog w) A (assign target env v) (λ_ s₂=>
     wpAny (model prog w) A (forIn ifs true λc r=>if r=true then do let ok<-isTrue c env (eval c env);pure (ForInStep.yield ok)else pure (ForInStep.yield r)) (λok s₃=>
      if ok=true then wpAny (model prog w) A (eval elt env) (λx s₄=>
       wpAny (model prog w) A (call (.builtin "list.append") [acc,x]) (λ_ s₅=>∃m,m<n/\I m s₅) (λ_ _=>False) s₄) (λ_ _=>False) s₃
      else ∃m,m<n/\I m s₃) (λ_ _=>False) s₂) (λ_ _=>False) s₀) (λ_ _=>False) s₁) (λ_ _=>False) s)
  (n:Nat) (h:I n s):
  codeAny (model prog w) A (.compLoop (.ListComp elt [⟨target,iter,ifs,0⟩] scope pos) 0 it acc env) R s:=by
 refine codeAny_loop rfl I (λn s hI=>?_) n h;show wpAny _ A ((compTurn (.ListComp elt [⟨target,iter,ifs,0⟩] scope pos) 0 it acc env).onRaise (λx=>do noteFrame x env;theTreesLotGoes x)) _ _ s
 refine wpAny_noted ?_;rw[compTurn_list];refine wpAny_bind (wpAny_standAt (wpAny_bind (wpAny_mono (turn n s hI) (λr s₁ h₁=>?_) λ_ _ h'=>h'.elim)));cases r with
 |none=>exact wpAny_pure h₁
 |some v=>
  refine wpAny_bind (wpAny_mono h₁ (λ_ s₀ h₀=>?_) λ_ _ h'=>h'.elim);refine wpAny_bind (wpAny_mono h₀ (λ_ s₂ h₂=>wpAny_bind (wpAny_mono h₂ (λok s₃ h₃=>?_) λ_ _ h'=>h'.elim)) λ_ _ h'=>h'.elim);cases ok with
  |false=>exact wpAny_pure ⟨rfl,h₃⟩
  |true=>
   exact wpAny_bind (wpAny_bind (wpAny_mono h₃ (λx s₄ h₄=>wpAny_bind (wpAny_mono h₄ (λ_ s₅ h₅=>wpAny_pure (wpAny_pure ⟨rfl,h₅⟩)) λ_ _ h'=>h'.elim)) λ_ _ h'=>h'.elim))
structure mD(ix:List (Option Nat))(g:TG)(tc:TT)(te:TE)(σ:St)(Q:VK)(J:It)(H1:Hp):Prop where
 go:∀D,H1 D=none->∃W:Nat->Nat->St->Hp->Prop,(∃m,W 0 m (cst ix σ) (upd H1 D (.lst [])))/\
  ∀i m σ' H',W i m σ' H'->(J.stop i H'/\Q (.ref D) H')∨(J.go i H'/\∀x H2,J.mq i H' x H2->g x σ' H2 λσ3 H3=>tc σ3 H3 λb H4=>
   if b=true then te σ3 H4 λy H5=>∃ys,H5 D=some (.lst ys)/\ys.length<sizeLine/\∃m',m'<m/\W (i+1) m' σ3 (upd H5 D (.lst (ys++[y])))
   else ∃m',m'<m/\W (i+1) m' σ3 H4)
def Qu(ix:List (Option Nat))(wi:TI)(g:TG)(tc:TT)(te:TE):TE:=λσ H Q=>wi σ H λJ H1=>mD ix g tc te σ Q J H1
structure Hg(X:Cx)(scope sc:Scope)(N:List Str)(ix:List (Option Nat)):Prop where
 rel:relabel scope X.env=sc
 kind:scope.kind = .function
 cell:∀y∈scope.names,y.2≠ .cell
 names:∀x∈scope.names,x.2 = .local->scope.names.lookup x.1=some .local
 free:∀y∈scope.names,y.2 = .free->X.env.kindOf y.1=some .cell∨X.env.kindOf y.1=some .free
 len:N.length=ix.length
 ix:∀(j:Nat) (x:Str) (i:Nat),N[j]?=some x->ix[j]?=some (some i)->X.N[i]?=some x/\(x,NameKind.free)∈scope.names/\(sc.names.lookup x=some .cell∨sc.names.lookup x=some .free)
 has:∀x,(sc.names.lookup x=some .cell∨sc.names.lookup x=some .free)->(x,NameKind.free)∈scope.names
def ahy{ip:Pos}(O:Hg X scope sc N ix)(hc:X.calm=true)(hi:PI X tg iter wi)
  (hb:∀cl C s₀ H₀ ex,PG (j5 X sc N cl C s₀ H₀ ex) tg g/\zx (j5 X sc N cl C s₀ H₀ ex) ifs tc/\PE (j5 X sc N cl C s₀ H₀ ex) elt te) (hs:∀x,foldedSetIterable iter X.env x=pure x)
  {use:Option (Value->Sem Unit)} {QQ:Value->Shared->Prop} {pins:List (Addr×Obj)} {s:Shared} {σ:St} {H:Hp} {Q:VK} (I:Inv X pins σ H s) (h:Qu ix wi g tc te σ H Q)
  (fin:∀(D C:Addr) (s6:Shared) (H5:Hp) (m:Str->Option Value),Inv X pins σ H5 s6->s6.heap.Ns C m->qI X pins H5 C->Q (.ref D) H5->compPost (model X.prog X.w) X.A X.xe use QQ (.ref D) C (.ok .next) s6):
  wpAny (model X.prog X.w) X.A (comprehension (.ListComp elt [⟨tg,iter,ifs,0⟩] scope pos) scope X.env ip (newList []) false (eval iter X.env) use) QQ X.xe s:=by
 have hcl:∃cl,closureFor scope X.env=pure cl/\(∀x c,cl.lookup x=some c->X.env.cells.lookup x=some c)/\∀y∈scope.names,y.2 = .free->∃c,cl.lookup y.1=some c:=
  arn λy hy hf=>I.ok.has y.1 (O.free y hy hf)
 obtain⟨cl,ecl,xH,Xa⟩:=hcl;refine wpAny_comprehension_free (use:=use) rfl hs ecl O.kind O.names (bw (hi pins s σ H _ I h) λv s1 h1=>bw h1 λitv s2 h2=>?_);obtain⟨it,fp,tn,J,H2,e,I2,T,st2,f2,q2⟩:=h2;subst e;obtain⟨W,⟨m0,w0⟩,turn⟩:=q2.go s2.heap.objs.size I2.fresh;refine wpAny_newObj_type ?_;have I3:=I2.Qz (its:=[]) (t':=s2.toks) (ys:=[]) .nil (dD _);generalize eH3:upd H2 s2.heap.objs.size (.lst [])=H3 at I3 w0;have eD:H3 s2.heap.objs.size=some (.lst []):=by rw[<-eH3];exact aD
 have aum:∀b∈fp,b≠s2.heap.objs.size:=λb hb z=>by
  obtain⟨o,ho,_⟩:=T.obj _ _ st2 b hb;exact absurd (dg ho) (by rw[z];exact lW _)
 have st3:tn 0 (s2.heap.push { cls:= .type "list",dict:=none,data:= .seq ([]:List Value).toArray }):=T.keep _ _ _ st2 λb _ o e=>Heap.get?_push_of_some _ e;have f3:∀b∈fp,qI X pins H3 b:=λb hb=>⟨by rw[<-eH3,cW (aum b hb)];exact(f2 b hb).1,(f2 b hb).2⟩;generalize es3:({ s2 with heap:=s2.heap.push { cls:= .type "list",dict:=none,data:= .seq ([]:List Value).toArray },toks:=s2.toks }:Shared)=s3 at I3;have aas:tn 0 s3.heap:=by rw[<-es3];exact st3
 refine wpAny_newFunctionEnv O.cell (λy hy=>nomatch hy) (λh4 atO alh=>?_) O.kind;have Mz:∀b o,s3.heap.get? b=some o->h4.get? b=some o:=λb o e=>(alh.2 b (lV (dg e))).trans (Heap.get?_push_of_some _ e);have I4:Inv X pins σ H3 { s3 with heap:=h4,toks:=s3.toks+([]:List (Str×Value)).length }:=I3.kept Mz;have avs:({ newEnv scope s3.heap.objs.size X.env.globals cl X.env.qual none .none (some X.env) builtinsNs with scope:=relabel scope X.env }:Env)=Uu sc cl s3.heap.objs.size X.env:=by rw[O.rel];rfl
 rw[avs];show codeAny _ _ _ (compPost (model X.prog X.w) X.A X.xe use QQ (.ref s2.heap.objs.size) s3.heap.objs.size) _;generalize eC:s3.heap.objs.size=C;generalize es4:({ s3 with heap:=h4,toks:=s3.toks+([]:List (Str×Value)).length }:Shared)=s4 at I4;have U8:s4.heap=h4:=by rw[<-es4]
 have o4s:s4.os=s3.os:=by rw[<-es4]
 have fC:∀b∈fp,b≠C:=λb hb z=>by
  obtain⟨o,ho,_⟩:=T.obj _ _ aas b hb;exact absurd (dg ho) (by rw[z,eC];exact lW _)
 have okC:(j5 X sc N cl C s3 H3 fp).Ok:=by
  refine⟨I3.ok.mod,?_,I3.ok.glob,I3.ok.blt,Lb eC,λx y c h1 h2=>I3.ok.inj x y c (xH x c h1) (xH y c h2),λx hx=>?_,λx c z _=>(nomatch z),I3.ok.hd,I3.ok.frames,.inl rfl,λb hb=>⟨fC b hb,λx c e=>(f3 b hb).2.2.2.2.1 x c (xH x c e)⟩,
   I3.bs,eO I3.ok.u0 I3.sz,λb o e hb=>?_,λb hb z=>?_,I3.stack,I3.RQ,I3.ok.tree,I3.ok.top⟩
  .show sc.kind = .function;rw[<-O.rel];exact O.kind
  .exact Xa (x,.free) (O.has x hx) rfl
  .rcases(f3 b hb).2.2.2.1 with z|z
   .exact I3.ok.zJ b o e z
   .exact absurd (iR (dg e) (eO I3.ok.u0 z)) (lW _)
  .rcases fR.mp (I3.Ji b z)with z|z
   .exact(f3 b hb).2.1 z
   .exact(f3 b hb).2.2.1 z
 have IC:Inv (j5 X sc N cl C s3 H3 fp) [] (cst ix σ) H3 s4:=by
  refine⟨okC,o4s,I4.bare,?_,?_,λx c e=>I4.cell x c (xH x c e),?_,λx c e=>I4.m9 x c (xH x c e),λp hp=>(nomatch hp),I4.hok,?_⟩
  .rw[U8];exact Un.kept Mz
  .refine⟨_,by rw[U8,<-eC];exact atO,λj x v e1 e2 e3=>?_⟩;have e2':(cst ix σ)[j]?=some (some v):=e2;unfold cst at e2';rw[List.getElem?_map]at e2';cases q:ix[j]? with
   |none=>rw[q]at e2';cases e2'
   |some o=>
    rw[q]at e2';cases o with
    |none=>cases e2'
    |some i=>
     obtain⟨hx,hm,hsc⟩:=O.ix j x i e1 q;cases q2:σ[i]? with
     |none=>simp[q2]at e2'
     |some w'=>
      simp[q2]at e2';subst e2';obtain⟨m,hn,hl⟩:=I4.loc;have kf:=O.free (x,.free) hm rfl;have vis:FT X.env.scope x:=by
       rcases kf with k|k
       .exact .inr (.inl k)
       .exact .inr (.inr k)
      obtain⟨u,r,l⟩:=hl i x v hx q2 vis;refine⟨u,r,?_⟩;rcases l with⟨k,_⟩|⟨_,c,e,z⟩
      .rcases kf with k'|k'
       .rw[k]at k';cases k'
       .rw[k]at k';cases k'
      .obtain⟨c',e'⟩:=Xa (x,.free) hm rfl;have:=xH x c' e';rw[e]at this;cases this;exact .inr ⟨hsc,c,e',z⟩
  .rw[<-eC];exact I3.fresh
  .show(cst ix σ).length=N.length;rw[O.len];simp[cst]
 have IG:tn 0 s4.heap:=T.keep _ _ _ aas λb _ o e=>by rw[U8];exact Mz b o e
 have stat:∀{H':Hp},(∀b∈fp,H' b=none)->∀b∈fp,qI (j5 X sc N cl C s3 H3 fp) [] H' b:=λhn b hb=>
  ⟨hn b hb,fC b hb,okC.AX b hb,.inl hb,λx c e=>(f3 b hb).2.2.2.2.1 x c (xH x c e),λp hp=>(nomatch hp)⟩
 obtain⟨hg,ht,he⟩:=hb cl C s3 H3 fp;have loop:codeAny (model X.prog X.w) X.A (.compLoop (.ListComp elt [⟨tg,iter,ifs,0⟩] scope pos) 0 (.ref it) (.ref s2.heap.objs.size) (Uu sc cl C X.env))
   (compPost (model X.prog X.w) X.A X.xe use QQ (.ref s2.heap.objs.size) C) s4:=by
  refine aAt (λn s'=>∃i σ' H',Inv (j5 X sc N cl C s3 H3 fp) [] σ' H' s'/\tn i s'.heap/\(∀b∈fp,H' b=none)/\W i n σ' H') ?_ m0 ⟨0,cst ix σ,H3,IC,IG,λb hb=>(f3 b hb).1,w0⟩;rintro n s5 ⟨i,σ5,H5,I5,zW,HC,w5⟩;rcases turn i n σ5 H5 w5 with⟨stop,qn⟩|⟨go,step⟩
  .refine bw (T.done (j5 X sc N cl C s3 H3 fp) rfl rfl rfl hc i [] s5 σ5 H5 (λ_ _=>False) I5 (stat HC) zW stop) λr s6 ⟨hr,I6⟩=>?_;subst hr;obtain⟨m,hn,_⟩:=id I6.loc;have I7:Inv X pins σ H5 s6:=I3.agW (ch:=fp) I6.os I6.base I6.hok I6.bare λb hb=>⟨(f3 b hb).2.2.2.1,(f3 b hb).2.1,(f3 b hb).2.2.2.2.1,(f3 b hb).2.2.2.2.2⟩;exact fin _ C s6 H5 m I7 hn (I3.uD (Lb eC) I6.free) qn
  .refine bw (T.item (j5 X sc N cl C s3 H3 fp) rfl rfl rfl hc i [] s5 σ5 H5 (λ_ _=>False) I5 (stat HC) zW go) λr s6 ⟨u,hr,h6⟩=>?_;subst hr;refine bw h6 λ_ s7 ⟨x,H7,I7,r7,y7,Tc,fr7⟩=>?_;have I7':=I7.pinned (stat fr7) (T.obj _ _ Tc);have again:∀{σ9:St} {H9:Hp} {s9:Shared} {m':Nat},Inv (j5 X sc N cl C s3 H3 fp) ([]++Cm fp s7.heap) σ9 H9 s9->m'<n->W (i+1) m' σ9 H9->
     ∃m,m<n/\∃i σ' H',Inv (j5 X sc N cl C s3 H3 fp) [] σ' H' s9/\tn i s9.heap/\(∀b∈fp,H' b=none)/\W i m σ' H':=λ{σ9 H9 s9 m'} I9 hm w9=>by
    refine⟨m',hm,i+1,σ9,H9,I9.E8,T.keep _ _ _ Tc λb hb o e=>(I9.pin (b,o) (pX _ (pX _ (DN hb e)))).1,λb hb=>?_,w9⟩;obtain⟨o,e,d⟩:=T.obj _ _ Tc b hb;exact(I9.pin (b,o) (pX _ (pX _ (DN hb e)))).2.1
   refine bw (hg _ s7 σ5 H7 x u _ I7' r7 (step x H7 y7)) λ_ s8 ⟨σ8,H8,I8,q8⟩=>?_;refine bw (ht _ s8 σ8 H8 _ I8 q8) λb s9 ⟨H9,I9,q9⟩=>?_;cases b with
   |false=>
    rw[if_neg fX]at q9;obtain⟨m',hm,w9⟩:=q9;rw[if_neg fX];exact again I9 hm w9
   |true=>
    rw[if_pos rfl]at q9;rw[if_pos rfl];refine bw (he _ s9 σ8 H9 _ I9 q9) λy vV ⟨yv,Gv,uM,r10,ys,e10,n8,m',hm,w10⟩=>?_;refine bw (aaK _ vV σ8 Gv (.ref s2.heap.objs.size) [yv] (.ref s2.heap.objs.size) [y] (λ_ H'=>W (i+1) m' σ8 H') uM rfl (.cons r10 .nil) ⟨_,ys,yv,rfl,rfl,e10,n8,w10⟩) λ_ s11 ⟨_,H11,I11,_,w11⟩=>?_;exact again I11 hm w11
 exact codeAny_compStart_list loop (T.self _ _ _ _ _ IG loop)
def fD(O:Hg X scope sc N ix)(hc:X.calm=true)(hi:PI X tg iter wi)
  (hb:∀cl C s₀ H₀ ex,PG (j5 X sc N cl C s₀ H₀ ex) tg g/\zx (j5 X sc N cl C s₀ H₀ ex) ifs tc/\PE (j5 X sc N cl C s₀ H₀ ex) elt te)
  (hs:∀x,foldedSetIterable iter X.env x=pure x:=by intro _;rfl):PE X (.ListComp elt [⟨tg,iter,ifs,0⟩] scope pos) (Qu ix wi g tc te):=by
 intro pins s σ H Q I h;rw[eval_ListComp];exact ahy (use:=none) (QQ:=EP X pins σ Q) O hc hi hb hs I h λD C s6 H5 m I7 hn f q=>⟨m,hn,λh' hs'=>⟨.ref D,H5,I7.turned (it:=C) (t':=s6.toks) (λb o hb e=>(hs'.2 b hb).trans e) f.1 f.2.1 f.2.2.2.1 f.2.2.2.2.1 f.2.2.2.2.2,rfl,q⟩⟩
def yS{i:Nat}{y:Str}{py spos:Pos}(hN:X.N.Nodup)(hi':X.N[i]?=some y)(hx:Loc X.env.scope y)
  (O:Hg X scope sc N ix) (hc:X.calm=true) (hi:PI X tg iter wi)
  (hb:∀cl C s₀ H₀ ex,PG (j5 X sc N cl C s₀ H₀ ex) tg g/\zx (j5 X sc N cl C s₀ H₀ ex) ifs tc/\PE (j5 X sc N cl C s₀ H₀ ex) elt te)
  (hs:∀x,foldedSetIterable iter X.env x=pure x:=by intro _;rfl) (hsw:swapsWith (.ListComp elt [⟨tg,iter,ifs,0⟩] scope pos) (some (.Name y py)) spos.line X.env=pure true:=by rfl)
  (hf:X.fn y=true∨X.env.scope.names.lookup y=some .local:=by first|exact .inl rfl|exact .inr rfl|assumption):
  PS X (.Assign [.Name y py] (.ListComp elt [⟨tg,iter,ifs,0⟩] scope pos) spos) (Gb (Qu ix wi g tc te) (iQ i)):=by
 intro pins s σ H D I h;rw[exec_Assign_Name_used _ _ _ _ hsw];refine wpAny_bind (wpAny_standAt (wpAny_bind ?_));show wpAny _ X.A (do let _<-comprehension (.ListComp elt [⟨tg,iter,ifs,0⟩] scope pos) scope X.env _ (newList []) false (eval iter X.env) (some (assign (.Name y py) X.env))) _ _ s
 refine wpAny_bind (wpAny_mono (ahy (use:=some (assign (.Name y py) X.env)) (QQ:=λ_ s'=>∃σ' H',Inv X pins σ' H' s'/\D.nx σ' H') O hc hi hb hs I h λD1 C s6 H5 m I7 hn f q=>?_) (λ_ s' ⟨σ',H',I',q'⟩=>wpAny_pure (wpAny_pure ⟨σ',H',I',q'⟩)) λ_ _ e=>e);obtain⟨o,es,ep,ho,hc1,hc2⟩:=id hn;have I8:=I7.pinned (fp:=[C]) (λb hb=>by
  have e:b=C:=by simpa using hb
  subst e;exact f) (λb hb=>by
  have e:b=C:=by simpa using hb
  subst e;exact⟨o,ho,λv z=>by first|(rw[hc1.2]at z;cases z)|(rw[hc2.1]at z;cases z)|(rw[hc1]at z;cases z)|(simp_all)⟩)
 show wpAny _ X.A (assign (.Name y py) X.env (.ref D1)) _ _ _;refine wpAny_assign_Name (CN I8 hN hi' hx (v:= .ref D1) rfl (λs7 I9=>?_) hf);have hC:=(I9.pin (C,o) (pX _ (pX _ (DN (by simp) ho)))).1;refine⟨m,⟨o,es,ep,hC,hc1,hc2⟩,λh' hs'=>⟨_,H5,I9.E8.turned (it:=C) (t':=s7.toks) (λb o hb e=>(hs'.2 b hb).trans e) f.1 f.2.1 f.2.2.2.1 f.2.2.2.2.1 f.2.2.2.2.2,q⟩⟩
end
mutual
inductive nF(K:aL)(H:Hp):V->PyData->Prop
 |non:nF K H .non .none
 |bl (b:Bool):nF K H (.bl b) (.bool b)
 |int (i:Int):nF K H (.int i) (.int i)
 |str (x:Str):nF K H (.str x) (.str x)
 |lst {a:Addr} {xs:List V} {ds:List PyData}:aA K H a xs->ju K H xs ds->nF K H (.ref a) (.list ds)
 |tup {a:Addr} {xs:List V} {ds:List PyData}:aB K H a xs->ju K H xs ds->nF K H (.ref a) (.tuple ds)
inductive ju(K:aL)(H:Hp):List V->List PyData->Prop
 |nil:ju K H [] []
 |cons {x:V} {d:PyData} {xs:List V} {ds:List PyData}:nF K H x d->ju K H xs ds->ju K H (x::xs) (d::ds)
end
section
variable {X:Cx} {pins:List (Addr×Obj)} {σ:St} {H:Hp} {s:Shared}
mutual
theorem Inv.reads(I:Inv X pins σ H s):∀{x:V} {d:PyData} {u:Value},nF X.K H x d->RelV x u->∃as,Reads s.heap u d as
 |_,_,_,.non,r=>by cases r;exact⟨_,.none⟩
 |_,_,_,.bl b,r=>by cases r;exact⟨_,.bool b⟩
 |_,_,_,.int i,r=>by obtain⟨t,rfl⟩:=r;exact⟨_,.int i t⟩
 |_,_,_,.str x,r=>by obtain⟨t,rfl⟩:=r;exact⟨_,.str x t⟩
 |_,_,_,.lst hq hs,r=>by
  cases r;obtain⟨its,rv,pl,_⟩:=I.list hq;obtain⟨as,ra⟩:=Inv.readsAll I hs rv;obtain⟨o,ho,hc,n,hd⟩:=pl.isList;exact⟨_,.list ho hc hd (by simpa using ra)⟩
 |_,_,_,.tup hq hs,r=>by
  cases r;obtain⟨its,rv,pl,_⟩:=I.tuple hq;obtain⟨as,ra⟩:=Inv.readsAll I hs rv;obtain⟨o,ho,hc,n,hd⟩:=pl;exact⟨_,.tuple ho hc hd (by simpa using ra)⟩
theorem Inv.readsAll(I:Inv X pins σ H s):∀{xs:List V} {ds:List PyData} {us:List Value},ju X.K H xs ds->Vals xs us->∃as,ReadsAll s.heap us ds as
 |_,_,_,.nil,.nil=>⟨_,.nil⟩
 |_,_,_,.cons h1 h2,.cons r1 r2=>by
  obtain⟨as,a⟩:=Inv.reads I h1 r1;obtain⟨bs,b⟩:=Inv.readsAll I h2 r2;exact⟨_,.cons a b⟩
end
theorem ju.ints{K:aL}{H:Hp}:∀ns:List Int,ju K H (ns.map V.int) (ns.map Mw)
 |[]=> .nil
 |n::r=> .cons (.int n) (ju.ints r)
def sJ(kb:List (Key×V)):List (Key×V)->Bool
 |[]=>true
 |(k,v)::r=>match uQ kb k with
  |none=>false
  |some y=>UN v y&&sJ kb r
theorem V9{A:Around}{kb:List (Key×V)}{vb:List (Key×Value)}(hb:KV kb vb)(fb:kb.all (λp=>rz p.2)=true):∀{ka:List (Key×V)} {va:List (Key×Value)},KV ka va->ka.all (λp=>rz p.2)=true->
  W.KeqHits A s vb va (sJ kb ka)
 |[],_,.nil,_=> .nil
 |(k,v)::r,(k',v')::r',.cons ⟨e,rv⟩ t,f=>by
  cases (show k=k' from e);rw[List.all_cons,uh]at f;have hv:=KV.val hb k;cases q:uQ kb k with
  |none=>
   have hn:valueAt vb k=none:=sI.none_of (by rw[q]at hv;exact hv);have e2:sJ kb ((k,v)::r)=false:=by simp[sJ,q]
   rw[e2];exact .miss hn
  |some y=>
   rw[q]at hv;obtain⟨u,hu,ru⟩:=sI.some_of hv;have fy:rz y=true:=by
    unfold uQ at q;cases q2:kb.find? (λkv=>decide (kv.1=k))with
    |none=>rw[q2]at q;cases q
    |some p=>
     rw[q2]at q;cases q;exact uw.mp fb p (List.mem_of_find?_eq_some q2)
   have e2:sJ kb ((k,v)::r)=(UN v y&&sJ kb r):=by simp[sJ,q]
   rw[e2];exact .hit hu (aye rv ru f.1 fy) (V9 hb fb t f.2)
end
section
variable {X:Cx}
def tu(K:aL)(g:Bool->Bool):R2:=λx y H Q=>match x,y with
 |.int i,.int j=>Q (.bl (g (decide (i=j)))) H
 |.bl i,.bl j=>Q (.bl (g (decide (i=j)))) H
 |.str i,.str j=>Q (.bl (g (decide (i=j)))) H
 |.non,.non=>Q (.bl (g true)) H
 |.ref a,.ref b=>(∃d e,nF K H (.ref a) d/\nF K H (.ref b) e/\SeqAt.shaped d=true/\SeqAt.shaped e=true/\Q (.bl (g (oX d e))) H)∨
   (∃ka kb,H a=some (.dK ka)/\H b=some (.dK kb)/\ka.all (λp=>rz p.2)=true/\kb.all (λp=>rz p.2)=true/\Q (.bl (g (ka.length==kb.length&&sJ kb ka))) H)
 |.non,.ref _=>False
 |.ref _,.non=>False
 |x,y=>UY x y=true/\Q (.bl (g (decide (x=y)))) H
def apt{k:Nat}(hr:dh k X.A):cZ X (compareOp .Eq) (λx y H Q=>∃d e,nF X.K H x d/\nF X.K H y e/\SeqAt.shaped d=true/\SeqAt.shaped e=true/\Q (.bl (oX d e)) H):=by
 intro pins s σ H x y v u Q I rx ry h;obtain⟨d,e,h1,h2,h3,h4,q⟩:=h;obtain⟨as,ra⟩:=I.reads h1 rx;obtain⟨bs,rb⟩:=I.reads h2 ry;exact eq_dataH ra rb h3 h4 hr.units ⟨.bl _,H,I,rfl,q⟩
def anC{k:Nat}(hr:dh k X.A):cZ X (compareOp .NotEq) (λx y H Q=>∃d e,nF X.K H x d/\nF X.K H y e/\SeqAt.shaped d=true/\SeqAt.shaped e=true/\Q (.bl (!oX d e)) H):=by
 intro pins s σ H x y v u Q I rx ry h;obtain⟨d,e,h1,h2,h3,h4,q⟩:=h;obtain⟨as,ra⟩:=I.reads h1 rx;obtain⟨bs,rb⟩:=I.reads h2 ry;exact ne_dataH ra rb h3 h4 hr.units ⟨.bl _,H,I,rfl,q⟩
def amh{k:Nat}(hr:dh k X.A):cZ X (compareOp .Eq) (λx y H Q=>∃a b ka kb,x = .ref a/\y = .ref b/\H a=some (.dK ka)/\H b=some (.dK kb)/\ka.all (λp=>rz p.2)=true/\kb.all (λp=>rz p.2)=true/\Q (.bl (ka.length==kb.length&&sJ kb ka)) H):=by
 intro pins s σ H x y v u Q I rx ry h;obtain⟨a,b,ka,kb,rfl,rfl,h1,h2,h3,h4,q⟩:=h;cases rx;cases ry;obtain⟨_,ea,va,ra,da⟩:ka.length<=sizeLine/\(a==sysModules)=false/\∃vs,KV ka vs/\s.heap.DictOf (yQ X.prog X.w) a vs:=I.hok a _ h1;obtain⟨_,eb,vb,rb,db⟩:kb.length<=sizeLine/\(b==sysModules)=false/\∃vs,KV kb vs/\s.heap.DictOf (yQ X.prog X.w) b vs:=I.hok b _ h2;refine W.keq_eq ea eb da db hr.af7 (λ_=>V9 rb h4 ra h3) ⟨.bl _,H,I,?_,q⟩;show _=Value.bool _;rw[Paired.length ra,Paired.length rb]
def aoH{k:Nat}(hr:dh k X.A):cZ X (compareOp .NotEq) (λx y H Q=>∃a b ka kb,x = .ref a/\y = .ref b/\H a=some (.dK ka)/\H b=some (.dK kb)/\ka.all (λp=>rz p.2)=true/\kb.all (λp=>rz p.2)=true/\Q (.bl (!(ka.length==kb.length&&sJ kb ka))) H):=by
 intro pins s σ H x y v u Q I rx ry h;obtain⟨a,b,ka,kb,rfl,rfl,h1,h2,h3,h4,q⟩:=h;cases rx;cases ry;obtain⟨_,ea,va,ra,da⟩:ka.length<=sizeLine/\(a==sysModules)=false/\∃vs,KV ka vs/\s.heap.DictOf (yQ X.prog X.w) a vs:=I.hok a _ h1;obtain⟨_,eb,vb,rb,db⟩:kb.length<=sizeLine/\(b==sysModules)=false/\∃vs,KV kb vs/\s.heap.DictOf (yQ X.prog X.w) b vs:=I.hok b _ h2;refine W.keq_ne ea eb da db hr.af7 (λ_=>V9 rb h4 ra h3) ⟨.bl _,H,I,?_,q⟩;show _=Value.bool _;rw[Paired.length ra,Paired.length rb]
def ab2{i j:Int}:decide (V.int i=V.int j)=decide (i=j):=by simp
def agx{i j:Bool}:decide (V.bl i=V.bl j)=decide (i=j):=by simp
def acn{i j:Str}:decide (V.str i=V.str j)=decide (i=j):=by simp
def v_eq{k:Nat}(hr:dh k X.A):cZ X (compareOp .Eq) (tu X.K id):=by
 refine(atu.or ((apt hr).or (amh hr))).imp λx y H Q h=>?_;unfold tu at h;split at h
 .exact .inl ⟨rfl,by rw[ab2];exact h⟩
 .exact .inl ⟨rfl,by rw[agx];exact h⟩
 .exact .inl ⟨rfl,by rw[acn];exact h⟩
 .exact .inl ⟨rfl,by rw[decide_eq_true rfl];exact h⟩
 .rcases h with⟨d,e,h⟩|⟨ka,kb,h⟩
  .exact .inr (.inl ⟨d,e,h⟩)
  .exact .inr (.inr ⟨_,_,ka,kb,rfl,rfl,h⟩)
 .exact h.elim
 .exact h.elim
 .exact .inl h
def als{k:Nat}(hr:dh k X.A):cZ X (compareOp .NotEq) (tu X.K not):=by
 refine(amo.or ((anC hr).or (aoH hr))).imp λx y H Q h=>?_;unfold tu at h;split at h
 .exact .inl ⟨rfl,by rw[ab2];exact h⟩
 .exact .inl ⟨rfl,by rw[agx];exact h⟩
 .exact .inl ⟨rfl,by rw[acn];exact h⟩
 .exact .inl ⟨rfl,by rw[decide_eq_true rfl];exact h⟩
 .rcases h with⟨d,e,h⟩|⟨ka,kb,h⟩
  .exact .inr (.inl ⟨d,e,h⟩)
  .exact .inr (.inr ⟨_,_,ka,kb,rfl,rfl,h⟩)
 .exact h.elim
 .exact h.elim
 .exact .inl h
end
end L2
namespace PySem.SeqAt
open AutoSeq1 (wpAny_loadPart')
open MeetsSeq MeetsSeq2 MeetsSeq3 SeqRoads2
def asH(b:Int)(u:Tok)(l:Addr)(c:Value)(dd:Option Addr)(es:Array DictEntry)(n:Nat)(sl:Array (Option Value)):
  Meets (Builtin.«int.__eq__» ⟨[.int b u,.ref l],[]⟩) (λ_ R s=>s.heap.get? l=some { cls:=c,dict:=dd,data:= .dict es n,slots:=sl }/\R (.ok (.ret .notImplemented)) s):=
 .of_wp λprog w A R s h=>by obtain⟨hp,g,d,tk,os⟩:=s;obtain⟨hl,h⟩:=h;wp_walk using wpAny_loadPart' hl,wpAny_load hl;exact⟨_,rfl,h⟩
section
variable {A:Around} {s:Shared}
def RcAt.int_dict{l:Addr}{o:Obj}(b:Int)(u:Tok)(ho:s.heap.get? l=some o)(hc:o.cls = .type "dict"){es:Array DictEntry}{ep:Nat}(hd:o.data = .dict es ep)(hu:A.units<cLine):RcAt A s (.int b u) (.ref l) false:=λprog w E Q h=>by
 have ty:s.TypeIs (.ref l) "dict" := ⟨o,ho,hc⟩;obtain⟨cls,dd,data,sl⟩:=o;simp only at hc hd;subst hc hd;refine rc_eq_decline_or (k:=false) (typeIs_int s b u) ty ∅ F.sub_dict_int F.slot_int_eq aeh
  (λ_ hq=>call_meets F.slot_int_eq (typeIs_int s b u) F.entry_int_eq (F.args_int_eq_2 _ _) (asH b u l (.type "dict") dd es ep sl) ⟨ho,hq⟩)
  (λ_ hq=>wpAny_call_entry aeh ty F.entry_dict_eq ?_ (F.args_dict_eq_2 _ _))
  (λ_ hq=>wpAny_of_eq (rfl:isSame (.int b u) (.ref l)=pure false) hq) (.inr hu) h
 show wpAny _ _ (Builtin.Dict.dictSlotArgs "__eq__" ⟨[.ref l,.int b u],[]⟩>>=_) _ _ s;refine wpAny_bind ?_;unfold Builtin.Dict.dictSlotArgs;refine wpAny_bind (wpAny_notOrdered_dict ty ?_);show wpAny _ _ (pure (Value.ref l,Value.int b u)) _ _ s;refine wpAny_pure ?_;refine wpAny_bind (wpAny_isInstance (T:= "int") (typeIs_int s b u) PySem.F.sub_int_dict ?_);simp only[Bool.not_false,if_true];exact wpAny_bind (wpAny_rule (wpAny_pure ⟨_,rfl,hq⟩))
theorem EqAt.int_dict{l:Addr}{o:Obj}(b:Int)(u:Tok)(ho:s.heap.get? l=some o)(hc:o.cls = .type "dict"){es:Array DictEntry}{ep:Nat}(hd:o.data = .dict es ep)(hu:A.units<cLine):EqAt A s (.int b u) (.ref l) false:=λprog w E Q h=>by
 unfold eqBool;refine wpAny_holding ?_;refine wpAny_ite_split (λhab=>absurd (eq_of_beq hab) nofun) (λ_=>?_);exact wpAny_bind (RcAt.int_dict b u ho hc hd hu prog w E _ (wpAny_truthy_bool h))
end
end PySem.SeqAt
namespace L2
open PySem PySem.Spec PyProof.Rows
section
variable {X:Cx}
def wu(x:V)(n:Int):Bool:=match x with
 |.int i=>n==i
 |.bl b=>n==(if b then 1 else 0)
 |_=>false
def azv{pins:List (Addr×Obj)}{σ:St}{H:Hp}{s:Shared}{x:V}{v:Value}{t:String}{k:Nat}(I:Inv X pins σ H s)(hr:dh k X.A)(rx:RelV x v)(ty:zF H x=some t)(n:Int)(u:Tok):SeqAt.EqAt X.A.in1 s (.int n u) v (wu x n):=by
 have hu:X.A.in1.units<cLine:=by
  have h1:=hr.units;have h2:X.A.in1.units<=X.A.units+1:=by first|exact aR _|(simp[Around.in1];done)|exact Nat.le_succ _
  lia
 cases x with
 |non=>cases rx;exact SeqAt.EqAt.int_none n u
 |bl b=>cases rx;exact SeqAt.EqAt.int_bool n u b
 |int i=>obtain⟨t',rfl⟩:=rx;exact SeqAt.EqAt.int_int n u i t'
 |str x=>obtain⟨t',rfl⟩:=rx;exact SeqAt.EqAt.int_str n u x t'
 |ref a=>
  cases rx;have ty':(match H a with
   |some (.lst _)=>some "list"
   |some (.jf _ (.lst _))=>some "list"
   |some (.tup _)=>some "tuple"
   |some (.dK _)=>some "dict"
   |_=>none)=some t:=ty
  split at ty'
  .rename_i xs e
   obtain⟨its,_,pl,_⟩:=I.list (aA.of e);exact SeqAt.EqAt.int_list n u pl.isList hu
  .rename_i o xs e
   obtain⟨its,_,pl,_⟩:=I.list (a:=a) (xs:=xs) (.inl (.inr ⟨o,e⟩));exact SeqAt.EqAt.int_list n u pl.isList hu
  .rename_i xs e
   obtain⟨its,_,pl,_⟩:=I.tuple (aB.of e);exact SeqAt.EqAt.int_tuple n u pl hu
  .rename_i kvs e
   obtain⟨_,_,vs,_,o,es,ep,h1,h2,h3,_⟩:kvs.length<=sizeLine/\(a==sysModules)=false/\∃vs,KV kvs vs/\s.heap.DictOf (yQ X.prog X.w) a vs:=I.hok a _ e;exact SeqAt.EqAt.int_dict n u h1 h2.1 h3 hu
  .cases ty'
 |_=>cases ty
def FQ(x:V)(u:Value):Bool:=match u with
 |.int n _=>wu x n
 |_=>false
def abr(K:aL)(g:Bool->Bool):R2:=λx y H Q=>∃(p:Addr) (ns:List Int) (t:String),y = .ref p/\aA K H p (ns.map V.int)/\zF H x=some t/\Q (.bl (g (ns.any (wu x)))) H
theorem any_ints{x:V}:∀{ns:List Int} {us:List Value},IntsAre us ns->us.any (FQ x)=ns.any (wu x)
 |_,_,.nil=>rfl
 |_,_,.cons n t r=>by rw[acS,acS,any_ints r];rfl
def ayU{us:List Value}{ns:List Int}(h:IntsAre us ns):∀u∈us,∃n t,u = .int n t:=by
 induction h with
 |nil=>intro u hu;cases hu
 |cons n t r ih=>
  intro u hu;rcases fR.mp hu with rfl|hu
  .exact⟨n,t,rfl⟩
  .exact ih u hu
end
section
variable {P:Program}{w:World}{K:aL}{mg:Str->Option Value}{base h:Heap}{x:Str}{st:Stmt}{N ps:List Str}{k:Nat}{sp:Sp}{H H1:Hp}{a:Addr}{xs:List V}{i j:Int}{X:Cx}{sc:Scope}{ix:List (Option Nat)}{J:It}{σ:St}{Q:VK}{t:TE}
def boot_isinstance:bootBuiltins "isinstance" = some (.builtin "isinstance"):=by decide +kernel
def boot_abs:bootBuiltins "abs" = some (.builtin "abs"):=by decide +kernel
def boot_sum:bootBuiltins "sum" = some (.builtin "sum"):=by decide +kernel
def boot_max:bootBuiltins "max" = some (.builtin "max"):=by decide +kernel
def boot_tuple:bootBuiltins "tuple" = some (.type "tuple"):=by decide +kernel
def boot_list:bootBuiltins "list" = some (.type "list"):=by decide +kernel
structure Fn(K:aL)(mg:Str->Option Value)(x:Str)(st:Stmt)(ps:List Str):Prop where
 ex:∃(f:Addr) (fd:FuncData),uY K x x st f fd/\mg x=some (.ref f)/\Binds K fd ps []
def Fn.cal(F:Fn K mg x st ps)(S:aY N ps (aU st))
  (hbody:∀{f:Addr} {cdv:Value} {A:Around} {outer:List Env} {s:Shared} {vs:List V} (H:Hp) (Q:VK) (E:XK),dh k (A.deeper (envOfC x (aU st) s.heap.objs.size f cdv))->sp vs H Q E->
   ∃t,jE (gQ P w K mg base N x (aU st) f cdv A outer s H E).Ai (mF st) t/\t { nx:=λ_ H'=>Q .non H',rt:=Q } (start N vs) H) (len:∀vs H Q E,sp vs H Q E->vs.length=ps.length:=by intro _ _ _ _ h;cases h;subst_vars;rfl):fM P w K mg base x (k+1) ps sp:=by
 obtain⟨f,fd,F,m,b⟩:=F.ex;exact⟨f,fd,m,F.kp,b,F.okN S len λcdv A outer s H vs Q E hr h=>hbody H Q E hr h⟩
def Fn.wN(F:Fn K mg x st ps)(S:aY N ps (aU st))
  (hbody:∀{f:Addr} {cdv:Value} {A:Around} {outer:List Env} {s:Shared} {vs:List V} (H:Hp) (Q:VK) (E:XK),dh k (A.deeper (envOfC x (aU st) s.heap.objs.size f cdv))->sp vs H Q E->
   ∃t,jE (gQ P w K mg base N x (aU st) f cdv A outer s H E) (mF st) t/\t { nx:=λ_ H'=>Q .non H',rt:=Q } (start N vs) H) (len:∀vs H Q E,sp vs H Q E->vs.length=ps.length:=by intro _ _ _ _ h;cases h;subst_vars;rfl):fM P w K mg base x (k+1) ps sp:=by
 obtain⟨f,fd,F,m,b⟩:=F.ex;exact⟨f,fd,m,F.kp,b,F.Zb S len λcdv A outer s H vs Q E hr h=>hbody H Q E hr h⟩
def Same.new{p:Addr}(h:H p=none)(o:HO):Same H (upd H p o):=λb u q=>by rw[cW (nj q h)];exact q
theorem Same.upd{H H':Hp}{p:Addr}(g:Same H H')(h:H p=none)(o:HO):Same H (L2.upd H' p o):=λb u q=>by rw[cW (nj q h)];exact g b u q
def Same.JX{H':Hp}(e:Same H H')(h:aB K H a xs):aB K H' a xs:=by
 rcases h with(h|⟨o,h⟩)|h
 .exact .inl (.inl (e _ _ h))
 .exact .inl (.inr ⟨o,e _ _ h⟩)
 .exact .inr h
def mulL(h1:-(2^64)<i)(h2:i<2^64):IntMulOk i j:= .of_left (intBits_le_64 h1 h2)
def mulR(h1:-(2^64)<j)(h2:j<2^64):IntMulOk i j:= .of_right (intBits_le_64 h1 h2)
def dz(h:decide N.Nodup=true:=by kernel_rfl):N.Nodup:=of_decide_eq_true h
abbrev dH(l:List (Str×NameKind)):Scope:={ kind:= .function,names:=l,isGenerator:=false,isCoroutine:=false }
def dJ{scope:Scope}(sc':relabel scope X.env=sc:=by kernel_rfl)(kind:scope.kind = .function:=by kernel_rfl)(cell:scope.names.all (λy=>y.2 != .cell)=true:=by kernel_rfl)
  (names:scope.names.all (λx=>x.2 != .local||scope.names.lookup x.1==some .local)=true:=by kernel_rfl)
  (free:scope.names.all (λy=>y.2 != .free||(X.env.scope.names.lookup y.1==some .cell||X.env.scope.names.lookup y.1==some .free))=true:=by kernel_rfl)
  (len:N.length=ix.length:=by kernel_rfl)
  (hix:(N.zip ix).all (λp=>match p.2 with
   |none=>true
   |some i=>X.N[i]?==some p.1&&scope.names.any (λy=>y.1==p.1&&y.2== .free)&&(sc.names.lookup p.1==some .cell||sc.names.lookup p.1==some .free))=true:=by kernel_rfl)
  (has:sc.names.all (λy=>(y.2 != .cell&&y.2 != .free)||scope.names.any (λz=>z.1==y.1&&z.2== .free))=true:=by kernel_rfl):Hg X scope sc N ix:=by
 have mem:∀x:Str,scope.names.any (λy=>y.1==x&&y.2== .free)=true->(x,NameKind.free)∈scope.names:=λx h=>by
  obtain⟨y,hy,e⟩:=BK.mp h;rw[uh]at e;obtain⟨a,b⟩:=y;have e1:a=x:=eq_of_beq e.1;have e2:b = .free:=eq_of_beq e.2;subst e1;subst e2;exact hy
 refine⟨sc',kind,λy hy e=>?_,λx hx e=>?_,λy hy e=>?_,len,λj x i h1 h2=>?_,λx hx=>?_⟩
 .have:=uw.mp cell y hy;rw[e]at this;cases this
 .have:=uw.mp names x hx;rw[e]at this;simpa using this
 .have:=uw.mp free y hy;rw[e]at this;simpa[Env.kindOf]using this
 .have hm:(x,some i)∈N.zip ix:=by
   have:(N.zip ix)[j]?=some (x,some i):=by
    rw[List.getElem?_zip_eq_some];exact⟨h1,h2⟩
   exact List.mem_of_getElem? this
  have:=uw.mp hix _ hm;simp only[uh]at this;obtain⟨⟨a1,a2⟩,a3⟩:=this;refine⟨eq_of_beq a1,mem x a2,?_⟩;rw[DL]at a3;rcases a3 with z|z
  .exact .inl (eq_of_beq z)
  .exact .inr (eq_of_beq z)
 .have hm:∃k,(x,k)∈sc.names/\(k = .cell∨k = .free):=by
   rcases hx with z|z
   .exact⟨_,vN z,.inl rfl⟩
   .exact⟨_,vN z,.inr rfl⟩
  obtain⟨k,hk,e⟩:=hm;have:=uw.mp has _ hk;rw[DL]at this;rcases this with z|z
  .rcases e with e|e<;>(subst e;simp at z)
  .exact mem x z
structure bf(K:aL)(x:Str)(st:Stmt):Prop where
 ex:∃(f:Addr) (oc:Value) (od:Option Addr) (kV doc pm:Value) (an:Option Addr) (cdv ct:Value) (sl:Array (Option Value)),iB K mainGlobals x=some (some (.ref f))/\
  K.lookup f=some ⟨oc,od,.func (qH x x (rE st) (mF st) (aU st) .none kV doc pm an cdv ct),sl⟩/\DF K cdv x=true/\BX K (.ref f)=true
def avx{f:Addr}{oc:Value}{od:Option Addr}{kV doc pm:Value}{an:Option Addr}{cdv ct:Value}{sl:Array (Option Value)}(a:iB K mainGlobals x=some (some (.ref f)))
  (l:K.lookup f=some ⟨oc,od,.func (qH x x (rE st) (mF st) (aU st) .none kV doc pm an cdv ct),sl⟩) (c:DF K cdv x=true) (k:BX K (.ref f)=true):bf K x st:=
 ⟨f,oc,od,kV,doc,pm,an,cdv,ct,sl,a,l,c,k⟩
def bf.fn(F:bf K x st)(X:K.In h)(G:h.Ns mainGlobals mg)
  (hb:∀(kV doc pm:Value) (an:Option Addr) (cdv ct:Value) (us:List Value),us.length=ps.length->bindArgs (qH x x (rE st) (mF st) (aU st) .none kV doc pm an cdv ct) ⟨us,[]⟩=pure (ps.zip us)):Fn K mg x st ps:=by
 obtain⟨f,oc,od,kV,doc,pm,an,cdv,ct,sl,a,l,c,k⟩:=F.ex;have FF:=afB (st:=st) l c k;exact⟨f,_,FF,sV X G a,FF.binds hb⟩
def bf.bF(F:bf K x st)(X:K.In h)(G:h.Ns mainGlobals mg)
  (hb:∀(kV doc pm:Value) (an:Option Addr) (cdv ct:Value) (us:List Value),us.length=ps.length->bindArgs (qH x x (rE st) (mF st) (aU st) .none kV doc pm an cdv ct) ⟨us,[]⟩=pure (ps.zip us):=by
   intro _ _ _ _ _ _ us hl;first
    |(obtain⟨_,rfl⟩:=L2.Y7 hl;rfl)
    |(obtain⟨_,_,rfl⟩:=L2.us2 hl;rfl)
    |(obtain⟨_,_,_,rfl⟩:=L2.YW hl;rfl)
    |(obtain⟨_,_,_,_,rfl⟩:=L2.Zn hl;rfl)
    |(obtain rfl:=L2.us0 hl;rfl)
    |(obtain⟨_,_,_,_,_,rfl⟩:=L2.us5 hl;rfl)
    |(obtain⟨_,_,_,_,_,_,rfl⟩:=L2.us6 hl;rfl)):Fn K mg x st ps:=F.fn X G hb
def bB{P:List Str}(kind:sc.kind = .function:=by rfl)(co:sc.isCoroutine=false:=by rfl)(gen:sc.isGenerator=false:=by rfl)(nd:N.Nodup:=by decide +kernel)(pre:N.take P.length=P:=by rfl)
  (par:∀x∈P,sc.names.lookup x=some .local∨sc.names.lookup x=some .cell:=by decide +kernel) (VH:∀y∈sc.names,y.2≠ .free:=by decide +kernel):aY N P sc:=⟨kind,co,gen,nd,pre,par,VH⟩
structure vZ(J:It)(xs:List V)(H1:Hp):Prop where
 go:∀i H',Same H1 H'->i<xs.length->J.go i H'
 mq:∀i H' x H2,Same H1 H'->J.mq i H' x H2->H2=H'/\(i<xs.length->xs[i]?=some x)
 stop:∀i H',Same H1 H'->xs.length<=i->J.stop i H'
def Jf(hq:aA K H1 a xs):vZ (BL K a) xs H1:=
 ⟨λi H' g h=>⟨xs,xs[i],g.seq hq,by simp[h]⟩,λi H' x H2 g y=>⟨y.1,λ_=>y.2 xs (g.seq hq)⟩,λi H' g h=>⟨xs,g.seq hq,h⟩⟩
def MS(hq:aB K H1 a xs):vZ (yV K a) xs H1:=
 ⟨λi H' g h=>⟨xs,xs[i],g.JX hq,by simp[h]⟩,λi H' x H2 g y=>⟨y.1,λ_=>y.2 xs (g.JX hq)⟩,λi H' g h=>⟨xs,g.JX hq,h⟩⟩
def DC{lo:Int}{n:Nat}:vZ (pY lo n) ((d7 n).map λi=>V.int (lo+(i:Nat))) H1:=
 ⟨λi H' g h=>show i<n by simpa using h,λi H' x H2 g y=>⟨y.1,λh=>by
  have h':i<n:=by simpa using h
  rw[List.getElem?_map,List.getElem?_range h',y.2];rfl⟩,λi H' g h=>show n<=i by simpa using h⟩
def Ag{tc:TT}{te:TE}(I:vZ J xs H1)(hz:xs.length<=sizeLine){rest:St}(hst:cst ix σ=none::rest)(p:V->Bool)(F:V->V)
  (ht:∀H' x,Same H1 H'->x∈xs->∀k:Bool->Hp->Prop,k (p x) H'->tc (some x::rest) H' k)
  (he:∀H' x,Same H1 H'->x∈xs->p x=true->∀k:VK,k (F x) H'->te (some x::rest) H' k)
  (hQ:∀D,H1 D=none->Q (.ref D) (upd H1 D (.lst ((xs.filter p).map F)))):
  mD ix (iQ 0) tc te σ Q J H1:=by
 constructor;intro D hD;refine⟨λi m σ' H'=>m=xs.length-i/\i<=xs.length/\(∃o,σ'=o::rest)/\H'=upd H1 D (.lst (((xs.take i).filter p).map F)),⟨xs.length,by simp,dD _,⟨none,hst⟩,by simp⟩,?_⟩;rintro i m σ' H' ⟨rfl,hi,⟨o,rfl⟩,rfl⟩;have g:Same H1 (upd H1 D (.lst (((xs.take i).filter p).map F))):=Same.new hD _;by_cases hlt:i<xs.length
 .refine .inr ⟨I.go i _ g hlt,λx H2 y=>?_⟩;obtain⟨rfl,hx⟩:=I.mq i _ x H2 g y;have hx:=hx hlt;have hm:x∈xs:=List.mem_of_getElem? hx;have et:xs.take (i+1)=xs.take i++[x]:=by
   rw[uP,hx];rfl
  show tc (some x::rest) _ _;refine ht _ x g hm _ ?_;cases hp:p x with
  |true=>
   rw[if_pos rfl];refine he _ x g hm hp _ ⟨_,aD,?_,xs.length-(i+1),⋯,rfl,hlt,⟨_,rfl⟩,?_⟩
   .have h1:(((xs.take i).filter p).map F).length<=i:=by
     rw[aK];exact eO (List.length_filter_le _ _) (by rw[nT];lia)
    lia
   .rw[am1,et,abP,jo];simp[hp]
  |false=>
   rw[if_neg fX];refine⟨xs.length-(i+1),⋯,rfl,hlt,⟨_,rfl⟩,?_⟩;rw[et,abP];simp[hp]
 .have e:i=xs.length:=⋯;subst e;refine .inl ⟨I.stop _ _ g (aR _),?_⟩;rw[wL];exact hQ D hD
def aiw{g:TG}{tb:TS}{D:Ends}(I:vZ J xs H)(Pv:Nat->St->Hp->Prop)(h0:Pv 0 σ H)(hsame:∀i σ' H',Pv i σ' H'->Same H H')
  (hs:∀i x σ' H',xs[i]?=some x->Pv i σ' H'->g x σ' H' λσ2 H2=>tb { D with nx:=Pv (i+1),ct:=Pv (i+1),bk:=D.nx } σ2 H2) (hd:∀σ' H',Pv xs.length σ' H'->D.nx σ' H'):
  ∃W:Nat->Nat->St->Hp->Prop,(∃m,W 0 m σ H)/\∀i m σ H,W i m σ H->
   (J.stop i H/\D.nx σ H)∨(J.go i H/\∃N:St->Hp->Prop,(∀σ' H',N σ' H'->∃m',m'<m/\W (i+1) m' σ' H')/\∀x H',J.mq i H x H'->g x σ H' λσ2 H2=>tb { D with nx:=N,ct:=N,bk:=D.nx } σ2 H2):=by
 refine⟨λi m σ' H'=>m=xs.length-i/\i<=xs.length/\Pv i σ' H',⟨xs.length,by simp,dD _,h0⟩,?_⟩;rintro i m σ' H' ⟨rfl,hi,p⟩;have gs:=hsame i σ' H' p;by_cases hlt:i<xs.length
 .refine .inr ⟨I.go i _ gs hlt,Pv (i+1),λσ2 H2 p'=>⟨xs.length-(i+1),⋯,rfl,hlt,p'⟩,λx H2 y=>?_⟩;obtain⟨rfl,hx⟩:=I.mq i _ x H2 gs y;exact hs i x σ' _ (hx hlt) p
 .have e:i=xs.length:=⋯;subst e;exact .inl ⟨I.stop _ _ gs (aR _),hd σ' H' p⟩
structure Bar(t:TE)(σ:St)(H:Hp)(Q:VK):Prop where
 go:t σ H Q
def aiA(t:TE):TE:=λσ H Q=>Bar t σ H Q
def Bar.by(R:V->Hp->Prop)(h:∀k:VK,(∀v H1,R v H1->k v H1)->t σ H k)(q:∀v H1,R v H1->Q v H1):Bar t σ H Q:=⟨h Q q⟩
def zG{e:Expr}(h:PE X e t):PE X e (aiA t):=λpins s σ H Q I q=>h pins s σ H Q I q.go
structure u6(t:TS)(D:Ends)(σ:St)(H:Hp):Prop where
 go:t D σ H
def awG(t:TS):TS:=λD σ H=>u6 t D σ H
def uV{t:TS}(h:PS X st t):PS X st (awG t):=λpins s σ H D I q=>h pins s σ H D I q.go
theorem u6.by{t:TS}{D:Ends}{σ:St}{H:Hp}(R:St->Hp->Prop)(h:∀N:St->Hp->Prop,(∀σ' H',R σ' H'->N σ' H')->t { D with nx:=N } σ H)(q:∀σ' H',R σ' H'->D.nx σ' H'):u6 t D σ H:=by
 constructor;exact h D.nx q
end
end L2
namespace HT
open PySem PyProof.Rows
section
variable {prog:Program} {w:World} {A:Around} {E:Value->Shared->Prop} {s:Shared}
def ai4{t sl:Addr}{items:Array Value}{vl vu:Value}{lo hi:Option Int}{Q:Value->Shared->Prop}(ht:IsTup s.heap t items)(hs:s.heap.IsSliceOf sl vl vu .none)(pl:IsPart vl lo)(pu:IsPart vu hi)
  (hw:bH items.size 0 lo=0/\bH items.size items.size hi=items.size) (h:Q (.ref t) s):wpAny (model prog w) A (getItem (.ref t) (.ref sl)) Q E s:=by
 obtain⟨os,hos,hcs,hds⟩:=id hs;have hTs:s.TypeIs (.ref sl) "slice" := ⟨os,hos,hcs⟩;unfold getItem;try with_reducible refine wpAny_holding ?_
 first|refine wpAny_bind (wpAny_pure ?_)|skip
 refine wpAny_bind (wpAny_sequenceKey ht.typeIs ∅ ?_);refine wpAny_bind (wpAny_callSpecial?_slot (name:=Str.ofString "__getitem__") ht.typeIs Al
  (wpAny_call_entry Al ht.typeIs entry_tuple_getitem ?_ (args_tuple_getitem _ _)))
 show wpAny _ _ (Builtin.Tuple.tupleItemsOf (.ref t)>>=_) _ _ s;refine wpAny_bind (tupleItemsOf_ ht ?_);refine wpAny_bind (wpAny_typeOf hTs ?_);rw[if_pos ∅];refine wpAny_bind (Ye hs pl pu ?_);have hyes:(((bH items.size 0 lo:Nat):Int)==0&&(1:Int)==1&&(bH items.size items.size hi-bH items.size 0 lo)==items.size)=true:=by
  rw[hw.1,hw.2];simp
 show wpAny _ _ (if(((bH items.size 0 lo:Nat):Int)==0&&(1:Int)==1&&(bH items.size items.size hi-bH items.size 0 lo)==items.size)=true then _ else _) _ _ s;rw[if_pos hyes];unfold Builtin.Tuple.tupleIsExact;refine wpAny_bind (wpAny_bind (wpAny_typeOf ht.typeIs (wpAny_pure ?_)));rw[if_pos ∅];exact wpAny_bind (wpAny_rule (wpAny_pure ⟨_,rfl,wpAny_pure h⟩))
end
end HT
namespace L2
open PySem PySem.Spec PyProof.Rows
section
variable {X:Cx}
def aiN:ql X (λx lo hi H Q=>∃a xs,x = .ref a/\aB X.K H a xs/\(HT.bH xs.length 0 lo=0/\HT.bH xs.length xs.length hi=xs.length)/\Q (.ref a) H):=by
 intro pins s σ H x v vl vu lo hi sl Q I rx hs pl pu h;obtain⟨a,xs,rfl,hx,hw,q⟩:=h;cases rx;obtain⟨its,r,ht,hz⟩:=I.tuple hx;have hlen:its.toArray.size=xs.length:=by rw[fU];exact r.length.symm
 refine⟨"tuple",_,Al.lookup,ht.typeIs,?_⟩;exact HT.ai4 ht hs pl pu (by rw[hlen];exact hw) ⟨.ref a,H,I,rfl,q⟩
end
def boot_zip:bootBuiltins "zip" = some (.type "zip"):=by decide +kernel
def boot_min:bootBuiltins "min" = some (.builtin "min"):=by decide +kernel
section
variable {X:Cx} (K:aL)
def ql.imp{r r':V->Option Int->Option Int->Hp->VK->Prop}(h:ql X r)(i:∀x lo hi H Q,r' x lo hi H Q->r x lo hi H Q):ql X r':=λpins s σ H x v vl vu lo hi sl Q I rx hs pl pu q=>h pins s σ H x v vl vu lo hi sl Q I rx hs pl pu (i _ _ _ _ _ q)
def ajr(hK:X.K=K:=by rfl):cZ X (binaryOp .Add) (Jl K):=by subst hK;exact v_add
def xix(hK:X.K=K:=by rfl):mU X (Iz K):=by subst hK;exact aly
def d8{k:Nat}(hr:dh k X.A)(hK:X.K=K:=by rfl):cZ X (compareOp .Eq) (tu K id):=by subst hK;exact v_eq hr
def vo{k:Nat}(hr:dh k X.A)(hK:X.K=K:=by rfl):cZ X (compareOp .NotEq) (tu K not):=by subst hK;exact als hr
def apq(hK:X.K=K:=by rfl):jH X (.builtin "len") (Tq K):=by subst hK;exact ajK
def Ac(hc:X.calm=true)(hK:X.K=K:=by rfl):jH X (.builtin "sum") (λxs H Q=>∃(l:Addr) (ns:List Int),xs=[.ref l]/\aA K H l (ns.map V.int)/\Q (.int ns.sum) H):=by subst hK;exact v_sum hc
def xlist(hK:X.K=K:=by rfl):jH X (.type "list") (λxs H Q=>∃p ys,xs=[.ref p]/\(aA K H p ys∨aB K H p ys)/\∀l,H l=none->Q (.ref l) (upd H l (.lst ys))):=by subst hK;exact ahG
def qG(hK:X.K=K:=by rfl):jH X (.type "tuple") (λxs H Q=>∃p ys,xs=[.ref p]/\((aA K H p ys/\∀l,H l=none->Q (.ref l) (upd H l (.tup ys)))∨(aB K H p ys/\Q (.ref p) H))):=by subst hK;exact akr
def ad2(K:aL):V->Option Int->Option Int->Hp->VK->Prop:=λx lo hi H Q=>match x with
 |.ref a=>(∃xs,aA K H a xs/\∀p,H p=none->Q (.ref p) (upd H p (.lst (gC xs lo hi))))∨
   (∃xs,aB K H a xs/\¬(HT.bH xs.length 0 lo=0/\HT.bH xs.length xs.length hi=xs.length)/\∀p,H p=none->Q (.ref p) (upd H p (.tup (gC xs lo hi))))∨
   (∃xs,aB K H a xs/\(HT.bH xs.length 0 lo=0/\HT.bH xs.length xs.length hi=xs.length)/\Q (.ref a) H)
 |_=>False
def rQ(hK:X.K=K:=by rfl):ql X (ad2 K):=by
 subst hK;refine(aAx.or (aqm.or aiN)).imp λx lo hi H Q h=>?_;unfold ad2 at h;split at h
 .rcases h with⟨xs,h⟩|⟨xs,h⟩|⟨xs,h⟩
  .exact .inl ⟨_,xs,rfl,h⟩
  .exact .inr (.inl ⟨_,xs,rfl,h⟩)
  .exact .inr (.inr ⟨_,xs,rfl,h⟩)
 .exact h.elim
def j7{tg l:Expr}{tl:TE}(hl:PE X l tl)(hK:X.K=K:=by rfl):PI X tg l (ac0 K tl):=by subst hK;exact azR hl
def yD{es:List Expr}{k:Nat}{t:u5}{n:Nat}{pos:Pos}(hc:X.calm=true)(h:zY X es t)(hK:X.K=K:=by rfl)
  (hn:(assignEach es X.env).length=n:=by rfl) (hst:(assignEach es X.env).findIdx? (·.1)=none:=by rfl):PG X (.Tuple es k pos) (Lx K n t):=by subst hK;exact aor hc h hn hst
def rA{o e:Expr}{to:TE}{te:TE}{apos cpos:Pos}(ho:PE X o to)(he:PE X e te)(hK:X.K=K:=by rfl)
  (hbase:attributeBase o "append" X.env (eval o X.env)=eval o X.env:=by rfl)
  (hfew:((backTo cpos (starEach [e] X.env)).all (λx=>!x.1)&&(backToKw cpos (keywordEach [] X.env)).all (λx=>x.1.isSome)
   && decide ([e].length+([]:List Keyword).length+(if([]:List Keyword).isEmpty then 0 else 1)<30))=true:=by rfl)
  (hline:(apos.endLine==cpos.line)=true:=by rfl) (hs:starEach [e] X.env=(false,eval e X.env)::starEach [] X.env:=by rfl):
  PE X (.Call (.Attribute o "append" apos) [e] [] cpos) (ZQ K "list" aad to (wX te agn)):=by
 subst hK;exact atR PySem.F.plainAttrs_list PySem.F.slot_list_append PySem.F.type_list_append aaK ho (aM he ak hs) hbase hfew hline hs rfl
end
section
variable {X:Cx} {es:List Expr} {te:TE} {t:TA}
def cY{c:Const}{j}{p:Pos}(h:PE X (.Constant c j p) te)(hr:PA X es t):PA X ((.Constant c j p)::es) (wX te t):=aM h hr rfl
def aj{x:Str}{p:Pos}(h:PE X (.Name x p) te)(hr:PA X es t):PA X ((.Name x p)::es) (wX te t):=aM h hr rfl
def aeX{as:List Expr}{j}{p:Pos}(h:PE X (.Tuple as j p) te)(hr:PA X es t):PA X ((.Tuple as j p)::es) (wX te t):=aM h hr rfl
def cQ{a:Expr}{o:Operator}{b:Expr}{p:Pos}(h:PE X (.BinOp a o b p) te)(hr:PA X es t):PA X ((.BinOp a o b p)::es) (wX te t):=aM h hr rfl
def U5{o:UnaryOp}{a:Expr}{p:Pos}(h:PE X (.UnaryOp o a p) te)(hr:PA X es t):PA X ((.UnaryOp o a p)::es) (wX te t):=aM h hr rfl
end
def yp(a C:Addr):HO:= .ext λh=>∃o vs,h.get? a=some o/\o.cls = .ref C/\o.data = .fields vs
def ayi{P:Program}{w:World}{H:Hp}{h:Heap}{a C:Addr}{o:Obj}{vs:Array Value}(e:h.get? a=some o)(hc:o.cls = .ref C)(hd:o.data = .fields vs):gj P w H h a (yp a C):=
 ⟨⟨o,vs,e,hc,hd⟩,⟨o,e⟩,λ_ _ ⟨o,vs,e,r⟩ k=>⟨o,vs,k o e,r⟩⟩
def gj.there{P:Program}{w:World}{H:Hp}{h:Heap}{a:Addr}{o:HO}(x:gj P w H h a o):∃u,h.get? a=some u:=by
 cases o with
 |lst xs=>obtain⟨_,_,_,_,e⟩:=x;exact⟨_,e⟩
 |tup xs=>obtain⟨_,_,_,o,e,_⟩:=x;exact⟨_,e⟩
 |dK kvs=>obtain⟨_,_,_,_,o,_,_,e,_⟩:=x;exact⟨_,e⟩
 |dT kvs=>obtain⟨_,_,_,_,o,_,_,e,_⟩:=x;exact⟨_,e⟩
 |set S n=>obtain⟨o,_,_,_,e,_⟩:=x;exact⟨_,e⟩
 |ins C dx fs=>obtain⟨_,_,_,e,_⟩:=x;exact⟨_,e⟩
 |own y=>exact x
 |xd fs=>obtain⟨_,⟨_,_,_,e,_⟩,_⟩:=x;exact⟨_,e⟩
 |rng lo hi=>obtain⟨_,_,_,e⟩:=x;exact⟨_,e⟩
 |jf ob u=>obtain⟨e,_⟩:=x;exact⟨_,e⟩
 |tW ps=>exact⟨_,(show h.get? a=some _ from x)⟩
 |met f y=>exact⟨_,(show h.get? a=some _ from x)⟩
 |ext φ=>exact x.2.1
structure J9(base:Heap)(C R:Addr):Prop where
 cls:∃nm q N bs bm hdct sn sub ab col dd k0 k1 k2 k3 k5 newId,base.get? C=some (excClassObj nm q C N bs bm hdct sn sub ab col dd k0 k1 k2 k3 k5 newId)/\(Value.ref C::bm).contains (.ref R)=true
 top:∃nm q N bs bm hdct sn sub ab col dd k0 k1 k2 k3 k5 newId,base.get? R=some (excClassObj nm q R N bs bm hdct sn sub ab col dd k0 k1 k2 k3 k5 newId)/\bm.contains (.type "BaseException")=true
def asn{M:Model}{A:Around}{E:Value->Shared->Prop}{h:Heap}{g:Array GenState}{d:Drawn}{t:Nat}{os:OsState}{e C R:Addr}{oe:Obj}{Q:Bool->Shared->Prop}{base:Heap}(S:J9 base C R)(kb:∀b o,base.get? b=some o->h.get? b=some o)
  (he:h.get? e=some oe) (hcls:oe.cls = .ref C) (hq:Q true ⟨h,g,d,t,os⟩):wpAny M A (excMatches (.ref e) (.ref R)) Q E ⟨h,g,d,t,os⟩:=by
 obtain⟨nm,q,N,bs,bm,hdct,sn,sub,ab,col,dd,k0,k1,k2,k3,k5,newId,hC,hs⟩:=S.cls;obtain⟨nm',q',N',bs',bm',aA1,sn',sub',ab',col',dd',k0',k1',k2',k3',k5',newId',hR,hB⟩:=S.top;have hC:=kb _ _ hC;have hR:=kb _ _ hR;have hcB:(Value.ref R::bm').contains (.type "BaseException")=true:=by rw[List.contains_cons,hB,Bool.or_true]
 have f:=tc_notTuple;unfold excMatches
 repeat (first|(with_reducible refine wpAny_loadPart_at he ?_;rw[hcls])|with_reducible refine wpAny_loadPart_at hR ?_|(with_reducible refine wpAny_isSubtype_exc hR ?_;rw[hcB])|(with_reducible refine wpAny_isSubtype_exc hC ?_;rw[hs])|wp_step)
 exact hq
section
variable {X:Cx} {pins:List (Addr×Obj)} {σ:St} {H:Hp} {s:Shared}
def Inv.track{a:Addr}{o:HO}(I:Inv X pins σ H s)(hn:H a=none)(h0:∀u,X.s₀.heap.get? a≠some u)(hL:a≠X.env.locals)(hc:∀x c,X.env.cells.lookup x=some c->c≠a)(hp:∀p∈X.pn++pins,p.1≠a)
  (new:gj X.prog X.w (upd H a o) s.heap a o):Inv X pins σ (upd H a o) s:=by
 have ne:∀b u,H b=some u->b≠a:=λb u e=>nj e hn;refine⟨I.ok,I.os,I.bare,⟨I.base.keep,I.base.slot,λb u e n hx=>?_,I.base.there,λb xs e=>?_,λb u xs e=>?_,λb ps e=>?_⟩,I.loc,I.cell,?_,λx c e=>?_,λp q=>?_,λb u e=>?_,I.len⟩
 .rw[cW (λz=>h0 u (by rw[<-z];exact e))];exact I.base.free b u e n hx
 .have:=I.base.tups b xs e;rw[cW (ne b _ this)];exact this
 .have:=I.base.kY b u xs e;rw[cW (ne b _ this)];exact this
 .obtain⟨m,this⟩:=I.base.lZ b ps e;exact⟨m,by rw[cW (ne b _ this)];exact this⟩
 .rw[cW (d9 hL)];exact I.free
 .rw[cW (hc x c e)];exact I.m9 x c e
 .obtain⟨e1,e2,e3⟩:=I.pin p q;exact⟨e1,by rw[cW (hp p q)];exact e2,e3⟩
 .by_cases hb:b=a
  .subst hb;rw[aD]at e;cases e;exact new
  .rw[cW hb]at e;exact(I.hok b u e).stay (λ_ _ _ q=>q) (λc q=>by rw[cW (ne c _ q)];exact q) λc xs q=>by rw[cW (ne c _ q)];exact q
def Inv.unset{h':Heap}{t':Nat}{j:Nat}{n:Str}{v:Option Value}{m:Str->Option Value}(I:Inv X pins σ H s)(hN:X.N.Nodup)(hj:X.N[j]?=some n)(hm:s.heap.Ns X.env.locals m)
  (hn:h'.Ns X.env.locals λy=>if y=n then v else m y) (hs:tU X.env.locals s.heap h'):Inv X pins (σ.set j none) H { s with heap:=h',toks:=t' }:=by
 obtain⟨m2,hn2,hl⟩:=id I.loc;obtain⟨oL,_,_,hoL,_⟩:=id hm;have em:m2=m:=by
  obtain⟨o1,es1,ep1,ho1,hd1,hk1,hf1⟩:=hn2;obtain⟨o2,es2,ep2,ho2,hd2,hk2,hf2⟩:=hm;rw[ho1]at ho2;cases ho2;rw[hd1]at hd2;cases hd2
  funext y;rw[<-hf1 y,<-hf2 y]
 subst em;refine⟨I.ok,I.os,I.bare,⟨λb o e nn hb hx=>?_,λb o e nn hb hx=>?_,I.base.free,λb o e hx=>?_,I.base.tups,I.base.kY,I.base.lZ⟩,⟨_,hn,λi y u e1 e2 e3=>?_⟩,λy c e=>?_,I.free,I.m9,λp hp=>?_,λb u e=>?_,by simpa using I.len⟩
 .exact(hs.2 b (lV (iR (dg e) I.ok.above))).trans (I.base.keep b o e nn hb hx)
 .obtain⟨sl,e1⟩:=I.base.slot b o e nn hb hx;exact⟨sl,(hs.2 b (lV (iR (dg e) I.ok.above))).trans e1⟩
 .obtain⟨o',e1⟩:=I.base.there b o e hx;exact⟨o',(hs.2 b (lV (iR (dg e) I.ok.above))).trans e1⟩
 .by_cases hji:i=j
  .subst hji;by_cases hlt:i < σ.length
   .rw[List.getElem?_set_self hlt]at e2;cases e2
   .rw[List.getElem?_eq_none (by simp;lia)]at e2;cases e2
  .rw[List.getElem?_set_ne (d9 hji)]at e2;obtain⟨u',r',q⟩:=hl i y u e1 e2 e3;refine⟨u',r',?_⟩;rcases q with⟨k,e⟩|⟨k,c,e,z⟩
   .refine .inl ⟨k,?_⟩;have:y≠n:=λz=>hji (Wl hN e1 (z▸hj));simp[this,e]
   .exact .inr ⟨k,c,e,z.sameBut hs (I.tZ y c e)⟩
 .obtain⟨w',z⟩:=I.cell y c e;exact⟨w',z.sameBut hs (I.tZ y c e)⟩
 .obtain⟨e,nn,ne,nf,d⟩:=I.pin p hp;exact⟨(hs.2 p.1 ne).trans e,nn,ne,nf,d⟩
 .refine(I.hok b u e).stay (λc w' hc q=>(hs.2 c ?_).trans q) (λ_ q=>q) λ_ _ q=>q;rintro rfl;rcases hc with z|hc
  .rw[<-z,I.free]at e;cases e
  .rw[I.free]at hc;cases hc
end
def zc(X:Cx)(a:Addr):Cx:={ X with A:=X.A.mark (some (.ref a)),calm:=false,xe:=λ_ _=>False }
def Inv.suite{X:Cx}{pins:List (Addr×Obj)}{σ:St}{H:Hp}{s:Shared}(I:Inv X pins σ H s)(a:Addr):Inv (zc X a) pins σ H s:=
 ⟨⟨I.ok.mod,I.ok.kind,I.ok.glob,I.ok.blt,I.ok.above,I.ok.inj,I.ok.has,I.ok.cab,(λz=>by cases z),I.ok.frames,I.ok.stk,I.ok.QJ,I.ok.bs,I.ok.u0,I.ok.zJ,I.ok.AX,I.ok.qd,I.ok.rZ,I.ok.tree,I.ok.top⟩,
  I.os,I.bare,I.base,I.loc,I.cell,I.free,I.m9,I.pin,I.hok,I.len⟩
def Inv.aq8{X:Cx}{pins:List (Addr×Obj)}{σ:St}{H:Hp}{s:Shared}{a:Addr}(ok:X.Ok)(I:Inv (zc X a) pins σ H s):Inv X pins σ H s:=
 ⟨ok,I.os,I.bare,I.base,I.loc,I.cell,I.free,I.m9,I.pin,I.hok,I.len⟩
def aoR(base:Heap)(R:Addr)(sp:Sp)(i j:Nat)(t:TA)(ts:Addr->TS):TS:=λD σ H=>t σ H λvs H1=>sp vs H1 (λv H2=>D.nx (σ.set i (some v)) H2)
 (λcls _ H2=>∃C,cls = .ref C/\J9 base C R/\∀a,H2 a=none->
  ts a { nx:=λσ' H'=>D.nx (σ'.set j none) H',rt:=D.rt,bk:=λσ' H'=>D.bk (σ'.set j none) H',ct:=λσ' H'=>D.ct (σ'.set j none) H' } (σ.set j (some (.ref a))) (upd H2 a (yp a C)))
def atE{X:Cx}{v n x f:Str}{i j k k':Nat}{ps:List Str}{sp:Sp}{R:Addr}{Zr fp cpos apos xp hpos pos:Pos}{e:Expr}{es:List Expr}{b₀:Stmt}{suite:List Stmt}{t:TA}{ts:Addr->TS}
  (C:fM X.prog X.w X.K X.mg X.base f k ps sp) (hr:dh k' X.A) (Ws:X.stack=X.env::X.outer) (hfr:X.env.frame=some X.env.locals) (hex:X.ex=[]) (hg:Gl X f) (ha:PA X.Ai (e::es) t) (hN:X.N.Nodup) (hi:X.N[i]?=some v) (hv:Loc X.env.scope v)
  (hj:X.N[j]?=some n) (hn:X.env.scope.names.lookup n=some .local) (hx:Gl X x) (hR:X.mg x=some (.ref R)) (hs:∀a,jE (zc X a) (b₀::suite) (ts a)) (hk:k<=k':=by decide)
  (hdf:(f==("__debug__" : Str))=false:=by decide) (hdx:(x==("__debug__" : Str))=false:=by decide)
  (he:starEach (e::es) X.env=(false,eval e X.env)::starEach es X.env:=by rfl) (hpl:(backTo cpos (starEach es X.env)).any (·.1)=false:=by rfl)
  (hsw:swapsWith (.Call (.Name f fp) (e::es) [] cpos) (some (.Name v Zr)) apos.line X.env=pure false:=by rfl) (hfv:X.fn v=true∨X.env.scope.names.lookup v=some .local:=by first|exact .inl rfl|exact .inr rfl|assumption):
  PS X (.Try [.Assign [.Name v Zr] (.Call (.Name f fp) (e::es) [] cpos) apos] [.ExceptHandler (some (.Name x xp)) (some n) (b₀::suite) hpos] [] [] pos) (aoR X.base R sp i j t ts):=by
 intro pins s σ H D I h;obtain⟨gf,gd,hm,hkp,hb,F⟩:=C.ex;have nx:∀b:Addr,b∉X.ex:=λb=>by rw[hex];simp
 refine wpAny_Try_except ?_;refine wpAny_execs_cons (wpAny_Assign_Name (wpAny_Call_Name_kw (Dc I hg hm ?_ hdf)) hsw);refine Vq (h₀:=X.base) I.ok.mod.C8 hkp (wpAny_mono (ha cpos pins s σ H _ (I.wish _) h) (λus s1 ⟨vs,H1,I1',r,q⟩=>⟨I1'.gU,?_⟩) λ_ _ z=>z.elim) he hpl;have I1:Inv X pins σ H1 s1:=I1'.uG;have hl:(us++[]).length=ps.length:=by
  rw[JV,<-r.length];exact F.len _ _ _ _ q
 refine wpAny_call (codeAny_mono (F.run X.A X.stack s1 H1 ⟨us,[]⟩ (us++[]) vs _ _ (hr.mono hk) I1.env0 (hb s1 us I1.gU hl) (by rw[JV];exact r) q) λrs s2 hq=>?_);cases rs with
 |ok fl=>
  cases fl with
  |ret u=>
   obtain⟨y,H2,I2,ry,q2⟩:=I1.after hq;refine CN I2 hN hi hv ry (λs3 I3=>?_) hfv;exact wpAny_execs_nil (wpAny_execs_nil ⟨_,H2,I3,q2⟩)
  |next=>exact False.elim hq
  |brk=>exact False.elim hq
  |cont=>exact False.elim hq
 |error ev=>
  obtain⟨ea,Cc,a0,B,H2,rfl,os,bare,fl,hok,un,old,C',eC,S,q2⟩:=rK.ex hq;cases eC;rw[Ws]at fl;have Uw:frs X.stack=(X.env::X.outer).filterMap (·.frame):=by rw[Ws];rfl
  have oe:=fl.first;have newE:∀u,s1.heap.get? ea≠some u:=λu z=>by
   rcases old ea u z with hb|⟨o',hb⟩
   .rw[Uw]at hb;obtain⟨_,o,ho,hd⟩:=fl.2.2.1.mem hb;obtain⟨o2,vs2,e1,_,e2,_⟩:=oe;rw[e1]at ho;cases ho;exact hd _ e2
   .rw[fl.2.1]at hb;cases hb
  have to:∀h6,aeE B (X.env::X.outer) ea (.ref Cc) a0 h6->s2.heap.UpToSlots h6->Inv X pins σ H2 { s2 with heap:=h6 }:=λh6 zQ up=>by
   refine I1.agW (ch:=[]) os ⟨λb o e1 n1 hb _=>?_,λb o e1 n1 hb _=>?_,λb o e1 n1 _=>un.free b o e1 n1 (by simp),λb o e1 _=>?_,un.tups,un.kY,un.lZ⟩ (hok.kept zQ.1) bare (λ_ z=>nomatch z)
   .rcases old b o e1 with z|⟨o',z⟩
    .exact absurd z hb
    .have e2:=un.keep b o e1 n1 hb (by simp);have e3:=fl.1 b o' z;rw[e2]at e3;cases e3;exact zQ.1 b _ z
   .obtain⟨sl,e2⟩:=un.slot b o e1 n1 hb (by simp);rw[Uw]at hb;obtain⟨_,o2,ho,hd⟩:=fl.2.2.1.mem hb;rw[e2]at ho;cases ho;obtain⟨sl',e3⟩:=up b _ e2 hd;exact⟨sl',e3⟩
   .rcases old b o e1 with z|⟨o',z⟩
    .rw[Uw]at z;obtain⟨_,o2,ho,hd⟩:=fl.2.2.1.mem z;obtain⟨sl',e3⟩:=up b _ ho hd;exact⟨_,e3⟩
    .exact⟨o',zQ.1 b o' z⟩
  have ao0:X.A.frames=some (X.env::X.outer):=by rw[I.ok.frames,Ws]
  refine wpAny_looks_onW ao0 hfr fl λh4 anm DM=>?_;refine wpAny_landsW anm λh5 RJ Xp=>?_;have I5:=to h5 RJ (DM.trans Xp);obtain⟨ob,hob,hobc⟩:=RJ.there;refine wpAny_handleBy_cons (codeAny_handlers_test (Dc (X:=zc X ea) (I5.suite ea) hx hR ?_ hdx)) (by intro z;cases z);refine asn S I5.bk hob hobc (codeAny_handlers_suite_as ?_);refine lands_againW RJ λh6 zQ up6=>?_;have I6:=to h6 zQ ((DM.trans Xp).trans up6);obtain⟨oe6,vs6,e6,c6,d6,_⟩:=zQ.first;have hn2:H2 ea=none:=by
   cases z:H2 ea with
   |none=>rfl
   |some u=>
    exfalso
    obtain⟨o',z'⟩:=(hok ea u z).there;rw[fl.2.1]at z';cases z'
  have I7:Inv X pins σ (upd H2 ea (yp ea Cc)) { s2 with heap:=h6 }:=by
   refine I6.track hn2 (λu z=>?_) (λz=>?_) (λy c e z=>?_) (λp hp z=>?_) (ayi e6 c6 d6)
   .obtain⟨o',e1⟩:=I1.base.there ea u z (nx ea);exact newE o' e1
   .obtain⟨m,⟨o,_,_,ho,_⟩,_⟩:=I1.loc;exact newE o (by rw[z];exact ho)
   .obtain⟨v',o,ho,_⟩:=I1.cell y c e;exact newE o (by rw[<-z];exact ho)
   .exact newE p.2 (by rw[<-z];exact(I1.pin p hp).1)
  refine CN (X:=zc X ea) (I7.suite ea) hN hj (.inl hn) (show RelV (.ref ea) (Value.ref ea)from rfl) (λs8 I8=>?_) (.inr hn);have q3:=q2 ea hn2;have gone:∀{σ9:St} {H9:Hp} {s9:Shared} {Q':Unit->Shared->Prop},Inv (zc X ea) pins σ9 H9 s9->(∀vV,Inv X pins (σ9.set j none) H9 vV->Q' () vV)->wpAny (model X.prog X.w) X.A (do bindName X.env n .none;unbindBehindTheSuite X.env n hpos) Q' X.xe s9:=
   λ{σ9 H9 s9 Q'} I9 k=>by
    have XD:Inv X pins σ9 H9 s9:=I9.aq8 I.ok;obtain⟨m,hm9,_⟩:=id XD.loc;exact wpAny_nameGoes_keeps hn hm9 (by rw[I.ok.kind];rfl) λh' v' n' sb=>k _ (XD.unset hN hj hm9 n' sb)
  refine wpAny_mono (hs ea pins s8 _ _ _ I8 q3) (λfl9 s9 q9=>?_) λ_ _ z=>z.elim;cases fl9 with
  |next=>
   obtain⟨σ9,H9,I9,q9⟩:=q9;exact gone I9 λvV uM=>⟨_,H9,uM,q9⟩
  |brk=>
   obtain⟨σ9,H9,I9,q9⟩:=q9;exact gone I9 λvV uM=>⟨_,H9,uM,q9⟩
  |cont=>
   obtain⟨σ9,H9,I9,q9⟩:=q9;exact gone I9 λvV uM=>⟨_,H9,uM,q9⟩
  |ret u=>
   obtain⟨y,σ9,H9,I9,r9,q9⟩:=q9;exact gone I9 λvV uM=>⟨y,_,H9,uM,r9,q9⟩
structure vQ(K:aL)(C:Addr):Prop where
 ga:wg K (.ref C) "__getattribute__" = some (some (.builtin "BaseException.__getattribute__"))
 gt:wg K (.ref C) "__getattr__" = some none
 cl:wg K (.ref C) "__class__" = some (some (.builtin "object.__class__"))
 mb:Cy K C (.type "BaseException")=some true
 mo:Cy K C (.type "object")=some true
 is:(Ia K C).isSome=true
section
variable {prog:Program} {w:World} {A:Around} {E:Value->Shared->Prop} {h:Heap} {g:Array GenState} {d:Drawn} {t:Nat} {os:OsState} {a C:Addr} {o:Obj} {K:aL}
def ayV{R:Result->Shared->Prop}(S:vQ K C)(X:K.In h)(hx:h.get? a=some o)(hc:o.cls = .ref C)(hq:R (.ok (.ret (.ref C))) ⟨h,g,d,t,os⟩):
  codeAny (model prog w) A (.call (.builtin "getset_descriptor.__get__") ⟨[.builtin "object.__class__",.ref a,.ref C],[]⟩) R ⟨h,g,d,t,os⟩:=by
 have hT5:(⟨h,g,d,t,os⟩:Shared).TypeIs (.builtin "object.__class__") "getset_descriptor" := Pz;have L1:=W.looks_mroIn (M:=model prog w) X S.mo;rw[<-F.owner_object_class]at L1;refine codeAny_call_builtin UH.plain F.entry_gs_get (UH.check _ _ _ _ _ _ _ _ hT5 (F.args_gs_get _ _ _) ?_)
 repeat (any_goals (first|assumption|(with_reducible refine wpAny_loadPart_at hx ?_;rw[hc])|with_reducible refine L1.at ?_|wp_step))
 refine⟨Code.quiet_builtin _ (by decide +kernel),codeAny_builtin F.entry_object_class ?_⟩
 repeat (any_goals (first|assumption|(with_reducible refine wpAny_loadPart_at hx ?_;rw[hc])|wp_step))
def aqr{tk:Tok}{Q:Fin->Shared->Prop}(S:vQ K C)(X:K.In h)(hx:h.get? a=some o)(hc:o.cls = .ref C)(hq:Q (.done (.ret (.ref C))) ⟨h,g,d,t,os⟩):
  wpAny (model prog w) A (Builtin.«object.__getattribute__» ⟨[.ref a,.str "__class__" tk],[]⟩) Q E ⟨h,g,d,t,os⟩:=by
 have hT5:(⟨h,g,d,t,os⟩:Shared).TypeIs (.builtin "object.__class__") "getset_descriptor" := Pz;have L1:=PX (M:=model prog w) X S.cl;have f5:=Pz;have f6:=UH.lookup;have f7:=F.slot_gs_set.lookup
 repeat (any_goals (first|assumption|(with_reducible refine wpAny_loadPart_at hx ?_;rw[hc])|with_reducible refine L1.at ?_|wp_step))
 refine ayV S X hx hc ?_
 repeat (any_goals (first|assumption|wp_step))
def atN{nameV:Value}{Q:Unit->Shared->Prop}(S:vQ K C)(X:K.In h)(hx:h.get? a=some o)(hc:o.cls = .ref C)(hq:Q () ⟨h,g,d,t,os⟩):
  wpAny (model prog w) A (checkBuiltinCall "BaseException.__getattribute__" ⟨[.ref a,nameV],[]⟩) Q E ⟨h,g,d,t,os⟩:=by
 have hk:builtinKind "BaseException.__getattribute__" = some .slot:=by decide +kernel
 have hs:splitId "BaseException.__getattribute__" = some ("BaseException","__getattribute__"):=by decide +kernel
 have L1:=W.looks_mroIn (M:=model prog w) X S.mb;have ha:=F.args_bexc_ga (.ref a) nameV;simp only[checkBuiltinCall,hk,hs];refine wpAny_bind ?_;unfold isInstance
 repeat (first|(with_reducible refine wpAny_loadPart_at hx ?_;rw[hc])|with_reducible refine L1.at ?_|wp_step)
 exact hq
def avb{tk:Tok}{Q:Value->Shared->Prop}(S:vQ K C)(X:K.In h)(hx:h.get? a=some o)(hc:o.cls = .ref C)(hq:Q (.ref C) ⟨h,g,d,t,os⟩):
  wpAny (model prog w) A (getAttrBy (.ref a) (.str "__class__" tk) false) Q E ⟨h,g,d,t,os⟩:=by
 have f3:=ae4.ga.bind (.ref a);have L1:=PX (M:=model prog w) X S.ga;have L2:=PX (M:=model prog w) X S.gt;have hx2:(Value.builtin "BaseException.__getattribute__" == Value.builtin "object.__getattribute__")=false:=by decide +kernel
 have hx1:(onTheHeap (Value.ref C)&&Value.builtin "BaseException.__getattribute__" == Value.builtin "object.__getattribute__")=false:=by rw[hx2];rfl
 repeat (any_goals (first|assumption|(with_reducible refine wpAny_loadPart_at hx ?_;rw[hc])|with_reducible refine L1.at ?_|with_reducible refine L2.at ?_|wp_step))
 refine codeAny_call_builtin ae4.ga.plain F.entry_bexc_ga (atN S X hx hc (aqr S X hx hc ?_))
 repeat (any_goals (first|assumption|wp_step))
def ahD{Q:Option Value->Shared->Prop}(S:vQ K C)(X:K.In h)(hx:h.get? a=some o)(hc:o.cls = .ref C)(hq:Q (some (.ref C)) ⟨h,g,d,t+1,os⟩):
  wpAny (model prog w) A (getAttr? (.ref a) "__class__") Q E ⟨h,g,d,t,os⟩:=by
 unfold getAttr? getAttrBy?
 repeat (any_goals (first|assumption|with_reducible apply avb S X hx hc|wp_step))
end
def Ox{K:aL}{a C:Addr}(S:vQ K C):W.KitX K (.ref a) (.ref C) (λh=>∃o vs,h.get? a=some o/\o.cls = .ref C/\o.data = .fields vs) where
 ty:=λM h _ p=>by
  obtain⟨o,_,h1,h2,_⟩:=p;exact h2▸(W.Looks.ld h1).andThen .now
 it:=λ_ _ X _=>by
  have hi:=S.is;unfold Ia at hi;split at hi
  .rename_i c' d' cd' sl' ho
   intro A' Q' E' s' k q;unfold isType loadHead;exact wpAny_bind (wpAny_loadPart (k _ _ (X _ _ ho)) (wpAny_pure q))
  .cases hi
 ne:=λh tp dd its n sl X htp=>by
  have hi:=S.is;refine ael.mpr λq=>?_;have e:C=tp:=Value.ref.inj (beq_iff_eq.mp q);subst e;unfold Ia at hi;split at hi
  .rename_i c' d' cd' sl' ho
   have z:=(X _ _ ho).symm.trans htp;cases z
  .cases hi
 ca:=λ{prog w A E Q s} X p k=>by
  obtain⟨o,vs,h1,h2,_⟩:=p;obtain⟨h0,g,d,t,os⟩:=s;exact ahD S X h1 h2 k
theorem Y9:∀{Ds:List Addr} {us:List Value},Vals (Ds.map V.ref) us->us=Ds.map Value.ref
 |[],_,.nil=>rfl
 |D::Ds,_,.cons r t=>by
  have e:=Y9 (Ds:=Ds) t;cases (show _=Value.ref D from r);rw[e];rfl
def ag3(K:aL):List V->Hp->VK->Prop:=λxs H Q=>∃a C y b,xs=[.ref a,y]/\H a=some (yp a C)/\vQ K C/\
 ((∃D,y = .ref D/\sH K (.ref C) (.ref D)=some b)∨(∃T,y = .ty T/\sH K (.ref C) (.type T)=some b)∨(∃(p:Addr) (Ds:List Addr),y = .ref p/\H p=some (.tup (Ds.map V.ref))/\W.kitAny K (.ref C) (Ds.map Value.ref)=some b))/\Q (.bl b) H
def anV{X:Cx}:jH X (.builtin "isinstance") (ag3 X.K):=by
 intro pins s σ H xs us Q I r h;obtain⟨a,C,y,b,rfl,ha,S,h1,q⟩:=h;obtain⟨u,v,rfl,ru,rv⟩:=r.two;cases ru;have p:∃o vs,s.heap.get? a=some o/\o.cls = .ref C/\o.data = .fields vs:=(I.hok a _ ha).1;have fin:∀tk,EP X pins σ Q (.bool b) { s with toks:=tk }:=λtk=>⟨.bl b,H,I.tok tk,rfl,q⟩;rcases h1 with⟨D,rfl,e⟩|⟨T,rfl,e⟩|⟨tp,Ds,rfl,ht,e⟩
 .cases rv;exact nU (Ox S) I.gU p e (λz=>nomatch z) fin
 .cases rv;exact nU (Ox S) I.gU p e (λz=>nomatch z) fin
 .cases rv;obtain⟨its,r2,p2,_⟩:=I.tuple (aB.of ht);have ei:=Y9 r2;subst ei;obtain⟨⟨cls,dd,data,sl⟩,ho,hc,n,hd⟩:=id p2;simp only at hc hd;subst hc hd;exact W.kia_tup (Ox S) I.gU p ho e (λz=>nomatch z) fin
def aiT{X:Cx}(K:aL)(hK:X.K=K:=by rfl):jH X (.builtin "isinstance") (ag3 K):=by subst hK;exact anV
def azn{X:Cx}{x:Str}{C:Addr}{pos:Pos}(hg:Gl X x)(hm:X.mg x=some (.ref C))(hd:(x==("__debug__" : Str))=false:=by decide):PE X (.Name x pos) (tC (.ref C)):=Qi hg hm rfl hd
def ax6{K:aL}{h:Heap}{mg:Str->Option Value}{x:Str}{C:Addr}{newId inN Bn:String}{bmN:List Value}(X:K.In h)(G:h.Ns mainGlobals mg)(e:iB K mainGlobals x=some (some (.ref C)))
  (q:W.excIn K C [.type "ValueError",.type "Exception",.type "BaseException",.type "object"] newId=true) (Fn:ExcBaseFacts Bn newId inN bmN)
  (hBn:[Value.type "ValueError",.type "Exception",.type "BaseException",.type "object"].contains (.type Bn)=true):R4 mg h x C:=by
 refine⟨_,newId,⟨sV X G e,?_⟩,Bn,inN,bmN,_,_,_,Fn,hBn,afm⟩;unfold W.excIn at q;split at q
 .rename_i dd cd sl ho
  split at q
  .rename_i C' bm k0 k1 k2 k3 n k5 hm hs
   simp only[uh,beq_iff_eq,Kl]at q;obtain⟨⟨⟨⟨⟨rfl,rfl⟩,hdel⟩,ht⟩,hok⟩,hni⟩:=q;obtain⟨nm,bs,mro,ns,qn,hdc,sn,sub,ab,col,del⟩:=cd;dsimp only at hm hdel hok hni;subst hm;subst hdel;have hsl:sl=#[k0,k1,k2,k3,some (.builtin n),k5]:=by
    obtain⟨l⟩:=sl;simp only at hs;rw[hs]
   subst hsl;exact⟨bm,ns,nm,qn,bs,hdc,sn,sub,ab,col,dd,k0,k1,k2,k3,k5,_,X _ _ ho,.of_isNs (W.isNs_of_in X hok),W.nsMap_none_of_in X hok hni,W.tail_of_in X ht⟩
  .cases q
 .cases q
def TJ(K:aL)(C R:Addr):Bool:=match K.lookup C with
 |some ⟨.type "type",_,.cls cd,sl⟩=>(match cd.mro,sl.toList with
  |.ref C'::bm,[_,_,_,_,some (.builtin _),_]=>C'==C&&!cd.hasDel&&(Value.ref C'::bm).contains (.ref R)
  |_,_=>false)
 |_=>false
def axi{K:aL}{h:Heap}{C R:Addr}(X:K.In h)(q:TJ K C R=true)(qr:W.ktsIn K R "BaseException" = true):J9 h C R:=by
 refine⟨?_,?_⟩
 .unfold TJ at q;split at q
  .rename_i dd cd sl ho
   split at q
   .rename_i C' bm k0 k1 k2 k3 n k5 hm hs
    simp only[uh,beq_iff_eq,Kl]at q;obtain⟨⟨rfl,hdel⟩,ht⟩:=q;obtain⟨nm,bs,mro,ns,qn,hdc,sn,sub,ab,col,del⟩:=cd;dsimp only at hm hdel;subst hm;subst hdel;have hsl:sl=#[k0,k1,k2,k3,some (.builtin n),k5]:=by
     obtain⟨l⟩:=sl;simp only at hs;rw[hs]
    subst hsl;exact⟨nm,qn,ns,bs,bm,hdc,sn,sub,ab,col,dd,k0,k1,k2,k3,k5,n,X _ _ ho,ht⟩
   .cases q
  .cases q
 .obtain⟨nm,qn,N,bs,bm,hdct,sn,sub,ab,col,dd,k0,k1,k2,k3,k5,newId,hR,hb,_⟩:=W.kts_cls X qr;exact⟨nm,qn,N,bs,bm,hdct,sn,sub,ab,col,dd,k0,k1,k2,k3,k5,newId,hR,hb⟩
section
variable {X:Cx} {a:Expr} {ta:TE}
def RelV.aow{x:V}{v:Value}(b:Bool)(r:RelV x v):(v==Value.bool b)=decide (x = .bl b):=by
 cases x with
 |bl c=>cases r;cases b<;>cases c<;>rfl
 |non=>cases r;cases b<;>rfl
 |int _=>obtain⟨t,rfl⟩:=r;cases b<;>rfl
 |str _=>obtain⟨t,rfl⟩:=r;cases b<;>rfl
 |j6 _=>obtain⟨t,rfl⟩:=r;cases b<;>rfl
 |flt _=>obtain⟨t,rfl⟩:=r;cases b<;>rfl
 |ref _=>cases r;cases b<;>rfl
 |ty _=>cases r;cases b<;>rfl
def RelV.aAB{x:V}{v:Value}(b:Bool)(r:RelV x v):plainIs v (.bool b)=true:=by
 cases x with
 |bl c=>cases r;rfl
 |non=>cases r;rfl
 |int _=>obtain⟨t,rfl⟩:=r;rfl
 |str _=>obtain⟨t,rfl⟩:=r;rfl
 |j6 _=>obtain⟨t,rfl⟩:=r;rfl
 |flt _=>obtain⟨t,rfl⟩:=r;rfl
 |ref _=>cases r;rfl
 |ty _=>cases r;rfl
def al5(b:Bool)(ta:TE):TE:=λσ H Q=>ta σ H λx H1=>Q (.bl (decide (x = .bl b))) H1
def asb{b:Bool}{j pos'}(ha:PE X a ta):PC X .Is a (.Constant (.bool b) j pos') (al5 b ta):=by
 intro pins s σ H Q I h;refine bw (ha pins s σ H _ I h) λv s1 ⟨x,H1,I1,r1,q1⟩=>?_;refine bw (sG (X:=X) (b:=b) pins s1 σ H1 (λz H2=>z = .bl b/\H2=H1) I1 ⟨rfl,rfl⟩) λu s2 ⟨z,H2,I2,r2,ez,eH⟩=>?_;subst ez eH;cases r2;exact wpAny_is_plain (r1.aAB b) ⟨.bl _,H2,I2,by rw[r1.aow b];rfl,q1⟩
end
end L2
namespace L2
open PySem
theorem Ce:∀ns:List Int,KW (ns.map Mw)=true
 |[]=>rfl
 |n::r=>by
  have:=Ce r;simp[KW,Ei,this]
theorem Aa:∀ns:List Int,Fd (ns.map Mw)<=1
 |[]=>by simp[Fd]
 |n::r=>by
  have:=Aa r;simp[Fd,CG];lia
def agH(ns:List Int):SeqAt.shaped (.list (ns.map .int))=true:=by
 have h1:=Ce ns;have h2:=Aa ns;simp only[SeqAt.shaped,Ei,CG,h1,GZ];exact decide_eq_true ⋯
def aec(ns:List Int):SeqAt.shaped (.tuple (ns.map .int))=true:=by
 have h1:=Ce ns;have h2:=Aa ns;simp only[SeqAt.shaped,Ei,CG,h1,GZ];exact decide_eq_true ⋯
def ae0(ns ms:List Int):oX (.list (ns.map .int)) (.list (ms.map .int))=decide (ns=ms):=by
 rw[oX];exact W.ked_eqvAll ns ms
def Qv(ns ms:List Int):oX (.tuple (ns.map .int)) (.tuple (ms.map .int))=decide (ns=ms):=by
 rw[oX];exact W.ked_eqvAll ns ms
def aui{K:aL}{g:Bool->Bool}{H:Hp}{a b:Addr}{ns ms:List Int}{Q:VK}(ha:aA K H a (ns.map V.int))(hb:aA K H b (ms.map V.int))(q:Q (.bl (g (decide (ns=ms)))) H):tu K g (.ref a) (.ref b) H Q:=
 .inl ⟨_,_,.lst ha (ju.ints ns),.lst hb (ju.ints ms),agH ns,agH ms,by rw[ae0];exact q⟩
def ZY{K:aL}{g:Bool->Bool}{H:Hp}{a b:Addr}{ns ms:List Int}{Q:VK}(ha:aB K H a (ns.map V.int))(hb:aB K H b (ms.map V.int))(q:Q (.bl (g (decide (ns=ms)))) H):tu K g (.ref a) (.ref b) H Q:=
 .inl ⟨_,_,.tup ha (ju.ints ns),.tup hb (ju.ints ms),aec ns,aec ms,by rw[Qv];exact q⟩
end L2
set_option maxHeartbeats 4000000
namespace L2
open PySem PySem.Spec PyProof.Rows
def iG(t:Bool)(h:Heap)(it l:Addr)(i:Nat):Prop:=∃o,h.get? it=some o/\o.cls = .type (if t then "tuple_iterator" else "list_iterator")/\o.data = .fields #[.ref l,.int i 0]
def iV(t:Bool)(h:Heap)(l:Addr)(items:Array Value):Prop:=∃o,h.get? l=some o/\o.cls = .type (if t then "tuple" else "list")/\∃n,o.data = .seq items n
def iG.at{t:Bool}{h h':Heap}{it l:Addr}{i:Nat}(x:iG t h it l i)(e:∀o,h.get? it=some o->h'.get? it=some o):iG t h' it l i:=let⟨o,ho,r⟩:=x;⟨o,e o ho,r⟩
def iV.at{t:Bool}{h h':Heap}{l:Addr}{xs:Array Value}(x:iV t h l xs)(e:∀o,h.get? l=some o->h'.get? l=some o):iV t h' l xs:=let⟨o,ho,r⟩:=x;⟨o,e o ho,r⟩
section
variable {prog:Program} {w:World} {A:Around} {E:Value->Shared->Prop} {s:Shared}
section
variable {t t1 t2:Bool}{it l z TI TO i1 i2 l1 l2:Addr}{i k1 k2:Nat}{items xs ys:Array Value}{x y a b:Value}{Q:Value->Shared->Prop}
def IL(h1:iG t s.heap it l i)(h2:iV t s.heap l items)(hx:items[i]?=some x)
  (k:∀h',iG t h' it l (i+1)->tU it s.heap h'->Q x { s with heap:=h' }):wpAny (model prog w) A (Builtin.SmallTypes.nextOf (.ref it)) Q E s:=by
 cases t with
 |false=>exact wpAny_nextOf_list_item h1 h2 hx k
 |true=>
  obtain⟨o,ho,hc,hd⟩:=id h1;obtain⟨ol,hol,_,nl,hdl⟩:=id h2;have ty:s.TypeIs (.ref it) "tuple_iterator" := ⟨o,ho,hc⟩;unfold Builtin.SmallTypes.nextOf;refine wpAny_bind (wpAny_callSpecial?_slot (name:=Str.ofString "__next__") ty Jg (wpAny_call_entry Jg ty abz ?_ (abT _)));show wpAny _ _ (field (.ref it) 0>>=_) _ _ s;refine wpAny_bind (wpAny_field ho hd (x:=Value.ref l) rfl ?_);show wpAny _ _ (if(Value.ref l==Value.none)=true then _ else _) _ _ s;rw[if_neg (show ¬((Value.ref l==Value.none)=true)fromλq=>fX q)];refine wpAny_bind (wpAny_field ho hd (x:=Value.int i 0) rfl ?_);refine wpAny_bind (wpAny_seqItems hol hdl (Q:=_) ?_);simp only[hx,cM];refine wpAny_bind (wpAny_setField ho hd (by simp) (wpAny_pure ⟨x,rfl,wpAny_pure (k _ ⟨_,Heap.get?_update_self _ ho (Obj.isFreed_of_fields (acT hd _)),?_,?_⟩ (Za ..))⟩))
  .exact(Obj.cls_mapFields ..).trans hc
  .rw[acT hd];simp[rawInt]
def QV(hh:A.handled=none)(h1:iG t s.heap it l i)(h2:iV t s.heap l items)(hx:items[i]?=none)
  (k:∀h' e,Heap.ExtBut it s.heap h'->(∃o,h'.get? e=some o/\o.cls = .type "StopIteration")->E (.ref e) { s with heap:=h' }):wpAny (model prog w) A (Builtin.SmallTypes.nextOf (.ref it)) Q E s:=by
 cases t with
 |false=>exact wpAny_nextOf_list_end hh h1 h2 hx k
 |true=>
  obtain⟨o,ho,hc,hd⟩:=id h1;obtain⟨ol,hol,_,nl,hdl⟩:=id h2;have ty:s.TypeIs (.ref it) "tuple_iterator" := ⟨o,ho,hc⟩;unfold Builtin.SmallTypes.nextOf;refine wpAny_bind (wpAny_callSpecial?_slot (name:=Str.ofString "__next__") ty Jg (wpAny_call_entry Jg ty abz ?_ (abT _)));show wpAny _ _ (field (.ref it) 0>>=_) _ _ s;refine wpAny_bind (wpAny_field ho hd (x:=Value.ref l) rfl ?_);show wpAny _ _ (if(Value.ref l==Value.none)=true then _ else _) _ _ s;rw[if_neg (show ¬((Value.ref l==Value.none)=true)fromλq=>fX q)];refine wpAny_bind (wpAny_field ho hd (x:=Value.int i 0) rfl ?_);refine wpAny_bind (wpAny_seqItems hol hdl (Q:=_) ?_);simp only[hx,cM];refine wpAny_bind (wpAny_rule (wpAny_bind (wpAny_setField ho hd (by simp) (Q:=_) ?_)));show wpAny _ _ (newExc (.type "StopIteration") []>>=_) _ _ _;refine wpAny_bind ?_;simp only[newTuple,newExc];refine wpAny_bind (wpAny_newObj_type (Q:=_) ?_ (by size_fits));refine wpAny_bind (m:=firstArgMember _ _) (wpAny_of_eq (a:=Value.none) (by first|rfl|(simp only[firstArgMember];done)) ?_)
  refine wpAny_newObj_type (Q:=_) ?_ (by size_fits);simp only[raiseNew];refine wpAny_bind (wpAny_handled (Q:=_) ?_);first|rw[hh]|rw[show A.in1.handled=Vs from hh]
  refine wpAny_bind (wpAny_pure (wpAny_throw (k _ _ (((Za ..).extBut.push _).push _) ⟨_,Heap.get?_push_size _ rfl,rfl⟩)))
structure Apart(z TI TO i1 i2 l1 l2:Addr):Prop where
 own:[z,TI,TO,i1,i2].Nodup
 aAO:l1∉[z,TI,TO,i1,i2]
 aBr:l2∉[z,TI,TO,i1,i2]
def Apart.ne(D:Apart z TI TO i1 i2 l1 l2):
  (TI≠z/\TO≠z/\i1≠z/\i2≠z)/\(TI≠TO/\TI≠i1/\TI≠i2)/\(TO≠i1/\TO≠i2/\i1≠i2)/\(l1≠z/\l1≠TO/\l1≠i1/\l1≠i2)/\(l2≠z/\l2≠TO/\l2≠i1/\l2≠i2):=by
 obtain⟨a,b,c⟩:=D;simp only[yq,fR,nH,or_false,not_or,List.nodup_nil,and_true,not_false_eq_true]at a b c;obtain⟨⟨a1,a2,a3,a4⟩,⟨a5,a6,a7⟩,⟨a8,a9⟩,a10⟩:=a;exact⟨⟨d9 a1,d9 a2,d9 a3,d9 a4⟩,⟨a5,a6,a7⟩,⟨a8,a9,a10⟩,⟨b.1,b.2.2.1,b.2.2.2.1,b.2.2.2.2⟩,⟨c.1,c.2.2.1,c.2.2.2.1,c.2.2.2.2⟩⟩
def aAq(D:Apart z TI TO i1 i2 l1 l2)
  (hz:IsZip s.heap z TI TO .none) (hI:IsPair s.heap TI (.ref i1) (.ref i2)) (hO:IsPair s.heap TO a b)
  (h1:iG t1 s.heap i1 l1 k1) (h2:iG t2 s.heap i2 l2 k2) (q1:iV t1 s.heap l1 xs) (q2:iV t2 s.heap l2 ys) (hx:xs[k1]?=some x) (hy:ys[k2]?=some y)
  (k:∀h',IsZip h' z TI TO (rawInt s.heap.objs.size)->IsPair h' TO x y->iG t1 h' i1 l1 (k1+1)->iG t2 h' i2 l2 (k2+1)->IsPair h' s.heap.objs.size x y->
   (∀c o,c∉[z,TO,i1,i2]->s.heap.get? c=some o->h'.get? c=some o)->Q (.ref s.heap.objs.size) { s with heap:=h' }):
  wpAny (model prog w) A (Builtin.«zip.__next__» ⟨[.ref z],[]⟩) (λfin s'=>∃v,fin = .done (.ret v)/\Q v s') E s:=by
 obtain⟨⟨Eb,vA,rY,v9⟩,⟨Vn,VF,Wo⟩,⟨DW,D9,Kq⟩,⟨HN,alC,e11,e12⟩,⟨R9,Oz,Qh,e22⟩⟩:=D.ne;show wpAny _ _ (field (.ref z) 2>>=_) _ _ _;refine wpAny_bind (wpAny_field hz rfl (x:=Value.bool false) rfl ?_);show wpAny _ _ (field (.ref z) 3>>=_) _ _ _;refine wpAny_bind (wpAny_field hz rfl (x:=Value.ref TI) rfl ?_);refine wpAny_bind (wpAny_seqItems hI rfl (Q:=_) ?_);show wpAny _ _ (Builtin.SmallTypes.ownedTupleIsFree (.ref z)>>=_) _ _ _;refine wpAny_bind ?_;unfold Builtin.SmallTypes.ownedTupleIsFree;refine wpAny_bind (wpAny_field hz rfl (x:=Value.none) rfl (wpAny_pure (Q:=_) ?_));simp only[if_true];refine wpAny_bind (wpAny_rule (Q:=_) ?_);refine wpAny_bind (wpAny_field hz rfl (x:=Value.ref TO) rfl ?_);refine wpAny_bind (wpAny_setField_rec hz (by simp) λg1 z1 m1=>?_);replace z1:IsZip g1 z TI TO .ellipsis:=z1;refine wpAny_bind ?_;simp only[Ke,aaj,acu,agQ];refine wpAny_bind (wpAny_bind (wpAny_onRaise (Q:=_) ?_));show wpAny _ _ (Builtin.SmallTypes.nextOf (.ref i1)>>=_) _ _ _;refine wpAny_bind (IL (h1.at λo e=>m1.extBut _ _ rY e) (q1.at λo e=>m1.extBut _ _ HN e) hx λg2 n2 m2=>wpAny_pure (Q:=_) ?_);have O2:IsPair g2 TO a b:=m2.extBut _ _ DW (m1.extBut _ _ vA hO);refine wpAny_bind (wpAny_seqItems O2 rfl (Q:=_) ?_);refine wpAny_bind (wpAny_updateSeq_pair O2 λg3 O3 m3=>?_);replace O3:IsPair g3 TO x b:=O3;refine wpAny_bind (wpAny_letGo (wpAny_pure (Q:=_) ?_));refine wpAny_bind (wpAny_bind (wpAny_onRaise (Q:=_) ?_));show wpAny _ _ (Builtin.SmallTypes.nextOf (.ref i2)>>=_) _ _ _;refine wpAny_bind (IL (h2.at λo e=>m3.extBut _ _ (d9 D9) (m2.extBut _ _ (d9 Kq) (m1.extBut _ _ v9 e))) (q2.at λo e=>m3.extBut _ _ Oz (m2.extBut _ _ Qh (m1.extBut _ _ R9 e))) hy λg4 n4 m4=>wpAny_pure (Q:=_) ?_);have O4:IsPair g4 TO x b:=m4.extBut _ _ D9 O3;refine wpAny_bind (wpAny_seqItems O4 rfl (Q:=_) ?_);refine wpAny_bind (wpAny_updateSeq_pair O4 λg5 O5 m5=>?_);replace O5:IsPair g5 TO x y:=O5;refine wpAny_bind (wpAny_letGo (wpAny_pure (wpAny_pure (Q:=_) ?_)));refine wpAny_bind (wpAny_seqItems O5 rfl (Q:=_) ?_);refine wpAny_bind (wpAny_newTuple (Q:=_) ?_);have sz:g5.objs.size=s.heap.objs.size:=by rw[m5.1,m4.1,m3.1,m2.1,m1.1]
 have Z5:IsZip g5 z TI TO .ellipsis:=m5.extBut _ _ (d9 vA) (m4.extBut _ _ (d9 v9) (m3.extBut _ _ (d9 vA) (m2.extBut _ _ (d9 rY) z1)));have N1:iG t1 g5 i1 l1 (k1+1):=n2.at λo e=>m5.extBut _ _ (d9 DW) (m4.extBut _ _ Kq (m3.extBut _ _ (d9 DW) e));have N2:iG t2 g5 i2 l2 (k2+1):=n4.at λo e=>m5.extBut _ _ (d9 D9) e;have K5:∀c o,c∉[z,TO,i1,i2]->s.heap.get? c=some o->g5.get? c=some o:=λc o hc e=>by
  simp only[fR,nH,or_false,not_or]at hc;obtain⟨c1,c2,c3,c4⟩:=hc;exact m5.extBut _ _ c2 (m4.extBut _ _ c4 (m3.extBut _ _ c2 (m2.extBut _ _ c3 (m1.extBut _ _ c1 e))))
 have zl:z<g5.objs.size:=dg Z5;show wpAny _ _ (Builtin.SmallTypes.ownedTupleHandOut (.ref z) (.ref g5.objs.size)>>=_) _ _ _;refine wpAny_bind ?_;unfold Builtin.SmallTypes.ownedTupleHandOut;have Z6:IsZip (g5.push { cls:= .type "tuple",data:= .seq #[x,y] }) z TI TO .ellipsis:=Heap.get?_push_of_some _ Z5;refine wpAny_bind (wpAny_setField_rec Z6 (by simp) λg7 Z7 m7=>?_);replace Z7:IsZip g7 z TI TO (rawInt g5.objs.size):=Z7;refine wpAny_setField_rec Z7 (by simp) λg8 Z8 m8=>?_;replace Z8:IsZip g8 z TI TO (rawInt g5.objs.size):=Z8;have up:∀c o,c≠z->g5.get? c=some o->g8.get? c=some o:=λc o c1 e=>m8.extBut _ _ c1 (m7.extBut _ _ c1 (Heap.get?_push_of_some _ e));have T8:IsPair g8 g5.objs.size x y:=m8.extBut _ _ (FP zl) (m7.extBut _ _ (FP zl) (Heap.get?_push_size _ rfl));rw[sz]at Z8 T8;refine wpAny_pure ⟨_,rfl,?_⟩;show Q (.ref g5.objs.size) _;rw[sz];exact k g8 Z8 (up _ _ vA O5) (N1.at λo e=>up _ o rY e) (N2.at λo e=>up _ o v9 e) T8 λc o hc e=>up c o (λq=>hc (by simp[q])) (K5 c o hc e)
def azC{Q:Fin->Shared->Prop}(hh:A.handled=none)(D:Apart z TI TO i1 i2 l1 l2)
  (hz:IsZip s.heap z TI TO .none) (hI:IsPair s.heap TI (.ref i1) (.ref i2)) (hO:IsPair s.heap TO a b)
  (h1:iG t1 s.heap i1 l1 k1) (h2:iG t2 s.heap i2 l2 k2) (q1:iV t1 s.heap l1 xs) (q2:iV t2 s.heap l2 ys) (he:ys[k2]?=none∨xs[k1]?=none)
  (k:∀h' e,(∀c o,c∉[z,TO,i1,i2]->s.heap.get? c=some o->h'.get? c=some o)->(∃o,h'.get? e=some o/\o.cls = .type "StopIteration")->E (.ref e) { s with heap:=h' }):
  wpAny (model prog w) A (Builtin.«zip.__next__» ⟨[.ref z],[]⟩) Q E s:=by
 obtain⟨⟨Eb,vA,rY,v9⟩,⟨Vn,VF,Wo⟩,⟨DW,D9,Kq⟩,⟨HN,alC,e11,e12⟩,⟨R9,Oz,Qh,e22⟩⟩:=D.ne;have far:∀{c:Addr},c∉[z,TO,i1,i2]->c≠z/\c≠TO/\c≠i1/\c≠i2:=λhc=>by simpa only[fR,nH,or_false,not_or]using hc
 show wpAny _ _ (field (.ref z) 2>>=_) _ _ _;refine wpAny_bind (wpAny_field hz rfl (x:=Value.bool false) rfl ?_);show wpAny _ _ (field (.ref z) 3>>=_) _ _ _;refine wpAny_bind (wpAny_field hz rfl (x:=Value.ref TI) rfl ?_);refine wpAny_bind (wpAny_seqItems hI rfl (Q:=_) ?_);show wpAny _ _ (Builtin.SmallTypes.ownedTupleIsFree (.ref z)>>=_) _ _ _;refine wpAny_bind ?_;unfold Builtin.SmallTypes.ownedTupleIsFree;refine wpAny_bind (wpAny_field hz rfl (x:=Value.none) rfl (wpAny_pure (Q:=_) ?_));simp only[if_true];refine wpAny_bind (wpAny_rule (Q:=_) ?_);refine wpAny_bind (wpAny_field hz rfl (x:=Value.ref TO) rfl ?_);refine wpAny_bind (wpAny_setField_rec hz (by simp) λg1 z1 m1=>?_);replace z1:IsZip g1 z TI TO .ellipsis:=z1;refine wpAny_bind ?_;simp only[Ke,aaj,acu,agQ];refine wpAny_bind (wpAny_bind (wpAny_onRaise (Q:=_) ?_));show wpAny _ _ (Builtin.SmallTypes.nextOf (.ref i1)>>=_) _ _ _;cases hx:xs[k1]? with
 |none=>
  refine wpAny_bind (QV hh (h1.at λo e=>m1.extBut _ _ rY e) (q1.at λo e=>m1.extBut _ _ HN e) hx λg2 e m2 ⟨u,hu,cu⟩=>?_);have z2:IsZip g2 z TI TO .ellipsis:=m2 _ _ (d9 rY) z1;have ez:e≠z:=λq=>by subst q;rw[z2]at hu;cases hu;simp at cu
  exact wpAny_setField_rec z2 (by simp) λg3 _ m3=>k g3 e (λc o hc q=>let⟨c1,_,c3,_⟩:=far hc;m3.extBut _ _ c1 (m2 _ _ c3 (m1.extBut _ _ c1 q))) ⟨u,m3.extBut _ _ ez hu,cu⟩
 |some x=>
  have hy:ys[k2]?=none:=he.elim id λq=>by rw[hx]at q;cases q
  refine wpAny_bind (IL (h1.at λo e=>m1.extBut _ _ rY e) (q1.at λo e=>m1.extBut _ _ HN e) hx λg2 n2 m2=>wpAny_pure (Q:=_) ?_);have O2:IsPair g2 TO a b:=m2.extBut _ _ DW (m1.extBut _ _ vA hO);refine wpAny_bind (wpAny_seqItems O2 rfl (Q:=_) ?_);refine wpAny_bind (wpAny_updateSeq_pair O2 λg3 O3 m3=>?_);refine wpAny_bind (wpAny_letGo (wpAny_pure (Q:=_) ?_));refine wpAny_bind (wpAny_bind (wpAny_onRaise (Q:=_) ?_));show wpAny _ _ (Builtin.SmallTypes.nextOf (.ref i2)>>=_) _ _ _;refine wpAny_bind (QV hh (h2.at λo e=>m3.extBut _ _ (d9 D9) (m2.extBut _ _ (d9 Kq) (m1.extBut _ _ v9 e))) (q2.at λo e=>m3.extBut _ _ Oz (m2.extBut _ _ Qh (m1.extBut _ _ R9 e))) hy λg4 e m4 ⟨u,hu,cu⟩=>?_);have z4:IsZip g4 z TI TO .ellipsis:=m4 _ _ (d9 v9) (m3.extBut _ _ (d9 vA) (m2.extBut _ _ (d9 rY) z1));have ez:e≠z:=λq=>by subst q;rw[z4]at hu;cases hu;simp at cu
  exact wpAny_setField_rec z4 (by simp) λg5 _ m5=>k g5 e (λc o hc q=>let⟨c1,c2,c3,c4⟩:=far hc;m5.extBut _ _ c1 (m4 _ _ c4 (m3.extBut _ _ c2 (m2.extBut _ _ c3 (m1.extBut _ _ c1 q))))) ⟨u,m5.extBut _ _ ez hu,cu⟩
structure CB(t1 t2:Bool)(z TI TO i1 i2 l1 l2:Addr)(i:Nat)(h:Heap)(f0:Value):Prop where
 zz:IsZip h z TI TO f0
 ti:IsPair h TI (.ref i1) (.ref i2)
 to:∃a b,IsPair h TO a b
 w1:iG t1 h i1 l1 i
 w2:iG t2 h i2 l2 i
def ayB{Q:Option Value->Shared->Prop}(D:Apart z TI TO i1 i2 l1 l2)(Z:CB t1 t2 z TI TO i1 i2 l1 l2 i s.heap .none)
  (q1:iV t1 s.heap l1 xs) (q2:iV t2 s.heap l2 ys) (hx:xs[i]?=some x) (hy:ys[i]?=some y)
  (k:∀h',CB t1 t2 z TI TO i1 i2 l1 l2 (i+1) h' (rawInt s.heap.objs.size)->IsPair h' s.heap.objs.size x y->(∀c o,c∉[z,TO,i1,i2]->s.heap.get? c=some o->h'.get? c=some o)->Q (some (.ref s.heap.objs.size)) { s with heap:=h' }):
  wpAny (model prog w) A (pyNext (.ref z)) Q E s:=by
 obtain⟨zz,ti,⟨a,b,to⟩,w1,w2⟩:=Z;have ty:s.TypeIs (.ref z) "zip" := ⟨_,zz,rfl⟩;obtain⟨⟨Eb,_,_,_⟩,⟨Vn,VF,Wo⟩,_⟩:=D.ne;unfold pyNext;refine wpAny_bind (wpAny_attempt (wpAny_callSpecial?_slot (name:=Str.ofString "__next__") ty JK (wpAny_call_entry JK ty aat ?_ (YX _))));exact aAq D zz ti to w1 w2 q1 q2 hx hy λh' b1 b2 b3 b4 b5 b6=>wpAny_pure (k h' ⟨b1,b6 _ _ (by simp[Eb,Vn,VF,Wo]) ti,⟨_,_,b2⟩,b3,b4⟩ b5 b6)
def avL{Q:Option Value->Shared->Prop}(hh:A.handled=none)(D:Apart z TI TO i1 i2 l1 l2)(Z:CB t1 t2 z TI TO i1 i2 l1 l2 i s.heap .none)
  (q1:iV t1 s.heap l1 xs) (q2:iV t2 s.heap l2 ys) (he:ys[i]?=none∨xs[i]?=none)
  (k:∀h',(∀c o,c∉[z,TO,i1,i2]->s.heap.get? c=some o->h'.get? c=some o)->Q none { s with heap:=h' }):wpAny (model prog w) A (pyNext (.ref z)) Q E s:=by
 obtain⟨zz,ti,⟨a,b,to⟩,w1,w2⟩:=Z;have ty:s.TypeIs (.ref z) "zip" := ⟨_,zz,rfl⟩;unfold pyNext;refine wpAny_bind (wpAny_attempt (wpAny_callSpecial?_slot (name:=Str.ofString "__next__") ty JK (wpAny_call_entry JK ty aat ?_ (YX _))));refine azC hh D zz ti to w1 w2 q1 q2 he λh' e b1 ⟨u,hu,cu⟩=>?_;exact wpAny_bind (wpAny_isInstance (T:= "StopIteration") (b:=true) ⟨u,hu,cu⟩ isSubtype_stop (wpAny_pure (k _ b1)))
abbrev zA(t1:Bool)(h:Heap)(l1:Addr):Heap:=h.push { cls:= .type (if t1 then "tuple_iterator" else "list_iterator"),data:= .fields #[.ref l1,.int 0 0] }
abbrev zB(t1 t2:Bool)(h:Heap)(l1 l2:Addr):Heap:=zA t2 (zA t1 h l1) l2
abbrev zC(t1 t2:Bool)(h:Heap)(l1 l2:Addr):Heap:=(zB t1 t2 h l1 l2).push { cls:= .type "tuple",data:= .seq #[.ref h.objs.size,.ref (zA t1 h l1).objs.size] }
abbrev zD(t1 t2:Bool)(h:Heap)(l1 l2:Addr):Heap:=(zC t1 t2 h l1 l2).push { cls:= .type "tuple",data:= .seq #[.none,.none] }
abbrev zE(t1 t2:Bool)(h:Heap)(l1 l2:Addr):Heap:=(zD t1 t2 h l1 l2).push { cls:= .type "zip",data:= .fields #[.none,.bool false,.bool false,.ref (zB t1 t2 h l1 l2).objs.size,.ref (zC t1 t2 h l1 l2).objs.size] }
def amA(l1 l2:Addr)(xs ys:Array Value):
  Meets (Builtin.«zip.__new__» ⟨[.type "zip",.ref l1,.ref l2],[]⟩) (λ_ R s=>s.heap.IsList l1 xs/\s.heap.IsList l2 ys/\
   R (.ok (.ret (.ref (zD false false s.heap l1 l2).objs.size))) { s with heap:=zE false false s.heap l1 l2 }):=
 .of_wp λprog w A R s h=>by
  obtain⟨hp,g,d,tk,os⟩:=s;obtain⟨m1,m2,h⟩:=h;have sub:=sub_zip;have c1:Jp (vq ⟨hp,g,d,tk,os⟩) l1 xs:=m1;have c2:Jp (vq ⟨hp.push { cls:= .type "list_iterator",data:= .fields #[.ref l1,.int 0 0] },g,d,tk,os⟩) l2 ys:=by
   obtain⟨o,ho,r⟩:=m2;exact⟨o,Heap.get?_push_of_some _ ho,r⟩
  wp_walk using wpAny_pyIter_list c1,wpAny_pyIter_list c2
  exact⟨_,rfl,h⟩
def atz(l1 l2:Addr)(xs ys:Array Value):
  Meets (Builtin.«zip.__new__» ⟨[.type "zip",.ref l1,.ref l2],[]⟩) (λ_ R s=>s.heap.IsList l1 xs/\s.heap.IsTuple l2 ys/\
   R (.ok (.ret (.ref (zD false true s.heap l1 l2).objs.size))) { s with heap:=zE false true s.heap l1 l2 }):=
 .of_wp λprog w A R s h=>by
  obtain⟨hp,g,d,tk,os⟩:=s;obtain⟨m1,m2,h⟩:=h;have sub:=sub_zip;have c1:Jp (vq ⟨hp,g,d,tk,os⟩) l1 xs:=m1;have c2:Eh (vq ⟨hp.push { cls:= .type "list_iterator",data:= .fields #[.ref l1,.int 0 0] },g,d,tk,os⟩) l2 ys:=by
   obtain⟨o,ho,r⟩:=m2;exact⟨o,Heap.get?_push_of_some _ ho,r⟩
  wp_walk using wpAny_pyIter_list c1,wpAny_pyIter_tuple c2
  exact⟨_,rfl,h⟩
def au7(l1 l2:Addr)(xs ys:Array Value):
  Meets (Builtin.«zip.__new__» ⟨[.type "zip",.ref l1,.ref l2],[]⟩) (λ_ R s=>s.heap.IsTuple l1 xs/\s.heap.IsList l2 ys/\
   R (.ok (.ret (.ref (zD true false s.heap l1 l2).objs.size))) { s with heap:=zE true false s.heap l1 l2 }):=
 .of_wp λprog w A R s h=>by
  obtain⟨hp,g,d,tk,os⟩:=s;obtain⟨m1,m2,h⟩:=h;have sub:=sub_zip;have c1:Eh (vq ⟨hp,g,d,tk,os⟩) l1 xs:=m1;have c2:Jp (vq ⟨hp.push { cls:= .type "tuple_iterator",data:= .fields #[.ref l1,.int 0 0] },g,d,tk,os⟩) l2 ys:=by
   obtain⟨o,ho,r⟩:=m2;exact⟨o,Heap.get?_push_of_some _ ho,r⟩
  wp_walk using wpAny_pyIter_tuple c1,wpAny_pyIter_list c2
  exact⟨_,rfl,h⟩
def akN(l1 l2:Addr)(xs ys:Array Value):
  Meets (Builtin.«zip.__new__» ⟨[.type "zip",.ref l1,.ref l2],[]⟩) (λ_ R s=>s.heap.IsTuple l1 xs/\s.heap.IsTuple l2 ys/\
   R (.ok (.ret (.ref (zD true true s.heap l1 l2).objs.size))) { s with heap:=zE true true s.heap l1 l2 }):=
 .of_wp λprog w A R s h=>by
  obtain⟨hp,g,d,tk,os⟩:=s;obtain⟨m1,m2,h⟩:=h;have sub:=sub_zip;have c1:Eh (vq ⟨hp,g,d,tk,os⟩) l1 xs:=m1;have c2:Eh (vq ⟨hp.push { cls:= .type "tuple_iterator",data:= .fields #[.ref l1,.int 0 0] },g,d,tk,os⟩) l2 ys:=by
   obtain⟨o,ho,r⟩:=m2;exact⟨o,Heap.get?_push_of_some _ ho,r⟩
  wp_walk using wpAny_pyIter_tuple c1,wpAny_pyIter_tuple c2
  exact⟨_,rfl,h⟩
def arC(t1 t2:Bool)(l1 l2:Addr)(xs ys:Array Value):
  Meets (Builtin.«zip.__new__» ⟨[.type "zip",.ref l1,.ref l2],[]⟩) (λ_ R s=>iV t1 s.heap l1 xs/\iV t2 s.heap l2 ys/\
   R (.ok (.ret (.ref (zD t1 t2 s.heap l1 l2).objs.size))) { s with heap:=zE t1 t2 s.heap l1 l2 }):=
 match t1,t2 with
 |false,false=>amA l1 l2 xs ys
 |false,true=>atz l1 l2 xs ys
 |true,false=>au7 l1 l2 xs ys
 |true,true=>akN l1 l2 xs ys
def ayl(m1:iV t1 s.heap l1 xs)(m2:iV t2 s.heap l2 ys)
  (k:∀h',CB t1 t2 (s.heap.objs.size+4) (s.heap.objs.size+2) (s.heap.objs.size+3) s.heap.objs.size (s.heap.objs.size+1) l1 l2 0 h' .none->
   (∀c o,s.heap.get? c=some o->h'.get? c=some o)->Q (.ref (s.heap.objs.size+4)) { s with heap:=h' }):
  wpAny (model prog w) A (call (.type "zip") [.ref l1,.ref l2]) Q E s:=by
 refine callType_new F.called_zip ∅ (F.typeCall_zip_2 _ _) (F.newCall_zip_2 _ _) (λobj=>F.args_object_init_3 obj _ _) F.entry_zip_new (arC t1 t2 l1 l2 xs ys) ⟨m1,m2,?_⟩;have y1:(zA t1 s.heap l1).objs.size=s.heap.objs.size+1:=DP ..;have y2:(zB t1 t2 s.heap l1 l2).objs.size=s.heap.objs.size+2:=by rw[DP,y1]
 have y3:(zC t1 t2 s.heap l1 l2).objs.size=s.heap.objs.size+3:=by rw[DP,y2]
 have y4:(zD t1 t2 s.heap l1 l2).objs.size=s.heap.objs.size+4:=by rw[DP,y3]
 have up:∀{h:Heap} {o1:Obj} {c:Addr} {o:Obj},h.get? c=some o->(h.push o1).get? c=some o:=λe=>Heap.get?_push_of_some _ e;have o5:(zE t1 t2 s.heap l1 l2).get? (zD t1 t2 s.heap l1 l2).objs.size=some _:=Heap.get?_push_size _ rfl;have o4:(zE t1 t2 s.heap l1 l2).get? (zC t1 t2 s.heap l1 l2).objs.size=some _:=up (Heap.get?_push_size _ rfl);have o3:(zE t1 t2 s.heap l1 l2).get? (zB t1 t2 s.heap l1 l2).objs.size=some _:=up (up (Heap.get?_push_size _ rfl));have o2:(zE t1 t2 s.heap l1 l2).get? (zA t1 s.heap l1).objs.size=some _:=up (up (up (Heap.get?_push_size _ rfl)));have o1:(zE t1 t2 s.heap l1 l2).get? s.heap.objs.size=some _:=up (up (up (up (Heap.get?_push_size _ rfl))));show _/\_;rw[y2,y3,y4]at o5;rw[y3]at o4;rw[y1,y2]at o3;rw[y1]at o2;rw[y4];exact⟨⟨_,o5,rfl⟩,k _ ⟨o5,o3,⟨_,_,o4⟩,⟨_,o1,rfl,rfl⟩,⟨_,o2,rfl,rfl⟩⟩ λc o e=>up (up (up (up (up e))))⟩
end
end
section
variable {X:Cx} {pins:List (Addr×Obj)} {σ:St} {H:Hp} {s:Shared} {h':Heap}
section
variable {t t1 t2:Bool}{a b:Addr}{xs ys:List V}{K:aL}
def Inv.La{t':Nat}{ch:List Addr}(I:Inv X pins σ H s)(hf:∀b∈ch,qI X pins H b)(k:∀b o,b∉ch->s.heap.get? b=some o->h'.get? b=some o):Inv X pins σ H { s with heap:=h',toks:=t' }:=by
 have far:∀b u,H b=some u->b∉ch:=λb u e z=>by rw[(hf b z).1]at e;cases e
 refine I.step (g':=s.gens) (d':=s.drawn) (ch:=ch) (λb hb=>?_) (λb o _ _ hc e _=>k b o hc e) (λb o _ _ hc e _=>⟨o.slots,k b o hc e⟩) (λ_ _ _ _ n=>n)
  (λb o hc e=>⟨o,k b o hc e⟩) (λ_ _ e=>e) (λ_ _ _ e=>e) (λb ps e=>⟨#[],by rw[e];simp⟩) (λm hm=>?_) (λb u e=>?_) I.bare
 .obtain⟨_,f1,_,f3,f4,f5⟩:=hf b hb;exact⟨f3,f1,f4,f5⟩
 .obtain⟨o,es,ep,ho,r⟩:=hm;exact⟨o,es,ep,k _ o (λz=>(hf _ z).2.1 rfl) ho,r⟩
 .refine(I.hok b u e).stay (λc v hc q=>k c v ?_ q) (λ_ q=>q) λ_ _ q=>q;rcases hc with z|z
  .rw[z];exact far b u e
  .exact far c _ z
def Inv.adopt{p:Addr}{o:HO}(I:Inv X pins σ H s)(f:qI X pins H p)(new:gj X.prog X.w (upd H p o) s.heap p o):Inv X pins σ (upd H p o) s:=by
 obtain⟨f0,f1,_,f3,f4,f5⟩:=f;refine I.step (g':=s.gens) (d':=s.drawn) (t':=s.toks) (h':=s.heap) (ch:=[p]) (λb hb=>?_) (λb o _ _ hc e _=>e) (λb o _ _ hc e _=>⟨o.slots,e⟩) (λb _ hc _ n=>?_)
  (λb o hc e=>⟨o,e⟩) (λb xs e=>?_) (λb xs _ e=>?_) (λb ps e=>⟨#[],?_⟩) (λm hm=>hm) (λb u e=>?_) I.bare
 .have e:b=p:=by simpa using hb
  subst e;exact⟨f3,f1,f4,f5⟩
 .rw[cW λz=>hc (by simp[z])];exact n
 .rw[cW (nj e f0)];exact e
 .rw[cW (nj e f0)];exact e
 .rw[cW (nj e f0),e];simp
 .by_cases hb:b=p
  .subst hb;rw[aD]at e;cases e;exact new
  .rw[cW hb]at e;exact(I.hok b u e).stay (λc v _ q=>q) (λc q=>by rw[cW (nj q f0)];exact q) λc xs q=>by rw[cW (nj q f0)];exact q
def iJ(K:aL)(t:Bool)(H:Hp)(a:Addr)(xs:List V):Prop:=match t with
 |true=>aB K H a xs
 |false=>aA K H a xs
def Inv.jt(I:Inv X pins σ H s)(q:iJ X.K t H a xs):∃its:List Value,Vals xs its/\iV t s.heap a its.toArray/\xs.length<=sizeLine:=by
 cases t with
 |false=>obtain⟨its,r,p,z⟩:=I.list q;exact⟨its,r,p.isList,z⟩
 |true=>obtain⟨its,r,p,z⟩:=I.tuple q;exact⟨its,r,p,z⟩
def Inv.Vh(I:Inv X pins σ H s)(q:iJ X.K t H a xs)(q':iJ X.K t H a ys):xs=ys:=by
 cases t with
 |false=>exact I.ahr q q'
 |true=>exact I.abl q q'
def Same.jt{H H':Hp}(g:Same H H')(q:iJ K t H a xs):iJ K t H' a xs:=by
 cases t with
 |false=>exact g.seq q
 |true=>exact g.JX q
def Um(K:aL)(t1 t2:Bool)(a b:Addr):It:=
 ⟨λi H=>∃xs ys x y,iJ K t1 H a xs/\iJ K t2 H b ys/\xs[i]?=some x/\ys[i]?=some y,
 λi H v H'=>∃p x y,v = .ref p/\H p=none/\H'=upd H p (.tup [x,y])/\(∀xs,iJ K t1 H a xs->xs[i]?=some x)/\∀ys,iJ K t2 H b ys->ys[i]?=some y,
 λi H=>∃xs ys,iJ K t1 H a xs/\iJ K t2 H b ys/\(ys.length<=i∨xs.length<=i)⟩
def aqc{P:Program}{w:World}{es:List Expr}{x1:Nat}{pos:Pos}{z TI TO i1 i2:Addr}(D:Apart z TI TO i1 i2 a b):
  Turn P w K (.Tuple es x1 pos) (Um K t1 t2 a b) [z,TI,TO,i1,i2] z (λi h=>CB t1 t2 z TI TO i1 i2 a b i h .none) where
 mem:=by simp
 obj:=λi h Z c hc=>by
  obtain⟨zz,ti,⟨u,v,to⟩,⟨o1,h1,_,d1⟩,⟨o2,h2,_,d2⟩⟩:=Z;simp only[fR,nH,or_false]at hc;rcases hc with rfl|rfl|rfl|rfl|rfl
  .exact⟨_,zz,λv q=>by cases q⟩
  .exact⟨_,ti,λv q=>by cases q⟩
  .exact⟨_,to,λv q=>by cases q⟩
  .exact⟨_,h1,λv q=>by rw[d1]at q;cases q⟩
  .exact⟨_,h2,λv q=>by rw[d2]at q;cases q⟩
 keep:=λi h h' Z k=>by
  obtain⟨zz,ti,⟨u,v,to⟩,w1,w2⟩:=Z;exact⟨k _ (by simp) _ zz,k _ (by simp) _ ti,⟨u,v,k _ (by simp) _ to⟩,w1.at λo e=>k _ (by simp) o e,w2.at λo e=>k _ (by simp) o e⟩
 item:=by
  intro X hP hw hK hc i pins s σ H E I hf Z hg;subst hP hw hK;obtain⟨xs,ys,x,y,hq1,hq2,hx,hy⟩:=hg;obtain⟨ab9,r1,p1,_⟩:=I.jt hq1;obtain⟨its2,r2,p2,_⟩:=I.jt hq2;obtain⟨u1,hu1,ru1⟩:=r1.get hx;obtain⟨u2,hu2,ru2⟩:=r2.get hy;refine ayB D Z p1 p2 (x:=u1) (y:=u2) (by simpa using hu1) (by simpa using hu2) λg Z1 T1 k1=>⟨_,rfl,?_⟩;have zl:z≠s.heap.objs.size:=lV (dg Z.zz);obtain⟨zz,ti,⟨v1,v2,to⟩,w1,w2⟩:=Z1;obtain⟨⟨Eb,vA,rY,v9⟩,_⟩:=D.ne;refine wpAny_letOwnedTupleGo_zip zz λg' zz' m'=>?_;have T2:IsPair g' s.heap.objs.size u1 u2:=m'.extBut _ _ (d9 zl) T1;have I1:Inv X pins σ H { s with heap:=g' }:=I.La (t':=s.toks) (ch:=[z,TI,TO,i1,i2]) hf λc o hc e=>
   m'.extBut _ _ (λq=>hc (by simp[q])) (k1 c o (λq=>hc (by
    simp only[fR,nH,or_false]at q⊢;rcases q with q|q|q|q<;>simp[q])) e)
  have I2:Inv X pins σ (upd H s.heap.objs.size (.tup [x,y])) { s with heap:=g' }:=I1.adopt (I.uD (aR _) I.fresh)
   ⟨by simp[sizeLine],[u1,u2],.cons ru1 (.cons ru2 .nil),⟨_,T2,rfl,_,rfl⟩⟩
  refine⟨.ref s.heap.objs.size,_,I2,rfl,⟨_,x,y,rfl,I.fresh,rfl,λxs' q=>by rw[I.Vh q hq1];exact hx,λys' q=>by rw[I.Vh q hq2];exact hy⟩,
   ⟨zz',m'.extBut _ _ Eb ti,⟨v1,v2,m'.extBut _ _ vA to⟩,w1.at λo e=>m'.extBut _ _ rY e,w2.at λo e=>m'.extBut _ _ v9 e⟩,λc hc=>?_⟩
  rw[cW]
  .exact(hf c hc).1
  .intro q;obtain⟨o,ho,_⟩:∃o,s.heap.get? c=some o/\True:=by
    obtain⟨zz,ti,⟨u,v,to⟩,⟨o1,h1,_,d1⟩,⟨o2,h2,_,d2⟩⟩:=Z;simp only[fR,nH,or_false]at hc;rcases hc with rfl|rfl|rfl|rfl|rfl
    .exact⟨_,zz,trivial⟩
    .exact⟨_,ti,trivial⟩
    .exact⟨_,to,trivial⟩
    .exact⟨_,h1,trivial⟩
    .exact⟨_,h2,trivial⟩
   exact absurd (dg ho) (by rw[q];exact lW _)
 done:=by
  intro X hP hw hK hc i pins s σ H E I hf Z hg;subst hP hw hK;obtain⟨xs,ys,hq1,hq2,hend⟩:=hg;obtain⟨ab9,r1,p1,_⟩:=I.jt hq1;obtain⟨its2,r2,p2,_⟩:=I.jt hq2;have n1:=r1.length;have n2:=r2.length;refine avL (I.ok.hd hc) D Z p1 p2 (hend.imp (λq=>by simp;lia) (λq=>by simp;lia)) λg k1=>⟨rfl,I.La (t':=s.toks) (ch:=[z,TI,TO,i1,i2]) hf λc o hc e=>k1 c o (λq=>hc (by
    simp only[fR,nH,or_false]at q⊢;rcases q with q|q|q|q<;>simp[q])) e⟩
 self:=λ_ _ _ _ _ Z h=>wpAny_pyIter_zip Z.zz h
def al2(K:aL)(ta:TA):TI:=λσ H R=>ta σ H λvs H1=>∃t1 t2 a b xs ys,vs=[.ref a,.ref b]/\iJ K t1 H1 a xs/\iJ K t2 H1 b ys/\R (Um K t1 t2 a b) H1
def acI(K:aL){e1 e2:Expr}{es:List Expr}{x1:Nat}{pos':Pos}{ta:TA}{p pos:Pos}(hg:Gl X "zip")(hm:X.mg "zip" = none)(ha:PA X [e1,e2] ta)(hK:X.K=K:=by rfl)
  (hs:starEach [e1,e2] X.env=[(false,eval e1 X.env),(false,eval e2 X.env)]:=by rfl) (hs2:starEach [e2] X.env=[(false,eval e2 X.env)]:=by rfl):
  PI X (.Tuple es x1 pos') (.Call (.Name "zip" p) [e1,e2] [] pos) (al2 K ta):=by
 subst hK;intro pins s σ H R I h;refine Call_ (wJ I hg hm boot_zip (BR (bw (ha pos pins s σ H _ I h) λus s1 ⟨vs,H1,I1,r1,q1⟩=>?_) (by rw[hs,hs2]) (by rw[hs2];rfl)));obtain⟨t1,t2,a,b,xs,ys,e,hq1,hq2,q⟩:=q1;subst e;cases r1 with
 |cons r rr=>
  cases rr with
  |cons r' rr=>
   cases rr;cases r;cases r';obtain⟨ab9,v1,p1,_⟩:=I1.jt hq1;obtain⟨its2,v2,p2,_⟩:=I1.jt hq2;refine ayl p1 p2 λh' Z k=>?_;have I2:Inv X pins σ H1 { s1 with heap:=h' }:=I1.kept (t':=s1.toks) k;have lt1:a<s1.heap.objs.size:=by obtain⟨o,ho,_⟩:=p1;exact dg ho
   have lt2:b<s1.heap.objs.size:=by obtain⟨o,ho,_⟩:=p2;exact dg ho
   have D:Apart (s1.heap.objs.size+4) (s1.heap.objs.size+2) (s1.heap.objs.size+3) s1.heap.objs.size (s1.heap.objs.size+1) a b:=by
    have bad:∀{c:Addr} (n:Nat),c<s1.heap.objs.size->c≠s1.heap.objs.size+n:=λn h q=>absurd (iR h (yr _ n)) (by rw[q];exact lW _);exact⟨by simp,by simp[bad _ lt1,show a≠s1.heap.objs.size from bad 0 lt1],by simp[bad _ lt2,show b≠s1.heap.objs.size from bad 0 lt2]⟩
   refine wpAny_pyIter_zip Z.zz ⟨_,_,_,_,H1,rfl,I2,aqc D,Z,λc hc=>?_,q⟩;have hc':s1.heap.objs.size<=c:=by
    simp only[fR,nH,or_false]at hc;rcases hc with rfl|rfl|rfl|rfl|rfl
    .exact yr _ _
    .exact yr _ _
    .exact yr _ _
    .exact aR _
    .exact yr _ _
   exact I1.uD hc' (I1.hok.fresh hc')
def abq{ix:List (Option Nat)}{te:TE}{σ:St}{H1:Hp}{Q:VK}(q1:iJ K t1 H1 a xs)(q2:iJ K t2 H1 b ys)(hz:xs.length<=sizeLine){rest:St}(hst:cst ix σ=none::none::rest)(F:V->V->V)
  (he:∀(H':Hp) (i:Nat) (x y:V),Same H1 H'->xs[i]?=some x->ys[i]?=some y->∀k:VK,k (F x y) H'->te (some x::some y::rest) H' k)
  (hQ:∀D H',H1 D=none->Same H1 H'->H' D=some (.lst (Cg F xs ys))->Q (.ref D) H'):
  mD ix (Lx K 2 (Cz (iQ 0) (Cz (iQ 1) Vo))) oF te σ Q (Um K t1 t2 a b) H1:=by
 constructor;intro D hD;refine⟨λi m σ' H'=>m=xs.length-i/\i<=min xs.length ys.length/\(∃o o',σ'=o::o'::rest)/\Same H1 H'/\H' D=some (.lst ((Cg F xs ys).take i)),⟨xs.length,by simp,dD _,⟨none,none,hst⟩,Same.new hD _,by rw[aD];simp⟩,?_⟩;rintro i m σ' H' ⟨rfl,hi,⟨o,o',rfl⟩,g,hl⟩;by_cases hlt:i<xs.length/\i<ys.length
 .have hx:xs[i]?=some xs[i]:=List.getElem?_eq_getElem hlt.1;have hy:ys[i]?=some ys[i]:=List.getElem?_eq_getElem hlt.2;refine .inr ⟨⟨xs,ys,_,_,g.jt q1,g.jt q2,hx,hy⟩,?_⟩;rintro v H2 ⟨p,x,y,rfl,hp,rfl,y1,y2⟩;have ex:=y1 xs (g.jt q1);have ey:=y2 ys (g.jt q2);have g2:Same H' (upd H' p (.tup [x,y])):=Same.new hp _;have pD:D≠p:=λq=>by rw[q,hp]at hl;cases hl
  refine⟨p,[x,y],rfl,.inl (.inl aD),rfl,x,[y],rfl,y,[],rfl,rfl,?_⟩;change te (some x::some y::rest) (upd H' p (.tup [x,y])) _;refine he _ i x y (g.trans g2) ex ey _ ⟨_,g2 _ _ hl,?_,xs.length-(i+1),⋯,rfl,⋯,⟨_,_,rfl⟩,?_,?_⟩
  .rw[nT];lia
  .exact Same.upd (g.trans g2) hD _
  .rw[aD,uP];have e:(Cg F xs ys)[i]?=some (F x y):=by rw[List.getElem?_zipWith,ex,ey]
   rw[e];rfl
 .refine .inl ⟨⟨xs,ys,g.jt q1,g.jt q2,⋯⟩,hQ D H' hD g ?_⟩;rw[hl,yM];rw[List.length_zipWith];lia
end
end
def asV:bootBuiltins "enumerate" = some (.type "enumerate"):=by decide +kernel
section
variable {prog:Program} {w:World} {A:Around} {E:Value->Shared->Prop} {s:Shared}
section
variable {t:Bool}{e it l:Addr}{i:Nat}{items:Array Value}{old:Value}{Q:Option Value->Shared->Prop}
def ail{x:Value}(he:IsEnum s.heap e it i old)(h1:iG t s.heap it l i)(h2:iV t s.heap l items)(hx:items[i]?=some x)(hne:e≠it)
  (k:∀h',IsEnumOut h' e it ((i:Int)+1) x s.heap.objs.size->iG t h' it l (i+1)->h'.get? s.heap.objs.size=some { cls:= .type "tuple",data:= .seq #[.int i s.toks,x] }->
   (∀b o,b∉[e,it]->s.heap.get? b=some o->h'.get? b=some o)->Q (some (.ref s.heap.objs.size)) { s with heap:=h',toks:=s.toks+1 }):wpAny (model prog w) A (pyNext (.ref e)) Q E s:=by
 have ty:s.TypeIs (.ref e) "enumerate" := ⟨_,he,rfl⟩;unfold pyNext;refine wpAny_bind (wpAny_attempt (wpAny_callSpecial?_slot (name:=Str.ofString "__next__") ty KR (wpAny_call_entry KR ty aaB ?_ (adf _))));obtain⟨hp,g,d,tk,os⟩:=s;have el:e<hp.objs.size:=dg he;show wpAny _ _ (field (.ref e) 2>>=_) _ _ _;refine wpAny_bind (wpAny_field he rfl (x:=Value.ref it) rfl ?_);refine wpAny_bind (IL h1 h2 hx λg1 n1 m1=>?_);replace m1:tU it hp g1:=m1;have e1:IsEnum g1 e it i old:=m1.extBut _ _ hne he;show wpAny _ _ (field (.ref e) 3>>=_) _ _ ⟨g1,g,d,tk,os⟩;refine wpAny_bind (wpAny_field e1 rfl (x:=rawInt i) rfl ?_);show wpAny _ _ (field (.ref e) 4>>=_) _ _ ⟨g1,g,d,tk,os⟩;refine wpAny_bind (wpAny_field e1 rfl (x:=Value.none) rfl ?_);show wpAny _ _ (mkInt i>>=_) _ _ ⟨g1,g,d,tk,os⟩;refine wpAny_bind (wpAny_mkInt (Q:=_) ?_);show wpAny _ _ (setField (.ref e) 3 (rawInt ((i:Int)+1))>>=_) _ _ ⟨g1,g,d,tk+1,os⟩;refine wpAny_bind (wpAny_setField_rec e1 (by simp) λg2 e2 m2=>?_);replace m2:tU e g1 g2:=m2;replace e2:IsEnum g2 e it ((i:Int)+1) old:=e2;show wpAny _ _ (setField (.ref e) 4 .none>>=_) _ _ ⟨g2,g,d,tk+1,os⟩;refine wpAny_bind (wpAny_setField_rec e2 (by simp) λg3 e3 m3=>?_);replace m3:tU e g2 g3:=m3;replace e3:IsEnum g3 e it ((i:Int)+1) old:=e3;show wpAny _ _ (newTuple [.int i tk,x]>>=_) _ _ ⟨g3,g,d,tk+1,os⟩;refine wpAny_bind (wpAny_newTuple (Q:=_) ?_);have sz:g3.objs.size=hp.objs.size:=by rw[m3.1,m2.1,m1.1]
 have e4:IsEnum (g3.push { cls:= .type "tuple",data:= .seq #[.int i tk,x] }) e it ((i:Int)+1) old:=Heap.get?_push_of_some _ e3;have t4:(g3.push { cls:= .type "tuple",data:= .seq #[.int i tk,x] }).get? hp.objs.size=some { cls:= .type "tuple",data:= .seq #[.int i tk,x] }:=by rw[<-sz];exact Heap.get?_push_size _ rfl
 have DM:∀b o,b≠e->b≠it->hp.get? b=some o->(g3.push { cls:= .type "tuple",data:= .seq #[.int i tk,x] }).get? b=some o:=λb o c1 c2 q=>Heap.get?_push_of_some _ (m3.extBut _ _ c1 (m2.extBut _ _ c1 (m1.extBut _ _ c2 q)));have n4:iG t (g3.push { cls:= .type "tuple",data:= .seq #[.int i tk,x] }) it l (i+1):=n1.at λo q=>Heap.get?_push_of_some _ (m3.extBut _ _ (d9 hne) (m2.extBut _ _ (d9 hne) q));rw[sz];generalize g3.push { cls:= .type "tuple",data:= .seq #[.int i tk,x] }=g4 at e4 t4 DM n4;show wpAny _ _ (Builtin.SmallTypes.ownedTupleIsFree (.ref e)>>=_) _ _ ⟨g4,g,d,tk+1,os⟩;refine wpAny_bind ?_;unfold Builtin.SmallTypes.ownedTupleIsFree;refine wpAny_bind (wpAny_field e4 rfl (x:=Value.none) rfl (wpAny_pure (Q:=_) ?_));simp only[if_true];refine wpAny_bind (wpAny_rule (Q:=_) ?_);refine wpAny_bind (wpAny_field e4 rfl (x:=old) rfl ?_);refine wpAny_bind (wpAny_setField_rec e4 (by simp) λg5 e5 m5=>?_);replace m5:tU e g4 g5:=m5;replace e5:IsEnum g5 e it ((i:Int)+1) x:=e5;show wpAny _ _ (Builtin.SmallTypes.ownedTupleHandOut (.ref e) (.ref hp.objs.size)>>=_) _ _ ⟨g5,g,d,tk+1,os⟩;refine wpAny_bind ?_;unfold Builtin.SmallTypes.ownedTupleHandOut;refine wpAny_bind (wpAny_setField_rec e5 (by simp) λg6 e6 m6=>?_);replace m6:tU e g5 g6:=m6;replace e6:IsEnumOut g6 e it ((i:Int)+1) x hp.objs.size:=e6;refine wpAny_setField_rec e6 (by simp) λg7 e7 m7=>?_;replace m7:tU e g6 g7:=m7;replace e7:IsEnumOut g7 e it ((i:Int)+1) x hp.objs.size:=e7;have up:∀b o,b≠e->g4.get? b=some o->g7.get? b=some o:=λb o c1 q=>m7.extBut _ _ c1 (m6.extBut _ _ c1 (m5.extBut _ _ c1 q));refine wpAny_bind (wpAny_letGo (wpAny_pure ⟨_,rfl,wpAny_pure (k g7 e7 (n4.at λo q=>up _ o (d9 hne) q) (up _ _ (FP el) t4) λb o hb q=>?_)⟩));simp only[fR,nH,or_false,not_or]at hb;exact up b o hb.1 (DM b o hb.1 hb.2 q)
def ayv(hh:A.handled=none)(he:IsEnum s.heap e it i old)(h1:iG t s.heap it l i)(h2:iV t s.heap l items)(hx:items[i]?=none)
  (k:∀h',(∀b o,b∉[e,it]->s.heap.get? b=some o->h'.get? b=some o)->Q none { s with heap:=h' }):wpAny (model prog w) A (pyNext (.ref e)) Q E s:=by
 have ty:s.TypeIs (.ref e) "enumerate" := ⟨_,he,rfl⟩;unfold pyNext;refine wpAny_bind (wpAny_attempt (wpAny_callSpecial?_slot (name:=Str.ofString "__next__") ty KR (wpAny_call_entry KR ty aaB ?_ (adf _))));show wpAny _ _ (field (.ref e) 2>>=_) _ _ _;refine wpAny_bind (wpAny_field he rfl (x:=Value.ref it) rfl ?_);refine wpAny_bind (QV hh h1 h2 hx λh' x m ⟨u,hu,cu⟩=>?_);refine wpAny_bind (wpAny_isInstance (T:= "StopIteration") (b:=true) ⟨u,hu,cu⟩ isSubtype_stop (wpAny_pure (k _ λb o hb q=>m b o (λz=>hb (by simp[z])) q)))
abbrev eA(t:Bool)(h:Heap)(l:Addr):Heap:=h.push { cls:= .type (if t then "tuple_iterator" else "list_iterator"),data:= .fields #[.ref l,.int 0 0] }
abbrev eB(t:Bool)(h:Heap)(l:Addr):Heap:=(eA t h l).push { cls:= .type "enumerate",data:= .fields #[.none,.bool false,.ref h.objs.size,rawInt 0,.none,.none] }
end
set_option maxRecDepth 100000 in
def awh(l:Addr)(items:Array Value)(n:Nat)(dct:Option Addr)(sl:Array (Option Value)):
  Meets (Builtin.«enumerate.__new__» ⟨[.type "enumerate",.ref l],[]⟩) (λ_ R s=>s.heap.get? l=some { cls:= .type "tuple",dict:=dct,data:= .seq items n,slots:=sl }/\
   R (.ok (.ret (.ref (eA true s.heap l).objs.size))) { s with heap:=eB true s.heap l }):=
 .of_wp λprog w A R s h=>by
  obtain⟨hp,g,d,tk,os⟩:=s;obtain⟨hl,h⟩:=h;have hsub:=sub_enumerate;have hL:Eh (vq ⟨hp,g,d,tk,os⟩) l items:=⟨_,hl,rfl,n,rfl⟩
  wp_walk using AutoSeq1.wpAny_loadPart' hl
  refine wpAny_stack_any λst=>wpAny_pure ?_;split
  .rename_i c _ _ _ _ _
   cases (c==Value.type "enumerate")
   .wp_walk using AutoSeq1.wpAny_loadPart' hl,wpAny_pyIter_tuple hL
    exact⟨_,rfl,h⟩
   .wp_walk using AutoSeq1.wpAny_loadPart' hl,wpAny_pyIter_tuple hL
    exact⟨_,rfl,h⟩
  .wp_walk using AutoSeq1.wpAny_loadPart' hl,wpAny_pyIter_tuple hL
   exact⟨_,rfl,h⟩
def alm(t:Bool)(l:Addr)(items:Array Value)(n:Nat)(dct:Option Addr)(sl:Array (Option Value)):
  Meets (Builtin.«enumerate.__new__» ⟨[.type "enumerate",.ref l],[]⟩) (λ_ R s=>s.heap.get? l=some { cls:= .type (if t then "tuple" else "list"),dict:=dct,data:= .seq items n,slots:=sl }/\
   R (.ok (.ret (.ref (eA t s.heap l).objs.size))) { s with heap:=eB t s.heap l }):=
 match t with
 |false=>meets_enumerate_newL l items n dct sl
 |true=>awh l items n dct sl
def alg{t:Bool}{l:Addr}{items:Array Value}{Q:Value->Shared->Prop}(m:iV t s.heap l items)
  (k:∀h',IsEnum h' (s.heap.objs.size+1) s.heap.objs.size 0 .none->iG t h' s.heap.objs.size l 0->(∀c o,s.heap.get? c=some o->h'.get? c=some o)->Q (.ref (s.heap.objs.size+1)) { s with heap:=h' }):
  wpAny (model prog w) A (call (.type "enumerate") [.ref l]) Q E s:=by
 obtain⟨⟨c,dct,dt,sl⟩,hl,hc,n,hd⟩:=m;replace hc:c = .type (if t then "tuple" else "list"):=hc;replace hd:dt = .seq items n:=hd;subst hc hd;refine callType_new F.called_enumerate ∅ (F.typeCall_enumerate_1 _) (F.newCall_enumerate_1 _) (λobj=>F.args_object_init_2 obj _) F.entry_enumerate_new (alm t l items n dct sl) ⟨hl,?_⟩;have y1:(eA t s.heap l).objs.size=s.heap.objs.size+1:=DP ..;have o2:(eB t s.heap l).get? (eA t s.heap l).objs.size=some _:=Heap.get?_push_size _ rfl;have o1:(eB t s.heap l).get? s.heap.objs.size=some _:=Heap.get?_push_of_some _ (Heap.get?_push_size _ rfl);show _/\_;rw[y1]at o2⊢;exact⟨⟨_,o2,rfl⟩,k _ o2 ⟨_,o1,rfl,rfl⟩ λc o q=>Heap.get?_push_of_some _ (Heap.get?_push_of_some _ q)⟩
end
section
variable {X:Cx} {pins:List (Addr×Obj)} {σ:St} {H:Hp} {s:Shared} {h':Heap}
structure EAt(t:Bool)(e it l:Addr)(i:Nat)(h:Heap):Prop where
 ee:∃old,IsEnum h e it (i:Int) old
 w1:iG t h it l i
def Ite(K:aL)(t:Bool)(a:Addr):It:=
 ⟨λi H=>∃xs x,iJ K t H a xs/\xs[i]?=some x,
 λi H v H'=>∃p x,v = .ref p/\H p=none/\H'=upd H p (.tup [.int (i:Int),x])/\∀xs,iJ K t H a xs->xs[i]?=some x,
 λi H=>∃xs,iJ K t H a xs/\xs.length<=i⟩
def amj{P:Program}{w:World}{K:aL}{es:List Expr}{x1:Nat}{pos:Pos}{t:Bool}{e it a:Addr}(hne:e≠it):
  Turn P w K (.Tuple es x1 pos) (Ite K t a) [e,it] e (λi h=>EAt t e it a i h) where
 mem:=by simp
 obj:=λi h Z c hc=>by
  obtain⟨⟨old,ee⟩,⟨o1,h1,_,d1⟩⟩:=Z;simp only[fR,nH,or_false]at hc;rcases hc with rfl|rfl
  .exact⟨_,ee,λv q=>by cases q⟩
  .exact⟨_,h1,λv q=>by rw[d1]at q;cases q⟩
 keep:=λi h h' Z k=>by
  obtain⟨⟨old,ee⟩,w1⟩:=Z;exact⟨⟨old,k _ (by simp) _ ee⟩,w1.at λo q=>k _ (by simp) o q⟩
 item:=by
  intro X hP hw hK hc i pins s σ H E I hf Z hg;subst hP hw hK;obtain⟨xs,x,hq,hx⟩:=hg;obtain⟨its,r,p,_⟩:=I.jt hq;obtain⟨u,hu,ru⟩:=r.get hx;obtain⟨⟨old,ee⟩,w1⟩:=Z;refine ail ee w1 p (x:=u) (by simpa using hu) hne λg e1 n1 t1 k1=>⟨_,rfl,?_⟩;have el:e≠s.heap.objs.size:=lV (dg ee);refine wpAny_letOwnedTupleGo_enum e1 λg' e2 m'=>?_;have t2:g'.get? s.heap.objs.size=some { cls:= .type "tuple",data:= .seq #[.int i s.toks,u] }:=m'.extBut _ _ (d9 el) t1;have I1:Inv X pins σ H { s with heap:=g',toks:=s.toks+1 }:=I.La (t':=s.toks+1) (ch:=[e,it]) hf λc o hc q=>m'.extBut _ _ (λz=>hc (by simp[z])) (k1 c o hc q);have I2:Inv X pins σ (upd H s.heap.objs.size (.tup [.int (i:Int),x])) { s with heap:=g',toks:=s.toks+1 }:=I1.adopt (I.uD (aR _) I.fresh)
   ⟨by simp[sizeLine],[.int i s.toks,u],.cons ⟨_,rfl⟩ (.cons ru .nil),⟨_,t2,rfl,_,rfl⟩⟩
  refine⟨.ref s.heap.objs.size,_,I2,rfl,⟨_,x,rfl,I.fresh,rfl,λxs' q=>by rw[I.Vh q hq];exact hx⟩,⟨⟨_,e2⟩,n1.at λo q=>m'.extBut _ _ (d9 hne) q⟩,λc hc=>?_⟩;rw[cW]
  .exact(hf c hc).1
  .intro q;obtain⟨o,ho⟩:∃o,s.heap.get? c=some o:=by
    obtain⟨o1,h1,_,d1⟩:=w1;simp only[fR,nH,or_false]at hc;rcases hc with rfl|rfl
    .exact⟨_,ee⟩
    .exact⟨_,h1⟩
   exact absurd (dg ho) (by rw[q];exact lW _)
 done:=by
  intro X hP hw hK hc i pins s σ H E I hf Z hg;subst hP hw hK;obtain⟨xs,hq,hend⟩:=hg;obtain⟨its,r,p,_⟩:=I.jt hq;have n1:=r.length;obtain⟨⟨old,ee⟩,w1⟩:=Z;exact ayv (I.ok.hd hc) ee w1 p (by simp;lia) λg k1=>⟨rfl,I.La (t':=s.toks) (ch:=[e,it]) hf λc o hc q=>k1 c o hc q⟩
 self:=λ_ _ _ _ _ Z h=>by
  obtain⟨⟨old,ee⟩,_⟩:=Z;exact wpAny_pyIter_enum ee h
def aqX(K:aL)(ta:TA):TI:=λσ H R=>ta σ H λvs H1=>∃t a xs,vs=[.ref a]/\iJ K t H1 a xs/\R (Ite K t a) H1
def Zx(K:aL){e1:Expr}{es:List Expr}{x1:Nat}{pos':Pos}{ta:TA}{p pos:Pos}(hg:Gl X "enumerate")(hm:X.mg "enumerate" = none)(ha:PA X [e1] ta)(hK:X.K=K:=by rfl)
  (hs:starEach [e1] X.env=[(false,eval e1 X.env)]:=by rfl):PI X (.Tuple es x1 pos') (.Call (.Name "enumerate" p) [e1] [] pos) (aqX K ta):=by
 subst hK;intro pins s σ H R I h;refine Call_ (wJ I hg hm asV (BR (bw (ha pos pins s σ H _ I h) λus s1 ⟨vs,H1,I1,r1,q1⟩=>?_) hs rfl));obtain⟨t,a,xs,e,hq,q⟩:=q1;subst e;cases r1 with
 |cons r rr=>
  cases rr;cases r;obtain⟨its,v1,p1,_⟩:=I1.jt hq;refine alg p1 λh' ee w1 k=>?_;have I2:Inv X pins σ H1 { s1 with heap:=h' }:=I1.kept (t':=s1.toks) k;refine wpAny_pyIter_enum ee ⟨_,_,_,_,H1,rfl,I2,amj (Nat.succ_ne_self _),⟨⟨_,ee⟩,w1⟩,λc hc=>?_,q⟩;have hc':s1.heap.objs.size<=c:=by
   simp only[fR,nH,or_false]at hc;rcases hc with rfl|rfl
   .exact yr _ _
   .exact aR _
  exact I1.uD hc' (I1.hok.fresh hc')
def apT{K:aL}{t:Bool}{a:Addr}{xs:List V}{ix:List (Option Nat)}{te:TE}{σ:St}{H1:Hp}{Q:VK}(q1:iJ K t H1 a xs)(hz:xs.length<=sizeLine){rest:St}(hst:cst ix σ=none::none::rest)(F:Nat->V->V)
  (he:∀(H':Hp) (i:Nat) (x:V),Same H1 H'->xs[i]?=some x->∀k:VK,(∀H2,Same H' H2->k (F i x) H2)->te (some (.int (i:Int))::some x::rest) H' k)
  (hQ:∀D H',H1 D=none->Same H1 H'->H' D=some (.lst (xs.mapIdx F))->Q (.ref D) H'):
  mD ix (Lx K 2 (Cz (iQ 0) (Cz (iQ 1) Vo))) oF te σ Q (Ite K t a) H1:=by
 constructor;intro D hD;refine⟨λi m σ' H'=>m=xs.length-i/\i<=xs.length/\(∃o o',σ'=o::o'::rest)/\Same H1 H'/\H' D=some (.lst ((xs.mapIdx F).take i)),⟨xs.length,by simp,dD _,⟨none,none,hst⟩,Same.new hD _,by rw[aD];simp⟩,?_⟩;rintro i m σ' H' ⟨rfl,hi,⟨o,o',rfl⟩,g,hl⟩;by_cases hlt:i<xs.length
 .have hx:xs[i]?=some xs[i]:=List.getElem?_eq_getElem hlt;refine .inr ⟨⟨xs,_,g.jt q1,hx⟩,?_⟩;rintro v H2 ⟨p,x,rfl,hp,rfl,y1⟩;have ex:=y1 xs (g.jt q1);have g2:Same H' (upd H' p (.tup [.int (i:Int),x])):=Same.new hp _;refine⟨p,[.int (i:Int),x],rfl,.inl (.inl aD),rfl,_,[x],rfl,x,[],rfl,rfl,?_⟩;change te (some (.int (i:Int))::some x::rest) (upd H' p (.tup [.int (i:Int),x])) _;refine he _ i x (g.trans g2) ex _ λH3 g3=>⟨_,g3 _ _ (g2 _ _ hl),?_,xs.length-(i+1),⋯,rfl,⋯,⟨_,_,rfl⟩,?_,?_⟩
  .rw[nT,abf];lia
  .exact Same.upd ((g.trans g2).trans g3) hD _
  .rw[aD,uP];have e:(xs.mapIdx F)[i]?=some (F i x):=by rw[List.getElem?_mapIdx,ex];rfl
   rw[e];rfl
 .refine .inl ⟨⟨xs,g.jt q1,⋯⟩,hQ D H' hD g ?_⟩;rw[hl,yM];rw[abf];lia
def aiR{K:aL}{t:Bool}{a:Addr}{xs:List V}{g:TG}{tb:TS}{D:Ends}{σ:St}{H:Hp}(Pv:Nat->St->Hp->Prop)(h0:Pv 0 σ H)(Q7:∀i σ' H',Pv i σ' H'->iJ K t H' a xs)
  (hs:∀(i:Nat) (x:V) (σ':St) (H':Hp) (p:Addr),xs[i]?=some x->Pv i σ' H'->H' p=none->g (.ref p) σ' (upd H' p (.tup [.int (i:Int),x])) λσ2 H2=>tb { D with nx:=Pv (i+1),ct:=Pv (i+1),bk:=D.nx } σ2 H2)
  (hd:∀σ' H',Pv xs.length σ' H'->D.nx σ' H'):
  ∃W:Nat->Nat->St->Hp->Prop,(∃m,W 0 m σ H)/\∀i m σ H,W i m σ H->
   ((Ite K t a).stop i H/\D.nx σ H)∨((Ite K t a).go i H/\∃N:St->Hp->Prop,(∀σ' H',N σ' H'->∃m',m'<m/\W (i+1) m' σ' H')/\∀x H',(Ite K t a).mq i H x H'->g x σ H' λσ2 H2=>tb { D with nx:=N,ct:=N,bk:=D.nx } σ2 H2):=by
 refine⟨λi m σ' H'=>m=xs.length-i/\i<=xs.length/\Pv i σ' H',⟨xs.length,by simp,dD _,h0⟩,?_⟩;rintro i m σ' H' ⟨rfl,hi,pv⟩;have q1:=Q7 i σ' H' pv;by_cases hlt:i<xs.length
 .have hx:xs[i]?=some xs[i]:=List.getElem?_eq_getElem hlt;refine .inr ⟨⟨xs,_,q1,hx⟩,Pv (i+1),λσ2 H2 p'=>⟨xs.length-(i+1),⋯,rfl,⋯,p'⟩,?_⟩;rintro v H2 ⟨p,x,rfl,hp,rfl,y1⟩;exact hs i x σ' H' p (y1 xs q1) pv hp
 .have e:i=xs.length:=⋯;refine .inl ⟨⟨xs,q1,⋯⟩,hd σ' H' ?_⟩;rw[<-e];exact pv
end
def zH(lo:Int)(n:Nat):It:=⟨λi _=>i<n,λi H x H'=>H'=H/\x = .int (lo-i),λi _=>n<=i⟩
def wO{P:Program}{w:World}{K:aL}{tg:Expr}(it:Addr)(lo:Int)(n:Nat):Turn P w K tg (zH lo n) [it] it (λi h=>IsRangeIter h it (lo+(i:Nat)*(-1)) ((n:Int)-(i:Nat)) (-1)) where
 mem:=by simp
 obj:=λi h st b hb=>by
  have e:b=it:=by simpa using hb
  subst e;exact⟨_,st,λv z=>by
   have z':Data.fields _=Data.cell v:=z;cases z'⟩
 keep:=λi h h' st k=>k it (by simp) _ st
 item:=by
  intro X hP hw hK hc i pins s σ H E I hf st hg;subst hP hw hK;obtain⟨f0,f1,f2,f3,f4,f5⟩:=hf it (by simp);have W:=Walks.range (prog:=X.prog) (w:=X.w) (I.ok.hd hc) it lo (-1) n;refine W.item i s _ _ hg st λv h' tk hv st' kk=>?_;obtain⟨t,rfl⟩:=hv;have I1:Inv X pins σ H { s with heap:=h',toks:=tk }:=I.turned (λb o hb e=>kk b o (by simpa using hb) e) f0 f1 f3 f4 f5;refine⟨_,rfl,HM (s:={ s with heap:=h',toks:=tk }) (n:= "range_iterator") st' rfl rfl ∅ ⟨.int (lo-i),H,I1,⟨t,?_⟩,⟨rfl,rfl⟩,st',λb hb=>(hf b hb).1⟩⟩;rw[Int.mul_neg_one];rfl
 done:=by
  intro X hP hw hK hc i pins s σ H E I hf st hg;subst hP hw hK;obtain⟨f0,f1,f2,f3,f4,f5⟩:=hf it (by simp);exact wpAny_pyNext_range_end (I.ok.hd hc) st (by have:n<=i:=hg;lia) λh' eb=>⟨rfl,I.turned (t':=s.toks) (λb o hb e=>eb b o hb e) f0 f1 f3 f4 f5⟩
 self:=λ_ _ _ _ _ st h=>wpAny_pyIter_rangeiter st h
def rangeSize_down(a b:Int):Builtin.Range.rangeSize a b (-1)=if b<a then a-b else 0:=by
 unfold Builtin.Range.rangeSize;simp only[(∅:¬(-1:Int)>0),if_false,KP,acR];split<;>lia
def small_down{a b:Int}(ha:-(2^62)<=a)(ha':a<2^62)(hb:-(2^62)<=b)(hb':b<2^62):Builtin.Range.small a b (-1)=true:=by
 unfold Builtin.Range.small;rw[rangeSize_down];simp only[Builtin.Range.rangeFitsLong,uh,DL,decide_eq_true_eq,beq_iff_eq,(∅:¬(-1:Int)>0),if_false];split<;>lia
section
variable {X:Cx} {tg:Expr}
def anh{pins:List (Addr×Obj)}{σ:St}{H:Hp}{s:Shared}{R:It->Hp->Prop}{E:Value->Shared->Prop}{lo hi:Int}{t u v:Tok}{tk:Nat}(I:Inv X pins σ H s)(h1:-(2^62)<=lo)(h2:lo<2^62)(h3:-(2^62)<=hi)(h4:hi<2^62)
  (q:R (zH lo (lo-hi).toNat) H):wpAny (model X.prog X.w) X.A (pyIter (.ref s.heap.objs.size)) (Rj X pins σ tg R) E { s with heap:=s.heap.push { cls:= .type "range",data:= .fields #[.int lo t,.int hi u,.int (-1) v] },toks:=tk }:=by
 refine wpAny_pyIter_range (IsRange.new ..) (small_down h1 h2 h3 h4) ?_;have I1:Inv X pins σ H { s with heap:=s.heap.push { cls:= .type "range",data:= .fields #[.int lo t,.int hi u,.int (-1) v] },toks:=tk }:=I.kept λb o e=>Heap.get?_push_of_some _ e;refine⟨(s.heap.push { cls:= .type "range",data:= .fields #[.int lo t,.int hi u,.int (-1) v] }).objs.size,[(s.heap.push { cls:= .type "range",data:= .fields #[.int lo t,.int hi u,.int (-1) v] }).objs.size],_,_,H,rfl,
  I1.kept (t':=tk) λb o e=>Heap.get?_push_of_some _ e,wO _ lo (lo-hi).toNat,?_,λb hb=>?_,q⟩
 .have e1:lo+((0:Nat):Int)*(-1)=lo:=by simp
  have e2:(((lo-hi).toNat:Nat):Int)-((0:Nat):Int)=Builtin.Range.rangeSize lo hi (-1):=by rw[rangeSize_down];split<;>lia
  show IsRangeIter _ _ (lo+((0:Nat):Int)*(-1)) ((((lo-hi).toNat:Nat):Int)-((0:Nat):Int)) (-1);rw[e1,e2];exact Heap.get?_push_size _ rfl
 .have e:b=(s.heap.push { cls:= .type "range",data:= .fields #[.int lo t,.int hi u,.int (-1) v] }).objs.size:=by simpa using hb
  subst e;exact I1.uD (aR _) (I1.hok.fresh (aR _))
def anH(ta:TA):TI:=λσ H R=>ta σ H λvs H1=>∃i j:Int,vs=[.int i,.int j,.int (-1)]/\(-(2^62)<=i/\i<2^62/\-(2^62)<=j/\j<2^62)/\R (zH i (i-j).toNat) H1
def aon{a b c:Expr}{ta:TA}{p pos:Pos}(hg:Gl X "range")(hm:X.mg "range" = none)(ha:PA X [a,b,c] ta)(hs:starEach [a,b,c] X.env=(false,eval a X.env)::starEach [b,c] X.env:=by rfl)(hs2:(backTo pos (starEach [b,c] X.env)).any (·.1)=false:=by rfl):
  PI X tg (.Call (.Name "range" p) [a,b,c] [] pos) (anH ta):=by
 intro pins s σ H R I h;refine Call_ (wJ I hg hm boot_range (BR (bw (ha pos pins s σ H _ I h) λus s1 ⟨vs,H1,I1,r1,q1⟩=>?_) hs hs2));obtain⟨i,j,e,⟨q1,q2,q3,q4⟩,q⟩:=q1;subst e;cases r1 with
 |cons r rr=>
  cases rr with
  |cons r' rr=>
   cases rr with
   |cons r'' rr=>
    cases rr;obtain⟨t,rfl⟩:=r;obtain⟨t',rfl⟩:=r';obtain⟨t'',rfl⟩:=r'';exact call_range_3 ∅ (anh (tk:=s1.toks) I1 q1 q2 q3 q4 q) (.inl (aal ⋯))
end
def amZ{lo:Int}{n:Nat}{g:TG}{tb:TS}{D:Ends}{σ:St}{H:Hp}(Pv:Nat->St->Hp->Prop)(h0:Pv 0 σ H)
  (hs:∀i σ H,i<n->Pv i σ H->g (.int (lo-i)) σ H λσ2 H2=>tb { D with nx:=Pv (i+1),ct:=Pv (i+1),bk:=D.nx } σ2 H2) (hd:∀σ H,Pv n σ H->D.nx σ H):
  ∃W:Nat->Nat->St->Hp->Prop,(∃m,W 0 m σ H)/\∀i m σ H,W i m σ H->
   ((zH lo n).stop i H/\D.nx σ H)∨((zH lo n).go i H/\∃N:St->Hp->Prop,(∀σ' H',N σ' H'->∃m',m'<m/\W (i+1) m' σ' H')/\∀x H',(zH lo n).mq i H x H'->g x σ H' λσ2 H2=>tb { D with nx:=N,ct:=N,bk:=D.nx } σ2 H2):=by
 refine⟨λi m σ H=>m=n-i/\i<=n/\Pv i σ H,⟨n,by simp,dD _,h0⟩,?_⟩;rintro i m σ H ⟨rfl,hi,p⟩;by_cases hlt:i<n
 .refine .inr ⟨hlt,Pv (i+1),λσ' H' p'=>⟨n-(i+1),⋯,rfl,hlt,p'⟩,λx H' y=>?_⟩;obtain⟨e,y⟩:=y;subst e y;exact hs i σ _ hlt p
 .have e:i=n:=⋯;subst e;exact .inl ⟨aR _,hd σ H p⟩
section
variable {X:Cx}
end
section
variable {X:Cx}
end
section
variable {X:Cx} {pins:List (Addr×Obj)} {σ:St} {H:Hp} {s:Shared}
def Inv.asv{k:Nat}(I:Inv X pins σ H s)(hr:dh k X.A):PylongRoom (model X.prog X.w) X.A s:=by
 obtain⟨e,l,h1,h2,h3,h4,h5⟩:=I.ok.top;exact PylongRoom.of I.nolimit (by have:=hr.dp;show X.A.depth+100<_;lia) (SeerAt.of (I.ok.mod.seer.keeps I.bk) I.ok.tree (by rw[I.ok.frames,h1]) h2 h3 h4 h5)
def Sv{k:Nat}(hr:dh k X.A):cZ X (binaryOp .FloorDiv) (rI (λ_ j=>j≠0/\j.natAbs.log2<1000000) λi j=> .int (i.fdiv j)):=by
 intro pins s σ H x y u v Q I rx ry h;obtain⟨i,j,rfl,rfl,c,q⟩:=h;obtain⟨t,rfl⟩:=rx;obtain⟨t',rfl⟩:=ry;exact floordiv_int c.1 ⟨.int (i.fdiv j),H,I.tok _,⟨_,rfl⟩,q⟩ (.inr (I.asv hr))
end
section
variable {X:Cx} {e:Expr} {te:TE} {lo st:Expr} {tl ts:TE} {pos p2:Pos}
def iZ(n s e:Nat):Nat:=(n-s+e-1)/e
def N6{n s e k:Nat}(he:1<=e)(hk:k<iZ n s e):s+e*k<n:=by
 unfold iZ at hk;have h2:(k+1)*e<=n-s+e-1:=(Nat.le_div_iff_mul_le ⋯).mp hk;rw[yR,oA,gZ]at h2;lia
def ayh{its:List Value}{s e:Nat}(hs:s<=its.length)(he:1<=e):slicePick its.toArray (some (s:Int)) none (some (e:Int))=((d7 (iZ its.length s e)).map λk=>its.getD (s+e*k) Value.none).toArray:=by
 unfold slicePick sliceBounds sliceRange;simp only[Xk,fU];have e1:(e:Int)>0:=⋯;simp only[e1,if_true];have e2:(if(s:Int)<0 then(s:Int)+(its.length:Int)else(s:Int))=(s:Int):=if_neg ⋯;rw[e2,(⋯:max (0:Int) (min (s:Int) (its.length:Int))=(s:Int))];have ec:(if(s:Int)<(its.length:Int)then((its.length:Int)-(s:Int)+(e:Int)-1)/(e:Int)else 0).toNat=iZ its.length s e:=by
  unfold iZ;split
  .rw[(⋯:(its.length:Int)-(s:Int)+(e:Int)-1=((its.length-s+e-1:Nat):Int))];exact cM _
  .rw[(⋯:its.length-s+e-1=e-1),afW ⋯];rfl
 rw[ec];congr 1;rw[acW];have key:∀l:List Nat,(∀k∈l,s+e*k<its.length)->l.filterMap ((λx=>its.toArray[x]?)∘λk:Nat=>((s:Int)+(e:Int)*(k:Int)).toNat)=l.map λk=>its.getD (s+e*k) Value.none:=λl=>by
  induction l with
  |nil=>intro _;rfl
  |cons k l ih=>
   intro h;have h1:=h k (mC ..);have e3:((s:Int)+(e:Int)*(k:Int)).toNat=s+e*k:=by rw[<-rm];lia
   rw[List.filterMap_cons_some (b:=its.getD (s+e*k) Value.none) (by
    show its.toArray[((s:Int)+(e:Int)*(k:Int)).toNat]?=_;rw[e3,List.getElem?_toArray,List.getD_eq_getElem?_getD,List.getElem?_eq_getElem h1];rfl),wW,ih λj hj=>h j (jZ _ hj)]
 refine key _ λk hk=>?_;exact N6 he (gF.mp hk)
def apc(K:aL)(te tl ts:TE):TE:=λσ H Q=>te σ H λx H1=>tl σ H1 λy H2=>ts σ H2 λz H3=>∃(a:Addr) (xs:List V) (s e:Nat),x = .ref a/\y = .int (s:Int)/\z = .int (e:Int)/\aA K H3 a xs/\s<=xs.length/\1<=e/\
 ∀p,H3 p=none->Q (.ref p) (upd H3 p (.lst ((d7 (iZ xs.length s e)).map λk=>xs.getD (s+e*k) V.non)))
def aqE{n s e:Nat}(he:1<=e):iZ n s e<=n:=by
 unfold iZ;refine eO ?_ (Nat.sub_le n s);generalize n-s=m;cases m with
 |zero=>rw[afW ⋯];exact aR _
 |succ m=>
  refine Nat.div_le_of_le_mul ?_;have:=aeW m he;rw[Bq];lia
def aos{xs:List V}{its:List Value}(r:Vals xs its)(i:Nat)(h:i<xs.length):RelV (xs.getD i V.non) (its.getD i Value.none):=by
 induction r generalizing i with
 |nil=>cases h
 |cons r _ ih=>
  cases i with
  |zero=>exact r
  |succ i=>exact ih i (by simpa using h)
theorem ad6{xs:List V}{its:List Value}(r:Vals xs its):∀l:List Nat,(∀i∈l,i<xs.length)->Vals (l.map λi=>xs.getD i V.non) (l.map λi=>its.getD i Value.none)
 |[],_=> .nil
 |i::l,h=> .cons (aos r i (h i (mC ..))) (ad6 r l λj hj=>h j (jZ _ hj))
def aqQ{K:aL}(he:PE X e te)(hl:PE X lo tl)(hs:PE X st ts)(hK:X.K=K:=by rfl):PE X (.Subscript e (.Slice (some lo) none (some st) p2) pos) (apc K te tl ts):=by
 subst hK;intro pins s σ H Q I h;refine Subscript_ (bw (he pins s σ H _ I h) λv s1 ⟨x,H1,I1,r1,q1⟩=>?_);refine wpAny_Slice ?_;rw[evalPart_some,evalPart_none,evalPart_some];refine bw (hl pins s1 σ H1 _ I1 q1) λvl s2 ⟨y,H2,I2,r2,q2⟩=>wpAny_pure (bw (hs pins s2 σ H2 _ I2 q2) λvs s3 ⟨z,H3,I3,r3,a,xs,sn,en,ex,ey,ez,hx,hsn,hen,q⟩=>?_);subst ex ey ez;obtain⟨t2,rfl⟩:=r2;obtain⟨t3,rfl⟩:=r3;cases r1;have I4:Inv X pins σ H3 { s3 with heap:=s3.heap.push { cls:= .type "slice",data:= .fields #[.int sn t2,.none,.int en t3] } }:=I3.kept (t':=s3.toks) λb ob q=>Heap.get?_push_of_some _ q;obtain⟨its,r,ht,hz⟩:=I4.list hx;have hlen:=r.length;show wpAny (model X.prog X.w) X.A (subscriptTail e (.Slice (some lo) none (some st) p2) (.ref a) (.ref s3.heap.objs.size)) (EP X pins σ Q) X.xe { s3 with heap:=s3.heap.push { cls:= .type "slice",data:= .fields #[.int sn t2,.none,.int en t3] } };refine tail_any (ops:=[.ref a,.ref s3.heap.objs.size]) ht.isList.typeIs slot_list_getitem.lookup (wpAny_getItem_list_slice ht.isList (acG ..) (.int _ t2) .none (.int _ t3) (by simp;lia) ?_ (by rw[fU]<;>lia)) (by with_unfolding_all rfl);rw[ayh ⋯ hen,<-hlen];have hin:∀i∈(d7 (iZ xs.length sn en)).map λk=>sn+en*k,i<xs.length:=λi hi=>by
  obtain⟨k,hk,rfl⟩:=fQ.mp hi;exact N6 hen (gF.mp hk)
 have vp:=ad6 r _ hin;rw[gh,gh]at vp;refine⟨.ref _,_,I4.laid (t':=s3.toks) (o:= .lst ((d7 (iZ xs.length sn en)).map λk=>xs.getD (sn+en*k) V.non)) (λb ob q=>Heap.get?_push_of_some _ q) (aR _) ?_,rfl,q _ (I4.hok.fresh (aR _))⟩;exact⟨by rw[aK,pK];exact eO (aqE hen) hz,_,0,vp,Heap.get?_push_size _ rfl⟩
end
section
variable {X:Cx}
def boot_any:bootBuiltins "any" = some (.builtin "any"):=by decide +kernel
def v_any(hc:X.calm=true):jH X (.builtin "any") (λxs H Q=>∃(l:Addr) (bs:List Bool),xs=[.ref l]/\aA X.K H l (bs.map V.bl)/\Q (.bl (bs.any id)) H):=by
 intro pins s σ H xs us Q I r h;obtain⟨l,bs,rfl,hl,q⟩:=h;obtain⟨u,rfl,ru⟩:=r.one;cases ru;obtain⟨its,rv,pl,hz⟩:=I.list hl;have eb:=adw rv;subst eb;have hl':=pl.isList;have hlt:l<s.heap.objs.size:=by obtain⟨_,e,_⟩:=hl';exact dg e
 refine call_any_walk (wpAny_pyIter_list hl' ?_);refine⟨s.heap.objs.size,[s.heap.objs.size,l],[s.heap.objs.size],(bs.map Value.bool).toArray.size,_,_,λi=>(bs[i]?).getD false,rfl,Walks.list (A:=X.A.in1) (I.ok.hd hc) _ l (lV hlt) (bs.map Value.bool).toArray,
  ⟨⟨_,Heap.get?_push_size _ rfl,rfl,rfl⟩,hl'.push _⟩,λi v s' Q' E' hP hQ=>?_,λh' tk hk=>?_⟩
 .have hP':(bs.map Value.bool)[i]?=some v:=by simpa using hP
  rw[List.getElem?_map]at hP';cases e:bs[i]? with
  |none=>rw[e]at hP';cases hP'
  |some b=>
   rw[e]at hP';cases hP';dsimp only at hQ;rw[e]at hQ;exact wpAny_truthy_bool hQ
 .have e2:((d7 (bs.map Value.bool).toArray.size).any λi=>(bs[i]?).getD false)=bs.any id:=by
   rw[fU,aK];rw[Fg,BK,BK];constructor
   .rintro⟨i,hi,e⟩;have hi':=gF.mp hi;rw[List.getElem?_eq_getElem hi']at e;exact⟨_,vG hi',e⟩
   .rintro⟨x,hx,e⟩;obtain⟨i,hi,e'⟩:=kW.mp hx;exact⟨i,gF.mpr hi,by rw[List.getElem?_eq_getElem hi,e'];exact e⟩
  have fin:EP X pins σ Q (.bool (bs.any id)) { s with heap:=h',toks:=tk }:=⟨.bl _,H,I.kept (aqZ hk),rfl,q⟩;first|(rw[e2];exact fin)|(simpa[e2]using fin)
def asI(K:aL)(hc:X.calm=true)(hK:X.K=K:=by rfl):jH X (.builtin "any") (λxs H Q=>∃(l:Addr) (bs:List Bool),xs=[.ref l]/\aA K H l (bs.map V.bl)/\Q (.bl (bs.any id)) H):=by subst hK;exact v_any hc
def amH{k:Nat}(hr:dh k X.A):cZ X (compareOp .NotIn) (abr X.K not):=by
 intro pins s σ H x y v u Q I rx ry h;obtain⟨p,ns,t,rfl,hq,ty,q⟩:=h;cases ry;obtain⟨its,r,pl,hz⟩:=I.list hq;have hi:=intsAre_of r;refine SeqAt.notIn_listAt (FQ x) pl.isList (λw hw=>?_) ⟨.bl _,H,I,rfl,?_⟩
 .obtain⟨n,t',rfl⟩:=ayU hi w (by simpa using hw);exact azv I hr rx ty n t'
 .rw[show its.toArray.any (FQ x)=its.any (FQ x)by simp,any_ints hi];exact q
def aoX(K:aL){k:Nat}(hr:dh k X.A)(hK:X.K=K:=by rfl):cZ X (compareOp .NotIn) (abr K not):=by subst hK;exact amH hr
end
section
variable {X:Cx}
section
variable {x:Str}{k k':Nat}{ps:List Str}{sp:Sp}{pos:Pos}{e:Expr}{es:List Expr}{t:TA}
def tFn(mg:Str->Option Value)(x:Str):TE:=λ_ H Q=>∀g,mg x=some (.ref g)->Q (.ref g) H
def Mf(C:fM X.prog X.w X.K X.mg X.base x k ps sp)(hg:Gl X x)(hd:(x==("__debug__" : Str))=false:=by decide):PE X (.Name x pos) (tFn X.mg x):=by
 obtain⟨g,gd,hm,_,_,_⟩:=C.ex;intro pins s σ H Q I h;exact Qi (v:= .ref g) hg hm rfl hd pins s σ H Q I (h g hm)
def Vx{g:Addr}{pins:List (Addr×Obj)}{σ:St}{H1:Hp}{s1:Shared}{Q:VK}(C:fM X.prog X.w X.K X.mg X.base x k ps sp)(hr:dh k' X.A)(ha:PA X (e::es) t)(hk:k<=k')
  (he:starEach (e::es) X.env=(false,eval e X.env)::starEach es X.env) (hpl:(backTo pos (starEach es X.env)).any (·.1)=false) (I1:Inv X pins σ H1 s1) (hm':X.mg x=some (.ref g)) (q:t σ H1 λvs H2=>sp vs H2 Q E0):
  wpAny (model X.prog X.w) X.A (callWith pos (.ref g) [] (backTo pos (starEach (e::es) X.env)) (backToKw pos (keywordEach [] X.env))) (EP X pins σ Q) X.xe s1:=by
 obtain⟨g',gd,hm,hkp,hb,F⟩:=C.ex;rw[hm]at hm';cases hm';refine Vq (h₀:=X.base) I1.ok.mod.C8 hkp (bw (ha pos pins s1 σ H1 _ I1 q) λus s2 ⟨vs,H2,I2,r2,q2⟩=>⟨I2.gU,?_⟩) he hpl;refine aa6 F (hr.mono hk) hb .nil ag5 I2 r2 ?_;rw[JV];exact q2
def auM(mg:Str->Option Value)(x1 x2 x3:Str)(Jt Ka Ih:Sp)(tv:TE)(t:TA):TE:=λσ H Q=>tv σ H λv H1=>((∃g,mg x1=some (.ref g)/\v = .ref g)/\t σ H1 λvs H2=>Jt vs H2 Q E0)∨((∃g,mg x2=some (.ref g)/\v = .ref g)/\t σ H1 λvs H2=>Ka vs H2 Q E0)∨((∃g,mg x3=some (.ref g)/\v = .ref g)/\t σ H1 λvs H2=>Ih vs H2 Q E0)
def aiI{mg:Str->Option Value}{x1 x2 x3 y:Str}{k1 k2 k3:Nat}{ps1 ps2 ps3:List Str}{Jt Ka Ih:Sp}{p:Pos}{tv:TE}(C1:fM X.prog X.w X.K mg X.base x1 k1 ps1 Jt)(C2:fM X.prog X.w X.K mg X.base x2 k2 ps2 Ka)(C3:fM X.prog X.w X.K mg X.base x3 k3 ps3 Ih)(hr:dh k' X.A)(hv:PE X (.Name y p) tv)(ha:PA X (e::es) t)
  (hmg:X.mg=mg:=by rfl) (hk1:k1<=k':=by decide) (hk2:k2<=k':=by decide) (hk3:k3<=k':=by decide) (he:starEach (e::es) X.env=(false,eval e X.env)::starEach es X.env:=by rfl) (hpl:(backTo pos (starEach es X.env)).any (·.1)=false:=by rfl):PE X (.Call (.Name y p) (e::es) [] pos) (auM mg x1 x2 x3 Jt Ka Ih tv t):=by
 subst hmg;intro pins s σ H Q I h;refine wpAny_Call_Name_kw (bw (hv pins s σ H _ I h) λu s1 ⟨v,H1,I1,r,q⟩=>?_);rcases q with⟨⟨g,hm,rfl⟩,q⟩|⟨⟨g,hm,rfl⟩,q⟩|⟨⟨g,hm,rfl⟩,q⟩
 .obtain rfl:u=Value.ref g:=r;exact Vx C1 hr ha hk1 he hpl I1 hm q
 .obtain rfl:u=Value.ref g:=r;exact Vx C2 hr ha hk2 he hpl I1 hm q
 .obtain rfl:u=Value.ref g:=r;exact Vx C3 hr ha hk3 he hpl I1 hm q
end
end
end L2
namespace Rm
section
variable {b x y:Int}{rule starts:List Int}{n m:Nat}
def tk(b n:Int):Int:=if b=0 then n else n%b
def cJ(n:Int):tk 0 n=n:=if_pos rfl
def iz(h:b≠0)(n:Int):tk b n=n%b:=if_neg h
def dO(b n:Int):tk b (tk b n)=tk b n:=by
 unfold tk;split
 .rfl
 .exact jK _ (jQ b)
def gM(b x y:Int):tk b (tk b x+y)=tk b (x+y):=by
 unfold tk;split
 .rfl
 .exact Int.emod_add_emod ..
def sS(b x y:Int):tk b (x+tk b y)=tk b (x+y):=by
 rw[nK,gM,nK]
def cD(b x y:Int):tk b (x*tk b y)=tk b (x*y):=by
 unfold tk;split
 .rfl
 .rw[jC,jK _ (jQ b),<-jC]
def dU(b x y:Int):tk b (tk b x*y)=tk b (x*y):=by
 rw[bG,cD,bG]
def jk{x' y':Int}(h:tk b x=tk b x')(h':tk b y=tk b y'):tk b (x+y)=tk b (x'+y'):=by
 rw[<-gM,<-sS,h,h',sS,gM]
def S(rule:List Int)(f:Nat->Int)(n:Nat):Nat->Int
 |0=>0
 |m+1=>S rule f n m+rule.getD m 0*f (n-1-m)
theorem Nj{rule:List Int}{f g:Nat->Int}{n:Nat}:∀{m:Nat},(∀k,k<m->f (n-1-k)=g (n-1-k))->S rule f n m=S rule g n m
 |0,_=>rfl
 |m+1,h=>by
  unfold S;rw[Nj λk hk=>h k ⋯,h m ⋯]
theorem ZK(b:Int){rule:List Int}{f g:Nat->Int}{c:Int}{n:Nat}:∀m:Nat,tk b (S rule (λi=>tk b (f i+c*g i)) n m)=tk b (S rule f n m+c*S rule g n m)
 |0=>by simp[S]
 |m+1=>by
  unfold S;have h1:=ZK b (rule:=rule) (f:=f) (g:=g) (c:=c) (n:=n) m;have h2:tk b (rule.getD m 0*tk b (f (n-1-m)+c*g (n-1-m)))=tk b (rule.getD m 0*(f (n-1-m)+c*g (n-1-m))):=cD ..;rw[jk h1 h2];congr 1;rw[nY,nY,fW (rule.getD m 0) c];lia
theorem getD_map{f:Int->Int}(h0:f 0=0):∀(l:List Int) (k:Nat),(l.map f).getD k 0=f (l.getD k 0)
 |[],k=>by simp[h0]
 |x::r,0=>by simp
 |x::r,k+1=>by
  have:=getD_map h0 r k;simpa using this
theorem WV(p:Int){rule:List Int}{f:Nat->Int}{n:Nat}:∀m:Nat,tk p (S (rule.map (tk p)) (λi=>tk p (f i)) n m)=tk p (S rule f n m)
 |0=>rfl
 |m+1=>by
  unfold S;refine jk (WV p m) ?_;rw[getD_map (by unfold tk;split<;>simp),cD,dU]
def row(b:Int)(rule starts:List Int):Nat->List Int
 |0=>[]
 |n+1=>row b rule starts n++[if n<starts.length then starts.getD n 0 else tk b (S rule (λi=>(row b rule starts n).getD i 0) n rule.length)]
theorem mH(b:Int)(rule starts:List Int):∀n,(row b rule starts n).length=n
 |0=>rfl
 |n+1=>by simp[row,mH b rule starts n]
def at_(b:Int)(rule starts:List Int)(n:Nat):Int:=(row b rule starts (n+1)).getD n 0
theorem Tr(b:Int)(rule starts:List Int):∀{n i:Nat},i<n->(row b rule starts n).getD i 0=at_ b rule starts i
 |n+1,i,h=>by
  by_cases e:i=n
  .subst e;rfl
  .have hi:i<n:=⋯;have hl:=mH b rule starts n;have:=Tr b rule starts (n:=n) (i:=i) hi;rw[<-this];show(row b rule starts n++_).getD i 0=_;rw[List.getD_eq_getElem?_getD,List.getElem?_append_left ⋯,<-List.getD_eq_getElem?_getD]
def Fx(b:Int)(rule starts:List Int)(n:Nat):at_ b rule starts n=if n<starts.length then starts.getD n 0 else tk b (S rule (λi=>(row b rule starts n).getD i 0) n rule.length):=by
 unfold at_;have hl:=mH b rule starts n;show(row b rule starts n++_).getD n 0=_;rw[List.getD_eq_getElem?_getD,List.getElem?_append_right ⋯,hl];simp
def qe(h:n<starts.length):at_ b rule starts n=starts.getD n 0:=by
 rw[Fx,if_pos h]
def vh(hl:rule.length=starts.length)(h:starts.length<=n):at_ b rule starts n=tk b (S rule (at_ b rule starts) n rule.length):=by
 rw[Fx,if_neg ⋯];congr 1;refine Nj λk hk=>Tr b rule starts ⋯
theorem V4(b:Int)(rule starts:List Int):∀n,row b rule starts n=(d7 n).map (at_ b rule starts)
 |0=>rfl
 |n+1=>by
  rw[Vk,jo,<-V4 b rule starts n];show _++[_]=_++[at_ b rule starts n];rw[Fx]
def ajO(b:Int)(rule starts:List Int)(n:Nat):row b rule starts (n+1)=row b rule starts n++[at_ b rule starts n]:=by
 rw[Fx];rfl
def B5(hl:rule.length=starts.length){g:Nat->Int}(h1:∀i,i<starts.length->g i=starts.getD i 0)
  (h2:∀i,starts.length<=i->g i=tk b (S rule g i rule.length)):∀n,at_ b rule starts n=g n:=by
 intro n;induction n using mV with
 |ind n ih=>
  by_cases h:n<starts.length
  .rw[qe h,h1 n h]
  .rw[vh hl ⋯,h2 n ⋯];congr 1;exact Nj λk hk=>ih _ ⋯
theorem Dn{b:Int}{rule starts:List Int}:∀{n:Nat},n<=starts.length->row b rule starts n=starts.take n
 |0,_=>by simp[row]
 |n+1,h=>by
  rw[ajO,Dn ⋯,qe ⋯,uP,List.getD_eq_getElem?_getD,List.getElem?_eq_getElem ⋯];rfl
def aud{p:Int}(hp:p≠0)(hl:rule.length=starts.length)(n:Nat):at_ p (rule.map (tk p)) (starts.map (tk p)) n=tk p (at_ 0 rule starts n):=by
 refine B5 (by simpa using hl) (g:=λi=>tk p (at_ 0 rule starts i)) (λi hi=>?_) (λi hi=>?_) n
 .rw[qe (by simpa using hi),getD_map (by unfold tk;split<;>simp)]
 .rw[aK]at hi;show tk p (at_ 0 rule starts i)=_;rw[vh hl hi,cJ,aK];exact(WV p _).symm
def Bd(n:Nat)(x:Int):Prop:=x.natAbs<2^n
def Bd.mono(h:Bd m x)(hmn:m<=n):Bd n x:=iR h (uo ∅ hmn)
def Bd.mul(h:Bd m x)(h':Bd n y):Bd (m+n) (x*y):=by
 unfold Bd at *;rw[jD,uK];exact Nat.mul_lt_mul'' h h'
def Bd.add(h:Bd n x)(h':Bd n y):Bd (n+1) (x+y):=by
 unfold Bd at *;have:=Aw x y;rw[iY];lia
def Bd.zero(n:Nat):Bd n 0:=pF ∅
def Bd.of(h1:-(2^n)<x)(h2:x<2^n):Bd n x:=by
 unfold Bd;have e:((2^n:Nat):Int)=(2:Int)^n:=by simp
 lia
def Bd.emod(hb:0<b)(h:Bd n b):Bd n (x%b):=by
 unfold Bd at *;have:=oM x (⋯:b≠0);have:=oH x hb;lia
theorem Bd.S{rule:List Int}{f:Nat->Int}{n a c:Nat}(hr:∀k,Bd a (rule.getD k 0)):∀m:Nat,(∀k,k<m->Bd c (f (n-1-k)))->Bd (a+c+m) (Rm.S rule f n m)
 |0,_=>Bd.zero _
 |m+1,h=>by
  unfold Rm.S;refine Bd.add (n:=a+c+m) (Bd.S hr m λk hk=>h k ⋯) (((hr m).mul (h m ⋯)).mono ⋯)
def az0(l:List Int)(k:Nat):l.getD k 0=0∨l.getD k 0∈l:=by
 by_cases h:k<l.length
 .right;rw[List.getD_eq_getElem?_getD,List.getElem?_eq_getElem h];exact vG h
 .left;rw[List.getD_eq_getElem?_getD,List.getElem?_eq_none ⋯];rfl
theorem Bd.getD{l:List Int}{n:Nat}(h:∀x∈l,Bd n x)(k:Nat):Bd n (l.getD k 0):=by
 rcases az0 l k with e|e
 .rw[e];exact .zero n
 .exact h _ e
def tE(hb:0<=b)(hb':Bd n b)(h:Bd n x):Bd n (tk b x):=by
 unfold tk;split
 .exact h
 .exact Bd.emod ⋯ hb'
def aiZ{a c:Nat}(hl:rule.length=starts.length)(hb:0<=b)(hb':Bd c b)(hr:∀x∈rule,Bd a x)(hs:∀x∈starts,Bd c x):
  ∀n,Bd (c+n*(a+rule.length)) (at_ b rule starts n):=by
 intro n;induction n using mV with
 |ind n ih=>
  by_cases h:n<starts.length
  .rw[qe h];exact(Bd.getD hs n).mono ⋯
  .rw[vh hl ⋯];by_cases h0:rule.length=0
   .rw[h0];exact tE hb (hb'.mono ⋯) (.zero _)
   .have hn:0<n:=⋯;have q:=Bd.S (rule:=rule) (f:=at_ b rule starts) (n:=n) (a:=a) (c:=c+(n-1)*(a+rule.length)) (λk=>Bd.getD hr k) rule.length λk hk=>by
     refine(ih (n-1-k) ⋯).mono ?_;have:(n-1-k)*(a+rule.length)<=(n-1)*(a+rule.length):=ig _ ⋯;lia
    have e:n*(a+rule.length)=(n-1)*(a+rule.length)+(a+rule.length):=by
     obtain⟨m,rfl⟩:∃m,n=m+1:=⟨n-1,⋯⟩;rw[fu,mJ]
    exact tE hb (hb'.mono ⋯) (q.mono ⋯)
def azw(hl:rule.length=starts.length)(hb:0<b)(hs:∀x∈starts,0<=x/\x<b)(n:Nat):0<=at_ b rule starts n/\at_ b rule starts n<b:=by
 by_cases h:n<starts.length
 .rw[qe h,List.getD_eq_getElem?_getD,List.getElem?_eq_getElem h];exact hs _ (vG h)
 .rw[vh hl ⋯,iz ⋯];exact⟨oM _ ⋯,oH _ hb⟩
end
end Rm
namespace Om
noncomputable def mj:List Nat:=[2,3,5,7,11,13,17,19,23,29,31,37,41,43,47,53,59,61,67,71,73,79,83,89,97,101,103,107,109,113,127,131,137,139,149,151,157,163,167,173,179,181,191,193,197,199,211,223,227,229,233,239,241,251,257,263,269,271,277,281,283,293,307,311,313,317,331,337,347,349,353,359,367,373,379,383,389,397,401,409,419,421,431,433,439,443,449,457,461,463,467,479,487,491,499,503,509,521,523,541,547,557,563,569,571,577,587,593,599,601,607,613,617,619,631,641,643,647,653,659,661,673,677,683,691,701,709,719,727,733,739,743,751,757,761,769,773,787,797,809,811,821,823,827,829,839,853,857,859,863,877,881,883,887,907,911,919,929,937,941,947,953,967,971,977,983,991,997]
def IK(p:Nat):Nat->Bool
 |0=>true
 |a+1=>(GR a 0||GR ((Nat.pow a (p-1))%p) 1)&&IK p a
set_option maxRecDepth 100000 in
section
variable {p a power square:Int}{e left:Nat}
def apR:(mj.all λp=>IK p p)=true:=by decide +kernel
theorem ahv{p:Nat}:∀{n:Nat},IK p n=true->∀a,a<n->a≠0->a^(p-1)%p=1
 |n+1,h,a,ha,h0=>by
  unfold IK at h;rw[uh]at h;by_cases e:a=n
  .subst e;have h1:=h.1;rw[DL]at h1;rcases h1 with h1|h1
   .exact absurd (U9 h1) h0
   .exact U9 h1
  .exact ahv h.2 a ⋯ h0
def auu{p a:Nat}(hp:p∈mj)(h0:a≠0)(h:a<p):a^(p-1)%p=1:=
 ahv (uw.mp apR p hp) a h h0
def xM{P:Nat}(hP:p=(P:Int))(hp:P∈mj)(h0:0<a)(h:a<p):a^(P-1)%p=1:=by
 obtain⟨n,rfl⟩:∃n:Nat,a=(n:Int):=⟨a.toNat,⋯⟩;subst hP;have:=auu hp (a:=n) ⋯ ⋯;have e:((n:Int)^(P-1))=((n^(P-1):Nat):Int):=by simp
 rw[e,<-qD,this];rfl
def mod_mul{x y x' y':Int}(h:x%p=x'%p)(h':y%p=y'%p):(x*y)%p=(x'*y')%p:=by
 rw[jC,h,h',<-jC]
theorem OB{x x' p:Int}(h:x%p=x'%p):∀n:Nat,(x^n)%p=(x'^n)%p
 |0=>by simp
 |n+1=>by rw[jy,jy];exact mod_mul (OB h n) h
def Keeps(p a:Int)(e:Nat)(power square:Int)(left:Nat):Prop:=(power*square^left)%p=(a^e)%p
def ahW(p a:Int)(e:Nat):Keeps p a e 1 a e:=by unfold Keeps;rw[fP]
theorem Vu(x:Int):∀n:Nat,(x*x)^n=x^(2*n)
 |0=>by simp
 |n+1=>by
  rw[jy,Vu x n,(⋯:2*(n+1)=2*n+1+1),jy,jy,cP]
def auy(h:Keeps p a e power square left)(ho:left%2=1):Keeps p a e (power*square%p) (square*square%p) (left/2):=by
 unfold Keeps at *;have h1:(power*square%p)%p=(power*square)%p:=jK _ (jQ p);have h2:=OB (p:=p) (x:=square*square%p) (x':=square*square) (jK _ (jQ p)) (left/2);rw[mod_mul h1 h2,<-h,Vu,cP];have e2:left=2*(left/2)+1:=⋯
 conv=>rhs;rw[e2,jy]
 rw[bG square]
def avf(h:Keeps p a e power square left)(ho:¬left%2=1):Keeps p a e power (square*square%p) (left/2):=by
 unfold Keeps at *;have h2:=OB (p:=p) (x:=square*square%p) (x':=square*square) (jK _ (jQ p)) (left/2);rw[mod_mul rfl h2,<-h,Vu];have e2:left=2*(left/2):=⋯
 conv=>rhs;rw[e2]
def aph(h:Keeps p a e power square 0):power%p=a^e%p:=by
 unfold Keeps at h
 rwa [xV,iU]at h
end
end Om
namespace Pm
open Rm
section
variable {f f' g g':Nat->Int}{n k i c:Nat}{b x:Int}{p q:List Int}
def sm:Nat->(Nat->Int)->Int
 |0,_=>0
 |n+1,f=>sm n f+f n
theorem aJ{f g:Nat->Int}:∀{n:Nat},(∀k,k<n->f k=g k)->sm n f=sm n g
 |0,_=>rfl
 |n+1,h=>by rw[sm,sm,aJ λk hk=>h k ⋯,h n ⋯]
theorem oE:∀n:Nat,sm n (λ_=>0)=0
 |0=>rfl
 |n+1=>by rw[sm,oE n];rfl
def jA(h:∀k,k<n->f k=0):sm n f=0:=by rw[aJ h,oE]
theorem jr(f:Nat->Int):∀n:Nat,sm (n+1) f=f 0+sm n (λi=>f (i+1))
 |0=>by simp[sm]
 |n+1=>by
  rw[sm,jr f n,sm,QK]
theorem eZ(f g:Nat->Int):∀n:Nat,sm n (λk=>f k+g k)=sm n f+sm n g
 |0=>rfl
 |n+1=>by rw[sm,sm,sm,eZ f g n];lia
theorem cj(c:Int)(f:Nat->Int):∀n:Nat,sm n (λk=>c*f k)=c*sm n f
 |0=>by simp[sm]
 |n+1=>by rw[sm,sm,cj c f n,nY]
theorem lD{f:Nat->Int}{m:Nat}:∀{n:Nat},m<=n->(∀k,m<=k->k<n->f k=0)->sm n f=sm m f
 |0,h,_=>by rw[(⋯:m=0)]
 |n+1,h,h0=>by
  by_cases e:m=n+1
  .rw[e]
  .rw[sm,lD (n:=n) ⋯ (λk h1 h2=>h0 k h1 ⋯),h0 n ⋯ ⋯,cU]
def tk0(b:Int):tk b 0=0:=by unfold tk;split<;>simp
theorem dZ{b:Int}{f g:Nat->Int}:∀{n:Nat},(∀k,k<n->tk b (f k)=tk b (g k))->tk b (sm n f)=tk b (sm n g)
 |0,_=>rfl
 |n+1,h=>by
  rw[sm,sm];exact jk (dZ λk hk=>h k ⋯) (h n ⋯)
theorem FN(f:Nat->Int):∀n:Nat,((d7 n).map f).sum=sm n f
 |0=>rfl
 |n+1=>by rw[Vk,jo,List.sum_append,FN f n];simp[sm]
def cv:(Nat->Int)->(Nat->Int)->Nat->Int
 |f,g,0=>f 0*g 0
 |f,g,k+1=>f 0*g (k+1)+cv (λi=>f (i+1)) g k
theorem gb:∀(f g:Nat->Int) (k:Nat),cv f g k=sm (k+1) (λj=>f j*g (k-j))
 |f,g,0=>by simp[cv,sm]
 |f,g,k+1=>by
  rw[cv,gb _ g k,jr (λj=>f j*g (k+1-j))];refine congrArg (_ + ·) (aJ λj hj=>?_);rw[(⋯:k+1-(j+1)=k-j)]
theorem UZ:∀(f g:Nat->Int) (k:Nat),cv f g (k+1)=cv f (λi=>g (i+1)) k+f (k+1)*g 0
 |f,g,0=>rfl
 |f,g,k+1=>by
  rw[cv,UZ (λi=>f (i+1)) g k,cv,QK]
theorem j4:∀(f g:Nat->Int) (k:Nat),cv f g k=cv g f k
 |f,g,0=>bG _ _
 |f,g,k+1=>by
  rw[cv,UZ,j4 (λi=>f (i+1)) g k,nK,bG]
def qL(h:∀i,i<=k->f i=f' i)(h':∀i,i<=k->g i=g' i):cv f g k=cv f' g' k:=by
 rw[gb,gb];exact aJ λj hj=>by rw[h j ⋯,h' _ ⋯]
def iu(h:∀i,i<=k->tk b (f i)=tk b (f' i))(h':∀i,i<=k->tk b (g i)=tk b (g' i)):tk b (cv f g k)=tk b (cv f' g' k):=by
 rw[gb,gb];exact dZ λj hj=>by rw[<-dU,<-cD,h j ⋯,h' _ ⋯,cD,dU]
def ni(f f' g:Nat->Int)(k:Nat):cv (λi=>f i+f' i) g k=cv f g k+cv f' g k:=by
 rw[gb,gb,gb,<-eZ];exact aJ λj _=>uy ..
def RL(f g g':Nat->Int)(k:Nat):cv f (λi=>g i+g' i) k=cv f g k+cv f g' k:=by
 rw[j4,ni,j4,j4 g']
def nW(c:Int)(f g:Nat->Int)(k:Nat):cv (λi=>c*f i) g k=c*cv f g k:=by
 rw[gb,gb,<-cj];exact aJ λj _=>cP ..
theorem gG:∀(f g h:Nat->Int) (k:Nat),cv (cv f g) h k=cv f (cv g h) k
 |f,g,h,0=>by simp[cv,cP]
 |f,g,h,k+1=>by
  have e:(λi=>cv f g (i+1))=λi=>f 0*(λi=>g (i+1)) i+cv (λi=>f (i+1)) g i:=rfl;rw[cv,e,ni (λi=>f 0*(λi=>g (i+1)) i),nW,gG (λi=>f (i+1)) g h k,cv,cv,cv];rw[nY,cP];lia
def mL(h:∀i,i<=k->f i=0∨g (k-i)=0):cv f g k=0:=by
 rw[gb];exact jA λj hj=>by rcases h j ⋯ with e|e<;>rw[e]<;>simp
def co(p:List Int)(k:Nat):Int:=p.getD k 0
def gP(k:Nat):co [] k=0:=by simp[co]
def jh(x:Int)(r:List Int):co (x::r) 0=x:=by simp[co]
def tK(x:Int)(r:List Int)(k:Nat):co (x::r) (k+1)=co r k:=by simp[co]
def bh(h:p.length<=k):co p k=0:=by
 rw[co,List.getD_eq_getElem?_getD,List.getElem?_eq_none h];rfl
def jL(h:k<p.length):co p k=p[k]:=by
 rw[co,List.getD_eq_getElem?_getD,List.getElem?_eq_getElem h];rfl
def uF(h:k<p.length):co p k∈p:=by rw[jL h];exact vG h
def aq(n:Nat)(f:Nat->Int):List Int:=(d7 n).map f
def aQ(n:Nat)(f:Nat->Int):(aq n f).length=n:=by simp[aq]
def bZ(n:Nat)(f:Nat->Int)(k:Nat):co (aq n f) k=if k<n then f k else 0:=by
 by_cases h:k<n
 .rw[if_pos h,co,aq,List.getD_eq_getElem?_getD,List.getElem?_map,List.getElem?_range h];rfl
 .rw[if_neg h,bh (by rw[aQ];lia)]
def Ef(n:Nat)(f:Nat->Int):aq (n+1) f=aq n f++[f n]:=by
 rw[aq,Vk,jo];rfl
def acB(p:List Int):aq p.length (co p)=p:=by
 apply adk (by rw[aQ]);intro i h1 h2;simp only[aq,List.getElem_map,List.getElem_range];exact jL h2
def nG(hl:p.length=q.length)(h:∀k,co p k=co q k):p=q:=by
 rw[<-acB p,<-acB q,hl];exact uE λk _=>h k
def vD(p:List Int)(i:Nat)(x:Int)(k:Nat)(hi:i<p.length):co (p.set i x) k=if k=i then x else co p k:=by
 unfold co;rw[List.getD_eq_getElem?_getD,List.getElem?_set,List.getD_eq_getElem?_getD];by_cases e:i=k
 .subst e;simp[hi]
 .rw[if_neg e,if_neg (λz=>e z.symm)]
def jF{f:Int->Int}(h:f 0=0)(p:List Int)(k:Nat):co (p.map f) k=f (co p k):=getD_map h p k
def gY(p q:List Int)(k:Nat):co (p++q) k=if k<p.length then co p k else co q (k-p.length):=by
 unfold co;by_cases h:k<p.length
 .rw[if_pos h,List.getD_eq_getElem?_getD,List.getElem?_append_left h,<-List.getD_eq_getElem?_getD]
 .rw[if_neg h,List.getD_eq_getElem?_getD,List.getElem?_append_right ⋯,<-List.getD_eq_getElem?_getD]
def trim:List Int->List Int
 |[]=>[]
 |x::r=>if x=0/\trim r=[]then[]else x::trim r
theorem qC:∀(p:List Int) (k:Nat),co (trim p) k=co p k
 |[],k=>rfl
 |x::r,k=>by
  rw[trim];have ih:=qC r;by_cases h:x=0/\trim r=[]
  .rw[if_pos h];rw[h.2]at ih;cases k with
   |zero=>rw[gP,jh,h.1]
   |succ k=>rw[tK,<-ih k,gP,gP]
  .rw[if_neg h];cases k with
   |zero=>rw[jh,jh]
   |succ k=>rw[tK,tK,ih k]
def Ip:trim p=[]↔∀k,co p k=0:=by
 constructor
 .intro h k;rw[<-qC,h,gP]
 .intro h;induction p with
  |nil=>rfl
  |cons x r ih=>
   rw[trim,if_pos ⟨by have:=h 0;rwa [jh]at this,ih λk=>by have:=h (k+1);rwa [tK]at this⟩]
theorem Dw:∀{p q:List Int},(∀k,co p k=co q k)->trim p=trim q
 |[],q,h=>by rw[show trim q=[]from Ip.mpr λk=>by rw[<-h k,gP]];rfl
 |x::r,[],h=>by rw[show trim (x::r)=[]from Ip.mpr λk=>by rw[h k,gP]];rfl
 |x::r,y::s,h=>by
  have e1:=h 0;rw[jh,jh]at e1;have e2:trim r=trim s:=Dw λk=>by have:=h (k+1);rwa [tK,tK]at this
  rw[trim,trim,e1,e2]
def apg(p:List Int):trim (trim p)=trim p:=Dw (qC p)
theorem yI:∀p:List Int,(trim p).length<=p.length
 |[]=>aR _
 |x::r=>by
  have:=yI r;rw[trim];split
  .simp
  .simp;lia
theorem RV:∀{p:List Int} {n:Nat},(∀k,n<=k->co p k=0)->(trim p).length<=n
 |[],n,_=>dD _
 |x::r,0,h=>by rw[Ip.mpr λk=>h k (dD _)];exact aR 0
 |x::r,n+1,h=>by
  have:=RV (p:=r) (n:=n) λk hk=>by have:=h (k+1) ⋯;rwa [tK]at this
  rw[trim];split
  .simp
  .simp;lia
def aeY(p:List Int):trim (p++[0])=trim p:=Dw λk=>by
 rw[gY];by_cases h:k<p.length
 .rw[if_pos h]
 .rw[if_neg h,bh (p:=p) ⋯];cases k-p.length with
  |zero=>rfl
  |succ j=>rw[tK,gP]
theorem Ol:∀(p:List Int) {x:Int},x≠0->trim (p++[x])=p++[x]
 |[],x,h=>by simp[trim,h]
 |y::r,x,h=>by
  show trim (y::(r++[x]))=_;rw[trim,Ol r h,if_neg (by simp)];rfl
def Qn(h:x∈trim p):x∈p:=by
 induction p with
 |nil=>exact h
 |cons y r ih=>
  rw[trim]at h;split at h
  .cases h
  .rcases fR.mp h with rfl|h
   .exact mC
   .exact jZ _ (ih h)
structure Py(b:Int)(p:List Int):Prop where
 tr:trim p=p
 nu:∀x∈p,tk b x=x
theorem Py.co{b:Int}{p:List Int}(h:Py b p)(k:Nat):tk b (co p k)=co p k:=by
 by_cases hk:k<p.length
 .exact h.nu _ (uF hk)
 .rw[bh ⋯,tk0]
def Py.ext(h:Py b p)(h':Py b q)(e:∀k,tk b (Pm.co p k)=tk b (Pm.co q k)):p=q:=by
 rw[<-h.tr,<-h'.tr];exact Dw λk=>by rw[<-h.co k,<-h'.co k];exact e k
def Py.of(h:∀x∈p,tk b x=x):Py b (trim p):=⟨apg p,λx hx=>h x (Qn hx)⟩
def Py.nil(b:Int):Py b []:=⟨rfl,λ_ h=>nomatch h⟩
def gK(h:x∈aq n f):∃k,k<n/\x=f k:=by
 obtain⟨k,hk,e⟩:=fQ.mp h;exact⟨k,gF.mp hk,e.symm⟩
theorem Py.aq(b:Int)(n:Nat)(f:Nat->Int):Py b (trim (Pm.aq n λk=>tk b (f k))):=Py.of λx hx=>by
 obtain⟨k,_,rfl⟩:=gK hx;exact dO ..
def add(b:Int)(p q:List Int):List Int:=trim (aq (max p.length q.length) λk=>tk b (co p k+co q k))
def mul(b:Int)(p q:List Int):List Int:=trim (aq (p.length+q.length) λk=>tk b (cv (co p) (co q) k))
def abJ(b:Int)(p q:List Int):Py b (mul b p q):=Py.aq ..
def K2(b:Int)(p q:List Int)(k:Nat):co (add b p q) k=tk b (co p k+co q k):=by
 rw[add,qC,bZ];split
 .rfl
 .rw[bh (p:=p) ⋯,bh (p:=q) ⋯,cU,tk0]
def qF(b:Int)(p q:List Int)(k:Nat):co (mul b p q) k=tk b (cv (co p) (co q) k):=by
 rw[mul,qC,bZ];split
 .rfl
 .rw[mL,tk0];intro i hi;by_cases h:i<p.length
  .exact .inr (bh ⋯)
  .exact .inl (bh ⋯)
def mul_comm(b:Int)(p q:List Int):mul b p q=mul b q p:=(abJ ..).ext (abJ ..) λk=>by rw[qF,qF,j4]
def W(f g:Nat->Int)(i k c:Nat):Int:=sm i (λj=>if j<=c then f j*g (c-j)else 0)+(if i<=c/\c-i<k then f i*g (c-i)else 0)
def auE(f g:Nat->Int)(c:Nat):W f g 0 0 c=0:=by simp[W,sm]
def ah1:W f g i (k+1) c=W f g i k c+(if c=i+k then f i*g k else 0):=by
 unfold W;by_cases h:c=i+k
 .rw[if_pos h,if_pos ⋯,if_neg ⋯,(⋯:c-i=k)];lia
 .rw[if_neg h];by_cases h2:i<=c/\c-i<k
  .rw[if_pos h2,if_pos ⋯];lia
  .rw[if_neg h2,if_neg ⋯];lia
def anW(hg:∀k,n<=k->g k=0):W f g i n c=W f g (i+1) 0 c:=by
 unfold W;rw[sm,if_neg (⋯:¬(i+1<=c/\c-(i+1)<0))];by_cases h:i<=c
 .rw[if_pos h];by_cases h2:c-i<n
  .rw[if_pos ⟨h,h2⟩];lia
  .rw[if_neg ⋯,hg _ ⋯,aV];lia
 .rw[if_neg ⋯,if_neg h];lia
def N8{m:Nat}(hf:∀k,m<=k->f k=0):W f g m 0 c=cv f g c:=by
 unfold W;rw[if_neg ⋯,cU,gb];by_cases h:m<=c+1
 .rw[lD (n:=c+1) h λk h1 _=>by rw[hf k h1,dF]];exact aJ λj hj=>if_pos ⋯
 .rw[lD (m:=c+1) (n:=m) ⋯ λk h1 _=>if_neg ⋯];exact aJ λj hj=>if_pos ⋯
end
end Pm
namespace Pm
open Rm
section
variable {b:Int}{rule p c q:List Int}{a:Nat->Int}{u v:Nat}
theorem pW(F:Nat->Nat->Int)(m:Nat):∀n:Nat,sm m (λk=>sm n (λj=>F k j))=sm n (λj=>sm m (λk=>F k j))
 |0=>by simp only[sm];exact oE m
 |n+1=>by
  simp only[sm];rw[eZ,pW F m n]
theorem pH(rule:List Int)(f:Nat->Int)(n:Nat):∀m:Nat,S rule f n m=sm m (λk=>co rule k*f (n-1-k))
 |0=>rfl
 |m+1=>by rw[S,sm,pH rule f n m];rfl
def ks(p:List Int)(a:Nat->Int)(n:Nat):Int:=sm p.length (λk=>co p k*a (n+k))
def awj(ha:∀n,rule.length<=n->tk b (a n)=tk b (S rule a n rule.length)){n:Nat}(hn:rule.length<=n):
  tk b (ks p a n)=tk b (S rule (ks p a) n rule.length):=by
 have e1:tk b (ks p a n)=tk b (sm p.length (λk=>co p k*sm rule.length (λj=>co rule j*a (n+k-1-j)))):=by
  refine dZ λk _=>?_;rw[<-cD,ha (n+k) ⋯,cD,pH]
 rw[e1,pH];congr 1;have e2:(λk=>co p k*sm rule.length (λj=>co rule j*a (n+k-1-j)))=λk=>sm rule.length (λj=>co rule j*(co p k*a (n+k-1-j))):=by
  funext k
  rw[<-cj];exact aJ λj _=>fW ..
 rw[e2,pW];refine aJ λj hj=>?_;rw[cj];congr 1;refine aJ λk _=>?_;rw[(⋯:n-1-j+k=n+k-1-j)]
def R5(ha:∀n,rule.length<=n->tk b (a n)=tk b (S rule a n rule.length))(h0:∀n,n<rule.length->tk b (ks p a n)=0):
  ∀n,tk b (ks p a n)=0:=by
 intro n;induction n using mV with
 |ind n ih=>
  by_cases h:n<rule.length
  .exact h0 n h
  .rw[awj ha ⋯,pH];have:tk b (sm rule.length λk=>co rule k*ks p a (n-1-k))=tk b (sm rule.length λ_=>0):=dZ λk hk=>by
    rw[<-cD,ih (n-1-k) ⋯,aV]
   rw[this,oE,tk0]
def aW(b:Int)(c:List Int):List Int:=aq c.length (λk=>tk b (0-co c (c.length-1-k)))++[1]
def eE(b:Int)(p:List Int):List Int:=aq (p.length-1) (λk=>tk b (0-co p (p.length-1-1-k)))
def iT(b:Int)(c:List Int):(aW b c).length=c.length+1:=by simp[aW,aQ]
def Q9(b x:Int):tk b (0-tk b (0-x))=tk b x:=by
 have h:tk b (tk b (0-x)+(0-tk b (0-x)))=tk b ((0-x)+(0-tk b (0-x))):=gM ..;have e1:tk b (0-x)+(0-tk b (0-x))=0:=⋯;rw[e1]at h;have h2:tk b (tk b (0-tk b (0-x))+(0-x))=tk b 0:=by rw[gM,nK];exact h.symm
 have h3:tk b (tk b (0-tk b (0-x)))=tk b x:=by
  have:=jk h2 (rfl:tk b x=tk b x);rw[(⋯:tk b (0-tk b (0-x))+(0-x)+x=tk b (0-tk b (0-x))),dj]at this;exact this
 rwa [dO]at h3
def amm(h:∀x∈c,tk b x=x):eE b (aW b c)=c:=by
 refine nG (by rw[eE,aQ,iT];lia) λk=>?_;rw[eE,bZ,iT];by_cases hk:k<c.length+1-1
 .rw[if_pos hk,aW,gY,aQ,if_pos ⋯,bZ,if_pos ⋯,Q9];rw[(⋯:c.length-1-(c.length+1-1-1-k)=k)];exact h _ (uF ⋯)
 .rw[if_neg hk,bh ⋯]
def Vb{starts:List Int}(hl:rule.length=starts.length):∀n,rule.length<=n->tk b (at_ b rule starts n)=tk b (S rule (at_ b rule starts) n rule.length):=λn hn=>by
 rw[vh hl ⋯,dO]
theorem yc{f:Nat->Int}{c:Nat}:∀n:Nat,(∀k,k<n->Bd c (f k))->Bd (c+n) (sm n f)
 |0,_=>Bd.zero _
 |n+1,h=>by
  rw[sm];exact Bd.add (n:=c+n) (yc n λk hk=>h k ⋯) ((h n ⋯).mono ⋯)
def gk(h:∀x∈p,Bd u x)(k:Nat):Bd u (co p k):=Bd.getD h k
def amv(h:∀x∈p,Bd u x)(h':∀x∈q,Bd v x)(k:Nat):Bd (u+v+p.length) (cv (co p) (co q) k):=by
 rw[<-N8 (m:=p.length) λj hj=>bh hj,W,if_neg ⋯,cU];refine yc _ λj _=>?_;split
 .exact(gk h j).mul (gk h' _)
 .exact Bd.zero _
def abu(hb:0<=b)(hb1:b<1000)(hu:10<=u)(h:∀x∈p,Bd u x)(h':∀x∈q,Bd v x):∀x∈mul b p q,Bd (u+v+p.length) x:=by
 intro x hx;obtain⟨k,_,rfl⟩:=gK (Qn hx);refine tE hb ?_ (amv h h' k);exact(Bd.of (n:=10) ⋯ ⋯).mono ⋯
def Nb(hb:0<=b)(hb1:b<1000)(hu:10<=u)(h:∀x∈c,Bd u x):∀x∈aW b c,Bd u x:=by
 intro x hx;rcases qT.mp hx with hx|hx
 .obtain⟨k,_,rfl⟩:=gK hx;refine tE hb ((Bd.of (n:=10) ⋯ ⋯).mono ⋯) ?_;have:=gk h (c.length-1-k);unfold Bd at this⊢;rw[jT,Bg];exact this
 .rw[oW.mp hx];exact(Bd.of (n:=10) ∅ ∅).mono hu
end
end Pm
namespace Pm
open Rm
theorem iD(x:Int)(j:Nat):∀n:Nat,sm n (λi=>if i=j then x else 0)=if j<n then x else 0
 |0=>by simp[sm]
 |n+1=>by
  rw[sm,iD x j n];by_cases h:n=j
  .rw[if_pos h,if_neg ⋯,if_pos ⋯];lia
  .rw[if_neg h];by_cases h2:j<n
   .rw[if_pos h2,if_pos ⋯];lia
   .rw[if_neg h2,if_neg ⋯];lia
def jJ{b x y:Int}:tk b (x-y)=0↔tk b x=tk b y:=by
 constructor
 .intro h;have:=jk (b:=b) (x:=x-y) (x':=0) (y:=y) (y':=y) (by rw[h,tk0]) rfl
  rwa [(⋯:x-y+y=x),dj]at this
 .intro h;have:=jk (b:=b) (x:=x) (x':=y) (y:=-y) (y':=-y) h rfl;rw[(⋯:x + -y=x-y),(⋯:y + -y=0),tk0]at this;exact this
def Ey(f:Int)(s:Nat)(g:Nat->Int)(k:Nat):cv (λi=>if i=s then f else 0) g k=if s<=k then f*g (k-s)else 0:=by
 rw[gb];have e:sm (k+1) (λj=>(if j=s then f else 0)*g (k-j))=sm (k+1) (λj=>if j=s then f*g (k-s)else 0):=aJ λj _=>by
  by_cases h:j=s
  .rw[if_pos h,if_pos h,h]
  .rw[if_neg h,if_neg h,dF]
 rw[e,iD];by_cases h:s<=k
 .rw[if_pos h,if_pos ⋯]
 .rw[if_neg h,if_neg ⋯]
structure Mon(m:List Int):Prop where
 pos:0<m.length
 one:co m (m.length-1)=1
structure Div(b:Int)(p m q r:List Int):Prop where
 qy:Py b q
 ry:Py b r
 short:r.length<m.length
 eq:∀k,tk b (cv (co q) (co m) k+co r k)=tk b (co p k)
def Div.uniq{b:Int}{p m q r q' r':List Int}(hm:Mon m)(h:Div b p m q r)(h':Div b p m q' r'):q=q'/\r=r':=by
 have hp:=hm.pos;have e1:∀k,tk b (cv (λi=>co q i-co q' i) (co m) k+(co r k-co r' k))=0:=by
  intro k;have e2:cv (λi=>co q i-co q' i) (co m) k=cv (co q) (co m) k-cv (co q') (co m) k:=by
   have:=ni (co q) (λi=>-1*co q' i) (co m) k;rw[nW]at this;have e3:(λi=>co q i + -1*co q' i)=λi=>co q i-co q' i:=by funext i;lia
   rw[e3]at this;lia
  rw[e2,(⋯:cv (co q) (co m) k-cv (co q') (co m) k+(co r k-co r' k)=(cv (co q) (co m) k+co r k)-(cv (co q') (co m) k+co r' k)),jJ,h.eq,h'.eq]
 have e4:∀d j,q.length+q'.length<=j+d->tk b (co q j-co q' j)=0:=by
  intro d;induction d with
  |zero=>intro j hj;rw[bh ⋯,bh ⋯];exact tk0 b
  |succ d ih=>
   intro j hj;have e5:=e1 (j+(m.length-1));have hs:=h.short;have hs':=h'.short;rw[bh (p:=r) ⋯,bh (p:=r') ⋯,vR,cU,gb]at e5;rw[<-e5];have e6:tk b (sm (j+(m.length-1)+1) λi=>(co q i-co q' i)*co m (j+(m.length-1)-i))=tk b (sm (j+(m.length-1)+1) λi=>if i=j then co q j-co q' j else 0):=dZ λi hi=>by
    by_cases c:i=j
    .rw[if_pos c,c,(⋯:j+(m.length-1)-j=m.length-1),hm.one,iU]
    .rw[if_neg c];by_cases c2:i<j
     .rw[bh (p:=m) ⋯,aV]
     .rw[<-dU,ih i ⋯,dF]
   rw[e6,iD,if_pos ⋯]
 have eq:q=q':=h.qy.ext h'.qy λk=>jJ.mp (e4 (q.length+q'.length) k ⋯);refine⟨eq,h.ry.ext h'.ry λk=>?_⟩;have e7:=e1 k;rw[eq]at e7;have e8:(λi=>co q' i-co q' i)=λ_=>0:=by funext i;lia
 rw[e8,mL (λ_ _=> .inl rfl),dj]at e7;exact jJ.mp e7
structure rH(b:Int)(p m:List Int)(s:Nat)(o l:List Int):Prop where
 eq:∀k,tk b (cv (co o) (co m) k+co l k)=tk b (co p k)
 zero:∀k,s+(m.length-1)<=k->co l k=0
 low:∀k,k<s->co o k=0
 ol:o.length=p.length-(m.length-1)
 ll:l.length=p.length
 on:∀k,tk b (co o k)=co o k
 ln:∀k,tk b (co l k)=co l k
def rH.start{b:Int}{p m:List Int}(hp:∀k,tk b (co p k)=co p k):rH b p m (p.length-(m.length-1)) (aq (p.length-(m.length-1)) λ_=>0) p:=by
 have z:∀k,co (aq (p.length-(m.length-1)) λ_=>0) k=0:=λk=>by rw[bZ];split<;>rfl
 exact⟨λk=>by rw[mL λi _=> .inl (z i),dj],λk hk=>bh ⋯,λk _=>z k,aQ _ _,rfl,λk=>by rw[z,tk0],hp⟩
def lf(b f:Int)(s t:Nat)(l m:List Int)(k:Nat):Int:=if s<=k/\k<s+t then tk b (co l k-f*co m (k-s))else co l k
def aqh(b f:Int)(s:Nat)(l m:List Int)(k:Nat):lf b f s 0 l m k=co l k:=if_neg ⋯
def ai5(b f:Int)(s t:Nat)(l m:List Int)(k:Nat):lf b f s (t+1) l m k=if k=s+t then tk b (lf b f s t l m k-f*co m t)else lf b f s t l m k:=by
 unfold lf;by_cases h:k=s+t
 .rw[if_pos h,if_pos ⋯,if_neg ⋯,(⋯:k-s=t)]
 .rw[if_neg h];by_cases h2:s<=k/\k<s+t
  .rw[if_pos h2,if_pos ⋯]
  .rw[if_neg h2,if_neg ⋯]
def am0{b f:Int}{s:Nat}{l m:List Int}(hl:∀k,tk b (co l k)=co l k)(k:Nat):lf b f s m.length l m k=tk b (co l k-(if s<=k then f*co m (k-s)else 0)):=by
 unfold lf;by_cases h:s<=k
 .rw[if_pos h];by_cases h2:k<s+m.length
  .rw[if_pos ⟨h,h2⟩]
  .rw[if_neg ⋯,bh (p:=m) ⋯,aV,vR,hl]
 .rw[if_neg ⋯,if_neg h,vR,hl]
def rH.step{b:Int}{p m o l l':List Int}{s:Nat}(hm:Mon m)(h:rH b p m (s+1) o l)(hs:s<p.length-(m.length-1))(hl:l'.length=l.length)(e:∀k,co l' k=lf b (co l (s+(m.length-1))) s m.length l m k):
  rH b p m s (o.set s (co l (s+(m.length-1)))) l':=by
 have hp:=hm.pos;have ho:=h.ol;have eo:co (o.set s (co l (s+(m.length-1))))=λk=>co o k+(if k=s then co l (s+(m.length-1))else 0):=by
  funext k
  rw[vD _ _ _ _ ⋯];by_cases c:k=s
  .rw[if_pos c,if_pos c,c,h.low s ⋯,dj]
  .rw[if_neg c,if_neg c,cU]
 have el:∀k,co l' k=tk b (co l k-(if s<=k then co l (s+(m.length-1))*co m (k-s)else 0)):=λk=>by rw[e,am0 h.ln]
 refine⟨λk=>?_,λk hk=>?_,λk hk=>?_,by rw[nq,ho],by rw[hl,h.ll],λk=>?_,λk=>by rw[el,dO]⟩
 .rw[eo,ni (co o),Ey,el,sS,<-h.eq k];congr 1;lia
 .rw[el,if_pos ⋯];by_cases c:k=s+(m.length-1)
  .rw[c,(⋯:s+(m.length-1)-s=m.length-1),hm.one,iU,FZ,tk0]
  .rw[h.zero k ⋯,bh (p:=m) ⋯,aV,vR,tk0]
 .rw[eo];simp only;rw[h.low k ⋯,if_neg ⋯,cU]
 .rw[vD _ _ _ _ ⋯];split
  .exact h.ln _
  .exact h.on _
def rH.stop{b:Int}{p m o l:List Int}(hm:Mon m)(h:rH b p m 0 o l):Div b p m (trim o) (trim l):=by
 have hp:=hm.pos;have y:∀{x:List Int},(∀k,tk b (co x k)=co x k)->Py b (trim x):=λhx=>Py.of λz hz=>by
  obtain⟨k,hk,e⟩:=kW.mp hz;rw[<-e,<-jL hk];exact hx k
 refine⟨y h.on,y h.ln,?_,λk=>?_⟩
 .have:=RV (p:=l) (n:=m.length-1) λk hk=>h.zero k ⋯;lia
 .rw[qC,<-h.eq k];congr 2;exact qL (λi _=>qC _ _) (λ_ _=>rfl)
end Pm
namespace Pm
open Rm
section
variable {b:Int}{p q m r x g:List Int}{a:Nat->Int}
theorem agb(g:Nat->Int)(j:Nat):∀m:Nat,sm (j+m) (λk=>if j<=k then g (k-j)else 0)=sm m g
 |0=>by
  rw[BH];exact jA λk hk=>if_neg ⋯
 |m+1=>by
  rw[<-Vt,sm,sm,agb g j m,if_pos ⋯,Ep]
def vC(p:List Int)(a:Nat->Int)(n:Nat){N:Nat}(h:p.length<=N):sm N (λk=>co p k*a (n+k))=ks p a n:=
 lD h λk h1 _=>by rw[bh h1,dF]
def adv(h:∀k,tk b (co p k)=tk b (co q k))(n:Nat):tk b (ks p a n)=tk b (ks q a n):=by
 rw[<-vC p a n (afk p.length q.length),<-vC q a n (Ym p.length q.length)];exact dZ λk _=>by rw[<-dU,h k,dU]
def aeK(p q:List Int)(a:Nat->Int)(n:Nat):tk b (ks (add b p q) a n)=tk b (ks p a n+ks q a n):=by
 have hl:(add b p q).length<=max p.length q.length:=by
  have:=yI (aq (max p.length q.length) λk=>tk b (co p k+co q k))
  rwa [aQ]at this
 rw[<-vC _ a n hl,<-vC p a n (afk p.length q.length),<-vC q a n (Ym p.length q.length),<-eZ];exact dZ λk _=>by rw[K2,dU,uy]
def V2(p q:List Int)(a:Nat->Int)(n:Nat):tk b (ks (mul b p q) a n)=tk b (ks p (ks q a) n):=by
 have hl:(mul b p q).length<=p.length+q.length:=by
  have:=yI (aq (p.length+q.length) λk=>tk b (cv (co p) (co q) k))
  rwa [aQ]at this
 rw[<-vC _ a n hl];have e1:tk b (sm (p.length+q.length) λk=>co (mul b p q) k*a (n+k))=tk b (sm (p.length+q.length) λk=>sm p.length λj=>co p j*(if j<=k then co q (k-j)*a (n+k)else 0)):=dZ λk _=>by
  rw[qF,dU,<-N8 (m:=p.length) λj hj=>bh hj,W,if_neg ⋯,cU,bG,<-cj];congr 1;refine aJ λj _=>?_;by_cases h:j<=k
  .rw[if_pos h,if_pos h,bG,cP]
  .rw[if_neg h,if_neg h,aV,aV]
 rw[e1,pW];congr 1;refine aJ λj hj=>?_;rw[cj];congr 1;have e2:(λk=>if j<=k then co q (k-j)*a (n+k)else 0)=λk=>if j<=k then(λi=>co q i*a (n+j+i)) (k-j)else 0:=by
  funext k
  by_cases h:j<=k
  .rw[if_pos h,if_pos h];show _=co q (k-j)*a (n+j+(k-j));rw[(⋯:n+j+(k-j)=n+k)]
  .rw[if_neg h,if_neg h]
 rw[e2,(⋯:p.length+q.length=j+(p.length-j+q.length))];refine(agb (λi=>co q i*a (n+j+i)) j _).trans ?_;exact vC q a (n+j) ⋯
def aij(h:∀n,tk b (a n)=0)(n:Nat):tk b (ks p a n)=0:=by
 have:tk b (ks p a n)=tk b (sm p.length λ_=>0):=dZ λk _=>by rw[<-cD,h,aV]
 rw[this,oE,tk0]
def Kp(b:Int)(p:List Int)(a:Nat->Int):Prop:=∀n,tk b (ks p a n)=0
def Kp.DB(h:Kp b q a)(p:List Int):Kp b (mul b p q) a:=λn=>by rw[V2];exact aij h n
def Kp.aei(h:Kp b q a)(p:List Int):Kp b (mul b q p) a:=by rw[mul_comm];exact h.DB p
theorem Kp.add{b:Int}{p q:List Int}{a:Nat->Int}(h:Kp b p a)(h':Kp b q a):Kp b (add b p q) a:=λn=>by
 rw[aeK,<-gM,h n,<-sS,h' n];exact tk0 b
def Kp.congr(e:∀k,tk b (co p k)=tk b (co q k))(h:Kp b p a):Kp b q a:=λn=>by rw[<-adv e];exact h n
theorem Kp.aW{b:Int}{rule:List Int}{a:Nat->Int}(ha:∀n,rule.length<=n->tk b (a n)=tk b (S rule a n rule.length)):Kp b (aW b rule) a:=λn=>by
 unfold ks;rw[iT,sm];have e1:co (Pm.aW b rule) rule.length=1:=by
  rw[Pm.aW,gY,aQ,if_neg ⋯,kZ];rfl
 have e2:tk b (sm rule.length λk=>co (Pm.aW b rule) k*a (n+k))=tk b (sm rule.length λk=>-1*(co rule (rule.length-1-k)*a (n+k))):=dZ λk hk=>by
  rw[Pm.aW,gY,aQ,if_pos hk,bZ,if_pos hk,dU,jT,iI,Af]
 have e3:S rule a (n+rule.length) rule.length=sm rule.length λk=>co rule (rule.length-1-k)*a (n+k):=by
  rw[pH];have rev:∀(m:Nat) (f:Nat->Int),sm m f=sm m λk=>f (m-1-k):=by
   intro m;induction m with
   |zero=>intro f;rfl
   |succ m ih=>
    intro f;rw[jr,sm,ih λi=>f (i+1),nK];have:m+1-1-m=0:=⋯;rw[this];congr 1;exact aJ λk hk=>by rw[(⋯:m-1-k+1=m+1-1-k)]
  rw[rev];exact aJ λk hk=>by rw[(⋯:n+rule.length-1-(rule.length-1-k)=n+k)]
 rw[e1,fP,<-gM,e2,gM,cj,<-e3,<-sS,ha (n+rule.length) ⋯,sS,Af,Int.add_left_neg,tk0]
def Div.kp(h:Div b p m q r)(hm:Kp b m a):Kp b p a↔Kp b r a:=by
 have e:∀n,tk b (ks p a n)=tk b (ks r a n):=λn=>by
  have e1:∀k,tk b (co (Pm.add b (mul b q m) r) k)=tk b (co p k):=λk=>by rw[K2,qF,dO,gM];exact h.eq k
  rw[<-adv e1,aeK,<-gM,hm.DB q n,dj]
 exact⟨λz n=>by rw[<-e];exact z n,λz n=>by rw[e];exact z n⟩
def dB(b:Int)(p q x:List Int):Prop:=∃u v,∀k,tk b (co x k)=tk b (cv (co u) (co p) k+cv (co v) (co q) k)
def as7(p q:List Int)(k:Nat):co (add 0 p q) k=co p k+co q k:=by rw[K2,cJ]
def afJ(p q:List Int)(k:Nat):co (mul 0 p q) k=cv (co p) (co q) k:=by rw[qF,cJ]
def dB.left(b:Int)(p q:List Int):dB b p q p:=⟨[1],[],λk=>by
 rw[mL (f:=co []) λi _=> .inl (gP _),cU,gb,lD (m:=1) ⋯ λj h1 _=>by rw[show co [1] j=0 from bh (by simpa using h1),dF]];simp[sm,jh]⟩
def dB.swap(h:dB b p q x):dB b q p x:=by
 obtain⟨u,v,e⟩:=h;exact⟨v,u,λk=>by rw[e,nK]⟩
def dB.trans{s:List Int}(hg:dB b p q g)(hs:dB b p q s)(h:dB b g s x):dB b p q x:=by
 obtain⟨a,c,eg⟩:=hg;obtain⟨a',c',es⟩:=hs;obtain⟨u,v,e⟩:=h;refine⟨add 0 (mul 0 u a) (mul 0 v a'),add 0 (mul 0 u c) (mul 0 v c'),λk=>?_⟩;have e1:tk b (cv (co u) (co g) k)=tk b (cv (co u) (λi=>cv (co a) (co p) i+cv (co c) (co q) i) k):=iu (λ_ _=>rfl) λi _=>eg i;have e2:tk b (cv (co v) (co s) k)=tk b (cv (co v) (λi=>cv (co a') (co p) i+cv (co c') (co q) i) k):=iu (λ_ _=>rfl) λi _=>es i;rw[e,jk e1 e2];congr 1;have f1:∀y z:List Int,co (add 0 (mul 0 u y) (mul 0 v z))=λi=>cv (co u) (co y) i+cv (co v) (co z) i:=λy z=>by
  funext i;rw[as7,afJ,afJ]
 rw[f1,f1,ni (cv (co u) (co a)),ni (cv (co u) (co c)),RL,RL,gG,gG,gG,gG];lia
def dB.kp(h:dB b p q x)(hp:Kp b p a)(hq:Kp b q a):Kp b x a:=by
 obtain⟨u,v,e⟩:=h;refine((hp.DB u).add (hq.DB v)).congr λk=>?_;rw[K2,qF,qF,dO,gM,sS,e]
def Div.in1(h:Div b p m q r):dB b m r p:=by
 refine⟨q,[1],λk=>?_⟩;obtain⟨u,v,e⟩:=dB.left b r [];rw[<-h.eq k];have:cv (co [1]) (co r) k=co r k:=by
  rw[gb,lD (m:=1) ⋯ λj h1 _=>by rw[show co [1] j=0 from bh (by simpa using h1),dF]];simp[sm,jh]
 rw[this]
def Div.in2(h:Div b p m q r):dB b p m r:=by
 refine⟨[1],q.map (-1 * ·),λk=>?_⟩;have e1:cv (co [1]) (co p) k=co p k:=by
  rw[gb,lD (m:=1) ⋯ λj h1 _=>by rw[show co [1] j=0 from bh (by simpa using h1),dF]];simp[sm,jh]
 have e2:co (q.map (-1 * ·))=λi=>-1*co q i:=by funext i;rw[jF (by simp)]
 rw[e1,e2,nW];have:=jk (h.eq k) (rfl:tk b (-1*cv (co q) (co m) k)=tk b (-1*cv (co q) (co m) k));rw[<-this];congr 1;lia
structure Gcd(b:Int)(p q g:List Int):Prop where
 py:Py b g
 mon:Mon g
 sum:dB b p q g
 one:dB b g [] p
 two:dB b g [] q
def dB.dv(h:dB b g [] p):∃u,∀k,tk b (co p k)=tk b (cv (co u) (co g) k):=by
 obtain⟨u,v,e⟩:=h;exact⟨u,λk=>by rw[e,mL (g:=co []) λi _=> .inr (gP _),cU]⟩
end
end Pm
namespace Pm
open Rm
section
variable {p q g s:List Int}{b:Int}
def Yj(h:p≠[]):p=p.dropLast++[co p (p.length-1)]:=by
 have hp:0<p.length:=Bv.mpr h
 conv=>lhs;rw[<-List.dropLast_concat_getLast h]
 congr 2;rw[jL ⋯,List.getLast_eq_getElem]
def E5(h:p≠[])(h0:co p (p.length-1)≠0):trim p=p:=by
 have e:=Yj h;rw[e,Ol _ h0]
def kJ(h:p≠[])(ht:trim p=p):co p (p.length-1)≠0:=by
 intro z;have e:=Yj h;rw[z]at e;have e2:trim p=trim p.dropLast:=by
  conv=>lhs;rw[e]
  exact aeY _
 have:=yI p.dropLast;rw[<-e2,ht,List.length_dropLast]at this;have hp:0<p.length:=Bv.mpr h;lia
structure u9(b:Int)(p m:List Int):Prop where
 py:Py b m
 len:m.length=p.length
 mon:p≠[]->Mon m
 to:∃c,∀k,tk b (co m k)=tk b (c*co p k)
 of:∃c,∀k,tk b (co p k)=tk b (c*co m k)
def dB.scale{m:List Int}(h:∃c,∀k,tk b (co m k)=tk b (c*co p k))(q:List Int):dB b p q m:=by
 obtain⟨c,e⟩:=h;refine⟨[c],[],λk=>?_⟩;rw[mL (f:=co []) λi _=> .inl (gP _),cU,e,gb,lD (m:=1) ⋯ λj h1 _=>by rw[show co [c] j=0 from bh (by simpa using h1),dF]];simp[sm,jh]
theorem u9.nil(b:Int):u9 b [] []:=⟨Py.nil b,rfl,λh=>absurd rfl h,⟨0,λk=>by rw[gP,dF]⟩,⟨0,λk=>by rw[gP,dF]⟩⟩
def jV(P:Nat)(p:List Int):List Int:=p.map λx=>x*(co p (p.length-1))^(P-2)%(P:Int)
def axa{P:Nat}(hP:P∈Om.mj)(h2:2<=P){p:List Int}(hp:Py P p)(hn:p≠[]):u9 P p (jV P p):=by
 have hpos:0<p.length:=Bv.mpr hn;have qR:(P:Int)≠0:=⋯;have eX:∀n,tk (P:Int) n=n%(P:Int):=λn=>iz qR n;have l0:=kJ hn hp.tr;have l1:=hp.co (p.length-1);rw[eX]at l1;have r0:0<=co p (p.length-1):=by rw[<-l1];exact oM _ qR
 have r1:co p (p.length-1)<(P:Int):=by rw[<-l1];exact oH _ ⋯
 generalize hl:co p (p.length-1)=a at l0 r0 r1;have hinv:(a^(P-2)*a)%(P:Int)=1:=by
  rw[<-jy,(⋯:(P-2).succ=P-1)];exact Om.xM rfl hP ⋯ r1
 have e:∀k,co (jV P p) k=co p k*a^(P-2)%(P:Int):=λk=>by
  rw[jV,jF (by simp),hl]
 have len:(jV P p).length=p.length:=by rw[jV,aK]
 have top:co (jV P p) ((jV P p).length-1)=1:=by
  rw[len,e,hl,bG];exact hinv
 have hm:jV P p≠[]:=λz=>by rw[z]at len;simp at len;lia
 refine⟨⟨E5 hm (by rw[top];decide),λx hx=>?_⟩,len,λ_=>⟨⋯,top⟩,⟨a^(P-2),λk=>?_⟩,⟨a,λk=>?_⟩⟩
 .obtain⟨y,_,rfl⟩:=fQ.mp hx;rw[eX];exact jK _ (jQ _)
 .rw[e,eX,eX,jK _ (jQ _),bG]
 .rw[e,eX,eX,jC a,jK _ (jQ _),<-jC,fW a,bG a,jC,hinv];rw[iU,jK _ (jQ _)]
structure vm(b:Int)(p q g s:List Int):Prop where
 gy:Py b g
 sy:Py b s
 gm:g≠[]->Mon g
 ZS:s≠[]->Mon s
 some:s=[]->g≠[]
 gi:dB b p q g
 si:dB b p q s
 pi:dB b g s p
 qi:dB b g s q
def vm.start(hg:u9 b p g)(hs:u9 b q s)(h:q=[]->p≠[]):vm b p q g s:=by
 have lg:=hg.len;have ls:=hs.len;have pn:g≠[]->p≠[]:=λz e=>z (vY (by rw[lg,e];rfl));have qn:s≠[]->q≠[]:=λz e=>z (vY (by rw[ls,e];rfl));refine⟨hg.py,hs.py,λz=>hg.mon (pn z),λz=>hs.mon (qn z),λz e=>?_,dB.scale hg.to q,(dB.scale hs.to p).swap,dB.scale hg.of s,(dB.scale hs.of g).swap⟩;have q0:q=[]:=vY (by rw[<-ls,z];rfl);exact h q0 (vY (by rw[<-lg,e];rfl))
def vm.step{b:Int}{p q g s o l m:List Int}(h:vm b p q g s)(hs:s≠[])(d:Div b g s o l)(hm:u9 b l m):vm b p q s m:=by
 have lm:=hm.len;have ln:m≠[]->l≠[]:=λz e=>z (vY (by rw[lm,e];rfl));have li:dB b p q l:=h.gi.trans h.si d.in2;have gs:dB b s m g:=(dB.left b s m).trans (dB.scale hm.of s).swap d.in1;refine⟨h.sy,hm.py,h.ZS,λz=>hm.mon (ln z),λ_=>hs,h.si,li.trans li (dB.scale hm.to l),?_,?_⟩
 .exact gs.trans (dB.left b s m) h.pi
 .exact gs.trans (dB.left b s m) h.qi
def vm.stop(h:vm b p q g s)(hs:s=[]):Gcd b p q g:=by
 subst hs;exact⟨h.gy,h.gm (h.some rfl),h.gi,h.pi,h.qi⟩
end
end Pm
namespace Pm
open Rm
section
variable {b:Int}{w rule:List Int}{a:Nat->Int}
def Ru{p:List Int}{k:Nat}(h:co p k≠0):k<p.length:=by
 by_cases c:k<p.length
 .exact c
 .exact absurd (bh ⋯) h
def W2(hb:tk b 1=1){p q:List Int}(hp:Mon p)(hq:Mon q):Mon (mul b p q)/\(mul b p q).length=p.length+q.length-1:=by
 have h1:=hp.pos;have h2:=hq.pos;have e:co (mul b p q) (p.length+q.length-2)=1:=by
  rw[qF,gb];have:sm (p.length+q.length-2+1) (λj=>co p j*co q (p.length+q.length-2-j))=sm (p.length+q.length-2+1) (λj=>if j=p.length-1 then 1 else 0):=aJ λj hj=>by
   by_cases c:j=p.length-1
   .rw[if_pos c,c,hp.one,(⋯:p.length+q.length-2-(p.length-1)=q.length-1),hq.one];rfl
   .rw[if_neg c];by_cases c2:j<p.length-1
    .rw[bh (p:=q) ⋯,aV]
    .rw[bh (p:=p) ⋯,dF]
  rw[this,iD,if_pos ⋯,hb]
 have l1:=Ru (p:=mul b p q) (k:=p.length+q.length-2) (by rw[e];decide);have l2:(mul b p q).length<=p.length+q.length-1:=by
  refine RV λk hk=>?_;rw[bZ];split
  .rw[mL λi hi=>?_,tk0];by_cases c:i<p.length
   .exact .inr (bh ⋯)
   .exact .inl (bh ⋯)
  .rfl
 have l3:(mul b p q).length=p.length+q.length-1:=⋯;exact⟨⟨⋯,by rw[l3,(⋯:p.length+q.length-1-1=p.length+q.length-2)];exact e⟩,l3⟩
def uW(b:Int)(c:List Int):Mon (aW b c):=⟨by rw[iT];lia,by
 rw[iT,aW,gY,aQ,if_neg ⋯,(⋯:c.length+1-1-c.length=0)];rfl⟩
def tY(b:Int)(p:List Int):(eE b p).length=p.length-1:=by rw[eE,aQ]
def M9(hw:∀k,tk b (co w k)=co w k)(hm:Mon w):aW b (eE b w)=w:=by
 have hp:=hm.pos;refine nG (by rw[iT,tY];lia) λk=>?_;rw[aW,gY,aQ,tY];by_cases h:k<w.length-1
 .rw[if_pos h,bZ,if_pos h,eE,bZ,if_pos ⋯,Q9,(⋯:w.length-1-1-(w.length-1-1-k)=k),hw]
 .rw[if_neg h];by_cases c:k=w.length-1
  .rw[c,kZ,hm.one];rfl
  .rw[bh (p:=w) ⋯,bh];simp;lia
def axy(n:Nat):tk b (ks (aW b rule) a n)=tk b (a (n+rule.length)-S rule a (n+rule.length) rule.length):=by
 unfold ks;rw[iT,sm];have e1:co (aW b rule) rule.length=1:=by
  rw[aW,gY,aQ,if_neg ⋯,kZ];rfl
 have e2:tk b (sm rule.length λk=>co (aW b rule) k*a (n+k))=tk b (sm rule.length λk=>-1*(co rule (rule.length-1-k)*a (n+k))):=dZ λk hk=>by
  rw[aW,gY,aQ,if_pos hk,bZ,if_pos hk,dU,jT,iI,Af]
 have e3:S rule a (n+rule.length) rule.length=sm rule.length λk=>co rule (rule.length-1-k)*a (n+k):=by
  rw[pH];have rev:∀(m:Nat) (f:Nat->Int),sm m f=sm m λk=>f (m-1-k):=by
   intro m;induction m with
   |zero=>intro f;rfl
   |succ m ih=>
    intro f;rw[jr,sm,ih λi=>f (i+1),nK];have:m+1-1-m=0:=⋯;rw[this];congr 1;exact aJ λk hk=>by rw[(⋯:m-1-k+1=m+1-1-k)]
  rw[rev];exact aJ λk hk=>by rw[(⋯:n+rule.length-1-(rule.length-1-k)=n+k)]
 rw[e1,fP,<-gM,e2,gM,cj,<-e3];congr 1;lia
def Kp.rec(h:Kp b (Pm.aW b rule) a):∀n,rule.length<=n->tk b (a n)=tk b (S rule a n rule.length):=λn hn=>by
 have:=h (n-rule.length);rw[axy,(⋯:n-rule.length+rule.length=n)]at this;exact jJ.mp this
def Qs(hw:∀k,tk b (co w k)=co w k)(hm:Mon w)(hk:Kp b w a)(ha:∀n,tk b (a n)=a n){starts:List Int}(hl:starts.length=w.length-1)(hs:∀i,i<starts.length->starts.getD i 0=a i)(n:Nat):
  at_ b (eE b w) starts n=a n:=by
 have lr:=tY b w;rw[<-M9 hw hm]at hk;refine B5 ⋯ (g:=a) (λi hi=>(hs i hi).symm) (λi hi=>?_) n;rw[<-ha i];exact hk.rec i ⋯
end
end Pm
namespace Dm
open Pm
section
variable {f:Nat->Nat->Int}{j c n a b:Nat}
def sg(m:Nat):Int:=if m%2=0 then 1 else -1
def AJ(m:Nat):sg (m+1)=-sg m:=by
 unfold sg;by_cases h:m%2=0
 .rw[if_pos h,if_neg ⋯]
 .rw[if_neg h,if_pos ⋯];rfl
def J6(m n:Nat):sg (m+n)=sg m*sg n:=by
 induction n with
 |zero=>simp[sg]
 |succ n ih=>rw[<-Vt,AJ,AJ,ih,tX]
def Wd(m:Nat):sg m*sg m=1:=by
 unfold sg;split<;>rfl
def sk(c k:Nat):Nat:=if k<c then k else k+1
def apu(c k:Nat):sk c k≠c:=by unfold sk;split<;>lia
def det:Nat->(Nat->Nat->Int)->Int
 |0,_=>1
 |n+1,f=>sm (n+1) λc=>sg (n+c)*f n c*det n λi k=>f i (sk c k)
theorem iy:∀{n:Nat} {f g:Nat->Nat->Int},(∀i k,i<n->k<n->f i k=g i k)->det n f=det n g
 |0,_,_,_=>rfl
 |n+1,f,g,h=>by
  unfold det;refine aJ λc hc=>?_;rw[h n c ⋯ hc,iy λi k hi hk=>h i (sk c k) ⋯ (by unfold sk;split<;>lia)]
def cB(f:Nat->Nat->Int)(j:Nat)(u:Nat->Int):Nat->Nat->Int:=λi k=>if k=j then u i else f i k
def eY(f:Nat->Nat->Int)(j:Nat)(u:Nat->Int):Nat->Nat->Int:=λi k=>if i=j then u k else f i k
def oh(f:Nat->Nat->Int)(j:Nat)(u:Nat->Int)(i:Nat):cB f j u i j=u i:=if_pos rfl
def oR{k:Nat}{u:Nat->Int}{i:Nat}(h:k≠j):cB f j u i k=f i k:=if_neg h
def arN(h:c≠j):∃j',sk c j'=j/\(∀k,sk c k=j->k=j'):=by
 refine⟨if j<c then j else j-1,?_,λk hk=>?_⟩
 .unfold sk;split<;>(try split)<;>lia
 .unfold sk at hk;split at hk<;>split<;>lia
def azW(f:Nat->Nat->Int)(u:Nat->Int)(h:c≠j)(hc:c<n+1)(hj:j<n+1):∃j',j'<n/\∀u,(λi k=>cB f j u i (sk c k))=cB (λi k=>f i (sk c k)) j' u:=by
 obtain⟨j',e1,e2⟩:=arN h;refine⟨j',?_,λu=>?_⟩
 .unfold sk at e1;split at e1<;>lia
 .funext i k
  unfold cB;by_cases z:k=j'
  .rw[if_pos z,if_pos (by rw[z,e1])]
  .rw[if_neg z,if_neg λw=>z (e2 k w)]
theorem uX:∀{n:Nat} (f:Nat->Nat->Int) {j:Nat} (_:j<n) (a:Int) (u v:Nat->Int),det n (cB f j λi=>a*u i+v i)=a*det n (cB f j u)+det n (cB f j v)
 |0,_,_,h,_,_,_=>absurd h (kj _)
 |n+1,f,j,hj,a,u,v=>by
  unfold det;rw[<-cj,<-eZ];refine aJ λc hc=>?_;by_cases e:c=j
  .subst e;have m:∀w,(λi k=>cB f c w i (sk c k))=λi k=>f i (sk c k):=λw=>by funext i k;exact oR (apu c k)
   rw[m,m,m,oh,oh,oh];rw[nY,uy];congr 1;rw[show sg (n+c)*(a*u n)=a*(sg (n+c)*u n)from fW ..,cP a]
  .obtain⟨j',hj',m⟩:=azW f u e hc hj;rw[m,m,m,uX _ hj',oR e,oR e,oR e,nY];congr 1;exact fW ..
theorem Hh:∀{n:Nat} {f:Nat->Nat->Int} {j:Nat},j+1<n->(∀i,i<n->f i j=f i (j+1))->det n f=0
 |0,_,_,h,_=>absurd h (kj _)
 |n+1,f,j,hj,h=>by
  unfold det;have e:sm (n+1) (λc=>sg (n+c)*f n c*det n λi k=>f i (sk c k))=sm (n+1) (λc=>(if c=j then sg (n+j)*f n j*det n (λi k=>f i (sk j k))else 0)+(if c=j+1 then -(sg (n+j)*f n j*det n (λi k=>f i (sk j k)))else 0)):=aJ λc hc=>by
   by_cases e1:c=j
   .rw[if_pos e1,if_neg ⋯,e1,cU]
   .by_cases e2:c=j+1
    .rw[if_neg e1,if_pos e2,e2,dj,<-h n ⋯,(⋯:n+(j+1)=n+j+1),AJ];have:det n (λi k=>f i (sk (j+1) k))=det n (λi k=>f i (sk j k)):=iy λi k hi hk=>by
      by_cases z:k=j
      .subst z;rw[show sk (k+1) k=k by unfold sk;rw[if_pos ⋯],show sk k k=k+1 by unfold sk;rw[if_neg ⋯],h i ⋯]
      .rw[show sk (j+1) k=sk j k by unfold sk;split<;>split<;>lia]
     rw[this,iI,iI]
    .rw[if_neg e1,if_neg e2,cU];have:det n (λi k=>f i (sk c k))=0:=by
      by_cases z:j+1<c
      .exact Hh (j:=j) ⋯ λi hi=>by rw[show sk c j=j by unfold sk;rw[if_pos ⋯],show sk c (j+1)=j+1 by unfold sk;rw[if_pos ⋯]];exact h i ⋯
      .exact Hh (j:=j-1) ⋯ λi hi=>by rw[show sk c (j-1)=j by unfold sk;rw[if_neg ⋯];lia,show sk c (j-1+1)=j+1 by unfold sk;rw[if_neg ⋯];lia];exact h i ⋯
     rw[this,aV]
  rw[e,eZ];have s1:∀(x:Int) (t N:Nat),t<N->sm N (λc=>if c=t then x else 0)=x:=λx t N ht=>by rw[iD,if_pos ht]
  rw[s1 _ _ _ ⋯,s1 _ _ _ hj];lia
def sw(j i:Nat):Nat:=if i=j then j+1 else if i=j+1 then j else i
def BJ(f:Nat->Nat->Int)(j:Nat):cB f j (λi=>f i j)=f:=by
 funext i k;unfold cB;split
 .rename_i h;rw[h]
 .rfl
def akk(f:Nat->Nat->Int){j:Nat}(hj:j+1<n):det n (λi k=>f i (sw j k))=-det n f:=by
 let D:=λ(x y:Nat->Int)=>det n (cB (cB f j x) (j+1) y)
 have z:∀x,D x x=0:=λx=>Hh hj λi _=>by
  rw[oR ⋯,oh,oh]
 have l2:∀x y y',D x (λi=>1*y i+y' i)=1*D x y+D x y':=λx y y'=>uX _ hj 1 y y';have cm:∀x y,cB (cB f j x) (j+1) y=cB (cB f (j+1) y) j x:=λx y=>by
  funext i k;unfold cB;split<;>(try split)<;>first|rfl|lia
 have l1:∀x x' y,D (λi=>1*x i+x' i) y=1*D x y+D x' y:=λx x' y=>by
  show det n _=1*det n _+det n _;rw[cm,cm,cm];exact uX _ ⋯ 1 x x'
 have a:=z λi=>1*f i j+f i (j+1);rw[l1,l2,l2,z,z]at a;have e1:D (λi=>f i j) (λi=>f i (j+1))=det n f:=by
  show det n _=_;rw[BJ f j,BJ]
 have e2:D (λi=>f i (j+1)) (λi=>f i j)=det n (λi k=>f i (sw j k)):=iy λi k _ _=>by
  unfold cB sw;by_cases c1:k=j+1
  .rw[if_pos c1,if_neg ⋯,if_pos c1]
  .rw[if_neg c1];by_cases c2:k=j
   .rw[if_pos c2,if_pos c2]
   .rw[if_neg c2,if_neg c2,if_neg c1]
 rw[e1,e2]at a;lia
def mv(h m k:Nat):Nat:=if k<h then k else if k<m then k+1 else if k=m then h else k
def aft{h m:Nat}(hm:h<m)(k:Nat):mv h m k=sw h (mv (h+1) m k):=by
 unfold mv sw
 repeat' split
 all_goals lia
theorem Wr{n:Nat}:∀(d:Nat) (f:Nat->Nat->Int) {h m:Nat},m=h+d->m<n->det n (λi k=>f i (mv h m k))=sg d*det n f
 |0,f,h,m,e,hm=>by
  have:det n (λi k=>f i (mv h m k))=det n f:=iy λi k _ _=>by
   rw[show mv h m k=k by unfold mv;split<;>(try split)<;>(try split)<;>lia]
  rw[this];simp[sg]
 |d+1,f,h,m,e,hm=>by
  have e1:(λi k=>f i (mv h m k))=λi k=>(λi k=>f i (sw h k)) i (mv (h+1) m k):=by
   funext i k;rw[aft ⋯]
  rw[e1,Wr d (λi k=>f i (sw h k)) ⋯ hm,akk f ⋯,AJ,tX,iI]
def uL(hab:a<b)(hb:b<n)(h:∀i,i<n->f i a=f i b):det n f=0:=by
 have e:=Wr (n:=n) (b-1-a) f (h:=a) (m:=b-1) ⋯ ⋯;have z:det n (λi k=>f i (mv a (b-1) k))=0:=Hh (j:=b-1) ⋯ λi hi=>by
  rw[show mv a (b-1) (b-1)=a by unfold mv;rw[if_neg ⋯,if_neg ⋯,if_pos rfl],show mv a (b-1) (b-1+1)=b by unfold mv;rw[if_neg ⋯,if_neg ⋯,if_neg ⋯];lia];exact h i hi
 rw[z]at e;have s:=Wd (b-1-a);have:sg (b-1-a)*(sg (b-1-a)*det n f)=det n f:=by rw[<-cP,s,fP]
 rw[<-e,aV]at this;exact this.symm
theorem Eu:∀{n:Nat} (f:Nat->Nat->Int) {j:Nat} (_:j<n) (a:Int) (u v:Nat->Int),det n (eY f j λi=>a*u i+v i)=a*det n (eY f j u)+det n (eY f j v)
 |0,_,_,h,_,_,_=>absurd h (kj _)
 |n+1,f,j,hj,a,u,v=>by
  unfold det;rw[<-cj,<-eZ];refine aJ λc hc=>?_;by_cases e:j=n
  .subst e;have m:∀w,det j (λi k=>eY f j w i (sk c k))=det j (λi k=>f i (sk c k)):=λw=>iy λi k hi _=>if_neg ⋯;rw[m,m,m];show sg (j+c)*(if j=j then _ else _)*_=a*(sg (j+c)*(if j=j then _ else _)*_)+sg (j+c)*(if j=j then _ else _)*_;rw[if_pos rfl,if_pos rfl,if_pos rfl,nY,uy];congr 1;rw[show sg (j+c)*(a*u c)=a*(sg (j+c)*u c)from fW ..,cP a]
  .have m:∀w:Nat->Int,(λi k=>eY f j w i (sk c k))=eY (λi k=>f i (sk c k)) j λk=>w (sk c k):=λw=>by funext i k;rfl
   have r:∀w:Nat->Int,eY f j w n c=f n c:=λw=>if_neg (λz=>e z.symm);rw[m,m,m,r,r,r,Eu (λi k=>f i (sk c k)) ⋯ a (λk=>u (sk c k)) (λk=>v (sk c k)),nY];congr 1;exact fW ..
theorem tri(T:Nat->Nat->Int):∀N:Nat,sm (N+1) (λc=>sm N (λc'=>T c c'))=sm (N+1) (λb=>sm b (λa=>T b a+T a (b-1)))
 |0=>by simp[sm]
 |N+1=>by
  have ih:=tri T N;rw[sm,show(λc=>sm (N+1) λc'=>T c c')=λc=>sm N (λc'=>T c c')+T c N from rfl,eZ,ih]
  conv=>rhs;rw[sm]
  rw[eZ,fu];have e:(λc'=>T (N+1) c')=T (N+1):=rfl;rw[e];lia
def avV(h:a<b)(k:Nat):sk b (sk a k)=sk a (sk (b-1) k):=by
 unfold sk
 repeat' split
 all_goals lia
theorem PK:∀{n:Nat} {f:Nat->Nat->Int} {j:Nat},j+1<n->(∀k,k<n->f j k=f (j+1) k)->det n f=0
 |0,_,_,h,_=>absurd h (kj _)
 |1,_,_,h,_=>absurd h ⋯
 |n+2,f,j,hj,h=>by
  by_cases e:j=n
  .subst e;have e1:det (j+2) f=sm (j+1+1) λc=>sm (j+1) λc'=>sg (j+1+c)*f (j+1) c*(sg (j+c')*f j (sk c c')*det j λi k=>f i (sk c (sk c' k))):=by
    show sm (j+1+1) _=_;refine aJ λc _=>?_;rw[show det (j+1) (λi k=>f i (sk c k))=sm (j+1) λc'=>sg (j+c')*f j (sk c c')*det j λi k=>f i (sk c (sk c' k))from rfl,<-cj]
   rw[e1,tri];refine jA λb hb=>jA λa ha=>?_;have f1:sk b a=a:=by unfold sk;rw[if_pos ha]
   have f2:sk a (b-1)=b:=by unfold sk;rw[if_neg ⋯];lia
   have f3:(λi k=>f i (sk b (sk a k)))=λi k=>f i (sk a (sk (b-1) k)):=by funext i k;rw[avV ha]
   rw[f1,f2,f3,<-h b ⋯,<-h a ⋯];have s1:sg (j+1+b)*sg (j+a)=-(sg (j+1+a)*sg (j+(b-1))):=by
    rw[<-J6,<-J6,<-AJ];unfold sg;rw[(⋯:(j+1+b+(j+a))%2=(j+1+a+(j+(b-1))+1)%2)]
   generalize det j (λi k=>f i (sk a (sk (b-1) k)))=M;have t1:sg (j+1+b)*f j b*(sg (j+a)*f j a*M)=(sg (j+1+b)*sg (j+a))*(f j b*f j a*M):=by
    simp only[cP,fW]
   have t2:sg (j+1+a)*f j a*(sg (j+(b-1))*f j b*M)=(sg (j+1+a)*sg (j+(b-1)))*(f j b*f j a*M):=by
    simp only[cP,fW]
   rw[t1,t2,s1,iI];lia
  .unfold det;refine jA λc hc=>?_;rw[PK (n:=n+1) (j:=j) ⋯ λk hk=>h (sk c k) (by unfold sk;split<;>lia),aV]
def KN(f:Nat->Nat->Int)(j:Nat):eY f j (f j)=f:=by
 funext i k;unfold eY;split
 .rename_i h;rw[h]
 .rfl
def avD(f:Nat->Nat->Int){j:Nat}(hj:j+1<n):det n (λi k=>f (sw j i) k)=-det n f:=by
 let D:=λ(x y:Nat->Int)=>det n (eY (eY f j x) (j+1) y)
 have z:∀x,D x x=0:=λx=>PK hj λk _=>by
  show(if j=j+1 then x k else if j=j then x k else f j k)=(if j+1=j+1 then x k else _);rw[if_neg ⋯,if_pos rfl,if_pos rfl]
 have l2:∀x y y',D x (λi=>1*y i+y' i)=1*D x y+D x y':=λx y y'=>Eu _ hj 1 y y';have cm:∀x y,eY (eY f j x) (j+1) y=eY (eY f (j+1) y) j x:=λx y=>by
  funext i k;unfold eY;split<;>(try split)<;>first|rfl|lia
 have l1:∀x x' y,D (λi=>1*x i+x' i) y=1*D x y+D x' y:=λx x' y=>by
  show det n _=1*det n _+det n _;rw[cm,cm,cm];exact Eu _ ⋯ 1 x x'
 have a:=z λi=>1*f j i+f (j+1) i;rw[l1,l2,l2,z,z]at a;have e1:D (λi=>f j i) (λi=>f (j+1) i)=det n f:=by
  show det n _=_;rw[KN f j,KN]
 have e2:D (λi=>f (j+1) i) (λi=>f j i)=det n (λi k=>f (sw j i) k):=iy λi k _ _=>by
  unfold eY sw;by_cases c1:i=j+1
  .rw[if_pos c1,if_neg ⋯,if_pos c1]
  .rw[if_neg c1];by_cases c2:i=j
   .rw[if_pos c2,if_pos c2]
   .rw[if_neg c2,if_neg c2,if_neg c1]
 rw[e1,e2]at a;lia
theorem UW{n:Nat}:∀(d:Nat) (f:Nat->Nat->Int) {h m:Nat},m=h+d->m<n->det n (λi k=>f (mv h m i) k)=sg d*det n f
 |0,f,h,m,e,hm=>by
  have:det n (λi k=>f (mv h m i) k)=det n f:=iy λi k _ _=>by
   rw[show mv h m i=i by unfold mv;split<;>(try split)<;>(try split)<;>lia]
  rw[this];simp[sg]
 |d+1,f,h,m,e,hm=>by
  have e1:(λi k=>f (mv h m i) k)=λi k=>(λi k=>f (sw h i) k) (mv (h+1) m i) k:=by
   funext i k;rw[aft ⋯]
  rw[e1,UW d (λi k=>f (sw h i) k) ⋯ hm,avD f ⋯,AJ,tX,iI]
def aeJ(hab:a<b)(hb:b<n)(h:∀k,k<n->f a k=f b k):det n f=0:=by
 have e:=UW (n:=n) (b-1-a) f (h:=a) (m:=b-1) ⋯ ⋯;have z:det n (λi k=>f (mv a (b-1) i) k)=0:=PK (j:=b-1) ⋯ λk hk=>by
  rw[show mv a (b-1) (b-1)=a by unfold mv;rw[if_neg ⋯,if_neg ⋯,if_pos rfl],show mv a (b-1) (b-1+1)=b by unfold mv;rw[if_neg ⋯,if_neg ⋯,if_neg ⋯];lia];exact h k hk
 rw[z]at e;have s:=Wd (b-1-a);have:sg (b-1-a)*(sg (b-1-a)*det n f)=det n f:=by rw[<-cP,s,fP]
 rw[<-e,aV]at this;exact this.symm
def aiQ(n:Nat)(f:Nat->Nat->Int):det (n+1) f=sm (n+1) λc=>sg c*f 0 c*det n λi k=>f (i+1) (sk c k):=by
 have e:=UW (n:=n+1) n f (h:=0) (m:=n) ⋯ ⋯;have e1:det (n+1) (λi k=>f (mv 0 n i) k)=sg n*sm (n+1) λc=>sg c*f 0 c*det n λi k=>f (i+1) (sk c k):=by
  rw[<-cj];show sm (n+1) _=_;refine aJ λc _=>?_;have m:det n (λi k=>f (mv 0 n i) (sk c k))=det n λi k=>f (i+1) (sk c k):=iy λi k hi _=>by
   rw[show mv 0 n i=i+1 by unfold mv;rw[if_neg ⋯,if_pos hi]]
  have z0:mv 0 n n=0:=by unfold mv;rw[if_neg ⋯,if_neg ⋯,if_pos rfl]
  show sg (n+c)*f (mv 0 n n) c*det n (λi k=>f (mv 0 n i) (sk c k))=_;rw[m,z0,J6];simp only[cP]
 have s:=Wd n;have:sg n*(sg n*det (n+1) f)=det (n+1) f:=by rw[<-cP,s,fP]
 rw[<-e,e1,<-cP,s,fP]at this;exact this.symm
def adL(f:Nat->Nat->Int){a b:Nat}(hab:a<b)(hb:b<n):det n (eY (eY f a (f b)) b λk=>-1*f a k+0)=det n f:=by
 let D:=λ(x y:Nat->Int)=>det n (eY (eY f a x) b y)
 have z:∀x,D x x=0:=λx=>aeJ hab hb λk _=>by
  show(if a=b then x k else if a=a then x k else f a k)=(if b=b then x k else _);rw[if_neg ⋯,if_pos rfl,if_pos rfl]
 have l2:∀(c:Int) x y y',D x (λi=>c*y i+y' i)=c*D x y+D x y':=λc x y y'=>Eu _ hb c y y';have cm:∀x y,eY (eY f a x) b y=eY (eY f b y) a x:=λx y=>by
  funext i k;unfold eY;split<;>(try split)<;>first|rfl|lia
 have l1:∀x x' y,D (λi=>1*x i+x' i) y=1*D x y+D x' y:=λx x' y=>by
  show det n _=1*det n _+det n _;rw[cm,cm,cm];exact Eu _ ⋯ 1 x x'
 have q:=z λi=>1*f a i+f b i;rw[l1,l2,l2,z,z]at q;have e1:D (f a) (f b)=det n f:=by
  show det n _=_;rw[KN f a,KN]
 have e3:D (f b) (λk=>-1*f a k+0)=-1*D (f b) (f a)+D (f b) (λ_=>0):=l2 (-1) (f b) (f a) (λ_=>0);have e4:D (f b) (λ_=>0)=0:=by
  have:=l2 0 (f b) (λ_=>0) (λ_=>0);have e5:=l2 (-1) (f b) (λ_=>0) (λ_=>0);simp only[aV,cU]at e5;lia
 show D (f b) (λk=>-1*f a k+0)=_;rw[e3,e4];have e6:D (λi=>f a i) (λi=>f b i)=det n f:=e1;have e7:D (λi=>f b i) (λi=>f a i)=D (f b) (f a):=rfl;rw[e6,e7]at q;lia
end
end Dm
namespace Dm
open Pm
section
variable {n r i c:Nat}{A:Nat->Nat->Int}{hd:Nat->Nat}
def B3(f:Nat->Nat->Int){j:Nat}(hj:j<n):det n (cB f j λ_=>0)=0:=by
 have e:=uX f hj (-1) (λ_=>0) (λ_=>0);simp only[aV,cU]at e;lia
theorem Bh{n:Nat}(f:Nat->Nat->Int){j:Nat}(hj:j<n)(x:Nat->Int)(u:Nat->Nat->Int):∀m:Nat,det n (cB f j λi=>sm m λh=>x h*u h i)=sm m λh=>x h*det n (cB f j (u h))
 |0=>B3 f hj
 |m+1=>by
  rw[sm,<-Bh f hj x u m];have e:=uX f hj (x m) (u m) (λi=>sm m λh=>x h*u h i);rw[nK,<-e];congr 2
  funext i
  rw[sm,nK]
def axd{f:Nat->Nat->Int}{x:Nat->Int}(h:∀i,i<n->sm n (λk=>f i k*x k)=0){j:Nat}(hj:j<n):x j*det n f=0:=by
 have e1:det n (cB f j λi=>sm n λk=>x k*f i k)=0:=by
  rw[<-B3 f hj];refine iy λi k hi _=>?_;unfold cB;split
  .rw[<-h i hi];exact aJ λk _=>bG ..
  .rfl
 rw[Bh f hj x (λk i=>f i k)]at e1;have e2:sm n (λk=>x k*det n (cB f j λi=>f i k))=sm n (λk=>if k=j then x j*det n f else 0):=aJ λk hk=>by
  by_cases c:k=j
  .rw[if_pos c,c,BJ]
  .rw[if_neg c];have z:det n (cB f j λi=>f i k)=0:=by
    rcases Ew c with l|l
    .exact uL l hj λi _=>by rw[oh,oR ⋯]
    .exact uL l hk λi _=>by rw[oh,oR ⋯]
   rw[z,aV]
 rw[e2,iD,if_pos hj]at e1;exact e1
def Bk(A:Nat->Nat->Int)(hd:Nat->Nat):Nat->Nat->Int:=λi h=>A i (hd h)
def dt(A:Nat->Nat->Int)(hd:Nat->Nat)(r:Nat):Int:=det r (Bk A hd)
def cr(A:Nat->Nat->Int)(hd:Nat->Nat)(r h k:Nat):Int:=det r (cB (Bk A hd) h λi=>A i k)
def bd(A:Nat->Nat->Int)(hd:Nat->Nat)(r i k:Nat):Int:=det (r+1) λi' k'=>A (if i'=r then i else i') (if k'=r then k else hd k')
def vg(A:Nat->Nat->Int)(hd:Nat->Nat)(r i k:Nat):bd A hd r i k=A i k*dt A hd r-sm r λh=>A i (hd h)*cr A hd r h k:=by
 unfold bd;rw[det,sm];have e1:sg (r+r)*A (if r=r then i else r) (if r=r then k else hd r)*det r (λi' k'=>A (if i'=r then i else i') (if sk r k'=r then k else hd (sk r k')))=A i k*dt A hd r:=by
  rw[if_pos rfl,if_pos rfl,show sg (r+r)=1 by unfold sg;rw[if_pos ⋯],fP];congr 1;exact iy λi' k' hi hk=>by
   rw[if_neg ⋯,show sk r k'=k' by unfold sk;rw[if_pos hk],if_neg ⋯];rfl
 rw[e1];have e2:sm r (λc=>sg (r+c)*A (if r=r then i else r) (if c=r then k else hd c)*det r (λi' k'=>A (if i'=r then i else i') (if sk c k'=r then k else hd (sk c k'))))=sm r λh=>-1*(A i (hd h)*cr A hd r h k):=aJ λc hc=>by
  rw[if_pos rfl,if_neg ⋯];have m:det r (λi' k'=>A (if i'=r then i else i') (if sk c k'=r then k else hd (sk c k')))=sg (r-1-c)*cr A hd r c k:=by
   rw[cr,<-Wr (n:=r) (r-1-c) (cB (Bk A hd) c λi=>A i k) (h:=c) (m:=r-1) ⋯ ⋯];refine iy λi' k' hi hk=>?_;rw[if_neg ⋯];unfold sk mv cB Bk;by_cases c1:k'<c
   .rw[if_pos c1,if_pos c1,if_neg ⋯,if_neg ⋯]
   .rw[if_neg c1,if_neg c1];by_cases c2:k'<r-1
    .rw[if_pos c2,if_neg ⋯,if_neg ⋯]
    .rw[if_neg c2,if_pos (⋯:k'+1=r),if_pos (⋯:k'=r-1),if_pos rfl]
  rw[m];have s:sg (r+c)*sg (r-1-c)=-1:=by
   rw[<-J6];unfold sg;rw[if_neg ⋯]
  have t:sg (r+c)*A i (hd c)*(sg (r-1-c)*cr A hd r c k)=(sg (r+c)*sg (r-1-c))*(A i (hd c)*cr A hd r c k):=by simp only[cP,fW]
  rw[t,s]
 rw[e2,cj];lia
def NK(k:Nat)(h:i<r):bd A hd r i k=0:=aeJ h (Lh r) λk' _=>by
 rw[if_neg ⋯,if_pos rfl]
def abw(k:Nat)(h:i<r):sm r (λh=>A i (hd h)*cr A hd r h k)=A i k*dt A hd r:=by
 have:=vg A hd r i k;rw[NK k h]at this;lia
def QN(A:Nat->Nat->Int)(hd:Nat->Nat)(r i k:Nat):sm r (λh=>A i (hd h)*cr A hd r h k)=A i k*dt A hd r-bd A hd r i k:=by
 have:=vg A hd r i k;lia
def more(hd:Nat->Nat)(r c:Nat):Nat->Nat:=λh=>if h=r then c else hd h
def Ht(A:Nat->Nat->Int)(hd:Nat->Nat)(r c:Nat):dt A (more hd r c) (r+1)=bd A hd r r c:=iy λi k _ _=>by
 unfold Bk more;by_cases h:i=r
 .rw[if_pos h,h]
 .rw[if_neg h]
def ZW(A:Nat->Nat->Int)(hd:Nat->Nat)(r c k:Nat):cr A (more hd r c) (r+1) r k=bd A hd r r k:=iy λi k' _ _=>by
 unfold cB Bk more;by_cases h:i=r
 .rw[if_pos h,h];by_cases h2:k'=r
  .rw[if_pos h2,if_pos h2]
  .rw[if_neg h2,if_neg h2,if_neg h2]
 .rw[if_neg h];by_cases h2:k'=r
  .rw[if_pos h2,if_pos h2]
  .rw[if_neg h2,if_neg h2,if_neg h2]
def ZF(A:Nat->Nat->Int)(hd:Nat->Nat)(r c i k:Nat):
  sm r (λh=>A i (hd h)*(bd A hd r r c*cr A hd r h k-cr A hd r h c*bd A hd r r k))+A i c*(dt A hd r*bd A hd r r k)=bd A hd r r c*(A i k*dt A hd r-bd A hd r i k)+bd A hd r r k*bd A hd r i c:=by
 have e1:sm r (λh=>A i (hd h)*(bd A hd r r c*cr A hd r h k-cr A hd r h c*bd A hd r r k))=bd A hd r r c*sm r (λh=>A i (hd h)*cr A hd r h k) + -(bd A hd r r k)*sm r (λh=>A i (hd h)*cr A hd r h c):=by
  rw[<-cj,<-cj,<-eZ];refine aJ λh _=>?_;rw[nJ,iI,fW,<-cP (A i (hd h)),bG (A i (hd h)*cr A hd r h c)];lia
 rw[e1,QN,QN,nJ (-bd A hd r r k),iI,iI];have e2:A i c*(dt A hd r*bd A hd r r k)=bd A hd r r k*(A i c*dt A hd r):=by simp only[cP,fW,bG]
 rw[e2];lia
def Zm(hp:bd A hd r r c≠0){h:Nat}(hh:h<r)(k:Nat):dt A hd r*cr A (more hd r c) (r+1) h k=bd A hd r r c*cr A hd r h k-cr A hd r h c*bd A hd r r k:=by
 let x:=λh=>dt A hd r*cr A (more hd r c) (r+1) h k-(if h=r then dt A hd r*bd A hd r r k else bd A hd r r c*cr A hd r h k-cr A hd r h c*bd A hd r r k)
 have key:=axd (n:=r+1) (f:=Bk A (more hd r c)) (x:=x) (λi hi=>?_) (j:=h) ⋯
 .have e:det (r+1) (Bk A (more hd r c))=bd A hd r r c:=Ht A hd r c;rw[e]at key;rcases xQ.mp key with z|z
  .have z':dt A hd r*cr A (more hd r c) (r+1) h k-(if h=r then dt A hd r*bd A hd r r k else bd A hd r r c*cr A hd r h k-cr A hd r h c*bd A hd r r k)=0:=z;rw[if_neg ⋯]at z';lia
  .exact absurd z hp
 .have e1:sm (r+1) (λh=>Bk A (more hd r c) i h*x h)=dt A hd r*sm (r+1) (λh=>A i (more hd r c h)*cr A (more hd r c) (r+1) h k) + -1*sm (r+1) (λh=>A i (more hd r c h)*(if h=r then dt A hd r*bd A hd r r k else bd A hd r r c*cr A hd r h k-cr A hd r h c*bd A hd r r k)):=by
   rw[<-cj,<-cj,<-eZ];refine aJ λh _=>?_;show A i (more hd r c h)*(dt A hd r*cr A (more hd r c) (r+1) h k-_)=_;rw[nJ,fW];lia
  rw[e1,abw k hi,Ht,sm,if_pos rfl,show more hd r c r=c from if_pos rfl];have e2:sm r (λh=>A i (more hd r c h)*(if h=r then dt A hd r*bd A hd r r k else bd A hd r r c*cr A hd r h k-cr A hd r h c*bd A hd r r k))=sm r (λh=>A i (hd h)*(bd A hd r r c*cr A hd r h k-cr A hd r h c*bd A hd r r k)):=aJ λh hh=>by
   rw[if_neg ⋯,show more hd r c h=hd h from if_neg ⋯]
  rw[e2,ZF];have e3:dt A hd r*(A i k*bd A hd r r c)=bd A hd r r c*(A i k*dt A hd r):=by simp only[cP,fW,bG]
  rw[e3,nJ];have e4:bd A hd r r c*bd A hd r i k=bd A hd r r k*bd A hd r i c:=by
   by_cases z:i<r
   .rw[NK k z,NK c z,aV,aV]
   .rw[(⋯:i=r),bG]
  rw[e4];lia
def ajj(hp:bd A hd r r c≠0)(i k:Nat):dt A hd r*bd A (more hd r c) (r+1) i k=bd A hd r r c*bd A hd r i k-bd A hd r i c*bd A hd r r k:=by
 rw[vg A (more hd r c) (r+1),Ht,nJ,<-cj,sm,ZW,show more hd r c r=c from if_pos rfl];have e2:sm r (λh=>dt A hd r*(A i (more hd r c h)*cr A (more hd r c) (r+1) h k))=sm r (λh=>A i (hd h)*(bd A hd r r c*cr A hd r h k-cr A hd r h c*bd A hd r r k)):=aJ λh hh=>by
  rw[fW,Zm hp hh,show more hd r c h=hd h from if_neg ⋯]
 have e5:=ZF A hd r c i k;rw[e2,show dt A hd r*(A i c*bd A hd r r k)=A i c*(dt A hd r*bd A hd r r k)from fW ..,e5,nJ];have e3:dt A hd r*(A i k*bd A hd r r c)=bd A hd r r c*(A i k*dt A hd r):=by simp only[cP,fW,bG]
 rw[e3,bG (bd A hd r i c)];lia
def En(A:Nat->Nat->Int)(hd:Nat->Nat)(r i k:Nat):Int:=if i<r then cr A hd r i k else bd A hd r i k
def al6(A:Nat->Nat->Int)(hd:Nat->Nat)(i k:Nat):En A hd 0 i k=A i k:=by
 unfold En;rw[if_neg ⋯,vg];simp[sm,dt,det]
def Fi(hp:En A hd r r c≠0){i:Nat}(hi:i≠r)(k:Nat):dt A hd r*En A (more hd r c) (r+1) i k=En A hd r r c*En A hd r i k-En A hd r i c*En A hd r r k:=by
 have er:∀k,En A hd r r k=bd A hd r r k:=λk=>if_neg ⋯;rw[er]at hp⊢;rw[er];unfold En;by_cases h:i<r
 .rw[if_pos ⋯,if_pos h,if_pos h];exact Zm hp h k
 .rw[if_neg ⋯,if_neg h,if_neg h];exact ajj hp i k
def agY(A:Nat->Nat->Int)(hd:Nat->Nat)(r c k:Nat):En A (more hd r c) (r+1) r k=En A hd r r k:=by
 unfold En;rw[if_pos ⋯,if_neg ⋯];exact ZW A hd r c k
def Pu(A:Nat->Nat->Int)(hd:Nat->Nat)(r c:Nat):dt A (more hd r c) (r+1)=En A hd r r c:=by
 rw[Ht];exact(if_neg ⋯).symm
def Wa(A:Nat->Nat->Int)(hd:Nat->Nat):dt A hd 0=1:=rfl
def El{h:Nat}(hh:h<r):En A hd r i (hd h)=if i=h then dt A hd r else 0:=by
 unfold En;by_cases c:i<r
 .rw[if_pos c];by_cases e:i=h
  .rw[if_pos e,e];show det r (cB (Bk A hd) h λi=>Bk A hd i h)=_;rw[BJ];rfl
  .rw[if_neg e];show det r (cB (Bk A hd) i λi'=>A i' (hd h))=0;rcases Ew e with l|l
   .exact uL l hh λi' _=>by rw[oh,oR ⋯];rfl
   .exact uL l c λi' _=>by rw[oh,oR ⋯];rfl
 .rw[if_neg c,if_neg ⋯];exact uL (a:=h) (b:=r) hh (Lh r) λi' _=>by rw[if_neg (⋯:¬h=r),if_pos (show r=r from rfl)]
def Ss(A:Nat->Nat->Int)(hd:Nat->Nat)(r i k:Nat):A i k*dt A hd r=sm r (λh=>A i (hd h)*En A hd r h k)+(if i<r then 0 else En A hd r i k):=by
 have e:sm r (λh=>A i (hd h)*En A hd r h k)=sm r (λh=>A i (hd h)*cr A hd r h k):=aJ λh hh=>by
  unfold En;rw[if_pos hh]
 rw[e];by_cases c:i<r
 .rw[if_pos c,abw k c,cU]
 .rw[if_neg c,QN];unfold En;rw[if_neg c];lia
def aiY{p:Int}(hc:c<n)(hn:∀h,h<r->hd h<n/\hd h≠c)(hz:∀i,r<=i->i<n->∃e,En A hd r i c=p*e):∃e,dt A hd r*det n A=p*e:=by
 have hz':∀i,i<n->∃e,(if i<r then 0 else En A hd r i c)=p*e:=λi hi=>by
  by_cases z:i<r
  .exact⟨0,by rw[if_pos z,aV]⟩
  .obtain⟨e,he⟩:=hz i ⋯ hi;exact⟨e,by rw[if_neg z,he]⟩
 let y:=λi=>if h:i<n then adK (hz' i h)else 0
 have hy:∀i,i<n->(if i<r then 0 else En A hd r i c)=p*y i:=λi hi=>by
  show _=p*(if h:i<n then adK (hz' i h)else 0);rw[dif_pos hi];exact Classical.choose_spec (hz' i hi)
 refine⟨det n (cB A c y),?_⟩;have e1:dt A hd r*det n A=det n (cB A c λi=>dt A hd r*A i c+0):=by
  have:=uX A hc (dt A hd r) (λi=>A i c) (λ_=>0);rw[BJ,B3 A hc,cU]at this;exact this.symm
 have e2:det n (cB A c λi=>dt A hd r*A i c+0)=det n (cB A c λi=>p*y i+sm r λh=>En A hd r h c*A i (hd h)):=iy λi k hi _=>by
  unfold cB;split
  .have:=Ss A hd r i c;rw[hy i hi]at this;have e3:sm r (λh=>A i (hd h)*En A hd r h c)=sm r (λh=>En A hd r h c*A i (hd h)):=aJ λh _=>bG ..;rw[e3]at this;show dt A hd r*A i c+0=p*y i+sm r λh=>En A hd r h c*A i (hd h);rw[bG (dt A hd r),this];lia
  .rfl
 rw[e1,e2,uX A hc p y,Bh A hc (λh=>En A hd r h c) (λh i=>A i (hd h))];have e4:sm r (λh=>En A hd r h c*det n (cB A c λi=>A i (hd h)))=0:=jA λh hh=>by
  obtain⟨h1,h2⟩:=hn h hh;have z:det n (cB A c λi=>A i (hd h))=0:=by
   rcases Ew h2 with l|l
   .exact uL l hc λi _=>by rw[oh,oR ⋯]
   .exact uL l h1 λi _=>by rw[oh,oR ⋯]
  rw[z,aV]
 rw[e4,cU]
end
end Dm
namespace Dm
open Pm Rm
section
variable {b last:Int}{A A0:Nat->Nat->Int}{a c r W u n:Nat}{hd:Nat->Nat}{L L':List (List Int)}
def Dom(b:Int):Prop:=∀x y,tk b x≠0->tk b (x*y)=0->tk b y=0
def Dom.zero:Dom 0:=λx y hx h=>by
 rw[cJ]at *;rcases xQ.mp h with z|z
 .exact absurd z hx
 .exact z
def Dom.prime{P:Nat}(hP:P∈Om.mj)(h2:2<=P):Dom (P:Int):=λx y hx h=>by
 have qR:(P:Int)≠0:=⋯;have eX:∀n,tk (P:Int) n=n%(P:Int):=λn=>iz qR n;rw[eX]at *;have r0:=oM x qR;have r1:=oH x (⋯:(0:Int)<P);have hinv:((x%P)^(P-2)*(x%P))%(P:Int)=1:=by
  rw[<-jy,(⋯:(P-2).succ=P-1)];exact Om.xM rfl hP ⋯ r1
 have e1:((x%P)^(P-2)*(x*y))%(P:Int)=0:=by rw[jC,h,aV];exact Wh _
 have e2:((x%P)^(P-2)*(x*y))%(P:Int)=y%(P:Int):=by
  have e3:((x%P)^(P-2)*x)%(P:Int)=1:=by rw[jC,<-hinv,jC ((x%P)^(P-2)) (x%P),jK _ (jQ _)]
  rw[<-cP,jC,e3,fP,jK _ (jQ _)]
 rw[<-e2,e1]
def uf{x:Int}:tk b x=0↔∃e,x=b*e:=by
 unfold tk;split
 .rename_i h
  constructor
  .intro z;exact⟨0,by rw[z,aV]⟩
  .rintro⟨e,he⟩;rw[he,h,dF]
 .constructor
  .intro z;exact⟨x/b,(Int.mul_ediv_cancel' (Eo z)).symm⟩
  .rintro⟨e,he⟩;rw[he];exact Int.mul_emod_right b e
def turn(A:Nat->Nat->Int)(a c:Nat):Nat->Nat->Int:=eY (eY A a (A c)) c λk=>-1*A a k+0
inductive qY(n:Nat)(A0:Nat->Nat->Int):(Nat->Nat->Int)->Prop
 |refl:qY n A0 A0
 |step {z:Nat->Nat->Int} {y x:Nat}:qY n A0 z->y<x->x<n->qY n A0 (turn z y x)
theorem qY.det{n:Nat}{A0 A:Nat->Nat->Int}(h:qY n A0 A):Dm.det n A=Dm.det n A0:=by
 induction h with
 |refl=>rfl
 |step _ h1 h2 ih=>rw[<-ih];exact adL _ h1 h2
def ux{i:Nat}(h1:i≠a)(h2:i≠c)(k:Nat):turn A a c i k=A i k:=by
 unfold turn eY;rw[if_neg h2,if_neg h1]
def Am(h:a≠c)(k:Nat):turn A a c a k=A c k:=by
 unfold turn eY;rw[if_neg h,if_pos rfl]
def wO(A:Nat->Nat->Int)(a c k:Nat):turn A a c c k=-A a k:=by
 unfold turn eY;rw[if_pos rfl];show -1*A a k+0=-A a k;lia
def Jw(ha:r<=a)(hc:r<=c):dt (turn A a c) hd r=dt A hd r:=iy λi k hi _=>ux ⋯ ⋯ _
def agF(ha:r<=a)(hc:r<=c)(h k:Nat):cr (turn A a c) hd r h k=cr A hd r h k:=iy λi k' hi _=>by
 show(if k'=h then turn A a c i k else turn A a c i (hd k'))=if k'=h then A i k else A i (hd k');rw[ux ⋯ ⋯,ux ⋯ ⋯]
def Cu(ha:r<=a)(hac:a<c)(i k:Nat):En (turn A a c) hd r i k=if i=a then En A hd r c k else if i=c then -En A hd r a k else En A hd r i k:=by
 have hc:r<=c:=⋯;unfold En;by_cases h:i<r
 .rw[if_pos h,if_neg ⋯,if_neg ⋯,if_pos h];exact agF ha hc i k
 .rw[if_neg h,vg,Jw ha hc];have e:∀j,sm r (λh=>turn A a c j (hd h)*cr (turn A a c) hd r h k)=sm r (λh=>turn A a c j (hd h)*cr A hd r h k):=λj=>aJ λh _=>by rw[agF ha hc]
  rw[e];by_cases h1:i=a
  .rw[if_pos h1,if_neg ⋯,vg,h1,Am ⋯];congr 1;exact aJ λh _=>by rw[Am ⋯]
  .rw[if_neg h1];by_cases h2:i=c
   .rw[if_pos h2,if_neg ⋯,vg,h2,wO];have:sm r (λh=>turn A a c c (hd h)*cr A hd r h k)=-1*sm r (λh=>A a (hd h)*cr A hd r h k):=by
     rw[<-cj];exact aJ λh _=>by rw[wO,iI];lia
    rw[this,iI];lia
   .rw[if_neg h2,if_neg h,vg,ux h1 h2];congr 1;exact aJ λh _=>by rw[ux h1 h2]
def ln(L:List (List Int))(i:Nat):List Int:=L.getD i []
structure cN(b:Int)(n W u:Nat)(A0:Nat->Nat->Int)(c:Nat)(A:Nat->Nat->Int)(hd:Nat->Nat)(r:Nat)(L:List (List Int))(last:Int):Prop where
 sw:qY n A0 A
 len:L.length=n
 wd:∀i,i<n->(ln L i).length=W
 en:∀i k,i<n->k<W->co (ln L i) k=tk b (En A hd r i k)
 la:last=tk b (dt A hd r)
 nz:tk b (dt A hd r)≠0
 rn:r<=n
 hc:∀h,h<r->hd h<c
 up:∀h h',h<h'->h'<r->hd h<hd h'
 zero:∀k,k<c->(∀h,h<r->hd h≠k)->∀i,r<=i->i<n->tk b (En A hd r i k)=0
 full:c<=n->(r=c/\∀h,h<r->hd h=h)∨tk b (det n A)=0
 v7:∀i k,Bd u (A i k)
 ge:∀h,h<r->∀k,k<hd h->(∀h',h'<r->hd h'≠k)->tk b (En A hd r h k)=0
def cN.start(hb:tk b 1=1)(hw:∀i,i<L.length->(ln L i).length=W)(hn:∀i k,tk b (co (ln L i) k)=co (ln L i) k)(hu:∀i k,Bd u (co (ln L i) k)):
  cN b L.length W u (λi k=>co (ln L i) k) 0 (λi k=>co (ln L i) k) (λ_=>0) 0 L 1:=
 ⟨.refl,rfl,hw,λi k _ _=>by rw[al6,hn],by rw[Wa,hb],by rw[Wa,hb];decide,dD _,λh hh=>absurd hh (kj _),λ_ _ _ h=>absurd h (kj _),λk hk=>absurd hk (kj _),λ_=> .inl ⟨rfl,λh hh=>absurd hh (kj _)⟩,hu,λh hh=>absurd hh (kj _)⟩
def cN.skip(h:cN b n W u A0 c A hd r L last)(hD:Dom b)(mY:c<W)
  (hz:∀i,r<=i->i<n->co (ln L i) c=0):cN b n W u A0 (c+1) A hd r L last:=by
 have hz':∀i,r<=i->i<n->tk b (En A hd r i c)=0:=λi h1 h2=>by rw[<-h.en i c h2 mY];exact hz i h1 h2
 refine⟨h.sw,h.len,h.wd,h.en,h.la,h.nz,h.rn,λk hk=>by have:=h.hc k hk;lia,h.up,λk hk hn i h1 h2=>?_,λhcn=> .inr ?_,h.v7,h.ge⟩
 .by_cases e:k=c
  .rw[e];exact hz' i h1 h2
  .exact h.zero k ⋯ hn i h1 h2
 .obtain⟨e,he⟩:=aiY (A:=A) (hd:=hd) (n:=n) (r:=r) (c:=c) (p:=b) ⋯ (λk hk=>by have:=h.hc k hk;lia) λi h1 h2=>uf.mp (hz' i h1 h2);exact hD _ _ h.nz (uf.mpr ⟨e,he⟩)
def cN.bring(h:cN b n W u A0 c A hd r L last){a:Nat}(hra:r<a)(han:a<n)
  (hl:L'.length=n) (e1:ln L' r=ln L a) (e2:ln L' a=(ln L r).map λx=>tk b (0-x)) (e3:∀i,i≠r->i≠a->ln L' i=ln L i):cN b n W u A0 c (turn A r a) hd r L' last:=by
 have hrn:r<n:=⋯;refine⟨.step h.sw hra han,hl,λi hi=>?_,λi k hi hk=>?_,by rw[Jw (aR _) ⋯];exact h.la,by rw[Jw (aR _) ⋯];exact h.nz,h.rn,h.hc,h.up,λk hk hn i h1 h2=>?_,λhcn=>?_,λi k=>?_,λj hj k hk hn=>by rw[Cu (aR _) hra,if_neg ⋯,if_neg ⋯];exact h.ge j hj k hk hn⟩
 .by_cases c1:i=r
  .rw[c1,e1];exact h.wd a han
  .by_cases c2:i=a
   .rw[c2,e2,aK];exact h.wd r hrn
   .rw[e3 i c1 c2];exact h.wd i hi
 .rw[Cu (aR _) hra];by_cases c1:i=r
  .rw[if_pos c1,c1,e1];exact h.en a k han hk
  .rw[if_neg c1];by_cases c2:i=a
   .rw[if_pos c2,c2,e2,jF (by simp[tk0]),h.en r k hrn hk];rw[(⋯:0-tk b (En A hd r r k)=-1*tk b (En A hd r r k)),cD];congr 1;lia
   .rw[if_neg c2,e3 i c1 c2];exact h.en i k hi hk
 .rw[Cu (aR _) hra];by_cases c1:i=r
  .rw[if_pos c1];exact h.zero k hk hn a ⋯ han
  .rw[if_neg c1];by_cases c2:i=a
   .rw[if_pos c2];have:=h.zero k hk hn r (aR _) hrn;rw[<-Af,<-cD,this,aV];exact tk0 b
   .rw[if_neg c2];exact h.zero k hk hn i h1 h2
 .have e:det n (turn A r a)=det n A:=adL A hra han;rw[e];exact h.full hcn
 .by_cases c2:i=a
  .rw[c2,wO];have:=h.v7 r k;unfold Bd at this⊢;rw[Bg];exact this
  .by_cases c1:i=r
   .rw[c1,Am ⋯];exact h.v7 a k
   .rw[ux c1 c2];exact h.v7 i k
def cN.free(h:cN b n W u A0 c A hd r L last)(hD:Dom b)(mY:c<W)(hrn:r<n)
  (hp:co (ln L r) c≠0) (hl:L'.length=n) (e1:ln L' r=ln L r) (e2:∀i,i<n->i≠r->(ln L' i).length=W/\∀k,k<W->co (ln L' i) k=tk b (co (ln L' i) k)/\tk b (last*co (ln L' i) k)=tk b (co (ln L r) c*co (ln L i) k-co (ln L i) c*co (ln L r) k)):
  cN b n W u A0 (c+1) A (more hd r c) (r+1) L' (co (ln L r) c):=by
 have hpe:tk b (En A hd r r c)≠0:=by rw[<-h.en r c hrn mY];exact hp
 have hpi:En A hd r r c≠0:=λz=>hpe (by rw[z];exact tk0 b);have hen:∀i k,i<n->k<W->co (ln L' i) k=tk b (En A (more hd r c) (r+1) i k):=λi k hi hk=>by
  by_cases c1:i=r
  .rw[c1,e1,agY];exact h.en r k hrn hk
  .obtain⟨_,q⟩:=e2 i hi c1;obtain⟨q1,q2⟩:=q k hk;have s:=Fi hpi c1 k;have e3:tk b (dt A hd r*co (ln L' i) k)=tk b (dt A hd r*En A (more hd r c) (r+1) i k):=by
    rw[s,<-dU,<-h.la,q2,h.en r c hrn mY,h.en i k hi hk,h.en i c hi mY,h.en r k hrn hk];have t1:tk b (tk b (En A hd r r c)*tk b (En A hd r i k))=tk b (En A hd r r c*En A hd r i k):=by rw[dU,cD]
    have t2:tk b (-1*(tk b (En A hd r i c)*tk b (En A hd r r k)))=tk b (-1*(En A hd r i c*En A hd r r k)):=by rw[<-cD,dU,cD b (En A hd r i c),cD]
    have:=jk t1 t2;rw[(⋯:tk b (En A hd r r c)*tk b (En A hd r i k)-tk b (En A hd r i c)*tk b (En A hd r r k)=tk b (En A hd r r c)*tk b (En A hd r i k) + -1*(tk b (En A hd r i c)*tk b (En A hd r r k))),this];congr 1;lia
   have e4:tk b (dt A hd r*(co (ln L' i) k-En A (more hd r c) (r+1) i k))=0:=by
    rw[nJ];exact jJ.mpr e3
   have e5:=jJ.mp (hD _ _ h.nz e4);rw[q1];exact e5
 refine⟨h.sw,hl,λi hi=>?_,hen,?_,?_,⋯,λk hk=>?_,λk k' h1 h2=>?_,λk hk hn i h1 h2=>?_,λhcn=>?_,h.v7,λj hj k hk hn=>?_⟩
 .by_cases c1:i=r
  .rw[c1,e1];exact h.wd r hrn
  .exact(e2 i hi c1).1
 .rw[Pu];exact h.en r c hrn mY
 .rw[Pu];exact hpe
 .unfold more;split
  .lia
  .have:=h.hc k ⋯;lia
 .unfold more;rw[if_neg ⋯];split
  .exact h.hc k ⋯
  .exact h.up k k' h1 ⋯
 ·-- columns without a head stay nought
  by_cases e:k=c
  .exact absurd (show more hd r c r=k by unfold more;rw[if_pos rfl,e]) (hn r ⋯)
  .have hn':∀h',h'<r->hd h'≠k:=λh' hh=>by
    have:=hn h' ⋯;unfold more at this
    rwa [if_neg ⋯]at this
   have z1:=h.zero k ⋯ hn' i ⋯ h2;have z2:=h.zero k ⋯ hn' r (aR _) hrn;have s:=Fi hpi (⋯:i≠r) k;refine hD _ _ h.nz ?_;rw[s];refine jJ.mpr ?_;rw[<-cD,z1,aV,<-cD b (En A hd r i c),z2,aV]
 .rcases h.full ⋯ with⟨f1,f2⟩|f
  .refine .inl ⟨⋯,λk hk=>?_⟩;unfold more;split
   .lia
   .exact f2 k ⋯
  .exact .inr f
 ·-- ahead of a line's head there is nothing but heads
  have hn':∀h',h'<r->hd h'≠k:=λh' hh=>by
   have:=hn h' ⋯;unfold more at this
   rwa [if_neg ⋯]at this
  have hkc:k<c:=by
   unfold more at hk;split at hk
   .exact hk
   .have:=h.hc j ⋯;lia
  have z2:=h.zero k hkc hn' r (aR _) hrn;by_cases e:j=r
  .rw[e,agY];exact z2
  .have hk':k<hd j:=by unfold more at hk;rwa [if_neg e]at hk
   have z1:=h.ge j ⋯ k hk' hn';have s:=Fi hpi e k;refine hD _ _ h.nz ?_;rw[s];refine jJ.mpr ?_;rw[<-cD,z1,aV,<-cD b (En A hd r j c),z2,aV]
theorem DX{u:Nat}:∀{n:Nat} {f:Nat->Nat->Int},(∀i k,i<n->k<n->Bd u (f i k))->Bd (n*(u+n)+1) (det n f)
 |0,_,_=>by
  show Bd (0*(u+0)+1) 1;rw[zp];exact Bd.of ∅ ∅
 |n+1,f,h=>by
  unfold det;have e:Bd (u+(n*(u+n)+1)+(n+1)) (sm (n+1) λc=>sg (n+c)*f n c*det n λi k=>f i (sk c k)):=yc _ λc hc=>by
   have b1:=h n c ⋯ hc;have b2:=DX (u:=u) (n:=n) (f:=λi k=>f i (sk c k)) λi k hi hk=>h i (sk c k) ⋯ (by unfold sk;split<;>lia);have b3:=b1.mul b2;unfold Bd at b3⊢;rw[cP,jD];have:(sg (n+c)).natAbs=1:=by unfold sg;split<;>rfl
   rw[this,oA];exact b3
  refine e.mono ?_;have:(n+1)*(u+(n+1))=n*(u+n)+n+u+(n+1):=by
   rw[mJ,(⋯:u+(n+1)=u+n+1),rC n (u+n) 1];lia
  lia
def cN.bdE(h:cN b n W u A0 c A hd r L last)(i k:Nat):Bd ((r+1)*(u+(r+1))+1) (En A hd r i k):=by
 unfold En;split
 .refine(DX (u:=u) λi' k' _ _=>?_).mono ?_
  .unfold cB Bk;split<;>exact h.v7 _ _
  .have:r*(u+r)<=(r+1)*(u+(r+1)):=iH ⋯ ⋯;lia
 .exact DX (u:=u) λi' k' _ _=>h.v7 _ _
end
end Dm
namespace Dm
open Rm Pm
section
variable {b x y last:Int}{n m r k W u i:Nat}{A0 A:Nat->Nat->Int}{hd:Nat->Nat}{L:List (List Int)}{ws:List Int}
def yG(h:tk b x=0):tk b (-x)=0:=by
 have:=cD b (-1) x;rw[h,aV,tk0]at this;rw[(⋯:-x=-1*x),<-this]
def Ej(y:Int)(h:tk b x=0):tk b (y*x)=0:=by rw[<-cD,h,aV,tk0]
def akz(h:tk b x=0)(h':tk b y=0):tk b (x+y)=0:=by rw[<-gM,h,dj,h']
def aaM(h:tk b x=0)(h':tk b y=0):tk b (x-y)=0:=by rw[K1];exact akz h (yG h')
def A8(f:Nat->Int)(n:Nat):sm n (λk=>-f k)=-sm n f:=by
 have e:(λk=>-f k)=λk=>-1*f k:=funext λk=>⋯;rw[e,cj];lia
def GB(f g:Nat->Int)(n:Nat):sm n (λk=>f k-g k)=sm n f-sm n g:=by
 have e:(λk=>f k-g k)=λk=>f k + -g k:=funext λk=>⋯;rw[e,eZ,A8];lia
def JN{f:Nat->Int}(h:∀k,k<n->tk b (f k)=0):tk b (sm n f)=0:=by
 have:=dZ (b:=b) (f:=f) (g:=λ_=>0) (n:=n) λk hk=>by rw[h k hk,tk0]
 rw[this,oE,tk0]
def Rel(b:Int)(n m:Nat)(A:Nat->Nat->Int)(x:Nat->Int):Prop:=∀i,i<n->tk b (sm m λk=>A i k*x k)=0
def Xe(A:Nat->Nat->Int)(x:Nat->Int)(i m:Nat):sm m (λk=>-A i k*x k)=-sm m λk=>A i k*x k:=by
 rw[<-A8];exact aJ λk _=>iI ..
theorem Rel.turn{b:Int}{n m:Nat}{A:Nat->Nat->Int}{x:Nat->Int}{a c:Nat}(hac:a<c)(hc:c<n):Rel b n m A x↔Rel b n m (turn A a c) x:=by
 have ha:a<n:=⋯;constructor
 .intro h i hi;by_cases c1:i=c
  .rw[c1,aJ (g:=λk=>-A a k*x k) λk _=>by rw[wO],Xe];exact yG (h a ha)
  .by_cases c2:i=a
   .rw[c2,aJ (g:=λk=>A c k*x k) λk _=>by rw[Am ⋯]];exact h c hc
   .rw[aJ (g:=λk=>A i k*x k) λk _=>by rw[ux c2 c1]];exact h i hi
 .intro h i hi;by_cases c1:i=c
  .have:=h a ha;rw[aJ (g:=λk=>A c k*x k) λk _=>by rw[Am ⋯]]at this;rw[c1];exact this
  .by_cases c2:i=a
   .have:=h c hc;rw[aJ (g:=λk=>-A a k*x k) λk _=>by rw[wO],Xe]at this;rw[c2];have:=yG this
    rwa [KP]at this
   .have:=h i hi;rw[aJ (g:=λk=>A i k*x k) λk _=>by rw[ux c2 c1]]at this;exact this
def qY.rel{x:Nat->Int}(h:qY n A0 A):Rel b n m A0 x↔Rel b n m A x:=by
 induction h with
 |refl=>exact Iff.rfl
 |step _ h1 h2 ih=>exact ih.trans (Rel.turn h1 h2)
theorem afv{b:Int}:∀{n:Nat} {f g:Nat->Nat->Int},(∀i k,i<n->k<n->tk b (f i k)=tk b (g i k))->tk b (det n f)=tk b (det n g)
 |0,_,_,_=>rfl
 |n+1,f,g,h=>by
  unfold det;refine dZ λc hc=>?_;have e1:tk b (det n λi k=>f i (sk c k))=tk b (det n λi k=>g i (sk c k)):=afv λi k hi hk=>h i _ ⋯ (by unfold sk;split<;>lia);rw[<-cD,e1,cD,cP,<-cD,<-dU b (f n c),h n c ⋯ hc,dU,cD,cP]
def Rel.en{x:Nat->Int}(hx:Rel b n m A x)(hd:Nat->Nat){r:Nat}(hr:r<=n):Rel b n m (En A hd r) x:=by
 have low:∀i,i<r->tk b (sm m λk=>cr A hd r i k*x k)=0:=λi hi=>by
  have e:=Bh (n:=r) (Bk A hd) hi x (λk i'=>A i' k) m;have e2:sm m (λk=>cr A hd r i k*x k)=sm m λk=>x k*det r (cB (Bk A hd) i λi'=>A i' k):=aJ λk _=>bG ..;rw[e2,<-e,afv (g:=cB (Bk A hd) i λ_=>0) (λi' k' hi' _=>?_),B3 _ hi,tk0];unfold cB;split
  .have:=hx i' ⋯;rw[tk0,<-this];exact congrArg (tk b) (aJ λk _=>bG ..)
  .rfl
 intro i hi;by_cases c:i<r
 .rw[aJ (g:=λk=>cr A hd r i k*x k) λk _=>by unfold En;rw[if_pos c]];exact low i c
 .have e:sm m (λk=>En A hd r i k*x k)=dt A hd r*sm m (λk=>A i k*x k)-sm r λh=>A i (hd h)*sm m λk=>cr A hd r h k*x k:=by
   rw[<-cj];have e2:sm r (λh=>A i (hd h)*sm m λk=>cr A hd r h k*x k)=sm m λk=>sm r λh=>A i (hd h)*(cr A hd r h k*x k):=by
    rw[pW];exact aJ λh _=>(cj ..).symm
   rw[e2,<-GB];refine aJ λk _=>?_;unfold En;rw[if_neg c,vg,Hz];congr 1
   .rw[bG (A i k),cP]
   .rw[bG,<-cj];exact aJ λh _=>by rw[bG,cP]
  rw[e];exact aaM (Ej _ (hx i hi)) (JN λh hh=>Ej _ (low h hh))
def oO(b:Int)(n m:Nat)(A:Nat->Nat->Int):Prop:=∀x,Rel b n m A x->∀k,k<m->tk b (x k)=0
def NP(hm:∀h,h<r->hd h<m)(hk:k<m)(hz:∀i,r<=i->i<n->tk b (En A hd r i k)=0):
  Rel b n m A λj=>sm r (λh=>if j=hd h then En A hd r h k else 0)-if j=k then dt A hd r else 0:=λi hi=>by
 have e:sm m (λj=>A i j*(sm r (λh=>if j=hd h then En A hd r h k else 0)-if j=k then dt A hd r else 0))=sm r (λh=>A i (hd h)*En A hd r h k)-A i k*dt A hd r:=by
  rw[aJ (g:=λj=>sm r (λh=>if j=hd h then A i (hd h)*En A hd r h k else 0)-if j=k then A i k*dt A hd r else 0) λj _=>?_,GB,iD,if_pos hk,pW]
  .congr 1;exact aJ λh hh=>by rw[iD,if_pos (hm h hh)]
  .rw[nJ,<-cj];congr 1
   .refine aJ λh _=>?_;by_cases c:j=hd h
    .rw[if_pos c,if_pos c,c]
    .rw[if_neg c,if_neg c,aV]
   .by_cases c:j=k
    .rw[if_pos c,if_pos c,c]
    .rw[if_neg c,if_neg c,aV]
 rw[e];have q:=Ss A hd r i k;by_cases c:i<r
 .rw[if_pos c,cU]at q;rw[q,FZ,tk0]
 .rw[if_neg c]at q;rw[q,(⋯:sm r (λh=>A i (hd h)*En A hd r h k)-(sm r (λh=>A i (hd h)*En A hd r h k)+En A hd r i k)=-En A hd r i k)];exact yG (hz i ⋯ hi)
def cN.ac8(h:cN b n W u A0 m A hd r L last):∀j,j<r->j<=hd j:=λj=>by
 induction j with
 |zero=>intro _;exact dD _
 |succ j ih=>
  intro hj;have:=ih ⋯;have:=h.up j (j+1) ⋯ hj;lia
def cN.am5(h:cN b n W u A0 m A hd r L last)(Mt:∀k,k<m->∃j,j<r/\hd j=k):r=m/\∀k,k<m->hd k=k:=by
 have ge:=h.ac8;have all:∀k,k<m->k<r/\hd k=k:=λk=>by
  induction k using mV with
  |ind k ih=>
   intro hk;obtain⟨j,hj,e⟩:=Mt k hk;have g:=ge j hj;by_cases c:j=k
   .rw[<-c];exact⟨hj,by rw[e,c]⟩
   .have:=(ih j ⋯ ⋯).2;lia
 refine⟨?_,λk hk=>(all k hk).2⟩;by_cases c:r<=m
 .by_cases c2:r=m
  .exact c2
  .have:=(all r ⋯).1;lia
 .have:=h.hc m ⋯;have:=ge m ⋯;lia
def cN.aqe(h:cN b n W u A0 m A hd r L last)(hr:r≠m):∃k,k<m/\∀j,j<r->hd j≠k:=by
 by_cases c:∃k,k<m/\∀j,j<r->hd j≠k
 .exact c
 .refine absurd (h.am5 λk hk=>?_).1 hr;by_cases d:∃j,j<r/\hd j=k
  .exact d
  .exact absurd ⟨k,hk,λj hj e=>d ⟨j,hj,e⟩⟩ c
def iw(b:Int)(n m:Nat)(A:Nat->Nat->Int)(x:Nat->Int)(bot:Int):Prop:=∀i,i<n->tk b (sm m λk=>A i k*x k)=tk b (bot*A i m)
def iw.rel{x:Nat->Int}{bot:Int}:iw b n m A x bot↔Rel b n (m+1) A λk=>if k=m then -bot else x k:=by
 have e:∀i,sm (m+1) (λk=>A i k*if k=m then -bot else x k)=sm m (λk=>A i k*x k)-bot*A i m:=λi=>by
  rw[sm,if_pos rfl,aJ (g:=λk=>A i k*x k) λk hk=>by rw[if_neg ⋯],tX,bG bot];lia
 constructor
 .intro h i hi;show tk b (sm (m+1) λk=>A i k*if k=m then -bot else x k)=0;rw[e];exact jJ.mpr (h i hi)
 .intro h i hi;have q:tk b (sm (m+1) λk=>A i k*if k=m then -bot else x k)=0:=h i hi;rw[e]at q;exact jJ.mp q
def cN.sums(h:cN b n W u A0 m A hd r L last){x:Nat->Int}{bot:Int}(hx:iw b n m A0 x bot):iw b n m (En A hd r) x bot:=
 iw.rel.mpr ((h.sw.rel.mp (iw.rel.mp hx)).en hd h.rn)
def cN.azg(h:cN b n W u A0 m A hd r L last){x:Nat->Int}{bot:Int}(hD:Dom b)(hb:tk b bot≠0)(hx:iw b n m A0 x bot):
  ∀i,r<=i->i<n->tk b (En A hd r i m)=0:=λi h1 h2=>by
 have q:=h.sums hx i h2;refine hD bot _ hb ?_;rw[<-q];refine JN λk hk=>?_;rw[bG];refine Ej _ ?_;by_cases c:∃j,j<r/\hd j=k
 .obtain⟨j,hj,e⟩:=c;rw[<-e,El hj,if_neg ⋯,tk0]
 .exact h.zero k hk (λj hj e=>c ⟨j,hj,e⟩) i h1 h2
def qP(b:Int)(L:List (List Int))(ws:List Int):List (List Int):=(d7 L.length).map λi=>(ln L i++[co ws i]).map (tk b)
def xO(b:Int)(L:List (List Int))(ws:List Int):(qP b L ws).length=L.length:=by rw[qP,aK,pK]
def CV(hi:i<L.length):ln (qP b L ws) i=(ln L i++[co ws i]).map (tk b):=by
 show(qP b L ws).getD i []=_;rw[qP,List.getD_eq_getElem?_getD,List.getElem?_map,List.getElem?_range hi];rfl
def aug(b:Int)(L:List (List Int))(ws:List Int):Nat->Nat->Int:=λi k=>co (ln (qP b L ws) i) k
def aof(hi:i<L.length)(hm:(ln L i).length=m)(hk:k<m):aug b L ws i k=tk b (co (ln L i) k):=by
 unfold aug;rw[CV hi,jF (tk0 b),gY,if_pos ⋯]
def azZ(hi:i<L.length)(hm:(ln L i).length=m):aug b L ws i m=tk b (co ws i):=by
 unfold aug;rw[CV hi,jF (tk0 b),gY,if_neg ⋯,hm,kZ,jh]
def apL(i k:Nat):tk b (aug b L ws i k)=aug b L ws i k:=by
 unfold aug;by_cases hi:i<L.length
 .rw[CV hi,jF (tk0 b),dO]
 .have e:ln (qP b L ws) i=[]:=by
   unfold ln;rw[List.getD_eq_getElem?_getD,List.getElem?_eq_none (by rw[xO];lia)];rfl
  rw[e,gP,tk0]
def rM(E:Nat->Int)(hd:Nat->Nat)(wide i:Nat):List Int:=aq wide λk=>sm i λh=>if k=hd h then E h else 0
def AZ(E:Nat->Int)(hd:Nat->Nat)(wide i:Nat):(rM E hd wide i).length=wide:=aQ ..
def ah9(E:Nat->Int)(hd:Nat->Nat)(wide:Nat):rM E hd wide 0=aq wide λ_=>0:=rfl
def akc{E:Nat->Int}{wide:Nat}(hi:hd i<wide)(hu:∀h,h<i->hd h≠hd i):(rM E hd wide i).set (hd i) (E i)=rM E hd wide (i+1):=by
 refine nG (by rw[nq,AZ,AZ]) λk=>?_;rw[vD _ _ _ _ (by rw[AZ];exact hi),rM,rM,bZ,bZ];by_cases hk:k<wide
 .rw[if_pos hk,if_pos hk,sm];by_cases c:k=hd i
  .rw[if_pos c,if_pos c,c,jA λh hh=>if_neg λe=>hu h hh e.symm,dj]
  .rw[if_neg c,if_neg c,cU]
 .rw[if_neg hk,if_neg hk,if_neg ⋯]
end
end Dm
namespace Pm
open Rm
section
variable {f g a:Nat->Int}{m P:List Int}{n:Nat}{b:Int}
def Fs(f:Nat->Int)(n:Nat):Prop:=∀k,n<=k->f k=0
theorem Fs.co(p:List Int):Fs (co p) p.length:=λ_ h=>bh h
def Fs.mono{m:Nat}(h:Fs f m)(hmn:m<=n):Fs f n:=λk hk=>h k ⋯
def Fs.add(h:Fs f n)(h':Fs g n):Fs (λk=>f k+g k) n:=λk hk=>by show f k+g k=0;rw[h k hk,h' k hk];rfl
def Fs.mul(c:Int)(h:Fs f n):Fs (λk=>c*f k) n:=λk hk=>by show c*f k=0;rw[h k hk,aV]
theorem Fs.cv{f g:Nat->Int}{m n:Nat}(h:Fs f m)(h':Fs g n):Fs (Pm.cv f g) (m+n):=λk hk=>mL λi _=>by
 by_cases c:m<=i
 .exact .inl (h i c)
 .exact .inr (h' _ ⋯)
def GX{x:Int}(y:Int)(h:tk b x=0):tk b (y*x)=0:=by rw[<-cD,h,aV,tk0]
def G5(hm:Mon m){f:Nat->Int}{n:Nat}(hf:Fs f n)(h:∀k,m.length-1<=k->tk b (cv f (co m) k)=0):∀k,tk b (f k)=0:=by
 have q:∀d j,n<=j+d->tk b (f j)=0:=λd=>by
  induction d with
  |zero=>intro j hj;rw[hf j hj,tk0]
  |succ d ih=>
   intro j hj;have e:=h (j+(m.length-1)) ⋯;rw[gb]at e;have e2:tk b (sm (j+(m.length-1)+1) λi=>f i*co m (j+(m.length-1)-i))=tk b (sm (j+(m.length-1)+1) λi=>if i=j then f j else 0):=dZ λi hi=>by
    by_cases c:i=j
    .rw[if_pos c,c,Ep,hm.one,iU]
    .rw[if_neg c,tk0];by_cases d2:i<j
     .rw[bh (by have:=hm.pos;lia),aV,tk0]
     .rw[bG];exact GX _ (ih i ⋯)
   rw[e2,iD,if_pos ⋯]at e;exact e
 exactλk=>q n k ⋯
def Dv(b:Int)(m:List Int)(f:Nat->Int):Prop:=∃s n,Fs s n/\∀k,tk b (f k)=tk b (cv s (co m) k)
def Dv.congr(e:∀k,tk b (f k)=tk b (g k))(h:Dv b m f):Dv b m g:=by
 obtain⟨s,n,hs,h⟩:=h;exact⟨s,n,hs,λk=>by rw[<-e,h]⟩
def Dv.zero(b:Int)(m:List Int):Dv b m λ_=>0:=⟨λ_=>0,0,λ_ _=>rfl,λk=>by rw[mL λi _=> .inl rfl]⟩
theorem Dv.add{b:Int}{m:List Int}{f g:Nat->Int}(h:Dv b m f)(h':Dv b m g):Dv b m λk=>f k+g k:=by
 obtain⟨s,n,hs,h⟩:=h;obtain⟨s',n',hs',h'⟩:=h';exact⟨λk=>s k+s' k,n+n',(hs.mono ⋯).add (hs'.mono ⋯),λk=>by rw[ni];exact jk (h k) (h' k)⟩
def Dv.smul(c:Int)(h:Dv b m f):Dv b m λk=>c*f k:=by
 obtain⟨s,n,hs,h⟩:=h;exact⟨λk=>c*s k,n,hs.mul c,λk=>by rw[nW,<-cD,h,cD]⟩
def Dv.sub(h:Dv b m f)(h':Dv b m g):Dv b m λk=>f k-g k:=
 (h.add (h'.smul (-1))).congr λk=>by rw[(⋯:f k + -1*g k=f k-g k)]
def Dv.mul(hg:Fs g n)(h:Dv b m f):Dv b m (cv g f):=by
 obtain⟨s,n',hs,h⟩:=h;exact⟨cv g s,n+n',hg.cv hs,λk=>by rw[gG];exact iu (λi _=>rfl) λi _=>h i⟩
def Dv.self(hg:Fs g n):Dv b m (cv g (co m)):=⟨g,n,hg,λ_=>rfl⟩
def Dv.short(hm:Mon m){f:Nat->Int}(hf:Fs f (m.length-1))(h:Dv b m f):∀k,tk b (f k)=0:=by
 obtain⟨s,n,hs,h⟩:=h;have z:=G5 (b:=b) hm hs λk hk=>by rw[<-h,hf k hk,tk0]
 intro k;rw[h,<-tk0 b,<-mL (f:=λ_=>(0:Int)) (g:=co m) (k:=k) λi _=> .inl rfl];exact iu (λi _=>by rw[z,tk0]) λi _=>rfl
def tp(P:List Int)(a:Nat->Int)(k:Nat):Int:=sm (P.length-1-k) λi=>co P (k+1+i)*a i
def Cd(P:List Int)(a:Nat->Int):Fs (tp P a) (P.length-1):=λk hk=>by unfold tp;rw[(⋯:P.length-1-k=0)];rfl
def Wy{a':Nat->Int}(h:∀n,tk b (a n)=tk b (a' n))(k:Nat):tk b (tp P a k)=tk b (tp P a' k):=dZ λi _=>by rw[<-cD,h,cD]
def asr(P:List Int)(c:Int)(a a':Nat->Int)(k:Nat):tp P (λn=>c*a n+a' n) k=c*tp P a k+tp P a' k:=by
 unfold tp;rw[<-cj,<-eZ];refine aJ λi _=>?_;rw[nY,fW]
def azT(hP:0<P.length){a:Nat->Int}(h0:tk b (ks P a 0)=0)(k:Nat):tk b (if k=0 then 0 else tp P a (k-1))=tk b (tp P (λn=>a (n+1)) k+a 0*co P k):=by
 by_cases c:k=0
 .rw[if_pos c,c,tk0,<-h0];refine congrArg (tk b) ?_;unfold ks tp;obtain⟨N,hN⟩:∃N,P.length=N+1:=⟨P.length-1,⋯⟩;rw[hN,jr,fu,nO,nK,bG (co P 0)];congr 1;exact aJ λi _=>by rw[JC,JC,Ci 1 i]
 .rw[if_neg c];by_cases d:k<P.length
  .refine congrArg (tk b) ?_;unfold tp;rw[(⋯:P.length-1-(k-1)=(P.length-1-k)+1),jr,nK];congr 1
   .exact aJ λi _=>by rw[(⋯:k-1+1+(i+1)=k+1+i)]
   .rw[(⋯:k-1+1+0=k),bG]
  .rw[Cd P a (k-1) ⋯,Cd P _ k ⋯,bh ⋯,aV];rfl
def aee(x:Int)(q:List Int)(f:Nat->Int)(k:Nat):cv (co (x::q)) f k=x*f k+(if k=0 then 0 else cv (co q) f (k-1)):=by
 cases k with
 |zero=>rw[cv,jh,if_pos rfl,cU]
 |succ k=>
  rw[cv,jh,if_neg ⋯,fu];congr 1
def ao9(q f:Nat->Int)(k:Nat):(if k=0 then 0 else cv q f (k-1))=cv q (λi=>if i=0 then 0 else f (i-1)) k:=by
 cases k with
 |zero=>rw[if_pos rfl,cv,if_pos rfl,aV]
 |succ k=>rw[if_neg ⋯,fu,UZ,if_pos rfl,aV,cU];rfl
def avw(x:Int)(q:List Int)(a:Nat->Int)(n:Nat):ks (x::q) a n=x*a n+ks q (λn=>a (n+1)) n:=by
 unfold ks;rw[qp,jr,jh,BH];congr 1
theorem Ua{b:Int}{P:List Int}(hP:0<P.length):∀(q:List Int) {a:Nat->Int},Kp b P a->Dv b P λk=>cv (co q) (tp P a) k-tp P (ks q a) k
 |[],a,_=>(Dv.zero b P).congr λk=>by
  rw[mL λi _=> .inl (gP i)];have:tp P (ks [] a) k=0:=jA λi _=>by show co P (k+1+i)*0=0;exact aV _
  rw[this];rfl
 |x::q,a,h=>by
  have h1:Kp b P λn=>a (n+1):=λn=>by
   have e:ks P (λn=>a (n+1)) n=ks P a (n+1):=aJ λk _=>by show _*a (n+k+1)=_*a (n+1+k);rw[(⋯:n+k+1=n+1+k)]
   rw[e];exact h (n+1)
  have ih:=Ua hP q h1;have d:=Dv.self (b:=b) (m:=P) ((Fs.co q).mul (a 0));refine(ih.add d).congr λk=>?_;have e1:tk b (if k=0 then 0 else cv (co q) (tp P a) (k-1))=tk b (cv (co q) (tp P λn=>a (n+1)) k+a 0*cv (co q) (co P) k):=by
   rw[ao9,<-nW,iu (λi _=>rfl) λi _=>azT hP (h 0) i,RL];congr 2;rw[j4,nW,nW,j4]
  have e2:tp P (ks (x::q) a) k=x*tp P a k+tp P (ks q λn=>a (n+1)) k:=by
   rw[<-asr];unfold tp;exact aJ λi _=>by rw[avw]
  rw[aee,e2,nW];have e3:=jk e1 (rfl:tk b (-(tp P (ks q λn=>a (n+1)) k))=_);rw[(⋯:x*tp P a k+(if k=0 then 0 else cv (co q) (tp P a) (k-1))-(x*tp P a k+tp P (ks q λn=>a (n+1)) k)=(if k=0 then 0 else cv (co q) (tp P a) (k-1)) + -(tp P (ks q λn=>a (n+1)) k)),e3];refine congrArg (tk b) ?_;lia
def ahw(hm:Mon P){e:Nat->Int}(h:∀k,tk b (tp P e k)=0):∀n,n<P.length-1->tk b (e n)=0:=λn=>by
 induction n using mV with
 |ind n ih=>
  intro hn;have q:=h (P.length-1-1-n);unfold tp at q;rw[(⋯:P.length-1-(P.length-1-1-n)=n+1),sm]at q;have z:tk b (sm n λi=>co P (P.length-1-1-n+1+i)*e i)=0:=by
   have:=dZ (b:=b) (n:=n) (f:=λi=>co P (P.length-1-1-n+1+i)*e i) (g:=λ_=>0) λi hi=>by rw[tk0];exact GX _ (ih i hi ⋯)
   rw[this,oE,tk0]
  rw[<-gM,z,dj,(⋯:P.length-1-1-n+1+n=P.length-1),hm.one,fP]at q;exact q
def as3{rule:List Int}(ha:∀n,rule.length<=n->tk b (a n)=tk b (S rule a n rule.length))(q:List Int):
  Kp b q a↔Dv b (aW b rule) (cv (co q) (tp (aW b rule) a)):=by
 have hm:=uW b rule;have hK:Kp b (aW b rule) a:=Kp.aW ha;have A:=Ua hm.pos q hK;constructor
 .intro h;have z:Dv b (aW b rule) (tp (aW b rule) (ks q a)):=(Dv.zero b _).congr λk=>by
   have:=Wy (b:=b) (P:=aW b rule) (a:=ks q a) (a':=λ_=>0) (λn=>by rw[h n,tk0]) k;rw[this];exact(congrArg (tk b) (show tp (aW b rule) (λ_=>0) k=0 from jA λi _=>aV _)).symm
  exact(A.add z).congr λk=>by rw[aaE]
 .intro h;have z:Dv b (aW b rule) (tp (aW b rule) (ks q a)):=(h.sub A).congr λk=>by
   rw[(⋯:cv (co q) (tp (aW b rule) a) k-(cv (co q) (tp (aW b rule) a) k-tp (aW b rule) (ks q a) k)=tp (aW b rule) (ks q a) k)]
  have n0:=ahw hm (z.short hm (Cd _ _));rw[iT,fu]at n0;exact R5 ha n0
structure Ue(b:Int)(p:List Int)(t:Nat->Int)(g:List Int):Prop where
 mon:Mon g
 one:Dv b g (co p)
 two:Dv b g t
 sum:∃(N:Int) (u v:Nat->Int) (n:Nat),tk b N≠0/\Fs u n/\Fs v n/\∀k,tk b (N*co g k)=tk b (cv u (co p) k+cv v t k)
def JM(hm:Mon m){p:List Int}(hp:∀k,tk b (co p k)=co p k):∃q r,Div b p m q r:=by
 have go:∀d,d<=p.length-(m.length-1)->∃o l,rH b p m (p.length-(m.length-1)-d) o l:=λd=>by
  induction d with
  |zero=>intro _;exact⟨_,_,rH.start hp⟩
  |succ d ih=>
   intro hd;obtain⟨o,l,I⟩:=ih ⋯;obtain⟨s,hs⟩:∃s,p.length-(m.length-1)-d=s+1:=⟨p.length-(m.length-1)-d-1,⋯⟩;rw[hs]at I;refine⟨o.set s (co l (s+(m.length-1))),aq l.length λk=>lf b (co l (s+(m.length-1))) s m.length l m k,?_⟩;rw[(⋯:p.length-(m.length-1)-(d+1)=s)];refine I.step hm ⋯ (aQ ..) λk=>?_;rw[bZ];by_cases c:k<l.length
   .rw[if_pos c]
   .rw[if_neg c];have hl:=I.ll;have hmp:=hm.pos;unfold lf;rw[if_neg ⋯,bh ⋯]
 obtain⟨o,l,I⟩:=go _ (aR _);rw[kZ]at I;exact⟨_,_,I.stop hm⟩
def avi(hD:∀x y,tk b x≠0->tk b (x*y)=0->tk b y=0){L:List Int}(hL:Mon L){N:Int}(hN:tk b N≠0){f:Nat->Int}{n:Nat}(hf:Fs f n)(h:Dv b L λk=>N*f k):Dv b L f:=by
 obtain⟨o,r,D⟩:=JM (b:=b) hL (p:=aq n λk=>tk b (f k)) λk=>by
  rw[bZ];split
  .exact dO ..
  .exact tk0 b
 have ef:∀k,tk b (co (aq n λk=>tk b (f k)) k)=tk b (f k):=λk=>by
  rw[bZ];by_cases c:k<n
  .rw[if_pos c,dO]
  .rw[if_neg c,hf k ⋯]
 have e:∀k,tk b (f k)=tk b (cv (co o) (co L) k+co r k):=λk=>by rw[D.eq,ef]
 have z:Dv b L λk=>N*co r k:=(h.sub ((Dv.self (b:=b) (m:=L) (Fs.co o)).smul N)).congr λk=>by
  rw[show N*f k-N*cv (co o) (co L) k=N*(f k-cv (co o) (co L) k)by rw[nJ],<-cD,<-cD b N (co r k)];congr 2;have:=e k;have q:=jk this (rfl:tk b (-cv (co o) (co L) k)=_);rw[(⋯:f k-cv (co o) (co L) k=f k + -cv (co o) (co L) k),q];exact congrArg (tk b) ⋯
 have hr:Fs (λk=>N*co r k) (L.length-1):=((Fs.co r).mono (by have:=D.short;lia)).mul N;have z0:=z.short hL hr;refine⟨co o,o.length,Fs.co o,λk=>?_⟩;rw[e,<-sS,hD N _ hN (z0 k),cU]
def Ue.keeps(hD:∀x y,tk b x≠0->tk b (x*y)=0->tk b y=0){rule:List Int}{a:Nat->Int}(ha:∀n,rule.length<=n->tk b (a n)=tk b (S rule a n rule.length)){g L:List Int}(h:Ue b (aW b rule) (tp (aW b rule) a) g)(hL:Mon L)
  (hP:∀k,tk b (co (aW b rule) k)=tk b (cv (co L) (co g) k)) (q:List Int):Kp b q a↔Dv b L (co q):=by
 rw[as3 ha q];generalize aW b rule=P at h hP;obtain⟨t,nt,ht,hT⟩:=h.two;obtain⟨N,u,v,n,hN,hu,hv,hs⟩:=h.sum;generalize tp P a=T at h hT hs;have bez:∀k,tk b ((if k=0 then N else 0)-(cv u (co L) k+cv v t k))=0:=by
  refine G5 (b:=b) h.mon (n:=1+(n+L.length)+(n+nt)) (λk hk=>?_) λk _=>?_
  .show(if k=0 then N else 0)-(cv u (co L) k+cv v t k)=0;rw[if_neg ⋯,hu.cv (Fs.co L) k ⋯,hv.cv ht k ⋯];rfl
  .have e:cv (λk=>(if k=0 then N else 0)-(cv u (co L) k+cv v t k)) (co g) k=N*co g k + -1*(cv u (cv (co L) (co g)) k+cv v (cv t (co g)) k):=by
    rw[<-gG,<-gG,<-ni,<-nW];have e2:N*co g k=cv (λk=>if k=0 then N else 0) (co g) k:=by rw[Ey,if_pos (dD _),nO]
    rw[e2,<-ni];refine qL (λi _=>?_) λi _=>rfl;lia
   rw[e,<-gM,hs,gM];have e3:tk b (cv u (co P) k+cv v T k)=tk b (cv u (cv (co L) (co g)) k+cv v (cv t (co g)) k):=jk (iu (λi _=>rfl) λi _=>hP i) (iu (λi _=>rfl) λi _=>hT i);have e4:=jk e3 (rfl:tk b (-1*(cv u (cv (co L) (co g)) k+cv v (cv t (co g)) k))=_);rw[e4,show ∀x:Int,x + -1*x=0 fromλx=>⋯,tk0]
 constructor
 .rintro⟨s,ns,hs',e⟩;have qt:∀k,tk b (cv (co q) t k-cv s (co L) k)=0:=by
   refine G5 (b:=b) h.mon (n:=(q.length+nt)+(ns+L.length)) (λk hk=>?_) λk _=>?_
   .show cv (co q) t k-cv s (co L) k=0;rw[(Fs.co q).cv ht k ⋯,hs'.cv (Fs.co L) k ⋯];rfl
   .have e1:cv (λk=>cv (co q) t k-cv s (co L) k) (co g) k=cv (co q) (cv t (co g)) k + -1*cv s (cv (co L) (co g)) k:=by
     rw[<-gG,<-gG,<-nW,<-ni];exact qL (λi _=>⋯) λi _=>rfl
    have e2:tk b (cv (co q) (cv t (co g)) k)=tk b (cv s (cv (co L) (co g)) k):=by
     rw[<-iu (λi _=>rfl) (λi _=>hT i),e,iu (λi _=>rfl) λi _=>hP i]
    have e3:=jk e2 (rfl:tk b (-1*cv s (cv (co L) (co g)) k)=_);rw[e1,e3,show ∀x:Int,x + -1*x=0 fromλx=>⋯,tk0]
  refine avi hD hL hN (Fs.co q) ?_;refine⟨λk=>cv (co q) u k+cv v s k,(q.length+n)+(n+ns),((((Fs.co q).cv hu)).mono ⋯).add ((hv.cv hs').mono ⋯),λk=>?_⟩;have e1:tk b (N*co q k)=tk b (cv (λk=>cv u (co L) k+cv v t k) (co q) k):=by
   have e2:N*co q k=cv (λk=>if k=0 then N else 0) (co q) k:=by rw[Ey,if_pos (dD _),nO]
   rw[e2];exact iu (λi _=>jJ.mp (bez i)) λi _=>rfl
  rw[e1,ni,ni];refine jk ?_ ?_
  .exact congrArg (tk b) ((j4 ..).trans (gG ..).symm)
  .rw[gG,gG];refine iu (λi _=>rfl) λi _=>?_;rw[j4];exact jJ.mp (qt i)
 .rintro⟨s,ns,hs',e⟩;refine⟨cv s t,ns+nt,hs'.cv ht,λk=>?_⟩;rw[iu (λi _=>e i) (λi _=>hT i),iu (f:=cv s t) (λi _=>rfl) (λi _=>hP i)];refine congrArg (tk b) ?_;rw[gG,gG];refine qL (λi _=>rfl) λi _=>?_;rw[<-gG,<-gG];exact qL (λj _=>j4 ..) λj _=>rfl
end
end Pm
namespace Om
def cG(p:Nat):Prop:=2<=p/\∀d,d∣p->d=1∨d=p
def cG.cop{p x:Nat}(h:cG p)(hx:¬p∣x):Nat.Coprime p x:=by
 rcases h.2 _ (VB p x)with e|e
 .exact e
 .exact absurd (e▸Oo p x) hx
def cG.dvd{p x y:Nat}(h:cG p)(hd:p∣x*y):p∣x∨p∣y:=by
 by_cases c:p∣x
 .exact .inl c
 .exact .inr ((h.cop c).dvd_of_dvd_mul_left hd)
def ch:Nat->Nat->Nat
 |_,0=>1
 |0,_+1=>0
 |n+1,k+1=>ch n k+ch n (k+1)
def Ea(n:Nat):ch n 0=1:=by cases n<;>rfl
theorem Av:∀(n k:Nat),n<k->ch n k=0
 |0,k+1,_=>rfl
 |n+1,k+1,h=>by rw[ch,Av n k ⋯,Av n (k+1) ⋯]
theorem XM:∀n,ch n n=1
 |0=>rfl
 |n+1=>by rw[ch,XM n,Av n (n+1) ⋯]
theorem JL:∀n k:Nat,(k+1)*ch (n+1) (k+1)=(n+1)*ch n k
 |0,0=>rfl
 |0,k+1=>by
  have e:ch (0+1) (k+1+1)=ch 0 (k+1)+ch 0 (k+1+1):=rfl;rw[e,Av 0 (k+1) ⋯,Av 0 (k+1+1) ⋯];simp
 |n+1,0=>by
  have:=JL n 0;have e:ch (n+1+1) (0+1)=ch (n+1) 0+ch (n+1) (0+1):=rfl;simp only[Ea]at e⊢;rw[e];rw[Ea]at this;lia
 |n+1,k+1=>by
  have h1:=JL n k;have h2:=JL n (k+1);rw[ch,rC];have e1:(k+1+1)*ch (n+1) (k+1)=(n+1)*ch n k+ch (n+1) (k+1):=by rw[mJ,h1]
  rw[e1,h2];have e2:ch (n+1) (k+1)=ch n k+ch n (k+1):=rfl;rw[e2,mJ (n+1),rC];lia
def cG.dch{p k:Nat}(h:cG p)(h0:0<k)(hk:k<p):p∣ch p k:=by
 obtain⟨n,rfl⟩:∃n,p=n+1:=⟨p-1,by have:=h.1;lia⟩;obtain⟨j,rfl⟩:∃j,k=j+1:=⟨k-1,⋯⟩;have e:=JL n j;rcases h.dvd (x:=j+1) (y:=Om.ch (n+1) (j+1)) (by rw[e];exact aaR ..)with d|d
 .exact absurd (uq ⋯ d) ⋯
 .exact d
def sN(f:Nat->Nat):Nat->Nat
 |0=>0
 |n+1=>sN f n+f n
theorem W3{f g:Nat->Nat}:∀{n:Nat},(∀k,k<n->f k=g k)->sN f n=sN g n
 |0,_=>rfl
 |n+1,h=>by rw[sN,sN,W3 λk hk=>h k ⋯,h n ⋯]
theorem afo(f g:Nat->Nat):∀n,sN (λk=>f k+g k) n=sN f n+sN g n
 |0=>rfl
 |n+1=>by rw[sN,sN,sN,afo f g n];lia
theorem ae1(c:Nat)(f:Nat->Nat):∀n,sN (λk=>c*f k) n=c*sN f n
 |0=>rfl
 |n+1=>by rw[sN,sN,ae1 c f n,rC]
theorem HY(f:Nat->Nat):∀n,sN f (n+1)=f 0+sN (λk=>f (k+1)) n
 |0=>by rw[sN,sN,sN];lia
 |n+1=>by rw[sN,HY f n,sN];lia
theorem aaO{p:Nat}{f:Nat->Nat}:∀{n:Nat},(∀k,k<n->p∣f k)->p∣sN f n
 |0,_=>Nat.dvd_zero _
 |n+1,h=>Nat.dvd_add (aaO λk hk=>h k ⋯) (h n ⋯)
theorem aeb(a:Nat):∀n,(a+1)^n=sN (λk=>ch n k*a^k) (n+1)
 |0=>by simp[sN,ch]
 |n+1=>by
  rw[iY,aeb a n,HY (λk=>ch (n+1) k*a^k) (n+1)];have e1:sN (λk=>ch (n+1) (k+1)*a^(k+1)) (n+1)=sN (λk=>a*(ch n k*a^k)) (n+1)+sN (λk=>ch n (k+1)*a^(k+1)) (n+1):=by
   rw[<-afo];refine W3 λk _=>?_;rw[ch,yR,iY];congr 1;rw[gZ a,mz]
  have e2:sN (λk=>ch n k*a^k) (n+1)=1+sN (λk=>ch n (k+1)*a^(k+1)) (n+1):=by
   have e3:sN (λk=>ch n k*a^k) (n+1+1)=sN (λk=>ch n k*a^k) (n+1):=by rw[sN,Av n (n+1) ⋯,zp,BH]
   rw[<-e3,HY];rw[Ea,E1]
  rw[e1,ae1,Ea,E1,rC,v8,gZ];lia
theorem cG.pow{p:Nat}(h:cG p):∀a:Nat,a^p%p=a%p
 |0=>by rw[Nat.zero_pow (by have:=h.1;lia)]
 |a+1=>by
  obtain⟨n,rfl⟩:∃n,p=n+1:=⟨p-1,by have:=h.1;lia⟩;have e:(a+1)^(n+1)=1+sN (λk=>ch (n+1) (k+1)*a^(k+1)) n+a^(n+1):=by
   rw[aeb,sN,HY,Ea,E1,XM,oA,oA]
  obtain⟨c,hc⟩:(n+1)∣sN (λk=>ch (n+1) (k+1)*a^(k+1)) n:=aaO λk hk=>Dr (h.dch ⋯ ⋯) (aaR ..);rw[e,hc,(⋯:1+(n+1)*c+a^(n+1)=(a^(n+1)+1)+(n+1)*c),agl,Nat.add_mod,cG.pow h a,<-Nat.add_mod]
def cG.atq{p a:Nat}(h:cG p)(h0:a≠0)(ha:a<p):a^(p-1)%p=1:=by
 have hp:=h.1;have e:=h.pow a;obtain⟨n,rfl⟩:∃n,p=n+1:=⟨p-1,⋯⟩;rw[fu];have one:1<=a^n:=pF ⋯;have d:(n+1)∣a*(a^n-1):=by
  have e2:a*(a^n-1)=a^(n+1)-a:=by rw[Nat.mul_sub,v8,iY,gZ]
  rw[e2];exact Nat.dvd_of_mod_eq_zero (Nat.sub_mod_eq_zero_of_mod_eq e)
 rcases h.dvd d with d|⟨c,hc⟩
 .exact absurd (uq ⋯ d) ⋯
 .rw[(⋯:a^n=1+(n+1)*c),agl];exact Nat.mod_eq_of_lt ⋯
end Om
namespace Pm
open Rm
section
variable {f a:Nat->Int}{n p:Nat}
def Kf(f:Nat->Int)(n:Nat)(a:Nat->Int):Prop:=∀m,sm n (λk=>f k*a (m+k))=0
def Kf.less{m:Nat}(h:Kf f m a)(hf:Fs f n)(hm:n<=m):Kf f n a:=λi=>by
 rw[<-lD (n:=m) hm λk h1 _=>by rw[hf k h1,dF]];exact h i
def Kf.lin{f g:Nat->Int}{n:Nat}{a:Nat->Int}(c d:Int)(h:Kf f n a)(h':Kf g n a):Kf (λk=>c*f k+d*g k) n a:=λi=>by
 have e:sm n (λk=>(c*f k+d*g k)*a (i+k))=c*sm n (λk=>f k*a (i+k))+d*sm n (λk=>g k*a (i+k)):=by
  rw[<-cj,<-cj,<-eZ];exact aJ λk _=>by rw[uy,cP,cP]
 rw[e,h i,h' i];simp
def Kf.shift(s:Nat)(h:Kf f n a):Kf (λk=>if s<=k then f (k-s)else 0) (s+n) a:=λi=>by
 have e:∀s,sm (s+n) (λk=>(if s<=k then f (k-s)else 0)*a (i+k))=sm n (λk=>f k*a (i+s+k)):=λs=>by
  induction s generalizing i with
  |zero=>rw[JC];exact aJ λk _=>by rw[if_pos (dD _)];rfl
  |succ s ih=>
   rw[(⋯:s+1+n=(s+n)+1),jr,if_neg ⋯,dF,dj];rw[(⋯:i+(s+1)=(i+1)+s),<-ih (i+1)];refine aJ λk _=>?_;rw[(⋯:i+(k+1)=i+1+k)];by_cases c:s<=k
   .rw[if_pos c,if_pos ⋯,(⋯:k+1-(s+1)=k-s)]
   .rw[if_neg c,if_neg ⋯]
 rw[e];exact h _
def Kf.div{c:Int}(hc:c≠0)(h:Kf (λk=>c*f k) n a):Kf f n a:=λi=>by
 have e:=h i;rw[show(λk=>c*f k*a (i+k))=λk=>c*(f k*a (i+k))from funext λk=>cP ..,cj]at e;exact(xQ.mp e).resolve_left hc
def Kf.of{p:List Int}(h:Kp 0 p a):Kf (co p) p.length a:=λi=>by
 have:=h i;rw[cJ]at this;exact this
def aqF:∀n:Nat,2<=n->∃p,Om.cG p/\p∣n:=λn=>by
 induction n using mV with
 |ind n ih=>
  intro hn;by_cases h:∀d,d∣n->d=1∨d=n
  .exact⟨n,⟨hn,h⟩,Zu n⟩
  .obtain⟨d,hd⟩:=Bf.mp h;obtain⟨hd,hn1⟩:=RK.mp hd;have h0:d≠0:=λe=>by rw[e]at hd;have:=Nat.eq_zero_of_zero_dvd hd;lia
   have hl:=uq ⋯ hd;have h1:d≠1:=λe=>hn1 (.inl e);have h2:d≠n:=λe=>hn1 (.inr e);obtain⟨p,hp,hq⟩:=ih d ⋯ ⋯;exact⟨p,hp,Dr hq hd⟩
def least_of{Q:Nat->Prop}(h:∃n,Q n):∃n,Q n/\∀m,Q m->n<=m:=by
 obtain⟨n,hn⟩:=h;induction n using mV with
 |ind n ih=>
  by_cases c:∃m,m<n/\Q m
  .obtain⟨m,h1,h2⟩:=c;exact ih m h1 h2
  .exact⟨n,hn,λm hm=>by
    by_cases d:m<n
    .exact absurd ⟨m,d,hm⟩ c
    .lia⟩
def CQ{x:Int}:(p:Int)∣x↔p∣x.natAbs:=NV
def GN(hp:Om.cG p){x y:Int}(h:(p:Int)∣x*y):(p:Int)∣x∨(p:Int)∣y:=by
 rw[CQ,jD]at h;rcases hp.dvd h with h|h
 .exact .inl (CQ.mpr h)
 .exact .inr (CQ.mpr h)
theorem ahf{d:Int}{f:Nat->Int}:∀{n:Nat},(∀k,k<n->d∣f k)->d∣sm n f
 |0,_=>⟨0,by rw[aV];rfl⟩
 |n+1,h=>uc (ahf λk hk=>h k ⋯) (h n ⋯)
def aqU{d:Int}{j:Nat}(hj:j<n)(h:d∣sm n f)(ho:∀k,k<n->k≠j->d∣f k):d∣f j:=by
 have e:sm n f=sm n (λk=>if k=j then f j else 0)+sm n (λk=>if k=j then 0 else f k):=by
  rw[<-eZ];refine aJ λk _=>?_;by_cases c:k=j
  .rw[if_pos c,if_pos c,c,cU]
  .rw[if_neg c,if_neg c,dj]
 rw[iD,if_pos hj]at e;have h2:d∣sm n (λk=>if k=j then 0 else f k):=ahf λk hk=>by
  by_cases c:k=j
  .rw[if_pos c];exact⟨0,by rw[aV]⟩
  .rw[if_neg c];exact ho k hk c
 have:f j=sm n f-sm n (λk=>if k=j then 0 else f k):=⋯;rw[this];exact Int.dvd_sub h h2
def azb(hp:Om.cG p){f g:Nat->Int}(h:∀k,(p:Int)∣cv f g k):(∀k,(p:Int)∣f k)∨∀k,(p:Int)∣g k:=by
 by_cases hf:∀k,(p:Int)∣f k
 .exact .inl hf
 by_cases hg:∀k,(p:Int)∣g k
 .exact .inr hg
 obtain⟨i,hi,hi'⟩:=least_of (Bf.mp hf);obtain⟨j,hj,hj'⟩:=least_of (Bf.mp hg);have e:=h (i+j);rw[gb]at e;have t:=aqU (j:=i) ⋯ e λk hk hne=>by
  by_cases c:k<i
  .have:(p:Int)∣f k:=ur λz=>by have:=hi' k z;lia
   exact DQ this (ED ..)
  .have:(p:Int)∣g (i+j-k):=ur λz=>by have:=hj' _ z;lia
   exact DQ this (adT ..)
 rw[Ep]at t;rcases GN hp t with t|t
 .exact absurd t hi
 .exact absurd t hj
theorem Fs.top{f:Nat->Int}:∀{n:Nat},Fs f n->(∀k,f k=0)∨∃d,d<n/\f d≠0/\Fs f (d+1)
 |0,h=> .inl λk=>h k (dD _)
 |n+1,h=>by
  by_cases c:f n=0
  .have h':Fs f n:=λk hk=>by
    by_cases e:k=n
    .rw[e];exact c
    .exact h k ⋯
   rcases Fs.top h' with z|⟨d,h1,h2,h3⟩
   .exact .inl z
   .exact .inr ⟨d,⋯,h2,h3⟩
  .exact .inr ⟨n,⋯,c,h⟩
structure Lk(a:Nat->Int)(d:Nat)(f:Nat->Int):Prop where
 fs:Fs f (d+1)
 ne:f d≠0
 kf:Kf f (d+1) a
def aqI{d:Nat}(hf:Lk a d f)(hd:∀e g,Lk a e g->d<=e):∀(n:Nat) (q:Nat->Int),Fs q n->Kf q n a->∃(m:Int) (G:Nat->Int) (N:Nat),m≠0/\Fs G N/\∀k,m*q k=cv G f k:=λn=>by
 induction n using mV with
 |ind n ih=>
  intro q hq hk;rcases hq.top with z|⟨e,hen,hne,hfe⟩
  .exact⟨1,λ_=>0,0,∅,λ_ _=>rfl,λk=>by rw[z k,mL λi _=> .inl rfl];rfl⟩
  .have hke:Kf q (e+1) a:=hk.less hfe ⋯;have hde:=hd e q ⟨hfe,hne,hke⟩;have ks:=hf.kf.shift (e-d);rw[(⋯:e-d+(d+1)=e+1)]at ks;have kl:=hke.lin (f d) (-(q e)) ks;have fl:Fs (λk=>f d*q k + -(q e)*(if e-d<=k then f (k-(e-d))else 0)) e:=λk hk=>by
    show f d*q k + -(q e)*(if e-d<=k then f (k-(e-d))else 0)=0;rw[if_pos ⋯];by_cases c:k=e
    .rw[c,(⋯:e-(e-d)=d),iI,bG (q e),Int.add_right_neg]
    .rw[hfe k ⋯,hf.fs (k-(e-d)) ⋯,aV,aV];rfl
   obtain⟨m,G,N,hm,hG,hE⟩:=ih e hen _ fl (kl.less fl ⋯);refine⟨m*f d,λk=>G k+m*q e*(if k=e-d then 1 else 0),N+(e-d+1),ady hm hf.ne,λk hk=>?_,λk=>?_⟩
   .show G k+m*q e*(if k=e-d then 1 else 0)=0;rw[hG k ⋯,if_neg ⋯,aV];rfl
   .rw[ni,nW,Ey,<-hE k];by_cases c:e-d<=k
    .rw[if_pos c,if_pos c,nY,fP,iI,tX,cP,cP,Int.neg_add_cancel_right]
    .rw[if_neg c,if_neg c,nY];simp[cP]
def ang{P:List Int}(hP:Mon P)(hk:Kp 0 P a):∃L,Mon L/\Py 0 L/\Kp 0 L a/\L.length<=P.length/\(∀q,Kp 0 q a->Dv 0 L (co q))/\∀e g,Lk a e g->L.length-1<=e:=by
 have hp:=hP.pos;have p0:Lk a (P.length-1) (co P):=⟨by rw[(⋯:P.length-1+1=P.length)];exact Fs.co P,by rw[hP.one];decide,by rw[(⋯:P.length-1+1=P.length)];exact Kf.of hk⟩;obtain⟨d,⟨f0,hf0⟩,hd⟩:=least_of (Q:=λd=>∃f,Lk a d f) ⟨_,_,p0⟩;have hd':∀e g,Lk a e g->d<=e:=λe g h=>hd e ⟨g,h⟩;obtain⟨c,⟨f,hf,hc⟩,hc'⟩:=least_of (Q:=λc=>∃f,Lk a d f/\(f d).natAbs=c) ⟨_,f0,hf0,rfl⟩;obtain⟨m0,G0,N0,hm0,hG0,hE0⟩:=aqI hf hd' P.length (co P) (Fs.co P) (Kf.of hk);obtain⟨n,⟨m,G,N,hm,hG,hE,hn⟩,hn'⟩:=least_of (Q:=λn=>∃(m:Int) (G:Nat->Int) (N:Nat),m≠0/\Fs G N/\(∀k,m*co P k=cv G f k)/\m.natAbs=n) ⟨_,m0,G0,N0,hm0,hG0,hE0,rfl⟩;have h1:m.natAbs=1:=by
  by_cases c2:m.natAbs=1
  .exact c2
  .have h0:m.natAbs≠0:=⋯;obtain⟨p,hp,hd⟩:=aqF m.natAbs ⋯;have hpp:=hp.1;have hp0:(p:Int)≠0:=⋯;obtain⟨m',em⟩:=CQ.mpr hd;have hm':m'≠0:=λz=>hm (by rw[em,z,aV]);rcases azb hp (f:=G) (g:=f) λk=>by rw[<-hE k,em,cP];exact ED .. with z|z
   .exfalso
    obtain⟨G',hg⟩:=UC.mp z;refine absurd (hn' m'.natAbs ⟨m',G',N,hm',λk hk=>?_,λk=>?_,rfl⟩) ?_
    .have:=hg k;rw[hG k hk]at this;exact(xQ.mp this.symm).resolve_left hp0
    .refine Int.eq_of_mul_eq_mul_left hp0 ?_;rw[<-nW,<-cP,<-em,hE k];exact qL (λi _=>hg i) λ_ _=>rfl
    .rw[<-hn,em,jD,C6];have:0<m'.natAbs:=⋯;have:2*m'.natAbs<=p*m'.natAbs:=ig _ hpp;lia
   .exfalso
    obtain⟨f',hg⟩:=UC.mp z;have e:f=λk=>p*f' k:=funext λk=>hg k;have q:Lk a d f':=⟨λk hk=>by
     have:=hg k;rw[hf.fs k hk]at this;exact(xQ.mp this.symm).resolve_left hp0,λz=>hf.ne (by rw[hg d,z,aV]),by
     have:=hf.kf;rw[e]at this;exact this.div hp0⟩
    refine absurd (hc' _ ⟨_,q,rfl⟩) ?_;have e2:=congrArg AF (hg d);rw[jD,C6,hc]at e2;have hne:=q.ne;have:0<(f' d).natAbs:=⋯;have:2*(f' d).natAbs<=p*(f' d).natAbs:=ig _ hpp;rw[e2];show ¬p*(f' d).natAbs<=(f' d).natAbs;lia
 have hu:(f d).natAbs=1:=by
  rcases hG.top with z|⟨e,_,hne,hfe⟩
  .exfalso
   have:=hE (P.length-1);rw[hP.one,iU,mL λi _=> .inl (z i)]at this;exact hm this
  .have t:cv G f (e+d)=G e*f d:=by
    rw[gb,aJ (g:=λi=>if i=e then G e*f d else 0) λi _=>by
     by_cases c3:i=e
     .rw[if_pos c3,c3,Ep]
     .rw[if_neg c3];by_cases c4:i<e
      .rw[hf.fs _ ⋯,aV]
      .rw[hfe i ⋯,dF],iD,if_pos ⋯]
   have hx:G e*f d≠0:=ady hne hf.ne;have e1:=hE (e+d);rw[t]at e1;have hl:e+d=P.length-1:=by
    by_cases c3:P.length<=e+d
    .rw[bh c3,aV]at e1;exact absurd e1.symm hx
    .by_cases c4:e+d=P.length-1
     .exact c4
     .exfalso
      have e2:=hE (P.length-1);rw[hP.one,iU,mL λi hi=>by
       by_cases c5:e+1<=i
       .exact .inl (hfe i c5)
       .exact .inr (hf.fs _ ⋯)]at e2
      exact hm e2
   rw[hl,hP.one,iU]at e1;have e3:=congrArg AF e1;rw[jD,h1]at e3;exact Nat.eq_one_of_mul_eq_one_left e3.symm
 have hs:f d*f d=1:=by
  rcases Int.natAbs_eq (f d)with h|h<;>rw[h,hu]<;>rfl
 have hLc:∀k,co (aq (d+1) λk=>f d*f k) k=f d*f k:=λk=>by
  rw[bZ];by_cases c3:k<d+1
  .rw[if_pos c3]
  .rw[if_neg c3,hf.fs k ⋯,aV]
 have hM:Mon (aq (d+1) λk=>f d*f k):=⟨by rw[aQ];lia,by rw[aQ,fu,hLc,hs]⟩;have hK:Kp 0 (aq (d+1) λk=>f d*f k) a:=λi=>by
  rw[cJ];unfold ks;rw[aQ,aJ (g:=λk=>f d*(f k*a (i+k))) λk _=>by rw[hLc,cP],cj,hf.kf i,aV]
 refine⟨aq (d+1) λk=>f d*f k,hM,⟨?_,λx _=>cJ x⟩,hK,?_,λq hq=>?_,λe g h=>by rw[aQ];exact hd' e g h⟩
 .refine E5 (λz=>?_) (by rw[hM.one];decide);have:=hM.pos;rw[z]at this;exact absurd this ∅
 .rw[aQ];have:=hd' _ _ p0;lia
 .obtain⟨o,r,D⟩:=JM (b:=0) hM (p:=q) λk=>cJ _;have kr:=(D.kp hK).mp hq;have rn:r=[]:=by
   by_cases c3:r=[]
   .exact c3
   .exfalso
    have hl:0<r.length:=Bv.mpr c3;have hne:=kJ c3 D.ry.tr;have:=hd' (r.length-1) (co r) ⟨by rw[(⋯:r.length-1+1=r.length)];exact Fs.co r,hne,by rw[(⋯:r.length-1+1=r.length)];exact Kf.of kr⟩;have hsh:=D.short;rw[aQ]at hsh;lia
  refine⟨co o,o.length,Fs.co o,λk=>?_⟩;rw[<-D.eq k,rn,gP,cU]
end
end Pm
namespace Dm
open Pm Rm
section
variable {n c r:Nat}{b:Int}{f A0 A:Nat->Nat->Int}{hd:Nat->Nat}
def RH(f:Nat->Nat->Int)(x:Nat->Int){j:Nat}(hj:j<n):det n (cB f j λi=>sm n λk=>f i k*x k)=x j*det n f:=by
 have e0:(λi=>sm n λk=>f i k*x k)=λi=>sm n λk=>x k*f i k:=funext λi=>aJ λk _=>bG ..;rw[e0,Bh f hj x (λk i=>f i k)];have e2:sm n (λk=>x k*det n (cB f j λi=>f i k))=sm n (λk=>if k=j then x j*det n f else 0):=aJ λk hk=>by
  by_cases c:k=j
  .rw[if_pos c,c,BJ]
  .rw[if_neg c];have z:det n (cB f j λi=>f i k)=0:=by
    rcases Ew c with l|l
    .exact uL l hj λi _=>by rw[oh,oR ⋯]
    .exact uL l hk λi _=>by rw[oh,oR ⋯]
   rw[z,aV]
 rw[e2,iD,if_pos hj]
def azm{x:Nat->Int}(h:Rel b n n f x){j:Nat}(hj:j<n):tk b (x j*det n f)=0:=by
 have hx:∀i,∃e,i<n->(sm n λk=>f i k*x k)=b*e:=λi=>by
  by_cases c:i<n
  .obtain⟨e,he⟩:=uf.mp (h i c);exact⟨e,λ_=>he⟩
  .exact⟨0,λz=>absurd z c⟩
 obtain⟨e,he⟩:=UC.mp hx;rw[<-RH f x hj];have e1:det n (cB f j λi=>sm n λk=>f i k*x k)=det n (cB f j λi=>b*e i+0):=iy λi k hi _=>by
  unfold cB;split
  .show(sm n λk=>f i k*x k)=b*e i+0;rw[he i hi,cU]
  .rfl
 rw[e1,uX f hj b e (λ_=>0),B3 f hj,cU];exact uf.mpr ⟨_,rfl⟩
def aa7(hD:Dom b)(h:tk b (det n f)≠0):oO b n n f:=λx hx k hk=>
 hD (det n f) (x k) h (by rw[bG];exact azm hx hk)
structure Cp(b:Int)(n:Nat)(A0:Nat->Nat->Int)(c:Nat)(A:Nat->Nat->Int)(hd:Nat->Nat)(r:Nat):Prop where
 sw:qY n A0 A
 nz:tk b (dt A hd r)≠0
 rn:r<=n
 hc:∀h,h<r->hd h<c
 up:∀h h',h<h'->h'<r->hd h<hd h'
 zero:∀k,k<c->(∀h,h<r->hd h≠k)->∀i,r<=i->i<n->tk b (En A hd r i k)=0
def Cp.bring(h:Cp b n A0 c A hd r){a:Nat}(hra:r<a)(han:a<n):Cp b n A0 c (turn A r a) hd r:=
 ⟨.step h.sw hra han,by rw[Jw (aR _) ⋯];exact h.nz,h.rn,h.hc,h.up,λk hk hn i h1 h2=>by
  rw[Cu (aR _) hra];split
  .exact h.zero k hk hn a ⋯ han
  .split
   .exact yG (h.zero k hk hn r (aR _) ⋯)
   .exact h.zero k hk hn i h1 h2⟩
def Cp.free(h:Cp b n A0 c A hd r)(hD:Dom b)(hrn:r<n)(hp:tk b (En A hd r r c)≠0):Cp b n A0 (c+1) A (more hd r c) (r+1):=by
 have hpi:En A hd r r c≠0:=λz=>hp (by rw[z];exact tk0 b);have ml:∀j,j<r->more hd r c j=hd j:=λj hj=>if_neg ⋯;have me:more hd r c r=c:=if_pos rfl;refine⟨h.sw,by rw[Pu];exact hp,⋯,λj hj=>?_,λj j' h1 h2=>?_,λk hk hn i h1 h2=>?_⟩
 .by_cases e:j=r
  .rw[e,me];lia
  .rw[ml j ⋯];have:=h.hc j ⋯;lia
 .by_cases e:j'=r
  .rw[e,me,ml j ⋯];exact h.hc j ⋯
  .rw[ml j' ⋯,ml j ⋯];exact h.up j j' h1 ⋯
 .have hkc:k≠c:=λe=>hn r ⋯ (by rw[me,e]);have hn':∀j,j<r->hd j≠k:=λj hj=>by rw[<-ml j hj];exact hn j ⋯
  refine hD _ _ h.nz ?_;rw[Fi hpi ⋯];exact aaM (Ej _ (h.zero k ⋯ hn' i ⋯ h2)) (Ej _ (h.zero k ⋯ hn' r (aR _) hrn))
def Cp.step{b:Int}{n:Nat}{A0:Nat->Nat->Int}{c:Nat}{A:Nat->Nat->Int}{hd:Nat->Nat}{r:Nat}(h:Cp b n A0 c A hd r)(hD:Dom b):∃A hd r,Cp b n A0 (c+1) A hd r:=by
 by_cases z:∀i,r<=i->i<n->tk b (En A hd r i c)=0
 .refine⟨A,hd,r,h.sw,h.nz,h.rn,λj hj=>by have:=h.hc j hj;lia,h.up,λk hk hn i h1 h2=>?_⟩;by_cases e:k=c
  .rw[e];exact z i h1 h2
  .exact h.zero k ⋯ hn i h1 h2
 .obtain⟨i,hi⟩:=Bf.mp z;obtain⟨h1,hi⟩:=RK.mp hi;obtain⟨h2,hi⟩:=RK.mp hi;by_cases e:i=r
  .rw[e]at hi;exact⟨_,_,_,h.free hD ⋯ hi⟩
  .refine⟨_,_,_,(h.bring (a:=i) ⋯ h2).free hD ⋯ ?_⟩;rw[Cu (aR _) ⋯,if_pos rfl];exact hi
theorem Cp.ex{b:Int}(hD:Dom b)(h1:tk b 1≠0)(n:Nat)(A0:Nat->Nat->Int):∀c,∃A hd r,Cp b n A0 c A hd r
 |0=>⟨A0,λ_=>0,0,.refl,by rw[Wa];exact h1,dD _,λh hh=>absurd hh (kj _),λ_ _ _ h=>absurd h (kj _),λk hk=>absurd hk (kj _)⟩
 |c+1=>by
  obtain⟨A,hd,r,h⟩:=Cp.ex hD h1 n A0 c;exact h.step hD
def ark{m:Nat}(hc:∀h,h<r->hd h<m)(up:∀h h',h<h'->h'<r->hd h<hd h')(Mt:∀k,k<m->∃j,j<r/\hd j=k):r=m/\∀k,k<m->hd k=k:=by
 have ge:∀j,j<r->j<=hd j:=λj=>by
  induction j with
  |zero=>intro _;exact dD _
  |succ j ih=>
   intro hj;have:=ih ⋯;have:=up j (j+1) ⋯ hj;lia
 have all:∀k,k<m->k<r/\hd k=k:=λk=>by
  induction k using mV with
  |ind k ih=>
   intro hk;obtain⟨j,hj,e⟩:=Mt k hk;have g:=ge j hj;by_cases c:j=k
   .rw[<-c];exact⟨hj,by rw[e,c]⟩
   .have:=(ih j ⋯ ⋯).2;lia
 refine⟨?_,λk hk=>(all k hk).2⟩;by_cases c:r<=m
 .by_cases c2:r=m
  .exact c2
  .have:=(all r ⋯).1;lia
 .have:=hc m ⋯;have:=ge m ⋯;lia
def YJ(hD:Dom b)(h1:tk b 1≠0)(hI:oO b n n A0):tk b (det n A0)≠0:=by
 obtain⟨A,hd,r,h⟩:=Cp.ex hD h1 n A0 n;have H:=ark h.hc h.up λk hk=>by
  by_cases c:∃j,j<r/\hd j=k
  .exact c
  .exfalso
   have hn:∀j,j<r->hd j≠k:=λj hj e=>c ⟨j,hj,e⟩;have R:=NP (A:=A) (hd:=hd) (r:=r) (m:=n) (k:=k) (b:=b) (n:=n) h.hc hk (h.zero k hk hn);have z:=hI _ (h.sw.rel.mpr R) k hk;rw[if_pos rfl,jA (λj hj=>by rw[if_neg (λe=>hn j hj e.symm)]),jT]at z;have:=yG z;rw[KP]at this;exact h.nz this
 obtain⟨e,H⟩:=H;subst e;rw[<-h.sw.det];have:=h.nz;have q:dt A hd r=det r A:=iy λi k _ hk=>by unfold Bk;rw[H k hk]
 rwa [q]at this
end
end Dm
namespace Dm
open Pm Rm
def hk(a:Nat->Int):Nat->Nat->Int:=λi j=>a (i+j)
def Zq(x a:Nat->Int)(l i:Nat):sm l (λk=>hk a i k*x k)=ks (aq l x) a i:=by
 unfold ks;rw[aQ];refine aJ λk hk'=>?_;rw[bZ,if_pos hk',bG];rfl
def R8{b:Int}(hD:Dom b)(h1:tk b 1≠0){L:List Int}{a:Nat->Int}(hL:Mon L)(hw:∀k,tk b (co L k)=co L k)(hK:Kp b L a)(hm:∀q,Kp b q a->Dv b L (co q)):tk b (det (L.length-1) (hk a))≠0:=by
 refine YJ hD h1 λx hx k hk'=>?_;have e:=M9 hw hL;have ha:∀n,(eE b L).length<=n->tk b (a n)=tk b (S (eE b L) a n (eE b L).length):=Kp.rec (by rw[e];exact hK);have hq:Kp b (aq (L.length-1) x) a:=R5 ha λn hn=>by
  rw[tY]at hn;rw[<-Zq];exact hx n hn
 have z:=(hm _ hq).short hL (by have:=Fs.co (aq (L.length-1) x);rwa [aQ]at this) k
 rwa [bZ,if_pos hk']at z
def arF{b:Int}(hD:Dom b){l:Nat}{a:Nat->Int}(h:tk b (det l (hk a))≠0){q:List Int}(hq:q.length<=l)(hK:Kp b q a):∀k,tk b (co q k)=0:=λk=>by
 have hI:=aa7 hD h (co q) λi hi=>by
  rw[Zq];have e:ks (aq l (co q)) a i=ks q a i:=by
   rw[<-vC q a i hq];unfold ks;rw[aQ];exact aJ λk hk'=>by rw[bZ,if_pos hk']
  rw[e];exact hK i
 by_cases c:k<l
 .exact hI k c
 .rw[bh ⋯,tk0]
def Dom.pr{p:Nat}(hp:Om.cG p):Dom (p:Int):=λx y hx h=>by
 have h2:=hp.1;obtain⟨e,he⟩:=uf.mp h;rcases GN hp (x:=x) (y:=y) ⟨e,he⟩with⟨z,hz⟩|⟨z,hz⟩
 .exact absurd (uf.mpr ⟨z,hz⟩) hx
 .exact uf.mpr ⟨z,hz⟩
end Dm
namespace Pm
open Rm Dm
section
variable {b:Int}{P:List Int}{a:Nat->Int}
structure vX(P:List Int)(T:Nat->Int)(g:List Int)(N:Int):Prop where
 mon:Mon g
 py:Py 0 g
 ne:N≠0
 one:Dv 0 g (co P)
 two:Dv 0 g T
 all:∀h:List Int,Mon h->Dv 0 h (co P)->Dv 0 h T->Dv 0 h (co g)
 good:∀(p:Nat) (s:List Int),Om.cG p->¬(p:Int)∣N->Mon s->Dv p s (co P)->Dv p s T->s.length<=g.length
theorem Dv.by{b:Int}{m:List Int}{f:Nat->Int}(h:Dv 0 m f):Dv b m f:=by
 obtain⟨s,n,hs,h⟩:=h;exact⟨s,n,hs,λk=>by have:=h k;rw[cJ,cJ]at this;rw[this]⟩
def Dv.len(h1:tk b 1=1){m p:List Int}(hm:Mon m)(hp:Mon p)(h:Dv b m (co p)):m.length<=p.length:=by
 by_cases c:m.length<=p.length
 .exact c
 .exfalso
  have:=h.short hm ((Fs.co p).mono ⋯) (p.length-1);rw[hp.one,h1]at this;exact absurd this ∅
def DY(h1:tk b 1=1){P g:List Int}(hP:Mon P)(hg:Mon g)(h:Dv b g (co P)):∃L:List Int,Mon L/\(∀k,tk b (co L k)=co L k)/\L.length+g.length=P.length+1/\∀k,tk b (co P k)=tk b (cv (co L) (co g) k):=by
 have hl:=h.len h1 hg hP;have hp:=hP.pos;have hgp:=hg.pos;obtain⟨s,n,hs,h⟩:=h;have key:∀d j,n<=j+d->P.length-g.length<j->tk b (s j)=0:=λd=>by
  induction d with
  |zero=>intro j hj _;rw[hs j hj,tk0]
  |succ d ih=>
   intro j hj hj2;have e:=h (j+(g.length-1));rw[bh ⋯,tk0,gb]at e;have e2:tk b (sm (j+(g.length-1)+1) λi=>s i*co g (j+(g.length-1)-i))=tk b (sm (j+(g.length-1)+1) λi=>if i=j then s j else 0):=dZ λi hi=>by
    by_cases c:i=j
    .rw[if_pos c,c,Ep,hg.one,iU]
    .rw[if_neg c,tk0];by_cases d2:i<j
     .rw[bh ⋯,aV,tk0]
     .rw[bG];exact GX _ (ih i ⋯ ⋯)
   rw[e2,iD,if_pos ⋯]at e;exact e.symm
 have z:∀k,P.length-g.length<k->tk b (s k)=0:=λk hk=>key n k ⋯ hk;have t1:tk b (s (P.length-g.length))=1:=by
  have e:=h (P.length-1);rw[hP.one,h1,gb]at e;have e2:tk b (sm (P.length-1+1) λi=>s i*co g (P.length-1-i))=tk b (sm (P.length-1+1) λi=>if i=P.length-g.length then s (P.length-g.length)else 0):=dZ λi hi=>by
   by_cases c:i=P.length-g.length
   .rw[if_pos c,c,(⋯:P.length-1-(P.length-g.length)=g.length-1),hg.one,iU]
   .rw[if_neg c,tk0];by_cases d2:i<P.length-g.length
    .rw[bh ⋯,aV,tk0]
    .rw[bG];exact GX _ (z i ⋯)
  rw[e2,iD,if_pos ⋯]at e;exact e.symm
 have hc:∀k,co (aq (P.length-g.length+1) λk=>tk b (s k)) k=tk b (s k):=λk=>by
  rw[bZ];by_cases c:k<P.length-g.length+1
  .rw[if_pos c]
  .rw[if_neg c,z k ⋯]
 refine⟨aq (P.length-g.length+1) λk=>tk b (s k),⟨by rw[aQ];lia,?_⟩,λk=>?_,by rw[aQ];lia,λk=>?_⟩
 .rw[aQ,fu,hc,t1]
 .rw[hc,dO]
 .rw[h k];exact iu (λi _=>by rw[hc,dO]) λi _=>rfl
def arp(hP:Mon P)(k:Nat):tk b (co P k)=tk b (co (aW b (eE b P)) k):=by
 have hp:=hP.pos;rw[aW,gY,aQ,tY];by_cases c:k<P.length-1
 .rw[if_pos c,bZ,if_pos c,eE,bZ,if_pos ⋯,Q9,dO];rw[(⋯:P.length-1-1-(P.length-1-1-k)=k)]
 .rw[if_neg c];by_cases d:k=P.length-1
  .rw[d,hP.one,kZ];rfl
  .rw[bh ⋯,bh (by simp;lia)]
def keepsP(hm:Mon P)(hK:Kp b P a)(q:List Int):Kp b q a↔Dv b P (cv (co q) (tp P a)):=by
 have A:=Ua hm.pos q hK;constructor
 .intro h;have z:Dv b P (tp P (ks q a)):=(Dv.zero b _).congr λk=>by
   have:=Wy (b:=b) (P:=P) (a:=ks q a) (a':=λ_=>0) (λn=>by rw[h n,tk0]) k;rw[this];exact(congrArg (tk b) (show tp P (λ_=>0) k=0 from jA λi _=>aV _)).symm
  exact(A.add z).congr λk=>by rw[aaE]
 .intro h;have z:Dv b P (tp P (ks q a)):=(h.sub A).congr λk=>by
   rw[(⋯:cv (co q) (tp P a) k-(cv (co q) (tp P a) k-tp P (ks q a) k)=tp P (ks q a) k)]
  have n0:=ahw hm (z.short hm (Cd _ _));have ha:∀n,(eE b P).length<=n->tk b (a n)=tk b (S (eE b P) a n (eE b P).length):=Kp.rec (hK.congr (arp hm));exact R5 ha λn hn=>n0 n (by rw[tY]at hn;exact hn)
def abH{m:List Int}(hm:Mon m){f g:Nat->Int}{n n':Nat}(hf:Fs f n)(hg:Fs g n')(h:∀k,tk b (cv f (co m) k)=tk b (cv g (co m) k)):∀k,tk b (f k)=tk b (g k):=λk=>by
 refine jJ.mp (G5 (b:=b) hm (f:=λk=>f k-g k) (n:=n+n') (λk hk=>?_) (λk _=>?_) k)
 .show f k-g k=0;rw[hf k ⋯,hg k ⋯];rfl
 .have e:cv (λk=>f k-g k) (co m) k=cv f (co m) k + -1*cv g (co m) k:=by
   rw[<-nW,<-ni];exact qL (λi _=>⋯) λi _=>rfl
  rw[e,jk (h k) rfl,show ∀x:Int,x + -1*x=0 fromλx=>⋯,tk0]
def Ur(hP:Mon P)(hK:Kp 0 P a):∃g L,Mon L/\Py 0 L/\Kp 0 L a/\(∀q,Kp 0 q a->Dv 0 L (co q))/\L.length+g.length=P.length+1/\(∀k,co P k=cv (co L) (co g) k)/\vX P (tp P a) g (det (L.length-1) (hk a)):=by
 obtain⟨L,hL,EY,hKL,hLP,hall,_⟩:=ang hP hK;obtain⟨g,hg,hgy,hlen,hE⟩:=DY (b:=0) rfl hP hL (hall P hK);have hE':∀k,co P k=cv (co g) (co L) k:=λk=>by have:=hE k;rwa [cJ,cJ]at this
 have hgP:Py 0 g:=⟨E5 (λz=>by have:=hg.pos;rw[z]at this;exact absurd this ∅) (by rw[hg.one];decide),λx _=>cJ x⟩;have NT:=hL.pos;have hgp:=hg.pos;refine⟨g,L,hL,EY,hKL,hall,⋯,λk=>by rw[hE',j4],hg,hgP,?_,⟨co L,L.length,Fs.co L,λk=>by rw[hE',j4]⟩,?_,λh hh h1 h2=>?_,λp s hp hN hs h1 h2=>?_⟩
 .have:=R8 Dom.zero ∅ hL (λk=>cJ _) hKL hall
  rwa [cJ]at this
 .obtain⟨s,n,hs,e⟩:=(keepsP hP hK L).mp hKL;refine⟨s,n,hs,abH hL (Cd P a) (hs.cv (Fs.co g)) λk=>?_⟩;rw[j4,e k,gG];exact congrArg (tk 0) (qL (λ_ _=>rfl) λi _=>hE' i)
 .obtain⟨A,hA,hAy,hAl,IY⟩:=DY (b:=0) rfl hP hh h1;obtain⟨B,nB,hB,Rr⟩:=h2;have MV:Kp 0 A a:=(keepsP hP hK A).mpr ⟨B,nB,hB,λk=>by
   have e1:tk 0 (cv (co A) (tp P a) k)=tk 0 (cv (co A) (cv B (co h)) k):=iu (λ_ _=>rfl) λi _=>Rr i;have e2:tk 0 (cv B (co P) k)=tk 0 (cv B (cv (co A) (co h)) k):=iu (λ_ _=>rfl) λi _=>IY i;rw[e1,e2,<-gG,<-gG];exact congrArg (tk 0) (qL (λi _=>j4 ..) λ_ _=>rfl)⟩
  obtain⟨C,nC,hC,hCe⟩:=hall A MV;refine⟨C,nC,hC,abH hL (Fs.co g) (hC.cv (Fs.co h)) λk=>?_⟩;rw[<-hE',IY k,iu (λi _=>hCe i) λ_ _=>rfl,gG,gG];exact congrArg (tk 0) (qL (λ_ _=>rfl) λi _=>j4 ..)
 .have hp2:=hp.1;have hp1:tk (p:Int) 1=1:=by rw[iz ⋯];exact AH ∅ ⋯
  obtain⟨A,hA,hAy,hAl,IY⟩:=DY (b:=p) hp1 hP hs h1;obtain⟨B,nB,hB,Rr⟩:=h2;have hKp:Kp p P a:=λn=>by have:=hK n;rw[cJ]at this;rw[this,tk0]
  have MV:Kp p A a:=(keepsP hP hKp A).mpr ⟨B,nB,hB,λk=>by
   have e1:tk p (cv (co A) (tp P a) k)=tk p (cv (co A) (cv B (co s)) k):=iu (λ_ _=>rfl) λi _=>Rr i;have e2:tk p (cv B (co P) k)=tk p (cv B (cv (co A) (co s)) k):=iu (λ_ _=>rfl) λi _=>IY i;rw[e1,e2,<-gG,<-gG];exact congrArg (tk p) (qL (λi _=>j4 ..) λ_ _=>rfl)⟩
  by_cases c:A.length<=L.length-1
  .exfalso
   have z:=arF (Dom.pr hp) (λz=>hN (uf.mp z)) c MV (A.length-1);rw[hA.one,hp1]at z;exact absurd z ∅
  .lia
end
end Pm
namespace Dm
open Rm Pm
def cN.ao4{b:Int}{n W u m:Nat}{A0 A:Nat->Nat->Int}{hd:Nat->Nat}{r:Nat}{L:List (List Int)}{last:Int}(h:cN b n W u A0 m A hd r L last)(hD:Dom b){x:Nat->Int}(hx:Rel b n m A0 x){k:Nat}(hk:k<m)(h0:∀j,k<j->j<m->x j=0)(hne:tk b (x k)≠0):∀i,i<r->hd i≠k:=λi hi e=>by
 have hrn:=h.rn;have q:tk b (sm m λj=>En A hd r i j*x j)=0:=(h.sw.rel.mp hx).en hd hrn i ⋯;have e2:tk b (sm m λj=>En A hd r i j*x j)=tk b (sm m λj=>if j=k then dt A hd r*x k else 0):=dZ λj hj=>by
  by_cases c:j=k
  .rw[if_pos c,c,<-e,El hi,if_pos rfl]
  .rw[if_neg c];by_cases g:k<j
   .rw[h0 j g hj,aV]
   .by_cases z:∃i',i'<r/\hd i'=j
    .obtain⟨i',hi',e'⟩:=z;rw[<-e',El hi',if_neg,dF];intro y;rw[y]at e;exact c (by rw[<-e',<-e])
    .rw[<-dU,h.ge i hi j ⋯ (λi' hi' y=>z ⟨i',hi',y⟩),dF]
 rw[e2,iD,if_pos hk]at q;exact hne (hD _ _ h.nz q)
end Dm
namespace Pm
open Rm Dm
section
variable {p prime bad good:Nat}{b N M:Int}{g P t s:List Int}{ripe:Bool}
def an1{p:Int}(hp:p≠0){x y:Int}:tk p x=tk p y↔p∣x-y:=by
 rw[<-jJ,uf];exact⟨λ⟨e,h⟩=>⟨e,h⟩,λ⟨e,h⟩=>⟨e,h⟩⟩
def U0(hp:Om.cG p):tk (p:Int) 1=1:=by
 have:=hp.1;rw[iz ⋯];exact AH ∅ ⋯
def Dv.same(h1:tk b 1=1){m p:List Int}(hm:Mon m)(hp:Mon p)(h:Dv b m (co p))(hl:m.length=p.length)(k:Nat):tk b (co p k)=tk b (co m k):=by
 obtain⟨L,hL,_,hlen,e⟩:=DY h1 hp hm h;have hm0:=hm.pos;have h2:L.length=1:=⋯;have e0:co L 0=1:=by have:=hL.one;rwa [h2]at this
 rw[e k];refine congrArg (tk b) ?_;rw[gb,lD (m:=1) ⋯ λj h3 _=>by rw[bh (p:=L) ⋯,dF]];simp[sm,e0]
structure Seen(g:List Int)(N:Int)(p:Nat)(s:List Int):Prop where
 mon:Mon s
 nu:∀k,tk (p:Int) (co s k)=co s k
 ge:g.length<=s.length
 eq:s.length=g.length->∀k,(p:Int)∣co s k-co g k
 good:¬(p:Int)∣N->s.length=g.length
def dB.to{p q:List Int}(h:dB b g [] p)(e:∀k,tk b (co p k)=tk b (co q k)):Dv b g (co q):=by
 obtain⟨u,h⟩:=h.dv;exact⟨co u,u.length,Fs.co u,λk=>by rw[<-e,h]⟩
def vX.seen(h:vX P (co t) g N){p:Nat}(hp:Om.cG p){P' t' s:List Int}(eP:∀k,tk (p:Int) (co P' k)=tk p (co P k))(et:∀k,tk (p:Int) (co t' k)=tk p (co t k))(hs:Gcd p P' t' s):Seen g N p s:=by
 have h2:=hp.1;have h1:=U0 hp;have d1:Dv p s (co P):=hs.one.to eP;have d2:Dv p s (co t):=hs.two.to et;have d3:Dv p g (co s):=by
  obtain⟨u,v,e⟩:=hs.sum;refine((((h.one.by (b:=p))).mul (Fs.co u)).add ((h.two.by (b:=p)).mul (Fs.co v))).congr λk=>?_;rw[e];exact jk (iu (λ_ _=>rfl) λi _=>(eP i).symm) (iu (λ_ _=>rfl) λi _=>(et i).symm)
 have hge:=d3.len h1 h.mon hs.mon;exact⟨hs.mon,hs.py.co,hge,λe k=>(an1 ⋯).mp (d3.same h1 h.mon hs.mon e.symm k),λz=>by
  have:=h.good p s hp z hs.mon d1 d2;lia⟩
def vX.told{h:List Int}(H:vX P (co t) g N)(hh:Mon h)(h1:Dv 0 h (co P))(h2:Dv 0 h (co t))(hl:g.length<=h.length):h=g:=by
 have d:=H.all h hh h1 h2;have:=d.len rfl hh H.mon;exact nG ⋯ λk=>by have:=d.same rfl hh H.mon ⋯ k;rw[cJ,cJ]at this;exact this.symm
def nr(M x:Int):Int:=if 2*(x%M)>M then x%M-M else x%M
def Nr(M x:Int):Prop:=-M<2*x/\2*x<=M
def Kh(M x:Int):M∣nr M x-x:=by
 have e:=Int.emod_add_mul_ediv x M;unfold nr;split
 .exact⟨-(x/M)-1,by rw[nJ,tX];lia⟩
 .exact⟨-(x/M),by rw[tX];lia⟩
def Nm(hM:0<M)(x:Int):Nr M (nr M x):=by
 have h0:=oM x (⋯:M≠0);have h1:=oH x hM;unfold nr Nr;split<;>lia
def Nr.eq{x y:Int}(hM:0<M)(hx:Nr M x)(hy:Nr M y)(h:M∣x-y):x=y:=by
 obtain⟨c,hc⟩:=h;unfold Nr at hx hy;by_cases c0:c=0
 .rw[c0,aV]at hc;lia
 .exfalso
  rcases Int.lt_or_gt_of_ne c0 with l|l
  .have:M*c<=M*(-1):=Vj ⋯ ⋯;lia
  .have:M*1<=M*c:=Vj ⋯ ⋯;lia
def ap0(hM:2<=M){x:Int}(h:M∣x-1):nr M x=1:=Nr.eq (M:=M) ⋯ (Nm ⋯ x) (by unfold Nr;lia) (by
 have:=uc (Kh M x) h
 rwa [(⋯:nr M x-x+(x-1)=nr M x-1)]at this)
def QH(hp:Om.cG p)(hM:¬(p:Int)∣M){x:Int}(h1:M∣x)(h2:(p:Int)∣x):M*p∣x:=by
 obtain⟨y,rfl⟩:=h1;rcases GN hp h2 with z|⟨e,he⟩
 .exact absurd z hM
 .exact⟨e,by rw[he,cP]⟩
structure lF(P g:List Int)(N:Int)(told:List Int)(M:Int)(prime:Nat)(ripe:Bool)(bad good:Nat):Prop where
 mon:Mon told
 ge:g.length<=told.length
 le:told.length<=P.length
 pos:0<M
 div:∀q:Nat,Om.cG q->(q:Int)∣M->q<=prime
 Qp:told.length=g.length->∀k,M∣co told k-co g k
 near:M≠1->∀k,Nr M (co told k)
 Ar:∃X:Nat,(X:Int)∣N/\2^(19*bad)<=X/\∀q:Nat,Om.cG q->q∣X->q<=prime
 Dp:0<good->told.length=g.length/\2^(19*good)<=M
 agL:2<=good->(∀k,2*(co g k).natAbs<2^(19*(good-1)))->ripe=true/\told=g
 hi:M<=2^(21*(bad+good))
 first:M=1->told=P
def lF.start(hP:Mon P)(hl:g.length<=P.length)(prime:Nat):lF P g N P 1 prime true 0 0:=
 ⟨hP,hl,aR _,∅,λq hq h=>by
  have:=hq.1;have h3:=Int.le_of_dvd ∅ h;lia,λ_ k=>⟨_,(fP _).symm⟩,λh=>absurd rfl h,⟨1,⟨N,(fP N).symm⟩,∅,λq hq h=>by
  have:=hq.1;have h3:=uq ∅ h;lia⟩,λh=>absurd h ∅,λh=>absurd h ∅,∅,λ_=>rfl⟩
def U7(hp:Om.cG p)(hlt:prime<p)(hbig:2^19<=p)(hN:(p:Int)∣N)(h:∃X:Nat,(X:Int)∣N/\2^(19*bad)<=X/\∀q:Nat,Om.cG q->q∣X->q<=prime):
  ∃X:Nat,(X:Int)∣N/\2^(19*(bad+1))<=X/\∀q:Nat,Om.cG q->q∣X->q<=p:=by
 obtain⟨X,h1,h2,h3⟩:=h;refine⟨X*p,?_,?_,λq hq hd=>?_⟩
 .have:=QH (M:=(X:Int)) hp (λz=>by have:=h3 p hp (C4.mp z);lia) h1 hN
  rwa [rm]
 .rw[rC,uK];exact iH h2 hbig
 .rcases hq.dvd hd with z|z
  .have:=h3 q hq z;lia
  .exact uq ⋯ z
def lF.stay{told:List Int}(h:lF P g N told M prime ripe bad good)(hp:Om.cG p)(hlt:prime<p)(hbig:2^19<=p)(hs:Seen g N p s)(hl:told.length<s.length):lF P g N told M p ripe (bad+1) good:=by
 have hN:(p:Int)∣N:=ur λz=>by have:=hs.good z;have:=h.ge;lia
 exact⟨h.mon,h.ge,h.le,h.pos,λq hq hd=>by have:=h.div q hq hd;lia,h.Qp,h.near,U7 hp hlt hbig hN h.Ar,h.Dp,h.agL,abx h.hi (by
  have:(2:Nat)^(21*(bad+good))<=2^(21*(bad+1+good)):=uo ∅ ⋯
  exact_mod_cast this),h.first⟩
def lF.anew{told:List Int}(h:lF P g N told M prime ripe bad good)(hp:Om.cG p)(hlt:prime<p)(hbig:2^19<=p)(hhi:p<=2^21)(hs:Seen g N p s)(hl:s.length<told.length):
  ∃qK qw,qK+qw=bad+good+1/\lF P g N (s.map (nr p)) p p true qK qw:=by
 have hp2:=hp.1;have hg0:good=0:=by
  by_cases c:good=0
  .exact c
  .have:=(h.Dp ⋯).1;have:=hs.ge;lia
 have hle:=h.le;have hsp:=hs.mon.pos;have hpp:(2:Int)<=p:=⋯;have hc:∀k,co (s.map (nr p)) k=nr p (co s k):=λk=>jF (by unfold nr;rw[Wh];split<;>lia) s k;have hm:Mon (s.map (nr p)):=⟨by rw[aK];exact hsp,by rw[aK,hc,hs.mon.one];exact ap0 hpp ⟨0,by rw[aV];rfl⟩⟩;have BF:(s.map (nr p)).length=g.length->∀k,(p:Int)∣co (s.map (nr p)) k-co g k:=λe k=>by
  rw[hc];have:=uc (Kh p (co s k)) (hs.eq (by rwa [aK]at e) k)
  rwa [(⋯:nr p (co s k)-co s k+(co s k-co g k)=nr p (co s k)-co g k)]at this
 have hnear:(p:Int)≠1->∀k,Nr p (co (s.map (nr p)) k):=λ_ k=>by rw[hc];exact Nm ⋯ _
 have hdiv:∀q:Nat,Om.cG q->(q:Int)∣p->q<=p:=λq _ hd=>uq ⋯ (C4.mp hd);by_cases c:s.length=g.length
 .refine⟨bad,1,⋯,hm,by rw[aK];exact hs.ge,by rw[aK];lia,⋯,hdiv,BF,hnear,?_,λ_=>⟨by rw[aK];exact c,by exact_mod_cast hbig⟩,λz=>absurd z ∅,?_,λz=>⋯⟩
  .obtain⟨X,h1,h2,h3⟩:=h.Ar;exact⟨X,h1,h2,λq hq hd=>by have:=h3 q hq hd;lia⟩
  .have:(2:Nat)^21<=2^(21*(bad+1)):=uo ∅ ⋯
   exact_mod_cast eO hhi this
 .have hN:(p:Int)∣N:=ur λz=>c (hs.good z);refine⟨bad+1,0,⋯,hm,by rw[aK];exact hs.ge,by rw[aK];lia,⋯,hdiv,BF,hnear,U7 hp hlt hbig hN h.Ar,λz=>absurd z ∅,λz=>absurd z ∅,?_,λz=>⋯⟩;have:(2:Nat)^21<=2^(21*(bad+1+0)):=uo ∅ ⋯
  exact_mod_cast eO hhi this
def lF.join{told jG:List Int}{R7:Bool}(h:lF P g N told M prime ripe bad good)(hp:Om.cG p)(hlt:prime<p)(hbig:2^19<=p)(hhi:p<=2^21)(hs:Seen g N p s)(hl:s.length=told.length)
  (hl':jG.length=told.length) (ht:∀k,k<told.length->∃w:Int,(p:Int)∣M*w-(co s k-co told k)/\co jG k=nr (M*p) (co told k+M*w)) (hr:R7=true↔jG=told):
  ∃qK qw,qK+qw=bad+good+1/\lF P g N jG (M*p) p R7 qK qw:=by
 have hp2:=hp.1;have hM:=h.pos;have yF:¬(p:Int)∣M:=λz=>by have:=h.div p hp z;lia
 have hpp:(2:Int)<=p:=⋯;have MK:(2:Int)<=M*p:=by
  have:1*(2:Int)<=M*p:=Ub ⋯ hpp ∅ ⋯;lia
 have hle:=h.le;have hge:=h.ge;have htp:=h.mon.pos;have a1:∀k,M∣co jG k-co told k:=λk=>by
  by_cases c:k<told.length
  .obtain⟨w,_,e⟩:=ht k c;rw[e];have e1:M∣nr (M*p) (co told k+M*w)-(co told k+M*w):=DQ (ED M p) (Kh _ _);have e2:M∣M*w:=ED ..;have:=uc e1 e2
   rwa [(⋯:nr (M * ↑p) (co told k+M*w)-(co told k+M*w)+M*w=nr (M * ↑p) (co told k+M*w)-co told k)]at this
  .rw[bh ⋯,bh ⋯];exact⟨0,by rw[aV];rfl⟩
 have a2:∀k,(p:Int)∣co jG k-co s k:=λk=>by
  by_cases c:k<told.length
  .obtain⟨w,h1,e⟩:=ht k c;rw[e];have e1:(p:Int)∣nr (M*p) (co told k+M*w)-(co told k+M*w):=DQ (adT M p) (Kh _ _);have:=uc e1 h1
   rwa [(⋯:nr (M * ↑p) (co told k+M*w)-(co told k+M*w)+(M*w-(co s k-co told k))=nr (M * ↑p) (co told k+M*w)-co s k)]at this
  .rw[bh ⋯,bh ⋯];exact⟨0,by rw[aV];rfl⟩
 have hnear:M*p≠1->∀k,Nr (M*p) (co jG k):=λ_ k=>by
  by_cases c:k<told.length
  .obtain⟨w,_,e⟩:=ht k c;rw[e];exact Nm ⋯ _
  .rw[bh ⋯];unfold Nr;lia
 have aio:co jG (jG.length-1)=1:=by
  rw[hl'];refine Nr.eq (M:=M*p) ⋯ (hnear ⋯ _) (by unfold Nr;lia) (QH hp yF ?_ ?_)
  .have:=a1 (told.length-1)
   rwa [h.mon.one]at this
  .have:=a2 (told.length-1);have e:=hs.mon.one;rw[hl]at e
   rwa [e]at this
 have hm:Mon jG:=⟨⋯,aio⟩;have hdiv:∀q:Nat,Om.cG q->(q:Int)∣M*p->q<=p:=λq hq hd=>by
  rcases GN hq hd with z|z
  .have:=h.div q hq z;lia
  .exact uq ⋯ (C4.mp z)
 have BF:jG.length=g.length->∀k,M*p∣co jG k-co g k:=λe k=>by
  refine QH hp yF ?_ ?_
  .have:=uc (a1 k) (h.Qp ⋯ k)
   rwa [(⋯:co jG k-co told k+(co told k-co g k)=co jG k-co g k)]at this
  .have:=uc (a2 k) (hs.eq ⋯ k)
   rwa [(⋯:co jG k-co s k+(co s k-co g k)=co jG k-co g k)]at this
 have hhi':∀x,x=bad+good+1->M*p<=2^(21*x):=λx hx=>by
  rw[hx,(⋯:21*(bad+good+1)=21*(bad+good)+21),Wf];exact Ub h.hi (by exact_mod_cast hhi) ⋯ (Int.le_of_lt (Int.pow_pos ∅))
 by_cases c:s.length=g.length
 .refine⟨bad,good+1,⋯,hm,⋯,⋯,⋯,hdiv,BF,hnear,?_,λ_=>⟨⋯,?_⟩,λh2 hb=>?_,hhi' _ ⋯,λz=>⋯⟩
  .obtain⟨X,h1,h2,h3⟩:=h.Ar;exact⟨X,h1,h2,λq hq hd=>by have:=h3 q hq hd;lia⟩
  .rw[(⋯:19*(good+1)=19*good+19),Wf];refine Ub ?_ (by exact_mod_cast hbig) ∅ ⋯;by_cases c0:good=0
   .rw[c0];show(1:Int)<=M;lia
   .exact(h.Dp ⋯).2
  .rw[fu]at hb;have hgo:=h.Dp ⋯;have hM1:M≠1:=λz=>by
    rw[z]at hgo;have h3:=hgo.2;have:(2:Int)^(19*1)<=2^(19*good):=by exact_mod_cast uo (n:=2) ∅ (⋯:19*1<=19*good)
    have:(2:Int)^(19*1)=524288:=∅;lia
   have gn:∀k,Nr M (co g k):=λk=>by
    have h3:=hb k;have h4:=hgo.2;have h5:((2*(co g k).natAbs:Nat):Int)<M:=Int.lt_of_lt_of_le (by exact_mod_cast h3) h4;unfold Nr;lia
   have et:told=g:=nG hgo.1 λk=>(h.near hM1 k).eq hM (gn k) (h.Qp hgo.1 k);have gn':∀k,Nr (M*p) (co g k):=λk=>by
    have h3:=gn k;unfold Nr at h3⊢;have:M*1<=M*p:=Vj ⋯ ⋯;lia
   have et':jG=g:=nG ⋯ λk=>(hnear ⋯ k).eq ⋯ (gn' k) (BF ⋯ k);exact⟨hr.mpr (by rw[et',et]),et'⟩
 .have hN:(p:Int)∣N:=ur λz=>c (hs.good z);have hg0:good=0:=by
   by_cases c0:good=0
   .exact c0
   .have:=(h.Dp ⋯).1;lia
  subst hg0;exact⟨bad+1,0,⋯,hm,⋯,⋯,⋯,hdiv,BF,hnear,U7 hp hlt hbig hN h.Ar,λz=>absurd z ∅,λz=>absurd z ∅,hhi' _ ⋯,λz=>⋯⟩
def lF.few{told:List Int}{U V:Nat}(h:lF P g N told M prime ripe bad good)(hN:N≠0)(hV:Bd V N)(hU:∀k,Bd U (co g k))(hne:¬(ripe=true/\told=g)):19*(bad+good)<=V+U+38:=by
 obtain⟨X,h1,h2,_⟩:=h.Ar;have b1:19*bad<=V:=by
  have h3:=uq ⋯ (CQ.mp h1);have h4:2^(19*bad)<2^V:=Jo (eO h2 h3) hV;have:=(aaT (∅:1<2)).mp h4;lia
 have b2:19*good<=U+38:=by
  by_cases c:2<=good
  .by_cases d:∀k,2*(co g k).natAbs<2^(19*(good-1))
   .exact absurd (h.agL c d) hne
   .obtain⟨k,hk⟩:=Bf.mp d;have h3:(co g k).natAbs<2^U:=hU k;have h4:2^(19*(good-1))<2^(U+1):=by rw[iY];lia
    have:=(aaT (∅:1<2)).mp h4;lia
  .lia
 lia
end
end Pm
namespace Om
def MG{n:Nat}(h2:2<=n)(h:∀d,2<=d->d*d<=n->¬d∣n):cG n:=⟨h2,λd hd=>by
 by_cases c1:d=1
 .exact .inl c1
 by_cases c2:d=n
 .exact .inr c2
 exfalso
 obtain⟨e,he⟩:=hd;have d0:d≠0:=λz=>by rw[z,zp]at he;lia
 have e0:e≠0:=λz=>by rw[z,aeT]at he;lia
 have e1:e≠1:=λz=>by rw[z,v8]at he;lia
 by_cases c:d<=e
 .exact h d ⋯ (by rw[he];exact fH d c) ⟨e,he⟩
 .exact h e ⋯ (by rw[he];exact ig e ⋯) ⟨d,by rw[he,gZ]⟩⟩
def aq0{n d:Nat}(h2:2<=d)(h:d*d<=n)(hd:d∣n):¬cG n:=λhp=>by
 have:d*2<=d*d:=fH d h2;rcases hp.2 d hd with e|e<;>lia
def PR:Nat:=43571519119201362812999826845982751305620981793717429470673603275936152927709399635933610669671466973821241878720715105717436485894379942430461626673440299163796924436746229228614460476842261843714753967609841797025310982960825865753598345091694825344721438391478216968398650913464229700972723456395252658036295111351718208197542229884535562911430701228833268752819967566938433518416018400115565501955319083147587583881953995536441781216694995306260888155507575210
def atA:∀d,d<1100->2<=d->oJ d PR≠1:=by decide +kernel
def aza{n:Nat}(h2:2<=n)(hn:n<1210000)(h:oJ n PR=1):cG n:=MG h2 λd hd hdd hdv=>by
 by_cases c:d<1100
 .refine atA d c hd ?_;have:oJ d PR∣oJ n PR:=Nat.dvd_gcd (Dr (VB ..) hdv) (Oo ..);rw[h]at this;exact Nat.dvd_one.mp this
 .have:1100*1100<=d*d:=iH ⋯ ⋯;lia
def Qo:Nat->Nat->List Nat
 |0,_=>[]
 |k+1,n=>2*(n%64)::Qo k (n/64)
noncomputable def steps:List Nat:=3::([0x20750130318504818904528504f0c23d908c0421c30c218714c28518120a0892411830c218610918224954108f,0x4908d14c10620a1460431880ca08114418618f24b0c70870cf2070810c63870831c2244093141189381141252,0x4504205514d0811431d224b0432c61051030861903830423030c42e41051810c21d42853421c528510e0c90c6,0xc24c528804b0d50460870c32040c204f0841851c204818904308f3433024831083420c31050c31c50c90cc348,0x811441532c13c81030830c40892476020c11441940cd1530cf2031c818108114118f2060c72540436842c10c3,0x9892460420c74850c11410da40314714d24320408418e3c45031c50c40d41865432822413861c308a0e00c7189,0x2413063811473051871490451c22490461491c228324e0450c310320d24504c0cb0c12c41850c32830875c310f,0x4c0c51810812c10812c61c21020c604c0860c10c50421c540230d2070872462c32413990c37855442c1207083,0xc638c0c630414124510b18c04f08414a18248310204810360804624624578708a08a0cc1821890c72c10cb114,0x18c0c60490c63c21c608f1030c31890840c22410c210510504f0931415042c42c72042461881c32c31cb105058,0x1081810cf3095550810890481080cc1c20cd2070860450432c32832040db0c51030831c50c30cc34f7410831c2,0x30304608d2432091870840872c12011413c60833c304308d08108724c48618f2010c24051c50453c40810812c6,0xc33c408408d3023100ce35104b18c1815c11923c30813861c52443872032462834431dd2410c31431843872c3,0xd00c210234c08c04f20604308f10818414130e18708120a2453060c41821030813813c21960834c624f144149,0x1cf0c20c43c318b04e0c61c20ca3027c52412481c60872ca0c224414f0450423031cf8463050c70c6143195102,0x2410c62460870841880ca0811890832471413020c32442431440c50451812430981c91460c12461821860c6186,0x1860811860c53c60490cb1833c108c04c0d404e04b6043c61821c5045303585a051862830c21874862153c124b,0x14424e0c91836c424504908318120730204e3c108a1821060c20c430e3042c778504b0c118e1020c31032c90cd,0x2451c344108119442310e10228608d0861030c20c408f2882864490451033c608f1081c318504b28e1051cc2c7,0x1c31431c62c31c80490c21812451d80c31431c32451c31562031060871833d13013c50451090c50c12451020c1,0x452824861831810c624504f0c26430c23060d51092ca1460481020543c448624224138604805250d0c20c904e,0xc22852460d03810c52853013030836030467410cc1415c40c31440c90c21020c10c86491431c32091062ca209,0x891840cf0890462430890432c43cc20f3060cc1051056ca3021052890cc0c50cc6c71834520461530cf4442c1,0x18204b0cc1021c20ca14118b2820461502040c30831ce18a09614d2030453453030c31c51060cc0871431d5081,0x10810e10c1461c57831c330210b0491430c71410833d63023460841461092463031410c30860430cc0c510b6c7,0x3c108310330c2420c11410830c13890c718e0c30460813092c31110490c84862850cd20618d4432860c30c6149,0x1492461833040c82430d21cc14114c0d60c529b08a0c81861c80c408144108c0420c10c61410c534920c04e042,0x4052460c33070c224a25518308108114c2431d40420424931940430ce10510218d0840c53c61832880d3141546,0x14a2c628354308904b0c43060811411461c204e04324234308f34324218a0c22530873c224610518a0c320c306,0x3c25830c518418b2411430430cf39524318611808408718f14f1c23010818c70c60c66892411412d61553031c3,0xc22442c30d21020452430460c644414418614c0c310210518424624528c20d3841440c23033cc241141246306,0x2410830642451830460c21d12860872c90434473050c62411502451033020ca0c920c0420c71500870cc2c10c3,0x1863830c70891843c230c3c10830e20c20421c835404b1051870c31441863891c348204b0452413cc086109386,0x1861471431123c80cc24138d0810861900c210944d1413c620a2460841442451c504f3c828230118540204c081,0x1440983c305134909c0811440cf14a1851030c50541061820c30451091822430c31082535043c6546083241081,0x4228b0451020c42091871824c51061850c63420e11c518124618218148528f0ce0cd08618115b0460c83ca201,0x28c09014a2c10c61430420c13c320714310b3012c904608a4850ca44448308d2041431032070c308918310344c,0x48c0835850cf0c12073c80ca2040c31440cc08414120a2d308125218e0c42495450451835440845450d60cb0c6,0x24150425d1954032426010c61411853c44820c72101880451c90c20481c810504654530714414119254e282241,0x830433c20cf18618318408708f0cd0830c918f1c80460cc0833071850c708c04318518418e34614905428c482,0x5110908a1440c22830c31470813830c60c70c204c0830c420161110540638a1430422820ca0d40450d51c3381,0x2093100cb0421c80c438f0450421811851c30c228c0893c150124321231e30118b0c40830c91056031060813ce,0x18c1c31433c70c231030f2093061c20cc0c11533060810841820c92441824812d80c118b2410c51c9485181141,0x30408420a0813863013021c309030c51314904914d6051020c90c42451081c338a0c204804b1c20ca089241245,0x2c43c308a2c13c30c91410c22581810c62460d124c0c91c32c660a2c10860451021061432820c408124314f285,0x3462453040c30dd04228234824d0832910c414430308d15b1050451c308a18620a8c31034410cb0c660118b0c4,0x10308120114d3050ca0c53073862445c41440930c20c13080430863c72045423420461412092832061871470c8,0x1432824021034410d14810c80c72453ca54920718804e1813020421870d818231060308610350d0831c8049383,0x44138408a0c5247188a8420604320304318b0c61022411410cb10b28f0c614a0836c70c914a0cf68714328c099,0x480494410860461430452440d26842c408414f10510608c0c31030831c20432c12075c60432d02012101491c3,0x4c224a1442c63c61c22830c21860cf0c42ca0cf3812453014430c40833060c748504b0d83031c60c2243046206,0x921861052892cd3031430d80461411470c354309024918638910218c04b4810842013c90c2544141183084083,0x430c228b24a0c92c90420423c718510618518768c1093861830467440841440c20d21c204b0d23061d2189381,0x10f2c31033860c41821c30961410861c52851080c30460c614348318d1890931892c304b04c0861030810dd0c3,0x3c240210330314d0812c30c33c90492031050cd3c54c21891021032c13811831411410833c448c1433421c53c6,0x4309e0d00842010894050c970258918524148c1414862061051874411850421c32070c954218118204c24e181,0x1441882411500c824424828f0872032850c68851c30890481ce04510b3c42d31414470c22412422610c904f086,0x2c91065431461c81050450490870817413841832c610614160e1830cd2430810890c114c1053c1308243042106,0x4c21032ca3831c21060c504615015e1c540228308744924654108a09914109e1810c81c20451051052860d2081,0x831051870830462c420d60348824c1842490c204e0420c11881021870c318818a3961460c118528510b10314c,0x18310314d3860430900cb04819c08d18524118b1c51950433810840c30830c624934f14a08108730818408f286,0xc61440cf84228204211d04524c1050420ca2064860464414433c408d0810831e92893d41c33c80c118314f309,0x8910620a2c119208424210b1c51c53c124510b1090863c41911c30890460c52860c20d21091411520c418c507,0x40b1c615050108610b40314108f2821861873d12920c20451c20551431cb0c70a80810c61460c11500c5243253,0xed4830845061050451c314394c0830451c318524118308a0c63870c92c738910b10204c483141983103084083,0xc32452460451c33891034432880450cf18408334308318305110608c0c60451050525491860c5283086049084,0xc30cc3063811894440c50c418810218d25104314905404b30108c3c31c324b3120ca0890d9146183592141093,0xc11440cc0c33031412c330730308419208a2011440813863461461032031c21870861862442463c20c9309781,0x10b1870920490ce18c0d21c21c31501852860c92c43c20cf1c34490465042490c21c51840cb2862060450ca54b,0x8108d1472092470c50481890c340614708d2cc34e1814822490c714124308c0482854c204570524108a0db206,0x3cf3cb2460421860c31c20481062450c310308718f0813090d208714924a08f0c108c18114d20c0c42c324c109,0x10314a14108718c14c1ce1c53c310c18e0421c38032851c32c40810cf0841881843031883420c304f1850c1210,0x4c50cd0c60c51870c91411831820c10cb1054090861032031c534914d0cf1440890458820c43c2247147152246,0x1111c234f18e0c720714f0c31c510318531324b0c11861431c918c5011491c66c80e80842c420144768c108042,0x38d20904e1831834093c50580ce60745524610c1550c10c320604924c3020c118b1061441463422430c4183242,0x4083cf04b0c61021890433872c418c0831c51061413812090423420c12ca3c218160c0c21c504e54148314d147,0x1891870810814430431430c904b0450c41501471441441884061851030864840c31832c90c31030861c914124e,0xc84c36c62462450c34051050483120d32060463c204248a08c0c92410c60833c60c31d50831812432c73c914f,0x14f3061030c530738430638108610c1523095821860c33031035c44920812c90481c60c22410812c6282045043,0x5450c42c40c38071460452863020c31032070861c80c77412010cb5821c93cb0cc1024810c3482105102109087,0x2421093cc0861840890513cc24708c1841856c70c31490c71460c10d524228320418f0cb18a08c10e0c92442c1,0x420420c42071952490c20492cc24a1921891831473811834441850c60433c20c72481c914708c0450c73860c1,0x4840843031983021860450c750310c2420cf04308108131704510b18954904314610b04e04c0c308c1c3182486,0x6873c21023cd1473c20ca3842c30c31030811440c23450c14821051810d52075421890d60811440c518f181386,0x430871431c60832892c10c30cb2861430480c42423c40c50451c20c424b2530c324c0c61412c40cb0480420c1,0x1022860cb0421c510230138720610204234218c0c114415b0c40cc4834440c62cd0891083071881200c12d3545,0xc40c23063630450c718c0c51c23603c918144324408438720a0872071890922861412015062410cb1025442c3,0x24408424f0c20451c21c518421b0432c40870c20462511050c30c10c61443cf2db2820c78c32971811440c2405,0x3021020ca24b24f04f14138114628920604858608131208a3020c31c534818120f1c33c60c504e04f147248282,0xc20450c60c33421038c11500c204314414c0c130534b34518138418e0d31410c52473c504524304e711184081,0xcb04930830318610308a0c518408a18344318144714a2420cf1c50c10c218310f1411830950c40c80460812ca,0x1880492c330328b04834c14628230310314108f1030c318518310f2181930c548a2011413813020c11440c2181,0x14d14115c0c324618924834b28630348e4021c51c51092031140421cb1c54870c62c330c0d30c3081302187087,0x1c308304c20139318210510228338d08124f0891c204b0cf0451051811850c709044448b04344f18438420d243,0xc21050ca1850481872040c51140ca0843020c904f2432031841442076cf2cf2496c30431431c205106a0cb288,0x1831891461870813120cf1412421c210620c3c40890cf04510b1c92071412451831c32c92431cc20a0cc203103,0x3c10872101412060450c70cf3c30c62420ca1410c210b0c324d3c324b0c10c30871431cb1060831c33020453c4,0xcc0861813c20c30457051c30c204b0492451c558504e0491430c15430832430c40c30870c20c448f08918144c,0xc51020c118f0c20d22820d20540491831500cf14a0840831032041411411460c12ca0d854e18c486187444147].flatMap (Qo 60)++Qo 59 0x10872c33040c224174a1683082470c314424b1891090c21810d404248c2821cf1820421093c258f1412c6106)
def G7:Nat->List Nat->Bool
 |_,[]=>true
 |c,d::r=>match decide (0<d)&&(decide (c+d<1210000)&&GR (oJ (c+d) PR) 1)with
  |true=>G7 (c+d) r
  |false=>false
def aqP:G7 1000000 steps=true:=by decide +kernel
def axf:steps.length=6000:=by decide +kernel
inductive Many:Nat->Nat->Prop
 |none (c:Nat):Many 0 c
 |more {k c q:Nat}:cG q->c<q->q<1210000->Many k q->Many (k+1) c
theorem afe:∀(l:List Nat) (c:Nat),2<=c->G7 c l=true->Many l.length c
 |[],c,_,_=> .none c
 |d::r,c,h2,h=>by
  rw[G7]at h;split at h
  .rename_i e
   obtain⟨e1,e2⟩:=Kz.mp e;obtain⟨e2,e3⟩:=Kz.mp e2;have h1:=of_decide_eq_true e1;have h3:=of_decide_eq_true e2;exact .more (aza ⋯ h3 (U9 e3)) ⋯ h3 (afe r (c+d) ⋯ h)
  .exact absurd h ∅
def many:Many 6000 1000000:=by
 have:=afe steps 1000000 ∅ aqP
 rwa [axf]at this
def Many.down{k c c':Nat}(h:Many k c)(hc:c'<=c):Many k c':=by
 cases h with
 |none=>exact .none _
 |more h1 h2 h3 h4=>exact .more h1 ⋯ h3 h4
def Many.next{k c:Nat}(h:Many (k+1) c):∃q,cG q/\c<q/\q<1210000/\∀p,p<=q->Many k p:=by
 cases h with
 |more h1 h2 h3 h4=>exact⟨_,h1,h2,h3,λp hp=>h4.down hp⟩
def cG.xM{p:Nat}{a:Int}(h:cG p)(h0:0<a)(ha:a<(p:Int)):a^(p-1)%(p:Int)=1:=by
 obtain⟨n,rfl⟩:∃n:Nat,a=(n:Int):=⟨a.toNat,⋯⟩;have:=h.atq (a:=n) ⋯ ⋯;have e:((n^(p-1)%p:Nat):Int)=((1:Nat):Int):=by rw[this]
 rw[qD,Zi]at e;exact e
end Om
namespace Pm
open Rm
def alB{P:Nat}(hP:Om.cG P){p:List Int}(hp:Py P p)(hn:p≠[]):u9 P p (jV P p):=by
 have h2:=hP.1;have hpos:0<p.length:=Bv.mpr hn;have qR:(P:Int)≠0:=⋯;have eX:∀n,tk (P:Int) n=n%(P:Int):=λn=>iz qR n;have l0:=kJ hn hp.tr;have l1:=hp.co (p.length-1);rw[eX]at l1;have r0:0<=co p (p.length-1):=by rw[<-l1];exact oM _ qR
 have r1:co p (p.length-1)<(P:Int):=by rw[<-l1];exact oH _ ⋯
 generalize hl:co p (p.length-1)=a at l0 r0 r1;have hinv:(a^(P-2)*a)%(P:Int)=1:=by
  rw[<-jy,(⋯:(P-2).succ=P-1)];exact hP.xM ⋯ r1
 have e:∀k,co (jV P p) k=co p k*a^(P-2)%(P:Int):=λk=>by
  rw[jV,jF (by simp),hl]
 have len:(jV P p).length=p.length:=by rw[jV,aK]
 have top:co (jV P p) ((jV P p).length-1)=1:=by
  rw[len,e,hl,bG];exact hinv
 have hm:jV P p≠[]:=λz=>by rw[z]at len;simp at len;lia
 refine⟨⟨E5 hm (by rw[top];decide),λx hx=>?_⟩,len,λ_=>⟨⋯,top⟩,⟨a^(P-2),λk=>?_⟩,⟨a,λk=>?_⟩⟩
 .obtain⟨y,_,rfl⟩:=fQ.mp hx;rw[eX];exact jK _ (jQ _)
 .rw[e,eX,eX,jK _ (jQ _),bG]
 .rw[e,eX,eX,jC a,jK _ (jQ _),<-jC,fW a,bG a,jC,hinv];rw[iU,jK _ (jQ _)]
def ajb{P:Nat}(hP:Om.cG P){one other:Int}(h0:0<other)(h:other<(P:Int)):(P:Int)∣other*(one*other^(P-2)%(P:Int))-one:=by
 have h2:=hP.1;have hinv:(other^(P-2)*other)%(P:Int)=1:=by
  rw[<-jy,(⋯:(P-2).succ=P-1)];exact hP.xM h0 h
 have h1:(1:Int)%(P:Int)=1:=AH ∅ ⋯;refine Eo (Int.emod_eq_emod_iff_emod_sub_eq_zero.mp ?_);rw[jC,jK _ (jQ _),<-jC,fW,bG other,jC,hinv,iU,jK _ (jQ _)]
def azs{b f:Int}{s t:Nat}{l m:List Int}{u v:Nat}(hb:0<=b)(hb1:b<2097152)(hu:21<=u)(hf:Bd u f)(hl:∀k,Bd u (co l k))(hm:∀x∈m,Bd v x)(k:Nat):Bd (u+v+1) (lf b f s t l m k):=by
 unfold lf;split
 .refine tE hb ((Bd.of (n:=21) ⋯ ⋯).mono ⋯) ?_;rw[K1];refine Bd.add ((hl k).mono ⋯) ?_;have:=hf.mul (gk hm (k-s));unfold Bd at this⊢;rw[Bg];exact this
 .exact(hl k).mono ⋯
def jw(M t:Int)(p:Nat)(s:Int):Int:=(tk p (s-t))*(tk p M)^(p-2)%(p:Int)
def jn(M t:Int)(p:Nat)(s:Int):Int:=nr (M*p) (t+M*jw M t p s)
def aup{M t s:Int}{p:Nat}(hp:Om.cG p)(hM:¬(p:Int)∣M):(p:Int)∣M*jw M t p s-(s-t):=by
 have h2:=hp.1;have hp0:(p:Int)≠0:=⋯;have r0:=oM M hp0;have r1:=oH M (⋯:(0:Int)<p);have rn:M%(p:Int)≠0:=λz=>hM (Eo z);have h:=ajb hp (one:=tk p (s-t)) (other:=M%(p:Int)) ⋯ r1;unfold jw;rw[iz hp0 M];generalize tk (p:Int) (s-t)*(M%(p:Int))^(p-2)%(p:Int)=w at h;rw[iz hp0]at h;have e1:(p:Int)∣M*w-M%(p:Int)*w:=by
  rw[<-Hz];exact DQ (ab7) (ED ..)
 have e2:(p:Int)∣(s-t)%(p:Int)-(s-t):=by
  have:(p:Int)∣(s-t)-(s-t)%(p:Int):=ab7;have:=Int.dvd_neg.mpr this
  rwa [Int.neg_sub]at this
 have:=uc (uc e1 h) e2
 rwa [(⋯:M*w-M%(p:Int)*w+(M%(p:Int)*w-(s-t)%(p:Int))+((s-t)%(p:Int)-(s-t))=M*w-(s-t))]at this
def aj1{M t s:Int}{p:Nat}(hp:Om.cG p):0<=jw M t p s/\jw M t p s<p:=by
 have h2:=hp.1;exact⟨oM _ ⋯,oH _ ⋯⟩
def Div.dv{b:Int}{P M q r:List Int}(h:Div b P M q r)(hM:Mon M):r=[]↔Dv b M (co P):=by
 constructor
 .rintro rfl;exact⟨co q,q.length,Fs.co q,λk=>by rw[<-h.eq k,gP,cU]⟩
 .intro d;have e:Dv b M (co r):=(d.sub (Dv.self (b:=b) (m:=M) (Fs.co q))).congr λk=>by
   have e1:tk b (co P k + -cv (co q) (co M) k)=tk b ((cv (co q) (co M) k+co r k) + -cv (co q) (co M) k):=jk (h.eq k).symm rfl;rw[(⋯:co P k-cv (co q) (co M) k=co P k + -cv (co q) (co M) k),e1];exact congrArg (tk b) ⋯
  have z:=e.short hM ((Fs.co r).mono (by have:=h.short;lia));rw[<-h.ry.tr];exact Ip.mpr λk=>by rw[<-h.ry.co k];exact z k
end Pm
namespace Pm
open Rm Dm
def xg{n:Nat}{x:Int}(h:Bd n x):Bd n (-x):=by unfold Bd at h ⊢;rw[Bg];exact h
end Pm
namespace Pm
open Rm Dm
def atV{f:Nat->Int}{n:Nat}(h:Fs f n):∃S:List Int,∀k,co S k=f k:=⟨aq n f,λk=>by
 rw[bZ];by_cases c:k<n
 .rw[if_pos c]
 .rw[if_neg c,h k ⋯]⟩
def Kp.axg{b:Int}{p t:List Int}{f:Nat->Int}(h:Kp b (mul b p t) f):Kp b p (ks t f):=λn=>by rw[<-V2];exact h n
def Kp.Z4{b:Int}{p t:List Int}{f:Nat->Int}(h:Kp b p (ks t f)):Kp b (mul b p t) f:=λn=>by rw[V2];exact h n
end Pm
namespace Pm
open Rm
def ev(p:List Int)(x:Int):Int:=sm p.length λk=>co p k*x^k
def vP{p:List Int}{n:Nat}(h:p.length<=n)(x:Int):sm n (λk=>co p k*x^k)=ev p x:=
 lD h λk h1 _=>by rw[bh h1,dF]
def Kv(x:Int):ev [] x=0:=rfl
def Ra(c x:Int):ev [c] x=c:=by
 show 0+co [c] 0*x^0=c;rw[jh,xV,iU,dj]
abbrev lin(r:Int):List Int:=[0-r,1]
def aiM(r:Int):Mon (lin r):=⟨by show 0<2;decide,rfl⟩
def Yw(f:Nat->Int)(r:Int):∀k,cv f (co (lin r)) k=(if k=0 then 0 else f (k-1))-r*f k:=λk=>by
 rw[gb];cases k with
 |zero=>
  show 0+f 0*co (lin r) 0=_;rw[if_pos rfl,jh,dj,nJ,aV,bG]
 |succ k=>
  rw[if_neg (X5 _),fu];rw[sm,kZ,sm,(⋯:k+1-k=1)];rw[jA λj hj=>by rw[bh (p:=lin r) (⋯:2<=k+1-j),aV]];rw[jh,tK,jh,iU,dj,nJ,aV,jT,bG (f (k+1))];rfl
def agC(f:Nat->Int)(x:Int):∀n,sm (n+1) (λk=>(if k=0 then 0 else f (k-1))*x^k)=x*sm n λk=>f k*x^k:=λn=>by
 rw[jr,if_pos rfl,dF,dj,<-cj];refine aJ λk _=>?_;rw[if_neg (X5 _),fu,jy,bG (x^k) x,<-cP,<-cP,bG (f k) x]
theorem Div.ev{p q l:List Int}{r:Int}(h:Div 0 p (lin r) q l)(x:Int):Pm.ev p x=(x-r)*Pm.ev q x+Pm.ev l x:=by
 obtain⟨n,h1,h2,h3⟩:∃n,p.length<=n+1/\q.length<=n/\l.length<=n+1:=⟨p.length+q.length+l.length,⋯,⋯,⋯⟩;rw[<-vP h1 x,<-vP h2 x,<-vP h3 x];have e:∀k,co p k=(if k=0 then 0 else co q (k-1))-r*co q k+co l k:=λk=>by
  have:=h.eq k;rw[cJ,cJ,Yw]at this;exact this.symm
 rw[aJ (g:=λk=>(if k=0 then 0 else co q (k-1))*x^k+(-r*(co q k*x^k)+co l k*x^k)) λk _=>?_,eZ,eZ,agC,cj]
 .have e2:sm (n+1) (λk=>co q k*x^k)=sm n λk=>co q k*x^k:=by
   rw[sm,bh h2,dF,cU]
  rw[e2,Hz,iI];lia
 .rw[e k,uy,Hz,iI,cP];lia
def Div.root{p q l:List Int}{r:Int}(h:Div 0 p (lin r) q l):l=[]↔Pm.ev p r=0:=by
 have e:=h.ev r;rw[FZ,dF,dj]at e;have hs:l.length<2:=h.short
 match l,hs,h.ry with
 |[],_,_=>exact⟨λ_=>by rw[e,Kv],λ_=>rfl⟩
 |[c],_,hr=>
  rw[Ra]at e;constructor
  .intro z;cases z
  .intro z;rw[e]at z
   exfalso
   have:=hr.tr;rw[z]at this;simp[trim]at this
end Pm
namespace Pm
open Rm
def anU(a:Int)(p:List Int)(x:Int):ev (a::p) x=a+x*ev p x:=by
 rw[<-vP (p:=a::p) (n:=p.length+1) (aR _) x,jr,jh,xV,iU,<-vP (p:=p) (aR _) x,<-cj];congr 1;refine aJ λk _=>?_;rw[tK,jy,bG (x^k) x,<-cP,<-cP,bG (co p k) x]
theorem X3(x:Int)(g:List Int):∀(L P:List Int),(∀k,co P k=cv (co L) (co g) k)->ev P x=ev L x*ev g x
 |[],P,h=>by
  rw[Kv,dF];unfold ev;exact jA λk _=>by rw[h,mL (λi _=> .inl (gP i)),dF]
 |a::L,P,h=>by
  obtain⟨Q,hQ⟩:∃Q:List Int,∀k,co Q k=cv (co L) (co g) k:=atV ((Fs.co L).cv (Fs.co g));have ih:=X3 x g L Q hQ;obtain⟨n,h1,h2,h3⟩:∃n,P.length<=n+1/\Q.length<=n/\g.length<=n+1:=⟨P.length+Q.length+g.length,⋯,⋯,⋯⟩;have e:∀k,co P k=a*co g k+(if k=0 then 0 else co Q (k-1)):=λk=>by
   rw[h,aee];split
   .rfl
   .rw[hQ]
  rw[anU,<-vP h1 x,aJ (g:=λk=>a*(co g k*x^k)+(if k=0 then 0 else co Q (k-1))*x^k) λk _=>by rw[e k,uy,cP],eZ,cj,agC,vP h3,vP h2,ih,uy,cP]
def Xx(p:List Int)(r:Int):∃q l,Div 0 p (lin r) q l/\(∀k,co p k=(if k=0 then 0 else co q (k-1))-r*co q k+co l k)/\q.length<=p.length-1:=by
 obtain⟨q,l,h⟩:=JM (b:=0) (aiM r) (p:=p) λk=>cJ _;have e:∀k,co p k=(if k=0 then 0 else co q (k-1))-r*co q k+co l k:=λk=>by
  have:=h.eq k;rw[cJ,cJ,Yw]at this;exact this.symm
 have hs:l.length<2:=h.short;refine⟨q,l,h,e,?_⟩;by_cases hq:q=[]
 .rw[hq];exact dD _
 .have h0:=kJ hq h.qy.tr;have hp:0<q.length:=Bv.mpr hq;have h1:=e q.length;rw[if_neg ⋯,bh (p:=q) (aR _),aV,bh (p:=l) ⋯,vR,cU]at h1;have:=Ru (p:=p) (k:=q.length) (by rw[h1];exact h0);lia
theorem aah:∀(m:Nat) (L:List Int),Mon L->L.length=m+1->∀xs:List Int,xs.Nodup->(∀x∈xs,ev L x=0)->xs.length<=m
 |_,_,_,_,[],_,_=>dD _
 |0,L,hL,hl,r::ys,_,hr=>by
  exfalso
  have e:L=[1]:=nG (q:=[1]) hl λk=>by
   cases k with
   |zero=>have:=hL.one;rw[hl]at this;exact this
   |succ k=>rw[bh ⋯,bh (by show 1<=k+1;lia)]
  have:=hr r (mC ..);rw[e,Ra]at this;exact absurd this ∅
 |m+1,L,hL,hl,r::ys,hn,hr=>by
  obtain⟨q,l,h,e,lq⟩:=Xx L r;have h0:=hr r (mC ..);have l0:=h.root.mpr h0;subst l0;have hm:co q m=1:=by
   have h1:=e (m+1);rw[if_neg ⋯,fu,bh (p:=q) (⋯:q.length<=m+1),aV,gP,vR,cU]at h1;have h2:=hL.one;rw[hl,fu,h1]at h2;exact h2
  have Zd:q.length=m+1:=by
   have:=Ru (p:=q) (k:=m) (by rw[hm];decide);lia
  obtain⟨hn1,hn2⟩:=yq.mp hn;have:=aah m q ⟨⋯,by rw[Zd,fu];exact hm⟩ Zd ys hn2 λy hy=>by
   have h1:=h.ev y;rw[hr y (jZ _ hy),Kv,cU]at h1;rcases xQ.mp h1.symm with z|z
   .exact absurd (⋯:y=r) (λz=>hn1 (z▸hy))
   .exact z
  rw[qp];lia
def acz{M:Nat}{x y:Int}(hx:x≠0)(h:Bd M (x*y)):Bd M y:=by
 unfold Bd at h⊢;rw[jD]at h;have h1:1<=x.natAbs:=⋯;have:1*y.natAbs<=x.natAbs*y.natAbs:=ig _ h1;lia
theorem RX{e:Nat}:∀(d:Nat) (g:List Int) (M:Nat),g.length<=d->∀xs:List Int,xs.Nodup->d<=xs.length->(∀x∈xs,Bd e x)->(∀x∈xs,Bd M (ev g x))->∀k,Bd (M+d*(e+3)) (co g k)
 |0,g,_,hl,_,_,_,_,_,k=>by rw[bh ⋯];exact Bd.zero _
 |d+1,_,_,_,[],_,hd,_,_,_=>absurd hd (by show ¬d+1<=0;lia)
 |d+1,g,M,hl,r::ys,hn,hd,hx,hv,k=>by
  obtain⟨q,l,h,eq,lq⟩:=Xx g r;obtain⟨hn1,hn2⟩:=yq.mp hn;have hl2:l.length<2:=h.short;have er:ev l r=ev g r:=by rw[h.ev r,FZ,dF,dj]
  have el:∀x,ev l x=co l 0:=λx=>by
   match l,hl2 with
   |[],_=>rw[Kv,gP]
   |[c],_=>rw[Ra,jh]
  have c0:co l 0=ev g r:=by rw[<-el r,er]
  have hr:=hv r (mC ..);have ih:=RX (e:=e) d q (M+1) ⋯ ys hn2 (by rw[qp]at hd;lia) (λx h=>hx x (jZ _ h)) λy hy=>by
   refine acz (x:=y-r) (λz=>hn1 ((⋯:y=r)▸hy)) ?_;have h1:=h.ev y;rw[el y,c0]at h1;rw[(⋯:(y-r)*ev q y=ev g y + -(ev g r))];exact(hv y (jZ _ hy)).add (xg hr)
  have b1:Bd (e+(M+1+d*(e+3))) (if k=0 then 0 else co q (k-1)):=by
   split
   .exact Bd.zero _
   .exact(ih _).mono ⋯
  have b2:=xg ((hx r (mC ..)).mul (ih k));have b3:Bd (e+(M+1+d*(e+3))+1) (co l k):=by
   cases k with
   |zero=>rw[c0];exact hr.mono ⋯
   |succ k=>rw[bh ⋯];exact Bd.zero _
  have b4:=(b1.add b2).add b3;have e1:(d+1)*(e+3)=d*(e+3)+(e+3):=mJ ..;rw[eq k,K1];exact b4.mono ⋯
def av4{P:List Int}{x:Int}{u e:Nat}(hu:∀k,Bd u (co P k))(hx:Bd e x):Bd (u+P.length*(e+1)+P.length) (ev P x):=by
 have hp:∀k,Bd (k*e+1) (x^k):=λk=>by
  induction k with
  |zero=>rw[xV];exact(Bd.of (n:=1) ∅ ∅).mono ⋯
  |succ k ih=>
   have e1:(k+1)*e=k*e+e:=mJ ..;rw[jy];exact(ih.mul hx).mono ⋯
 unfold ev;refine(yc (c:=u+P.length*(e+1)) P.length λk hk=>((hu k).mul (hp k)).mono ?_).mono ⋯;have h1:(k+1)*(e+1)<=P.length*(e+1):=ig _ ⋯;have h2:(k+1)*(e+1)=k*(e+1)+(e+1):=mJ ..;have h3:k*(e+1)=k*e+k:=Bq ..;lia
theorem aeI(p:Int->Bool):∀xs:List Int,xs.length=(xs.filter p).length+(xs.filter λx=>!p x).length
 |[]=>rfl
 |x::xs=>by
  have:=aeI p xs;cases h:p x
  .rw[Yk (by rw[h];decide),acs (by rw[h];rfl),qp,qp];lia
  .rw[acs h,Yk (by rw[h];decide),qp,qp];lia
def ahn{P L g:List Int}(hL:Mon L)(he:∀k,co P k=cv (co L) (co g) k)(hl:L.length+g.length=P.length+1){u e:Nat}(hu:∀k,Bd u (co P k))(h2:P.length<=2^e)(k:Nat):Bd (u+P.length*(e+1)+P.length+g.length*(e+3)) (co g k):=by
 obtain⟨xs,hxs⟩:∃xs:List Int,xs=(d7 P.length).map Int.ofNat:=⟨_,rfl⟩;have nd:xs.Nodup:=by
  rw[hxs];refine aai _ (λa b h=>?_) (Xr (n:=P.length));exactλz=>h (Int.ofNat.inj z)
 have ln:xs.length=P.length:=by rw[hxs];simp
 have bx:∀x∈xs,Bd e x:=λx hx=>by
  rw[hxs]at hx;obtain⟨i,hi,rfl⟩:=fQ.mp hx;have:=gF.mp hi;show(Int.ofNat i).natAbs<2^e;show i<2^e;lia
 have h0:(xs.filter λx=>decide (ev L x=0)).length<=L.length-1:=by
  have:=hL.pos;exact aah (L.length-1) L hL ⋯ _ (nd.filter _) λx hx=>of_decide_eq_true (rF.mp hx).2
 have hc:xs.length=(xs.filter λx=>decide (ev L x=0)).length+(xs.filter λx=>!decide (ev L x=0)).length:=aeI _ xs;have hp:=hL.pos;refine RX g.length g _ (aR _) (xs.filter λx=>!decide (ev L x=0)) (nd.filter _) ⋯ (λx hx=>bx x (rF.mp hx).1) (λx hx=>?_) k;have hne:ev L x≠0:=λz=>by
  have:=(rF.mp hx).2;rw[decide_eq_true z]at this;exact absurd this ∅
 refine acz hne ?_;rw[<-X3 x g L P he];exact av4 hu (bx x (rF.mp hx).1)
def amg{P:List Int}{a:Nat->Int}(hP:Mon P)(hK:Kp 0 P a){d u ua e U:Nat}(hS:∃Q0,Mon Q0/\Kp 0 Q0 a/\Q0.length<=d+1)(ha:∀n,n<=2*d->Bd ua (a n))(hu:∀k,Bd u (co P k))(h2:P.length<=2^e)(hU:u+P.length*(e+1)+P.length+P.length*(e+3)<=U):
  ∃g L N,Mon L/\Py 0 L/\Kp 0 L a/\(∀q,Kp 0 q a->Dv 0 L (co q))/\L.length+g.length=P.length+1/\(∀k,co P k=cv (co L) (co g) k)/\vX P (tp P a) g N/\Bd (d*(ua+d)+1) N/\∀k,Bd U (co g k):=by
 obtain⟨g,L,hL,EY,hKL,hall,hlen,hE,G⟩:=Ur hP hK;obtain⟨Q0,hQ,hKQ,hQl⟩:=hS;have NT:=hL.pos;have hl:L.length<=d+1:=eO ((hall Q0 hKQ).len rfl hL hQ) hQl;have hm:(L.length-1)*(ua+(L.length-1))+1<=d*(ua+d)+1:=by
  have:=iH (⋯:L.length-1<=d) (⋯:ua+(L.length-1)<=ua+d);lia
 refine⟨g,L,_,hL,EY,hKL,hall,hlen,hE,G,?_,λk=>?_⟩
 .exact(Dm.DX (u:=ua) λi j hi hj=>ha _ ⋯).mono hm
 .refine(ahn hL hE hlen hu h2 k).mono (eO ?_ hU);have:=ig (e+3) (⋯:g.length<=P.length);lia
end Pm
namespace Dm
open Pm Rm
section
variable {L:List Int}{f:Nat->Int}
def shf(t:Int)(f:Nat->Int):Nat->Int:=λk=>f (k+1)-t*f k
def ayD(h:Kp 0 L f)(t:Int):Kp 0 L (shf t f):=λn=>by
 have e:ks L (shf t f) n=ks L f (n+1)-t*ks L f n:=by
  unfold ks shf;rw[<-cj,<-GB];refine aJ λk _=>?_;rw[(⋯:n+1+k=n+k+1),nJ,fW]
 have h1:=h n;have h2:=h (n+1);rw[cJ]at h1 h2;rw[cJ,e,h1,h2,aV];rfl
def part(f g:Nat->Int)(j:Nat):Nat->Nat->Int:=λi k=>if k<j then g (i+k)else f (i+k)
theorem ahh{f:Nat->Int}{t:Int}{n:Nat}:∀j,j+1<=n->det n (part f (shf t f) j)=(-t)^j*det n (hk f)
 |0,_=>by
  rw[xV,fP];exact iy λi k _ _=>if_neg (kj _)
 |j+1,h=>by
  have ih:=ahh (f:=f) (t:=t) (n:=n) j ⋯;have c:=RH (n:=n) (part f (shf t f) j) (λk=>(if k=j then -t else 0)+(if k=j+1 then 1 else 0)) (j:=j) ⋯;rw[if_pos rfl,if_neg ⋯,cU,ih,<-cP,bG (-t),<-jy]at c;rw[<-c];refine iy λi k _ hk=>?_;unfold cB;by_cases e:k=j
  .rw[if_pos e];subst e;have e1:(λl=>part f (shf t f) k i l*((if l=k then -t else 0)+(if l=k+1 then 1 else 0)))=λl=>(if l=k then -t*f (i+k)else 0)+(if l=k+1 then f (i+k+1)else 0):=funext λl=>by
    unfold part;by_cases a:l=k
    .rw[if_pos a,if_pos a,if_neg ⋯,if_neg ⋯,if_neg ⋯,a,cU,cU,bG]
    .rw[if_neg a,if_neg a];by_cases b:l=k+1
     .rw[if_pos b,if_pos b,if_neg ⋯,b,dj,dj,iU];rfl
     .rw[if_neg b,if_neg b,dj,aV]
   show _=sm n (λl=>part f (shf t f) k i l*((if l=k then -t else 0)+(if l=k+1 then 1 else 0)));rw[e1,eZ,iD,iD,if_pos ⋯,if_pos ⋯];unfold part shf;rw[if_pos ⋯,iI];lia
  .rw[if_neg e];unfold part;by_cases a:k<j
   .rw[if_pos ⋯,if_pos a]
   .rw[if_neg ⋯,if_neg a]
def pre(L:List Int)(t:Int)(m:Nat):Int:=sm m λk=>co L k*t^k
theorem HX(L:List Int)(t:Int)(v:Nat->Int)(n:Nat):∀m,m<=n->sm m (λi=>(v (i+1)-t*v i)*(t^(n-1-i)*pre L t (i+1)))=t^(n-m)*pre L t m*v m-t^n*sm m λi=>co L i*v i
 |0,_=>by show(0:Int)=t^n*0*v 0-t^n*0;rw[aV,dF];rfl
 |m+1,h=>by
  rw[sm,HX L t v n m ⋯,sm];have ep:pre L t (m+1)=pre L t m+co L m*t^m:=rfl;have e1:t^(n-m)=t*t^(n-1-m):=by rw[(⋯:n-m=n-1-m+1),jy,bG]
  have e2:t^n=t^(n-1-m)*t*t^m:=by rw[<-jy,<-Wf];congr 1;lia
  rw[(⋯:n-(m+1)=n-1-m),ep,e1,e2];generalize t^(n-1-m)=a;generalize t^m=b;generalize pre L t m=p;generalize co L m=q;generalize v m=x;generalize v (m+1)=y;generalize sm m (λi=>co L i*v i)=z
  grind
def ays(hL:Mon L)(hK:Kp 0 L f){t:Int}(ht:t≠0):(det (L.length-1) (hk (shf t f))).natAbs=(ev L t).natAbs*(det (L.length-1) (hk f)).natAbs:=by
 have hp:=hL.pos;obtain⟨N,eN⟩:∃N,L.length=N+1:=⟨L.length-1,⋯⟩;have hone:=hL.one;rw[eN]at hone⊢;rw[fu]at hone⊢;have hev:ev L t=pre L t N+t^N:=by
  unfold ev;rw[eN,sm,hone,fP];rfl
 cases N with
 |zero=>rw[hev,xV];show(1:Int).natAbs=((0:Int)+1).natAbs*(1:Int).natAbs;rfl
 |succ n=>
  have P:=ahh (f:=f) (t:=t) (n:=n+1) n ⋯;have c:=RH (n:=n+1) (part f (shf t f) n) (λk=>if k=n then -ev L t else t^(n-1-k)*pre L t (k+1)) (j:=n) ⋯;rw[if_pos rfl,P]at c;have l:=uX (n:=n+1) (part f (shf t f) n) (j:=n) ⋯ (t^n) (λi=>shf t f (i+n)) (λ_=>0);rw[B3 _ ⋯,cU]at l;have e1:det (n+1) (cB (part f (shf t f) n) n λi=>shf t f (i+n))=det (n+1) (hk (shf t f)):=iy λi k _ hk'=>by
   unfold cB part;by_cases a:k=n
   .rw[if_pos a,a];rfl
   .rw[if_neg a,if_pos ⋯];rfl
  have e2:(cB (part f (shf t f) n) n λi=>sm (n+1) λk=>part f (shf t f) n i k*(if k=n then -ev L t else t^(n-1-k)*pre L t (k+1)))=cB (part f (shf t f) n) n λi=>t^n*shf t f (i+n)+0:=by
   congr 1
   funext i
   have hz:=hK i;rw[cJ,ks,eN,sm,sm,hone,fP]at hz;rw[sm,if_pos rfl];have e3:sm n (λk=>part f (shf t f) n i k*(if k=n then -ev L t else t^(n-1-k)*pre L t (k+1)))=sm n λk=>(f (i+(k+1))-t*f (i+k))*(t^(n-1-k)*pre L t (k+1)):=aJ λk hk'=>by
    rw[if_neg ⋯];unfold part shf;rw[if_pos hk'];rfl
   rw[e3,HX L t (λk=>f (i+k)) n n (aR _),kZ,xV,fP,hev];unfold part shf;rw[if_neg ⋯];have ep:pre L t (n+1)=pre L t n+co L n*t^n:=rfl;rw[ep,(⋯:i+n+1=i+(n+1)),jy];generalize t^n=a at *;generalize pre L t n=p;generalize co L n=q at *;generalize f (i+n)=x at *;generalize f (i+(n+1))=y at *;generalize sm n (λk=>co L k*f (i+k))=z at *;have hy:y=-z-q*x:=⋯;rw[hy]
   grind
  rw[e2,l,e1]at c;have ca:=congrArg AF c;rw[jD,jD,jD,Bg,aej,aej,Bg,Nat.mul_left_comm]at ca;exact YM (pF ⋯) ca
def HS:Nat->Nat
 |0=>1
 |n+1=>(n+1)*HS n
theorem XU{f:Nat->Int}{M:Nat}:∀n:Nat,(∀k,k<n->(f k).natAbs<=M)->(sm n f).natAbs<=n*M
 |0,_=>dD _
 |n+1,h=>by
  have h1:=XU n λk hk=>h k ⋯;have h2:=h n ⋯;have h3:=Aw (sm n f) (f n);rw[mJ];show(sm n f+f n).natAbs<=_;lia
def aix(m:Nat):(sg m).natAbs=1:=by unfold sg;split<;>rfl
theorem Yp:∀(n:Nat) {f:Nat->Nat->Int} {M:Nat},(∀i k,i<n->k<n->(f i k).natAbs<=M)->(det n f).natAbs<=HS n*M^n
 |0,_,_,_=>aR 1
 |n+1,f,M,h=>by
  unfold det HS;rw[iY,mz];refine XU (n+1) λc hc=>?_;have ih:=Yp n (f:=λi k=>f i (sk c k)) (M:=M) λi k hi hk=>h i (sk c k) ⋯ (by unfold sk;split<;>lia);rw[jD,jD,aix,oA,gZ,<-mz];exact iH ih (h n c ⋯ hc)
theorem WX(D:Nat):∀m,D^m+m*D^(m-1)<=(D+1)^m
 |0=>by rw[zp];exact aR _
 |m+1=>by
  have ih:=WX D m;have e:(D+1)^(m+1)=(D+1)^m*D+(D+1)^m:=by rw[iY,rC,v8]
  have h1:D^m<=(D+1)^m:=D6 ⋯ m;have h2:(D^m+m*D^(m-1))*D<=(D+1)^m*D:=ig _ ih;have h3:m*D^(m-1)*D=m*D^m:=by
   cases m with
   |zero=>rw[zp,zp]
   |succ m=>rw[fu,mz,<-iY]
  rw[yR,h3]at h2;rw[e,fu,iY,mJ];lia
def aoK{E D K:Nat}(hD:1<=D)(h:∀m,E^m<=K*D^m):E<=D:=by
 rcases W9 D E with c|c
 .exfalso
  have h1:=h (K*D+1);have h2:(D+1)^(K*D+1)<=E^(K*D+1):=D6 c _;have h3:=WX D (K*D+1);have h4:(K*D+1)*D^(K*D)=K*D^(K*D+1)+D^(K*D):=by rw[yR,oA,mz,iY,gZ D]
  rw[fu,h4]at h3;have:0<D^(K*D):=pF hD;lia
 .exact c
def qu(t:Int)(f:Nat->Int):Nat->Nat->Int
 |0=>f
 |m+1=>shf t (qu t f m)
theorem adl{L:List Int}{f:Nat->Int}(h:Kp 0 L f)(t:Int):∀m,Kp 0 L (qu t f m)
 |0=>h
 |m+1=>ayD (adl h t m) t
theorem Nt{f:Nat->Int}{c d:Nat}(h:∀k,(f k).natAbs<=2^(c+d*k))(t:Int):∀m k,(qu t f m k).natAbs<=2^(c+d*k)*(2^d+t.natAbs)^m
 |0,k=>by rw[E1,v8];exact h k
 |m+1,k=>by
  have h1:=Nt h t m (k+1);have h2:=Nt h t m k;have h3:(t*qu t f m k).natAbs<=t.natAbs*(2^(c+d*k)*(2^d+t.natAbs)^m):=by rw[jD];exact fH _ h2
  have h4:=adh (qu t f m (k+1)) (t*qu t f m k);show(qu t f m (k+1)-t*qu t f m k).natAbs<=_;have e:2^(c+d*(k+1))*(2^d+t.natAbs)^m=2^d*(2^(c+d*k)*(2^d+t.natAbs)^m):=by
   rw[<-mz,<-uK];congr 2;rw[Bq];lia
  rw[e]at h1;rw[iY,<-mz,gZ _ (2^d+t.natAbs),yR];lia
theorem aga{L:List Int}{f:Nat->Int}(hL:Mon L)(hK:Kp 0 L f){t:Int}(ht:t≠0):∀m,(det (L.length-1) (hk (qu t f m))).natAbs=(ev L t).natAbs^m*(det (L.length-1) (hk f)).natAbs
 |0=>by rw[E1,oA];rfl
 |m+1=>by
  show(det (L.length-1) (hk (shf t (qu t f m)))).natAbs=_;rw[ays hL (adl hK t m) ht,aga hL hK ht m,<-mz,iY,gZ (ev L t).natAbs]
def awe(hL:Mon L)(hK:Kp 0 L f)(hN:det (L.length-1) (hk f)≠0){c d:Nat}(hf:∀k,(f k).natAbs<=2^(c+d*k)){t:Int}(ht:t≠0):(ev L t).natAbs<=(2^d+t.natAbs)^(L.length-1):=by
 generalize hn:L.length-1=n at hN;refine aoK (K:=HS n*(2^(c+d*(2*n)))^n) (pF (by have:=pF (n:=d) (∅:0<2);lia)) λm=>?_;have h1:=aga hL hK ht m;rw[hn]at h1;have h2:=Yp n (f:=hk (qu t f m)) (M:=2^(c+d*(2*n))*(2^d+t.natAbs)^m) λi k hi hk'=>by
  refine eO (Nt hf t m (i+k)) (ig _ (uo ∅ ?_));exact xJ (fH _ ⋯) _
 rw[h1,Nat.mul_pow,<-mz,<-yx _ m n,gZ m n,yx]at h2;refine eO ?_ h2;have:1<=(det n (hk f)).natAbs:=⋯;exact eO (Lb (v8 _).symm) (fH _ this)
def awp(hL:Mon L)(hK:Kp 0 L f)(hN:det (L.length-1) (hk f)≠0)(h13:L.length<=13){c d:Nat}(d4:4<=d)(hf:∀k,Bd (c+d*k) (f k))(k:Nat):Bd ((d+1)*(L.length-1)+1+L.length*7) (co L k):=by
 refine RX (e:=4) L.length L _ (aR _) ((d7 L.length).map λi=>((i+1:Nat):Int)) (aai _ (λa b h z=>h ⋯) (Xr (n:=L.length))) (by rw[aK,pK];exact aR _) (λx hx=>?_) (λx hx=>?_) k
 .obtain⟨i,hi,rfl⟩:=fQ.mp hx;have:=gF.mp hi;exact Bd.of ⋯ ⋯
 .obtain⟨i,hi,rfl⟩:=fQ.mp hx;have:=gF.mp hi;have e:=awe hL hK hN (c:=c) (d:=d) (λk=>fj (hf k)) (t:=((i+1:Nat):Int)) ⋯;have QG:2^4<=2^d:=uo ∅ d4;have e2:(2^d+((i+1:Nat):Int).natAbs)^(L.length-1)<=(2^(d+1))^(L.length-1):=D6 (by rw[iY,C6];lia) _;rw[<-yx]at e2;refine Jo (eO e e2) (Nat.pow_lt_pow_right ∅ ⋯)
end
end Dm
namespace Nw
open Lean.Grind
variable {R:Type} [CommRing R]
def sm:Nat->(Nat->R)->R
 |0,_=>0
 |n+1,f=>sm n f+f n
theorem aJ{f g:Nat->R}:∀{n:Nat},(∀k,k<n->f k=g k)->sm n f=sm n g
 |0,_=>rfl
 |n+1,h=>by
  show sm n f+f n=sm n g+g n;rw[aJ λk hk=>h k ⋯,h n ⋯]
theorem oE:∀n:Nat,sm n (λ_=>(0:R))=0
 |0=>rfl
 |n+1=>by show sm n _+0=0;rw[oE n];grind
theorem eZ(f g:Nat->R):∀n:Nat,sm n (λk=>f k+g k)=sm n f+sm n g
 |0=>by show(0:R)=0+0;grind
 |n+1=>by show sm n _+_=sm n f+f n+(sm n g+g n);rw[eZ f g n];grind
theorem cj(c:R)(f:Nat->R):∀n:Nat,sm n (λk=>c*f k)=c*sm n f
 |0=>by show(0:R)=c*0;grind
 |n+1=>by show sm n _+_=c*(sm n f+f n);rw[cj c f n];grind
theorem pW(F:Nat->Nat->R)(m:Nat):∀n:Nat,sm m (λk=>sm n (λj=>F k j))=sm n (λj=>sm m (λk=>F k j))
 |0=>oE m
 |n+1=>by
  show sm m (λk=>sm n (λj=>F k j)+F k n)=sm n (λj=>sm m (λk=>F k j))+sm m (λk=>F k n);rw[eZ,pW F m n]
theorem jr(f:Nat->R):∀n:Nat,sm (n+1) f=f 0+sm n (λi=>f (i+1))
 |0=>by show 0+f 0=f 0+0;grind
 |n+1=>by
  show sm (n+1) f+f (n+1)=f 0+(sm n (λi=>f (i+1))+f (n+1));rw[jr f n];grind
def el:List R->Nat->R
 |[],k=>if k=0 then 1 else 0
 |a::l,0=>el l 0
 |a::l,k+1=>el l (k+1)-a*el l k
theorem tG:∀l:List R,el l 0=1
 |[]=>rfl
 |a::l=>tG l
theorem Ib:∀(l:List R) (k:Nat),l.length<k->el l k=0
 |[],k,h=>by
  have:k≠0:=by simp at h;lia
  exact if_neg this
 |a::l,0,h=>absurd h ⋯
 |a::l,k+1,h=>by
  simp at h;show el l (k+1)-a*el l k=0;rw[Ib l (k+1) ⋯,Ib l k ⋯];grind
def pw(l:List R)(k:Nat):R:=match l with
 |[]=>0
 |a::l=>a^k+pw l k
def akF(a:R)(l:List R)(k:Nat):pw (a::l) k=a^k+pw l k:=rfl
def HX(a:R)(l:List R)(k:Nat):sm (k+1) (λi=>a^(i+1)*el (a::l) (k-i))=a*el l k:=by
 have key:∀j,j<=k->sm j (λi=>a^(i+1)*el (a::l) (k-i))=a*el l k-a^(j+1)*el l (k-j):=λj=>by
  induction j with
  |zero=>intro _;show(0:R)=a*el l k-a^1*el l (k-0);rw[nO];grind
  |succ j ih=>
   intro hj;show sm j _+a^(j+1)*el (a::l) (k-j)=_;rw[ih ⋯];obtain⟨m,hm⟩:∃m,k-j=m+1:=⟨k-j-1,⋯⟩;rw[hm,(⋯:k-(j+1)=m)];show _-_+a^(j+1)*(el l (m+1)-a*el l m)=_
   grind
 show sm k _+a^(k+1)*el (a::l) (k-k)=_;rw[key k (aR k),kZ,tG,tG];grind
def nt:Nat->R
 |0=>0
 |k+1=>nt k+1
theorem GD:∀(l:List R) (k:Nat),nt (k+1)*el l (k+1)+sm (k+1) (λi=>pw l (i+1)*el l (k-i))=0
 |[],k=>by
  have e:sm (k+1) (λi=>pw ([]:List R) (i+1)*el ([]:List R) (k-i))=0:=by
   rw[aJ (g:=λ_=>(0:R)) λi _=>by show(0:R)*_=0;grind,oE]
  rw[e,show el ([]:List R) (k+1)=0 from rfl];grind
 |a::l,k=>by
  have h1:=GD l k;have e1:sm (k+1) (λi=>pw (a::l) (i+1)*el (a::l) (k-i))=a*el l k+sm (k+1) (λi=>pw l (i+1)*el (a::l) (k-i)):=by
   rw[<-HX a l k,<-eZ];exact aJ λi _=>by rw[akF];grind
  rw[e1];show nt (k+1)*(el l (k+1)-a*el l k)+_=0;cases k with
  |zero=>
   have e2:sm (0+1) (λi=>pw l (i+1)*el (a::l) (0-i))=sm (0+1) (λi=>pw l (i+1)*el l (0-i)):=aJ λi hi=>by
    have:i=0:=⋯;subst this;rfl
   rw[e2];generalize sm (0+1) (λi=>pw l (i+1)*el l (0-i))=s at h1⊢;generalize el l (0+1)=x at h1⊢;generalize el l 0=y at h1⊢;have c1:(nt (0+1):R)=1:=by show(0:R)+1=1;grind
   rw[c1]at h1⊢
   grind
  |succ k=>
   have h2:=GD l k;have e2:sm (k+1+1) (λi=>pw l (i+1)*el (a::l) (k+1-i))=sm (k+1+1) (λi=>pw l (i+1)*el l (k+1-i))-a*sm (k+1) (λi=>pw l (i+1)*el l (k-i)):=by
    show sm (k+1) _+pw l (k+1+1)*el (a::l) (k+1-(k+1))=sm (k+1) _+pw l (k+1+1)*el l (k+1-(k+1))-_;rw[kZ,tG,tG];have:sm (k+1) (λi=>pw l (i+1)*el (a::l) (k+1-i))=sm (k+1) (λi=>pw l (i+1)*el l (k+1-i))+(-a)*sm (k+1) (λi=>pw l (i+1)*el l (k-i)):=by
     rw[<-cj,<-eZ];refine aJ λi hi=>?_;rw[(⋯:k+1-i=(k-i)+1)];show pw l (i+1)*(el l (k-i+1)-a*el l (k-i))=_
     grind
    rw[this];grind
   rw[e2];generalize sm (k+1+1) (λi=>pw l (i+1)*el l (k+1-i))=s at h1⊢;generalize sm (k+1) (λi=>pw l (i+1)*el l (k-i))=t at h2⊢;generalize el l (k+1+1)=x at h1⊢;generalize el l (k+1)=y at h1 h2⊢;have c1:(nt (k+1+1):R)=nt (k+1)+1:=rfl;rw[c1]at h1⊢;generalize (nt (k+1):R)=n at h1 h2⊢
   grind
def dl:List R->(Nat->R)->Nat->R
 |[],a=>a
 |x::l,a=>dl l λn=>a (n+1)-x*a n
theorem abU:∀(l:List R) (a:Nat->R) (n:Nat),dl l a n=sm (l.length+1) (λk=>el l k*a (n+l.length-k))
 |[],a,n=>by
  show a n=0+el ([]:List R) 0*a (n+0-0);rw[tG,BH,nO];grind
 |x::l,a,n=>by
  show dl l (λn=>a (n+1)-x*a n) n=_;rw[abU l,qp];have e1:sm (l.length+1+1) (λk=>el (x::l) k*a (n+(l.length+1)-k))=sm (l.length+1+1) (λk=>el l k*a (n+(l.length+1)-k))+(-x)*sm (l.length+1) (λk=>el l k*a (n+l.length-k)):=by
   rw[jr (λk=>el (x::l) k*a (n+(l.length+1)-k)),jr (λk=>el l k*a (n+(l.length+1)-k)),<-cj];have:sm (l.length+1) (λi=>el (x::l) (i+1)*a (n+(l.length+1)-(i+1)))=sm (l.length+1) (λi=>el l (i+1)*a (n+(l.length+1)-(i+1)))+sm (l.length+1) (λk=>-x*(el l k*a (n+l.length-k))):=by
    rw[<-eZ];refine aJ λi _=>?_;show(el l (i+1)-x*el l i)*_=_;rw[(⋯:n+(l.length+1)-(i+1)=n+l.length-i)];grind
   rw[this];show el l 0*_+_=_
   grind
  rw[e1];show _=sm (l.length+1) _+el l (l.length+1)*_+_;rw[Ib l (l.length+1) ⋯,<-cj];have e2:sm (l.length+1) (λk=>el l k*(a (n+l.length-k+1)-x*a (n+l.length-k)))=sm (l.length+1) (λk=>el l k*a (n+(l.length+1)-k))+sm (l.length+1) (λk=>-x*(el l k*a (n+l.length-k))):=by
   rw[<-eZ];refine aJ λk hk=>?_;rw[(⋯:n+(l.length+1)-k=n+l.length-k+1)];grind
  rw[e2];grind
theorem Aq:∀(l:List R) (a b:Nat->R) (x y:R) (n:Nat),dl l (λn=>x*a n+y*b n) n=x*dl l a n+y*dl l b n
 |[],_,_,_,_,_=>rfl
 |z::l,a,b,x,y,n=>by
  show dl l (λn=>x*a (n+1)+y*b (n+1)-z*(x*a n+y*b n)) n=x*dl l _ n+y*dl l _ n;rw[<-Aq l];exact congrArg (λf=>dl l f n) (funext λn=>by grind)
theorem CM:∀(l:List R) (a:Nat->R) (n:Nat),dl l (λn=>a (n+1)) n=dl l a (n+1)
 |[],_,_=>rfl
 |z::l,a,n=>CM l (λn=>a (n+1)-z*a n) n
def aa3(l:List R)(n:Nat):dl l (λ_=>0) n=0:=by
 have:=Aq l (λ_=>(0:R)) (λ_=>0) 0 0 n;rw[show(λ_:Nat=>(0:R)*0+0*0)=λ_=>0 from funext λ_=>by grind]at this;rw[this];grind
theorem agi:∀(l l':List R) (a:Nat->R),dl (l++l') a=dl l' (dl l a)
 |[],_,_=>rfl
 |x::l,l',a=>agi l l' _
inductive Zc(A B:List R):(Nat->R)->Prop
 |one {u v:Nat->R}:(∀n,dl A u n=0)->(∀n,dl B v n=0)->Zc A B λn=>u n*v n
 |lin {s t:Nat->R} (x y:R):Zc A B s->Zc A B t->Zc A B λn=>x*s n+y*t n
def Zc.step{A B:List R}{s:Nat->R}(h:Zc A B s)(g:R):Zc A B λn=>s (n+1)-g*s n:=by
 induction h with
 |@one u v hu hv=>
  have h1:Zc A B λn=>u (n+1)*v (n+1):= .one (u:=λn=>u (n+1)) (v:=λn=>v (n+1)) (λn=>by rw[CM];exact hu _) λn=>by rw[CM];exact hv _
  have:=Zc.lin 1 (-g) h1 (.one hu hv);rw[show(λn=>u (n+1)*v (n+1)-g*(u n*v n))=λn=>1*(u (n+1)*v (n+1)) + -g*(u n*v n)from funext λn=>by grind];exact this
 |@lin s t x y _ _ h1 h2=>
  have:=Zc.lin x y h1 h2;rw[show(λn=>x*s (n+1)+y*t (n+1)-g*(x*s n+y*t n))=λn=>x*(s (n+1)-g*s n)+y*(t (n+1)-g*t n)from funext λn=>by grind];exact this
theorem Zc.dl{A B:List R}:∀(l:List R) {s:Nat->R},Zc A B s->Zc A B (Nw.dl l s)
 |[],_,h=>h
 |g::l,_,h=>Zc.dl l (h.step g)
def Zc.more{A B:List R}{b:R}{s:Nat->R}(h:Zc A B s):Zc A (b::B) s:=by
 induction h with
 |@one u v hu hv=>
  refine .one hu λn=>?_;show Nw.dl B (λn=>v (n+1)-b*v n) n=0;have:=Aq B (λn=>v (n+1)) v 1 (-b) n;rw[show(λn=>v (n+1)-b*v n)=λn=>1*v (n+1) + -b*v n from funext λn=>by grind,this,CM,hv,hv];grind
 |lin x y _ _ h1 h2=>exact .lin x y h1 h2
theorem Z0{a:R}{A:List R}:∀(B:List R) {u v:Nat->R},(∀n,dl (a::A) u n=0)->(∀n,dl B v n=0)->Zc A B (dl (B.map λb=>a*b) λn=>u n*v n)
 |[],u,v,hu,hv=>by
  have:(λn=>u n*v n)=λn=>(0:R)*(0*v n)+0*(0*v n):=funext λn=>by rw[show v n=0 from hv n];grind
  show Zc A [] λn=>u n*v n;rw[this];have z:Zc A [] λn=>(0:R)*v n:= .one (u:=λ_=>0) (λn=>aa3 A n) hv;exact .lin 0 0 z z
 |b::B,u,v,hu,hv=>by
  show Zc A (b::B) (dl (B.map λb=>a*b) λn=>u (n+1)*v (n+1)-a*b*(u n*v n));have h1:Zc A (b::B) λn=>(u (n+1)-a*u n)*v (n+1):= .one (u:=λn=>u (n+1)-a*u n) (v:=λn=>v (n+1)) hu λn=>by rw[CM];exact hv _
  have h2:=(Z0 (a:=a) (A:=A) B (u:=u) (v:=λn=>v (n+1)-b*v n) hu hv).more (b:=b);have:=Zc.lin 1 a (h1.dl (B.map λb=>a*b)) h2;rw[show(λn=>u (n+1)*v (n+1)-a*b*(u n*v n))=λn=>1*((u (n+1)-a*u n)*v (n+1))+a*(u n*(v (n+1)-b*v n))from funext λn=>by grind];rw[show Nw.dl (B.map λb=>a*b) (λn=>1*((u (n+1)-a*u n)*v (n+1))+a*(u n*(v (n+1)-b*v n)))=λn=>1*Nw.dl (B.map λb=>a*b) (λn=>(u (n+1)-a*u n)*v (n+1)) n+a*Nw.dl (B.map λb=>a*b) (λn=>u n*(v (n+1)-b*v n)) n from funext λn=>Aq _ _ _ _ _ n];exact this
def prs:List R->List R->List R
 |[],_=>[]
 |a::A,B=>(B.map λb=>a*b)++prs A B
theorem abk:∀(A B:List R) {s:Nat->R},Zc A B s->∀n,dl (prs A B) s n=0
 |[],B,s,h,n=>by
  show s n=0;induction h with
  |@one u v hu hv=>show u n*v n=0;rw[show u n=0 from hu n];grind
  |@lin s t x y _ _ h1 h2=>show x*s n+y*t n=0;rw[h1,h2];grind
 |a::A,B,s,h,n=>by
  have key:Zc A B (dl (B.map λb=>a*b) s):=by
   induction h with
   |one hu hv=>exact Z0 B hu hv
   |@lin s t x y _ _ h1 h2=>
    rw[show dl (B.map λb=>a*b) (λn=>x*s n+y*t n)=λn=>x*dl (B.map λb=>a*b) s n+y*dl (B.map λb=>a*b) t n from funext λn=>Aq _ _ _ _ _ n];exact .lin x y h1 h2
  show dl ((B.map λb=>a*b)++prs A B) s n=0;rw[agi];exact abk A B key n
def as8{A B:List R}{u v:Nat->R}(hu:∀n,dl A u n=0)(hv:∀n,dl B v n=0)(n:Nat):dl (prs A B) (λn=>u n*v n) n=0:=abk A B (.one hu hv) n
theorem WW:∀(l l':List R) (k:Nat),pw (l++l') k=pw l k+pw l' k
 |[],l',k=>by show pw l' k=0+pw l' k;grind
 |a::l,l',k=>by show a^k+pw (l++l') k=a^k+pw l k+pw l' k;rw[WW l l' k];grind
theorem acF(a:R):∀(B:List R) (k:Nat),pw (B.map λb=>a*b) k=a^k*pw B k
 |[],k=>by show(0:R)=a^k*0;grind
 |b::B,k=>by
  show(a*b)^k+pw (B.map λb=>a*b) k=a^k*(b^k+pw B k);have:(a*b)^k=a^k*b^k:=by
   induction k with
   |zero=>grind
   |succ k ih=>grind
  rw[this,acF a B k];grind
theorem afO:∀(A B:List R) (k:Nat),pw (prs A B) k=pw A k*pw B k
 |[],B,k=>by show(0:R)=0*pw B k;grind
 |a::A,B,k=>by
  show pw ((B.map λb=>a*b)++prs A B) k=(a^k+pw A k)*pw B k;rw[WW,acF,afO A B k];grind
theorem acZ:∀A B:List R,(prs A B).length=A.length*B.length
 |[],B=>by simp[prs]
 |a::A,B=>by simp[prs,acZ A B,mJ];lia
end Nw
namespace Nw
open Lean.Grind
structure Laws{α:Type}(z o:α)(ad mu:α->α->α)(ng:α->α):Prop where
 BZ:∀a,ad a z=a
 C7:∀a b,ad a b=ad b a
 Te:∀a b c,ad (ad a b) c=ad a (ad b c)
 muA:∀a b c,mu (mu a b) c=mu a (mu b c)
 mu1:∀a,mu a o=a
 wQ:∀a b,mu a b=mu b a
 dis:∀a b c,mu a (ad b c)=ad (mu a b) (mu a c)
 BQ:∀a,ad (ng a) a=z
section
variable {α:Type} {z o:α} {ad mu:α->α->α} {ng:α->α}
def nR(z o:α)(ad:α->α->α):Nat->α
 |0=>z
 |n+1=>ad (nR z o ad n) o
def A9(z o:α)(ad:α->α->α)(ng:α->α):Int->α
 |.ofNat n=>nR z o ad n
 |.negSucc n=>ng (nR z o ad (n+1))
def pwB(z o:α)(ad mu:α->α->α)(a:α):Nat->α
 |0=>nR z o ad 1
 |n+1=>mu (pwB z o ad mu a n) a
def Laws.z0(L:Laws z o ad mu ng)(a:α):ad z a=a:=by rw[L.C7,L.BZ]
def Laws.one(L:Laws z o ad mu ng):nR z o ad 1=o:=L.z0 o
def Laws.can(L:Laws z o ad mu ng){a b:α}(h:ad b a=a):b=z:=by
 have:ad (ad b a) (ng a)=ad a (ng a):=by rw[h]
 rw[L.Te,L.C7 a,L.BQ,L.BZ]at this;exact this
def Laws.Ov(L:Laws z o ad mu ng)(a:α):mu a z=z:=by
 refine L.can (a:=mu a z) ?_;rw[<-L.dis,L.BZ]
def Laws.af5(L:Laws z o ad mu ng){a b:α}(h:ad b a=z):b=ng a:=by
 have:ad (ad b a) (ng a)=ad z (ng a):=by rw[h]
 rw[L.Te,L.C7 a,L.BQ,L.BZ,L.z0]at this;exact this
def Laws.atn(L:Laws z o ad mu ng)(a b:α):mu (ng a) b=ng (mu a b):=by
 refine L.af5 ?_;rw[L.wQ (ng a),L.wQ a,<-L.dis,L.BQ,L.Ov]
def Laws.ng0(L:Laws z o ad mu ng):ng z=z:=by
 have:=L.BQ z;rw[L.BZ]at this;exact this
def Laws.ngg(L:Laws z o ad mu ng)(a:α):ng (ng a)=a:=(L.af5 (by rw[L.C7,L.BQ])).symm
def Laws.itN(L:Laws z o ad mu ng):∀i:Int,A9 z o ad ng (-i)=ng (A9 z o ad ng i)
 |.ofNat 0=>L.ng0.symm
 |.ofNat (n+1)=>rfl
 |.negSucc n=>(L.ngg _).symm
@[reducible] def Laws.ring(L:Laws z o ad mu ng):CommRing α:=
 { add:=ad,mul:=mu,neg:=ng,sub:=λa b=>ad a (ng b),natCast:=⟨nR z o ad⟩,ofNat:=λn=>⟨nR z o ad n⟩,nsmul:=⟨λn a=>mu (nR z o ad n) a⟩,npow:=⟨λa n=>pwB z o ad mu a n⟩,intCast:=⟨A9 z o ad ng⟩,zsmul:=⟨λi a=>mu (A9 z o ad ng i) a⟩,add_zero:=L.BZ,add_comm:=L.C7,add_assoc:=L.Te,mul_assoc:=L.muA,mul_one:=λa=>by show mu a (nR z o ad 1)=a;rw[L.one,L.mu1],one_mul:=λa=>by show mu (nR z o ad 1) a=a;rw[L.one,L.wQ,L.mu1],left_distrib:=L.dis,right_distrib:=λa b c=>by show mu (ad a b) c=ad (mu a c) (mu b c);rw[L.wQ,L.dis,L.wQ c,L.wQ c],zero_mul:=λa=>by show mu z a=z;rw[L.wQ,L.Ov],mul_zero:=L.Ov,pow_zero:=λa=>rfl,pow_succ:=λa n=>rfl,mul_comm:=L.wQ,ofNat_succ:=λn=>by show ad (nR z o ad n) o=ad (nR z o ad n) (nR z o ad 1);rw[L.one],neg_add_cancel:=L.BQ,sub_eq_add_neg:=λa b=>rfl,neg_zsmul:=λi a=>by show mu (A9 z o ad ng (-i)) a=ng (mu (A9 z o ad ng i) a);rw[L.itN,L.atn],intCast_neg:=L.itN }
end
variable {R:Type} [CommRing R]
structure Xt(R:Type)[CommRing R](d:Nat)(c:Nat->R) where
 f:Nat->R
 z:∀i,d<=i->f i=0
def Xt.eq{d:Nat}{c:Nat->R}:∀{x y:Xt R d c},(∀i,i<d->x.f i=y.f i)->x=y
 |⟨f,hf⟩,⟨g,hg⟩,h=>by
  have:f=g:=funext λi=>by
   by_cases q:i<d
   .exact h i q
   .rw[hf i ⋯,hg i ⋯]
  subst this;rfl
section
variable {d:Nat} {c:Nat->R}
def xT(x:Xt R d c):Xt R d c:=⟨λi=>if i<d then(if i=0 then 0 else x.f (i-1))+x.f (d-1)*c i else 0,λi h=>if_neg ⋯⟩
def xN:Nat->Xt R d c->Xt R d c
 |0,x=>x
 |k+1,x=>xT (xN k x)
def Sw(x y:Xt R d c):Xt R d c:=⟨λi=>x.f i+y.f i,λi h=>by rw[x.z i h,y.z i h];grind⟩
def xNg(x:Xt R d c):Xt R d c:=⟨λi=>-x.f i,λi h=>by rw[x.z i h];grind⟩
def xS(n:Nat)(g:Nat->R)(F:Nat->Xt R d c):Xt R d c:=⟨λi=>sm n λk=>g k*(F k).f i,λi h=>by
 rw[aJ (g:=λ_=>(0:R)) λk _=>by rw[(F k).z i h];grind,oE]⟩
def pQ(x y:Xt R d c):Xt R d c:=xS d x.f λk=>xN k y
def xE(hd:0<d):Xt R d c:=⟨λi=>if i=0 then 1 else 0,λi h=>if_neg ⋯⟩
def ZV(n:Nat)(g:Nat->R)(F:Nat->Xt R d c):xT (xS n g F)=xS n g λk=>xT (F k):=Xt.eq λi hi=>by
 show(if i<d then(if i=0 then 0 else sm n λk=>g k*(F k).f (i-1))+(sm n λk=>g k*(F k).f (d-1))*c i else 0)=sm n λk=>g k*(if i<d then(if i=0 then 0 else(F k).f (i-1))+(F k).f (d-1)*c i else 0);rw[if_pos hi];have e1:(sm n λk=>g k*(F k).f (d-1))*c i=sm n λk=>c i*(g k*(F k).f (d-1)):=by rw[cj];grind
 rw[e1];by_cases z:i=0
 .rw[if_pos z];rw[show((0:R)+sm n λk=>c i*(g k*(F k).f (d-1)))=sm n λk=>c i*(g k*(F k).f (d-1))by grind];exact aJ λk _=>by rw[if_pos hi,if_pos z];grind
 .rw[if_neg z,<-eZ];exact aJ λk _=>by rw[if_pos hi,if_neg z];grind
theorem Sg(n:Nat)(g:Nat->R)(F:Nat->Xt R d c):∀j,xN j (xS n g F)=xS n g λk=>xN j (F k)
 |0=>rfl
 |j+1=>by show xT (xN j (xS n g F))=_;rw[Sg n g F j,ZV];rfl
theorem EA(x:Xt R d c):∀i j,xN (i+j) x=xN i (xN j x)
 |0,j=>by rw[JC];rfl
 |i+1,j=>by rw[Nat.succ_add];show xT (xN (i+j) x)=xT (xN i (xN j x));rw[EA x i j]
theorem Uq(hd:0<d):∀k,k<d->∀i,(xN k (xE (c:=c) hd)).f i=if i=k then 1 else 0
 |0,_,i=>rfl
 |k+1,hk,i=>by
  show(if i<d then(if i=0 then 0 else(xN k (xE (c:=c) hd)).f (i-1))+(xN k (xE (c:=c) hd)).f (d-1)*c i else 0)=_;rw[Uq hd k ⋯,Uq hd k ⋯];by_cases q:i<d
  .rw[if_pos q,if_neg (⋯:¬d-1=k)];by_cases z:i=0
   .rw[if_pos z,if_neg (⋯:¬i=k+1)];grind
   .rw[if_neg z];by_cases y:i=k+1
    .rw[if_pos y,if_pos ⋯];grind
    .rw[if_neg y,if_neg ⋯];grind
  .rw[if_neg q,if_neg ⋯]
theorem Gq(g:Nat->R)(i:Nat):∀n,sm n (λk=>g k*(if i=k then 1 else 0))=if i<n then g i else 0
 |0=>by rw[if_neg ⋯];rfl
 |n+1=>by
  show sm n _+g n*(if i=n then 1 else 0)=_;rw[Gq g i n];by_cases a:i<n
  .rw[if_pos a,if_neg ⋯,if_pos ⋯];grind
  .rw[if_neg a];by_cases b:i=n
   .rw[if_pos b,if_pos ⋯,b];grind
   .rw[if_neg b,if_neg ⋯];grind
def J4(hd:0<d)(x:Xt R d c):xS d x.f (λk=>xN k (xE hd))=x:=Xt.eq λi hi=>by
 show sm d (λk=>x.f k*(xN k (xE (c:=c) hd)).f i)=x.f i;rw[aJ λk hk=>by rw[Uq hd k hk],Gq,if_pos hi]
def acY(n m:Nat)(g h:Nat->R)(x:Xt R d c):xS n g (λk=>xN k (xS m h λj=>xN j x))=xS m h (λj=>xN j (xS n g λk=>xN k x)):=Xt.eq λi hi=>by
 show sm n (λk=>g k*(xN k (xS m h λj=>xN j x)).f i)=sm m (λj=>h j*(xN j (xS n g λk=>xN k x)).f i);have e1:sm n (λk=>g k*(xN k (xS m h λj=>xN j x)).f i)=sm n (λk=>sm m λj=>g k*(h j*(xN (k+j) x).f i)):=aJ λk _=>by
  rw[Sg,cj];exact congrArg (g k * ·) (aJ λj _=>by rw[EA])
 have e2:sm m (λj=>h j*(xN j (xS n g λk=>xN k x)).f i)=sm m (λj=>sm n λk=>g k*(h j*(xN (k+j) x).f i)):=aJ λj _=>by
  rw[Sg];show h j*sm n (λk=>g k*(xN j (xN k x)).f i)=_;rw[<-cj];exact aJ λk _=>by rw[Ci k j,EA];grind
 rw[e1,e2,pW]
def xW(hd:0<d)(x y:Xt R d c):pQ x y=pQ y x:=by
 have h:=acY d d x.f y.f (xE (c:=c) hd);rw[J4,J4]at h;exact h
def asY(hd:0<d)(x y w:Xt R d c):pQ (pQ x y) w=pQ x (pQ y w):=by
 rw[xW hd (pQ x y) w,xW hd y w];exact acY d d w.f x.f y
def alX(x y w:Xt R d c)(hd:0<d):pQ x (Sw y w)=Sw (pQ x y) (pQ x w):=by
 rw[xW hd x,xW hd x y,xW hd x w];refine Xt.eq λi hi=>?_;show sm d (λk=>(y.f k+w.f k)*(xN k x).f i)=sm d (λk=>y.f k*(xN k x).f i)+sm d (λk=>w.f k*(xN k x).f i);rw[<-eZ];exact aJ λk _=>by grind
def xZ:Xt R d c:=⟨λ_=>0,λ_ _=>rfl⟩
def aaL(hd:0<d):Laws (α:=Xt R d c) xZ (xE hd) Sw pQ xNg:=
 ⟨λa=>Xt.eq λi _=>by show a.f i+0=a.f i;grind,λa b=>Xt.eq λi _=>by show a.f i+b.f i=b.f i+a.f i;grind,λa b e=>Xt.eq λi _=>by show a.f i+b.f i+e.f i=a.f i+(b.f i+e.f i);grind,asY hd,λa=>J4 hd a,xW hd,λa b e=>alX a b e hd,λa=>Xt.eq λi _=>by show -a.f i+a.f i=0;grind⟩
def xX(hd:0<d):Xt R d c:=xT (xE hd)
def abm(hd:0<d)(x:Xt R d c):pQ (xX hd) x=xT x:=by
 rw[xW hd];show xS d x.f (λk=>xN k (xN 1 (xE hd)))=xT x;have:(λk=>xN k (xN 1 (xE (c:=c) hd)))=λk=>xT (xN k (xE hd)):=funext λk=>by
  rw[<-EA,Ci,EA];rfl
 rw[this,<-ZV,J4]
end
instance aAU{d:Nat}{c:Nat->R}:CommRing (Xt R (d+1) c):=(aaL (gR d)).ring
section
variable {d:Nat} {c:Nat->R}
def afZ:(1:Xt R (d+1) c)=xE (gR d):=(aaL (gR d)).one
def MN(x y:Xt R (d+1) c)(i:Nat):(x+y).f i=x.f i+y.f i:=rfl
def x_zero(i:Nat):(0:Xt R (d+1) c).f i=0:=rfl
theorem afH(x:Xt R (d+1) c)(i:Nat):∀n,(nt n*x).f i=nt n*x.f i
 |0=>by
  rw[show(nt 0:Xt R (d+1) c)*x=0 by show(0:Xt R (d+1) c)*x=0;grind,x_zero];show(0:R)=0*x.f i;grind
 |n+1=>by
  rw[show(nt (n+1):Xt R (d+1) c)*x=nt n*x+x by show(nt n+1)*x=_;grind,MN,afH x i n];show _=(nt n+1)*x.f i;grind
def xI(r:R):Xt R (d+1) c:=⟨λi=>if i=0 then r else 0,λi h=>if_neg ⋯⟩
theorem aex(r:R)(g:Nat->R):∀n,sm (n+1) (λk=>(if k=0 then r else 0)*g k)=r*g 0
 |0=>by show 0+(if 0=0 then r else 0)*g 0=_;rw[if_pos rfl];grind
 |n+1=>by
  show sm (n+1) _+(if n+1=0 then r else 0)*g (n+1)=_;rw[aex r g n,if_neg ⋯];grind
def alG(r:R)(x:Xt R (d+1) c)(i:Nat):(xI r*x).f i=r*x.f i:=by
 show sm (d+1) (λk=>(if k=0 then r else 0)*(xN k x).f i)=_;rw[aex];rfl
end
structure iC{R S:Type}[CommRing R][CommRing S](ψ:R->S):Prop where
 one:ψ 1=1
 add:∀a b,ψ (a+b)=ψ a + ψ b
 mul:∀a b,ψ (a*b)=ψ a * ψ b
def iC.zero{R S:Type}[CommRing R][CommRing S]{ψ:R->S}(h:iC ψ):ψ 0=0:=by
 have:=h.add 0 0;rw[show(0:R)+0=0 by grind]at this
 grind
def iC.neg{R S:Type}[CommRing R][CommRing S]{ψ:R->S}(h:iC ψ)(a:R):ψ (-a)=-ψ a:=by
 have:=h.add (-a) a;rw[show -a+a=0 by grind,h.zero]at this
 grind
def iC.sub{R S:Type}[CommRing R][CommRing S]{ψ:R->S}(h:iC ψ)(a b:R):ψ (a-b)=ψ a - ψ b:=by
 rw[show a-b=a + -b by grind,h.add,h.neg];grind
theorem iC.nt{R S:Type}[CommRing R][CommRing S]{ψ:R->S}(h:iC ψ):∀n,ψ (nt n)=Nw.nt n
 |0=>h.zero
 |n+1=>by show ψ (Nw.nt n+1)=Nw.nt n+1;rw[h.add,h.nt n,h.one]
def iC.comp{R S U:Type}[CommRing R][CommRing S][CommRing U]{ψ:R->S}{χ:S->U}(h:iC ψ)(g:iC χ):iC λr=>χ (ψ r):=
 ⟨by rw[h.one,g.one],λa b=>by rw[h.add,g.add],λa b=>by rw[h.mul,g.mul]⟩
structure sZ{R:Type}[CommRing R](φ:Int->R):Prop where
 hom:iC φ
 inj:∀t,φ t=0->t=0
 pu:∀(k:Nat) (r:R) (t:Int),nt (k+1)*r=φ t->∃q,r=φ q
theorem BP:∀n:Nat,(nt n:Int)=(n:Int)
 |0=>rfl
 |n+1=>by show(nt n:Int)+1=_;rw[BP n];lia
def sZ.tf{R:Type}[CommRing R]{φ:Int->R}(h:sZ φ){k:Nat}{r:R}(e:nt (k+1)*r=0):r=0:=by
 obtain⟨q,rfl⟩:=h.pu k r 0 (by rw[e,h.hom.zero]);rw[<-h.hom.nt,<-h.hom.mul]at e;have:=h.inj _ e;rw[BP]at this;have:q=0:=by
  rcases xQ.mp this with z|z
  .lia
  .exact z
 rw[this,h.hom.zero]
def ao7:sZ (λt:Int=>t):=⟨⟨rfl,λ_ _=>rfl,λ_ _=>rfl⟩,λ_ h=>h,λ_ r _ _=>⟨r,rfl⟩⟩
def GP{d:Nat}{c:Nat->R}:iC (xI (d:=d) (c:=c)):=
 ⟨by rw[afZ];rfl,λa b=>Xt.eq λi _=>by
  show(if i=0 then a+b else 0)=(if i=0 then a else 0)+(if i=0 then b else 0);split
  .rfl
  .grind,λa b=>Xt.eq λi _=>by
  rw[alG];show(if i=0 then a*b else 0)=a*(if i=0 then b else 0);split
  .rfl
  .grind⟩
def akp{d:Nat}{c:Nat->R}{φ:Int->R}(h:sZ φ):sZ λt=>xI (d:=d) (c:=c) (φ t):=by
 refine⟨h.hom.comp GP,λt e=>h.inj t ?_,λk r t e=>?_⟩
 .have:=congrArg (λx:Xt R (d+1) c=>x.f 0) e;exact this
 .have co:∀i,nt (k+1)*r.f i=(if i=0 then φ t else 0):=λi=>by
   have:=congrArg (λx:Xt R (d+1) c=>x.f i) e;have t2:=afH r i (k+1);exact t2.symm.trans this
  obtain⟨q,hq⟩:=h.pu k (r.f 0) t (by rw[co 0,if_pos rfl]);refine⟨q,Xt.eq λi _=>?_⟩;show r.f i=if i=0 then φ q else 0;by_cases z:i=0
  .rw[if_pos z,z,hq]
  .rw[if_neg z];have:=co i;rw[if_neg z]at this;exact h.tf this
def hn{S:Type}[CommRing S](p:Nat->S)(x:S):Nat->S
 |0=>1
 |k+1=>p (k+1)+x*hn p x k
theorem JH{d:Nat}{p:Nat->R}(p0:p 0=1):∀k,k<=d->∀i,(hn (λk=>xI (p k)) (xX (gR d)) k:Xt R (d+1) λi=>-p (d+1-i)).f i=if i<=k then p (k-i)else 0
 |0,_,i=>by
  show(1:Xt R (d+1) _).f i=_;rw[afZ];show(if i=0 then(1:R)else 0)=_;by_cases z:i=0
  .rw[if_pos z,if_pos ⋯,Nat.zero_sub,p0]
  .rw[if_neg z,if_neg ⋯]
 |k+1,hk,i=>by
  show(xI (p (k+1))+xX (gR d)*hn (λk=>xI (p k)) (xX (gR d)) k:Xt R (d+1) λi=>-p (d+1-i)).f i=_;rw[MN,show ∀x:Xt R (d+1) λi=>-p (d+1-i),xX (gR d)*x=xT x from abm (gR d)];show(if i=0 then p (k+1)else 0)+(if i<d+1 then(if i=0 then 0 else(hn (λk=>xI (p k)) (xX (gR d)) k:Xt R (d+1) λi=>-p (d+1-i)).f (i-1))+(hn (λk=>xI (p k)) (xX (gR d)) k:Xt R (d+1) λi=>-p (d+1-i)).f (d+1-1) * -p (d+1-i)else 0)=_;rw[JH p0 k ⋯,JH p0 k ⋯,if_neg (⋯:¬d+1-1<=k)];by_cases z:i=0
  .rw[if_pos z,if_pos ⋯,if_pos z,if_pos ⋯,z];show p (k+1)+(0+0 * -p (d+1-0))=p (k+1)
   grind
  .rw[if_neg z,if_neg z];by_cases q:i<d+1
   .rw[if_pos q];by_cases y:i<=k+1
    .rw[if_pos ⋯,if_pos y,(⋯:k-(i-1)=k+1-i)];grind
    .rw[if_neg ⋯,if_neg y];grind
   .rw[if_neg q,if_neg ⋯];grind
def alM{d:Nat}{p:Nat->R}(p0:p 0=1):(hn (λk=>xI (p k)) (xX (gR d)) (d+1):Xt R (d+1) λi=>-p (d+1-i))=0:=Xt.eq λi hi=>by
 show(xI (p (d+1))+xX (gR d)*hn (λk=>xI (p k)) (xX (gR d)) d:Xt R (d+1) λi=>-p (d+1-i)).f i=0;rw[MN,show ∀x:Xt R (d+1) λi=>-p (d+1-i),xX (gR d)*x=xT x from abm (gR d)];show(if i=0 then p (d+1)else 0)+(if i<d+1 then(if i=0 then 0 else(hn (λk=>xI (p k)) (xX (gR d)) d:Xt R (d+1) λi=>-p (d+1-i)).f (i-1))+(hn (λk=>xI (p k)) (xX (gR d)) d:Xt R (d+1) λi=>-p (d+1-i)).f (d+1-1) * -p (d+1-i)else 0)=0;rw[JH p0 d (aR d),JH p0 d (aR d),if_pos hi,if_pos (⋯:d+1-1<=d),(⋯:d-(d+1-1)=0),p0];by_cases z:i=0
 .rw[if_pos z,if_pos z,z];show p (d+1)+(0+1 * -p (d+1-0))=0;rw[nO];grind
 .rw[if_neg z,if_neg z,if_pos ⋯,(⋯:d-(i-1)=d+1-i)];grind
theorem splits:∀(d:Nat) (R:Type) [CommRing R] (φ:Int->R) (p:Nat->R),sZ φ->p 0=1->(∀k,d<k->p k=0)->
  ∃(S:Type) (_:CommRing S) (ψ:R->S),iC ψ/\sZ (λt=>ψ (φ t))/\∃l:List S,l.length=d/\∀k,el l k=ψ (p k)
 |0,R,_,φ,p,hφ,p0,pz=>⟨R,inferInstance,λr=>r,⟨rfl,λ_ _=>rfl,λ_ _=>rfl⟩,hφ,[],rfl,λk=>by
   show(if k=0 then(1:R)else 0)=p k;by_cases z:k=0
   .rw[if_pos z,z,p0]
   .rw[if_neg z,pz k ⋯]⟩
 |d+1,R,_,φ,p,hφ,p0,pz=>by
  have hP:=akp (d:=d) (c:=λi=>-p (d+1-i)) hφ;obtain⟨S,iS,ψ,hψ,hp,l,ll,he⟩:=splits d (Xt R (d+1) λi=>-p (d+1-i)) (λt=>xI (φ t)) (λk=>if k<=d then hn (λk=>xI (p k)) (xX (gR d)) k else 0) hP (by rw[if_pos (dD d)];rfl) λk hk=>if_neg ⋯;refine⟨S,iS,λr=>ψ (xI r),GP.comp hψ,hp,ψ (xX (gR d))::l,by rw[qp,ll],λk=>?_⟩;have he':∀k,k<=d+1->el l k=ψ (hn (λk=>xI (p k)) (xX (gR d)) k):=λk hk=>by
   rw[he k];by_cases z:k<=d
   .rw[if_pos z]
   .have e:k=d+1:=⋯;rw[if_neg z,e,alM p0]
  cases k with
  |zero=>rw[tG,p0];exact(GP.comp hψ).one.symm
  |succ k=>
   by_cases z:k+1<=d+1
   .show el l (k+1) - ψ (xX (gR d))*el l k=_;rw[he' (k+1) z,he' k ⋯,<-hψ.mul,<-hψ.sub];refine congrArg ψ ?_;show(xI (p (k+1))+xX (gR d)*hn (λk=>xI (p k)) (xX (gR d)) k)-_=_
    grind
   .rw[Ib _ _ (by rw[qp,ll];lia),pz (k+1) ⋯];exact(GP.comp hψ).zero.symm
end Nw
namespace Nw
open Lean.Grind
section
variable {S:Type} [CommRing S] {φ:Int->S}
theorem iC.sm(h:iC φ)(f:Nat->Int):∀n,φ (Nw.sm n f)=Nw.sm n λk=>φ (f k)
 |0=>h.zero
 |n+1=>by show φ (Nw.sm n f+f n)=_;rw[h.add,h.sm f n];rfl
theorem iC.BP(h:iC φ)(n:Nat):φ (n:Int)=Nw.nt n:=by rw[<-h.nt,Nw.BP]
theorem Tg{R:Type}[CommRing R](f:Nat->R):∀n:Nat,sm n f=sm n λk=>f (n-1-k)
 |0=>rfl
 |n+1=>by
  rw[jr (λk=>f (n+1-1-k)) n];show sm n f+f n=_;rw[Tg f n,fu,nO,aJ (g:=λi=>f (n-(i+1))) λk _=>by rw[(⋯:n-(k+1)=n-1-k)]]
  grind
def NW(h:iC φ){A:List S}{c s:Nat->Int}(n:Nat)(he:∀k,el A (k+1)=φ (-c k))(hs:∀k,k<n->s k=((k+1:Nat):Int)*c k+sm k λi=>c i*s (k-1-i)):∀k,k<n->φ (s k)=pw A (k+1):=λk=>by
 induction k using mV with
 |ind k ih=>
  intro hk;have nw:=GD A k;have e0:sm (k+1) (λi=>pw A (i+1)*el A (k-i))=sm k (λi=>pw A (i+1)*el A (k-i))+pw A (k+1):=by
   show sm k _+pw A (k+1)*el A (k-k)=_;rw[kZ,tG];grind
  have e1:sm k (λi=>pw A (i+1)*el A (k-i))=-φ (sm k λi=>c i*s (k-1-i)):=by
   have:sm k (λi=>pw A (i+1)*el A (k-i))=sm k λi=>-1 * φ (c (k-1-i)*s i):=aJ λi hi=>by
    rw[<-ih i hi ⋯,(⋯:k-i=k-1-i+1),he,h.mul,h.neg];grind
   rw[this,cj,h.sm,Tg (λi=>φ (c i*s (k-1-i)))];rw[aJ (f:=λi=>φ (c (k-1-i)*s i)) (g:=λi=>φ (c (k-1-i)*s (k-1-(k-1-i)))) λi hi=>by rw[(⋯:k-1-(k-1-i)=i)]]
   grind
  rw[e0,e1,he k]at nw;rw[hs k hk,h.add,h.mul,h.BP];rw[h.neg]at nw
  grind
def aeu(h:sZ φ){G:List S}{s r:Nat->Int}(n:Nat)(hp:∀k,k<n->φ (s k)=pw G (k+1))(hr:∀k,k<n->r k=(s k-sm k λi=>r i*s (k-1-i))/((k+1:Nat):Int)):∀k,k<n->φ (r k)=-el G (k+1):=λk=>by
 induction k using mV with
 |ind k ih=>
  intro hk;have nw:=GD G k;have e0:sm (k+1) (λi=>pw G (i+1)*el G (k-i))=sm k (λi=>pw G (i+1)*el G (k-i))+pw G (k+1):=by
   show sm k _+pw G (k+1)*el G (k-k)=_;rw[kZ,tG];grind
  have e1:sm k (λi=>pw G (i+1)*el G (k-i))=-φ (sm k λi=>r i*s (k-1-i)):=by
   have:sm k (λi=>pw G (i+1)*el G (k-i))=sm k λi=>-1 * φ (r (k-1-i)*s i):=aJ λi hi=>by
    have q:=ih (k-1-i) ⋯ ⋯;rw[<-hp i ⋯,(⋯:k-i=k-1-i+1),h.hom.mul,q];grind
   rw[this,cj,h.hom.sm,Tg (λi=>φ (r i*s (k-1-i)))];rw[aJ (f:=λi=>φ (r (k-1-i)*s i)) (g:=λi=>φ (r (k-1-i)*s (k-1-(k-1-i)))) λi hi=>by rw[(⋯:k-1-(k-1-i)=i)]]
   grind
  rw[e0,e1,<-hp k hk]at nw;have key:nt (k+1) * -el G (k+1)=φ (s k-sm k λi=>r i*s (k-1-i)):=by rw[h.hom.sub];grind
  obtain⟨q,hq⟩:=h.pu k _ _ key;rw[hq,<-h.hom.BP,<-h.hom.mul]at key;have z:((k+1:Nat):Int)*q-(s k-sm k λi=>r i*s (k-1-i))=0:=h.inj _ (by rw[h.hom.sub,key];grind);have z2:(s k-sm k λi=>r i*s (k-1-i))=((k+1:Nat):Int)*q:=⋯;rw[hr k hk,z2,R3 _ ⋯,hq]
def Ec(h:iC φ){A:List S}{c a:Nat->Int}(he:∀k,k<A.length->el A (k+1)=φ (-c k))(n:Nat):dl A (λn=>φ (a n)) n=φ (a (n+A.length)-sm A.length λk=>c k*a (n+A.length-1-k)):=by
 rw[abU,jr,tG,nO,h.sub,h.sm];have:sm A.length (λi=>el A (i+1) * φ (a (n+A.length-(i+1))))=sm A.length λi=>-1 * φ (c i*a (n+A.length-1-i)):=aJ λi hi=>by
  rw[he i hi,h.neg,h.mul,(⋯:n+A.length-(i+1)=n+A.length-1-i)];grind
 rw[this,cj];grind
theorem Ga{U:Type}[CommRing U]{ψ:S->U}(h:iC ψ):∀(l:List S) (k:Nat),el (l.map ψ) k=ψ (el l k)
 |[],k=>by
  show(if k=0 then(1:U)else 0)=ψ (if k=0 then 1 else 0);split
  .rw[h.one]
  .rw[h.zero]
 |a::l,0=>Ga h l 0
 |a::l,k+1=>by
  show el (l.map ψ) (k+1) - ψ a*el (l.map ψ) k=ψ (el l (k+1)-a*el l k);rw[Ga h l,Ga h l,h.sub,h.mul]
end
def cof(c:Nat->Int):Nat->Int
 |0=>1
 |k+1=>-c k
def abF(m:Nat)(c:Nat->Int)(hc:∀k,m<=k->c k=0):∃(S:Type) (_:CommRing S) (φ:Int->S),sZ φ/\∃A:List S,A.length=m/\∀k,el A (k+1)=φ (-c k):=by
 obtain⟨S,iS,ψ,hψ,hp,l,ll,he⟩:=splits m Int (λt=>t) (cof c) ao7 rfl λk hk=>by
  cases k with
  |zero=>lia
  |succ k=>show -c k=0;rw[hc k ⋯];rfl
 exact⟨S,iS,ψ,hp,l,ll,λk=>he (k+1)⟩
def ar7(m n:Nat)(c d:Nat->Int)(hc:∀k,m<=k->c k=0)(hd:∀k,n<=k->d k=0):∃(S:Type) (_:CommRing S) (φ:Int->S),sZ φ/\(∃A:List S,A.length=m/\∀k,el A (k+1)=φ (-c k))/\∃B:List S,B.length=n/\∀k,el B (k+1)=φ (-d k):=by
 obtain⟨S1,i1,φ1,h1,A,lA,eA⟩:=abF m c hc;obtain⟨S,iS,ψ,hψ,hp,l,ll,he⟩:=splits n S1 φ1 (λk=>φ1 (cof d k)) h1 (by show φ1 1=1;exact h1.hom.one) λk hk=>by
  cases k with
  |zero=>lia
  |succ k=>show φ1 (-d k)=0;rw[hd k ⋯];exact h1.hom.zero
 exact⟨S,iS,λt=>ψ (φ1 t),hp,⟨A.map ψ,by rw[aK,lA],λk=>by rw[Ga hψ,eA]⟩,l,ll,λk=>he (k+1)⟩
def avN{m n:Nat}{c d a b s t r:Nat->Int}(hc:∀k,m<=k->c k=0)(hd:∀k,n<=k->d k=0)(ha:∀i,a (i+m)=sm m λk=>c k*a (i+m-1-k))(hb:∀i,b (i+n)=sm n λk=>d k*b (i+n-1-k))
  (hs:∀k,k<m*n->s k=((k+1:Nat):Int)*c k+sm k λi=>c i*s (k-1-i)) (ht:∀k,k<m*n->t k=((k+1:Nat):Int)*d k+sm k λi=>d i*t (k-1-i))
  (hr:∀k,k<m*n->r k=(s k*t k-sm k λi=>r i*(s (k-1-i)*t (k-1-i)))/((k+1:Nat):Int)) (i:Nat):
  a (i+m*n)*b (i+m*n)=sm (m*n) λk=>r k*(a (i+m*n-1-k)*b (i+m*n-1-k)):=by
 obtain⟨S,iS,φ,h,⟨A,lA,eA⟩,B,lB,eB⟩:=ar7 m n c d hc hd;have kA:∀n,dl A (λn=>φ (a n)) n=0:=λn=>by
  rw[Ec h.hom (c:=c) (λk _=>eA k),lA,<-ha n,(⋯:a (n+m)-a (n+m)=0),h.hom.zero]
 have kB:∀n,dl B (λn=>φ (b n)) n=0:=λn'=>by
  rw[Ec h.hom (c:=d) (λk _=>eB k),lB,<-hb n',(⋯:b (n'+n)-b (n'+n)=0),h.hom.zero]
 have pA:=NW h.hom (A:=A) (c:=c) (s:=s) (m*n) eA hs;have pB:=NW h.hom (A:=B) (c:=d) (s:=t) (m*n) eB ht;have lG:(prs A B).length=m*n:=by rw[acZ,lA,lB]
 have pG:∀k,k<m*n->φ (s k*t k)=pw (prs A B) (k+1):=λk hk=>by rw[h.hom.mul,pA k hk,pB k hk,afO]
 have rG:=aeu h (G:=prs A B) (s:=λk=>s k*t k) (r:=r) (m*n) pG hr;have kG:=as8 kA kB i;have e:(λn=>φ (a n) * φ (b n))=λn=>φ (a n*b n):=funext λn=>by rw[h.hom.mul]
 rw[e,Ec h.hom (A:=prs A B) (c:=r) (a:=λn=>a n*b n) (λk hk=>by rw[h.hom.neg,rG k ⋯];grind),lG]at kG;have:=h.inj _ kG;lia
section
variable {S:Type} [CommRing S]
theorem agZ(x:S)(u:Nat->S):∀(e n:Nat),u (n+e)-x^e*u n=sm e λi=>x^(e-1-i)*(u (n+i+1)-x*u (n+i))
 |0,n=>by show u n-x^0*u n=0;grind
 |e+1,n=>by
  show _=sm e (λi=>x^(e+1-1-i)*(u (n+i+1)-x*u (n+i)))+x^(e+1-1-e)*(u (n+e+1)-x*u (n+e));have h:=agZ x u e n;have e1:sm e (λi=>x^(e+1-1-i)*(u (n+i+1)-x*u (n+i)))=x*sm e λi=>x^(e-1-i)*(u (n+i+1)-x*u (n+i)):=by
   rw[<-cj];refine aJ λi hi=>?_;rw[(⋯:e+1-1-i=e-1-i+1)];grind
  rw[e1,<-h,(⋯:e+1-1-e=0),(⋯:n+(e+1)=n+e+1)];grind
theorem agR:∀(l:List S) (m:Nat) (F:Nat->Nat->S) (g:Nat->S) (n:Nat),dl l (λn=>sm m λi=>g i*F i n) n=sm m λi=>g i*dl l (F i) n
 |l,0,F,g,n=>aa3 l n
 |l,m+1,F,g,n=>by
  show dl l (λn=>sm m (λi=>g i*F i n)+g m*F m n) n=sm m _+g m*dl l (F m) n;have:=Aq l (λn=>sm m λi=>g i*F i n) (F m) 1 (g m) n;rw[show(λn=>sm m (λi=>g i*F i n)+g m*F m n)=λn=>1*sm m (λi=>g i*F i n)+g m*F m n from funext λn=>by grind,this,agR l m F g n];grind
theorem abO(e:Nat):∀(A:List S) (u:Nat->S),(∀n,dl A u n=0)->∀s n,dl (A.map λx=>x^e) (λn=>u (s+e*n)) n=0
 |[],u,h,s,n=>h _
 |x::A,u,h,s,n=>by
  show dl (A.map λx=>x^e) (λn=>u (s+e*(n+1))-x^e*u (s+e*n)) n=0;have e1:(λn=>u (s+e*(n+1))-x^e*u (s+e*n))=λn=>sm e λi=>x^(e-1-i)*(λn=>(λn=>u (n+1)-x*u n) (s+i+e*n)) n:=funext λn=>by
   rw[show s+e*(n+1)=s+e*n+e by rw[Bq];lia,agZ];exact aJ λi _=>by show _=x^(e-1-i)*(u (s+i+e*n+1)-x*u (s+i+e*n));rw[(⋯:s+i+e*n=s+e*n+i)]
  rw[e1,agR (A.map λx=>x^e) e (λi n=>(λn=>u (n+1)-x*u n) (s+i+e*n))];rw[aJ (g:=λ_=>(0:S)) λi _=>by rw[abO e A (λn=>u (n+1)-x*u n) h (s+i) n];grind,oE]
theorem abR(x:S)(e:Nat):∀k,(x^e)^k=x^(e*k)
 |0=>by rw[aeT];grind
 |k+1=>by
  rw[Semiring.pow_succ,abR x e k,Bq,Semiring.pow_add]
theorem Xi(e:Nat):∀(A:List S) (k:Nat),pw (A.map λx=>x^e) k=pw A (e*k)
 |[],_=>rfl
 |x::A,k=>by show(x^e)^k+_=x^(e*k)+_;rw[abR,Xi e A k]
end
def ajG{m e:Nat}(he:1<=e){c a s r:Nat->Int}(hc:∀k,m<=k->c k=0)(ha:∀i,a (i+m)=sm m λk=>c k*a (i+m-1-k))
  (hs:∀k,k<e*m->s k=((k+1:Nat):Int)*c k+sm k λi=>c i*s (k-1-i))
  (hr:∀k,k<m->r k=(s (e*(k+1)-1)-sm k λi=>r i*s (e*(k-1-i+1)-1))/((k+1:Nat):Int)) (st i:Nat):
  a (st+e*(i+m))=sm m λk=>r k*a (st+e*(i+m-1-k)):=by
 obtain⟨S,iS,φ,h,A,lA,eA⟩:=abF m c hc;have kA:∀n,dl A (λn=>φ (a n)) n=0:=λn=>by
  rw[Ec h.hom (c:=c) (λk _=>eA k),lA,<-ha n,(⋯:a (n+m)-a (n+m)=0),h.hom.zero]
 have pA:=NW h.hom (A:=A) (c:=c) (s:=s) (e*m) eA hs;have lG:(A.map λx=>x^e).length=m:=by rw[aK,lA]
 have pG:∀k,k<m->φ (s (e*(k+1)-1))=pw (A.map λx=>x^e) (k+1):=λk hk=>by
  have l1:e*(k+1)<=e*m:=fH _ hk;have l0:1*1<=e*(k+1):=iH he ⋯;rw[pA _ ⋯,Xi,(⋯:e*(k+1)-1+1=e*(k+1))]
 have rG:=aeu h (G:=A.map λx=>x^e) (s:=λk=>s (e*(k+1)-1)) (r:=r) m pG hr;have kG:=abO e A _ kA st i;rw[Ec h.hom (A:=A.map λx=>x^e) (c:=r) (a:=λn=>a (st+e*n)) (λk hk=>by rw[h.hom.neg,rG k ⋯];grind),lG]at kG;have:=h.inj _ kG;lia
end Nw
namespace Lm
def f9(g:Nat):List Int->Nat
 |[]=>g
 |t::ts=>f9 (oJ g t.natAbs) ts
def ai0(g:Nat)(ts:List Int)(t:Int):f9 g (ts++[t])=oJ (f9 g ts) t.natAbs:=by
 induction ts generalizing g with
 |nil=>rfl
 |cons s ts ih=>exact ih _
def Wq(g:Nat)(ts:List Int):f9 g ts∣g:=by
 induction ts generalizing g with
 |nil=>exact Zu _
 |cons s ts ih=>exact Dr (ih _) (VB ..)
def auN(g:Nat)(ts:List Int):∀t∈ts,(f9 g ts:Int)∣t:=by
 induction ts generalizing g with
 |nil=>intro t h;cases h
 |cons s ts ih=>
  intro t h;rcases fR.mp h with rfl|h
  .exact NV.mpr (Dr (Wq _ ts) (Oo ..))
  .exact ih _ t h
def Zj{g:Nat}(h:0<g)(ts:List Int):0<f9 g ts:=Nat.pos_of_dvd_of_pos (Wq g ts) h
def Z9(c g:Nat)(ts:List Int):f9 (c*g) (ts.map λt=>(c:Int)*t)=c*f9 g ts:=by
 induction ts generalizing g with
 |nil=>rfl
 |cons s ts ih=>
  show f9 (oJ (c*g) ((c:Int)*s).natAbs) _=_;rw[jD,C6,Nat.gcd_mul_left];exact ih _
def aok{ts ts':List Int}(g:Nat)(h:ts.map AF=ts'.map AF):f9 g ts=f9 g ts':=by
 induction ts generalizing g ts' with
 |nil=>cases ts' with
  |nil=>rfl
  |cons s r=>cases h
 |cons s ts ih=>cases ts' with
  |nil=>cases h
  |cons s' r=>
   rw[wW,wW]at h;injection h with h1 h2;show f9 (oJ g s.natAbs) ts=f9 (oJ g s'.natAbs) r;rw[h1];exact ih _ h2
def low(a:Int)(ts:List Int):Int:=if a<0 then 0-(f9 a.natAbs ts:Int)else(f9 a.natAbs ts:Int)
def low_ne{a:Int}(h:a≠0)(ts:List Int):low a ts≠0:=by
 have:=Zj (g:=a.natAbs) ⋯ ts;unfold low;split<;>lia
def abX(a:Int)(ts:List Int):low a ts∣a:=by
 have h:(f9 a.natAbs ts:Int)∣a:=NV.mpr (Wq _ ts);unfold low;split
 .rw[jT];exact Int.neg_dvd.mpr h
 .exact h
def awg(a:Int)(ts:List Int):∀t∈ts,low a ts∣t:=λt ht=>by
 have h:=auN a.natAbs ts t ht;unfold low;split
 .rw[jT];exact Int.neg_dvd.mpr h
 .exact h
def axA(a:Int)(h:a≠0)(ts:List Int):∃e,0<e/\a=low a ts*e:=by
 obtain⟨e,he⟩:=abX a ts;refine⟨e,?_,he⟩;have g:=Zj (g:=a.natAbs) ⋯ ts;by_cases c:a<0
 .have el:low a ts=0-(f9 a.natAbs ts:Int):=if_pos c;rw[el]at he;by_cases p:0<e
  .exact p
  .exfalso
   have:0<=(0-(f9 a.natAbs ts:Int))*e:=Int.mul_nonneg_of_nonpos_of_nonpos ⋯ ⋯;lia
 .have el:low a ts=(f9 a.natAbs ts:Int):=if_neg c;rw[el]at he;by_cases p:0<e
  .exact p
  .exfalso
   have:(f9 a.natAbs ts:Int)*e<=0:=Int.mul_nonpos_of_nonneg_of_nonpos ⋯ ⋯;lia
end Lm
namespace Lm
end Lm
namespace Dm
open Rm Pm
section
variable {b last:Int}{n W u m r i s:Nat}{A0 A:Nat->Nat->Int}{hd:Nat->Nat}{L:List (List Int)}{kn:List Int}
def cN.arQ(h:cN b n W u A0 m A hd r L last)(hr:r=m):∀j,j<m->hd j=j:=λj hj=>by
 have ge:=h.ac8 j ⋯;have step:∀d,j+d<r->hd j+d<=hd (j+d):=λd=>by
  induction d with
  |zero=>intro _;exact aR _
  |succ d ih=>
   intro hd';have:=ih ⋯;have:=h.up (j+d) (j+(d+1)) ⋯ hd';lia
 have:=step (r-1-j) ⋯;have:=h.hc (j+(r-1-j)) ⋯;lia
def cN.ind(h:cN b n W u A0 m A hd r L last)(hD:Dom b)(hr:r=m):oO b n m A0:=λx hx i hi=>by
 have hh:=h.arQ hr;have q:=(h.sw.rel.mp hx).en hd h.rn i (by have:=h.rn;lia);have e:sm m (λk=>En A hd r i k*x k)=sm m λk=>if k=i then dt A hd r*x i else 0:=aJ λk hk=>by
  have e2:=El (A:=A) (hd:=hd) (r:=r) (i:=i) (h:=k) ⋯;rw[hh k hk]at e2;rw[e2];by_cases c:k=i
  .rw[if_pos c.symm,if_pos c,c]
  .rw[if_neg (λz=>c z.symm),if_neg c,dF]
 have q':tk b (sm m λk=>En A hd r i k*x k)=0:=q;rw[e,iD,if_pos hi]at q';exact hD _ _ h.nz q'
def Rel.cut{x y:Nat->Int}{d:Int}(hD:Dom b)(hd:tk b d≠0)(e:∀k,k<m->tk b (y k*d)=tk b (x k))(h:Rel b n m A x):Rel b n m A y:=λi hi=>by
 refine hD d _ hd ?_;rw[<-cj];have q:tk b (sm m λk=>A i k*x k)=0:=h i hi;rw[<-q];refine dZ λk hk=>?_;rw[show d*(A i k*y k)=A i k*(y k*d)by rw[fW,bG d],<-cD,e k hk,cD]
def lQ(E:Nat->Int)(hd:Nat->Nat)(wide:Nat)(c:Nat)(last:Int)(i:Nat):List Int:=aq wide λk=>if k=c then last else sm i λh=>if k=hd h then E h else 0
def yN(E:Nat->Int)(hd:Nat->Nat)(wide c:Nat)(last:Int)(i:Nat):(lQ E hd wide c last i).length=wide:=aQ ..
def ama(E:Nat->Int)(hd:Nat->Nat){wide c:Nat}(last:Int)(hc:c<wide):(aq wide λ_=>0).set c last=lQ E hd wide c last 0:=by
 refine nG (by rw[nq,yN,aQ]) λk=>?_;rw[vD _ _ _ _ (by rw[aQ];exact hc),lQ,bZ,bZ];by_cases e:k=c
 .rw[if_pos e,if_pos ⋯,if_pos e]
 .rw[if_neg e,if_neg e];rfl
def auO{E:Nat->Int}{wide c:Nat}(hi:hd i<wide)(hc:hd i≠c)(hu:∀h,h<i->hd h≠hd i):(lQ E hd wide c last i).set (hd i) (E i)=lQ E hd wide c last (i+1):=by
 refine nG (by rw[nq,yN,yN]) λk=>?_;rw[vD _ _ _ _ (by rw[yN];exact hi),lQ,lQ,bZ,bZ,sm];by_cases e:k=hd i
 .rw[if_pos e,if_pos ⋯,if_neg ⋯,if_pos e,jA (λh hh=>by rw[if_neg (by have:=hu h hh;lia)]),dj]
 .rw[if_neg e,if_neg e,cU]
structure ase(b:Int)(n m:Nat)(A0:Nat->Nat->Int)(fs:List Int):Prop where
 len:fs.length=m
 tk:∀x∈fs,Rm.tk b x=x
 rel:Rel b n m A0 (co fs)
 nz:∃c,c<m/\Rm.tk b (co fs c)≠0
def Fits(b:Int)(kn:List Int)(s:Nat)(x:Nat->Int):Prop:=∀n,s<=n->n<kn.length->tk b (sm s λk=>x k*co kn (n-1-k))=tk b (co kn n)
def qj(kn:List Int)(s:Nat):List (List Int):=(d7 (kn.length-s)).map λi=>aq s λk=>co kn (s+i-1-k)
def EJ(kn:List Int)(s:Nat):(qj kn s).length=kn.length-s:=by rw[qj,aK,pK]
def Im(h:i<kn.length-s):ln (qj kn s) i=aq s λk=>co kn (s+i-1-k):=by
 rw[ln,qj,List.getD_eq_getElem?_getD,List.getElem?_map,List.getElem?_range h];rfl
abbrev gO(b:Int)(kn:List Int)(s:Nat):Nat->Nat->Int:=aug b (qj kn s) (kn.drop s)
def SX{k:Nat}(hi:i<kn.length-s)(hk:k<s):gO b kn s i k=tk b (co kn (s+i-1-k)):=by
 rw[gO,aof (m:=s) (by rw[EJ];exact hi) (by rw[Im hi,aQ]) hk,Im hi,bZ,if_pos hk]
def avh(p:List Int)(s k:Nat):co (p.drop s) k=co p (s+k):=by
 unfold co;rw[List.getD_eq_getElem?_getD,List.getD_eq_getElem?_getD,List.getElem?_drop]
def Qk(hi:i<kn.length-s):gO b kn s i s=tk b (co kn (s+i)):=by
 rw[gO,azZ (m:=s) (by rw[EJ];exact hi) (by rw[Im hi,aQ]),avh]
def Wc(hi:i<kn.length-s)(x:Nat->Int):tk b (sm s λk=>gO b kn s i k*x k)=tk b (sm s λk=>x k*co kn (s+i-1-k)):=
 dZ λk hk=>by rw[SX hi hk,dU,bG]
end
end Dm
namespace Dm
open Rm Pm
def QZ:∀P∈Om.mj,2<=P:=by decide +kernel
abbrev By(b:Int):Prop:=b=0∨∃P:Nat,P∈Om.mj/\b=(P:Int)
def By.dom{b:Int}(h:By b):Dom b:=by
 rcases h with rfl|⟨P,hP,rfl⟩
 .exact Dom.zero
 .exact Dom.prime hP (QZ P hP)
structure Low(b bt:Int)(ts:List Int)(bot:Int)(us:List Int):Prop where
 pr:∀P:Nat,b=(P:Int)->P∈Om.mj->bot=1/\us=ts.map λt=>t*bt^(P-2)%(P:Int)
 ze:b=0->bot=bt.fdiv (Lm.low bt ts)/\us=ts.map λt=>t.fdiv (Lm.low bt ts)
 len:us.length=ts.length
def ala{P:Nat}(hP:P∈Om.mj){a:Int}(h0:a≠0)(ht:tk (P:Int) a=a):tk (P:Int) (a^(P-2)*a)=1:=by
 have h2:=QZ P hP;have eX:∀n,tk (P:Int) n=n%(P:Int):=λn=>iz ⋯ n;have h1:=oM a (⋯:(P:Int)≠0);have h3:=oH a (⋯:(0:Int)<(P:Int));rw[eX]at ht⊢;rw[<-jy,(⋯:(P-2).succ=P-1)];exact Om.xM rfl hP ⋯ ⋯
def azr(a:Int)(ts:List Int):(Lm.low a ts).natAbs=Lm.f9 a.natAbs ts:=by
 unfold Lm.low;split<;>lia
def Low.told{b bt:Int}{ts:List Int}{bot:Int}{us:List Int}(hB:By b)(h0:bt≠0)(ht:tk b bt=bt)(h:Low b bt ts bot us):
  ∃d,tk b d≠0/\(∀k,tk b (co us k*d)=tk b (co ts k))/\tk b (bot*d)=tk b bt/\(∀x∈us,tk b x=x)/\1<=bot/\(b≠0->bot=1)/\(b=0->Lm.f9 bot.natAbs us=1):=by
 rcases hB with rfl|⟨P,hP,rfl⟩
 .obtain⟨e1,e2⟩:=h.ze rfl;have n0:=Lm.low_ne h0 ts;obtain⟨e,he,hf⟩:=Lm.axA bt h0 ts;have eb:bot=e:=by
   rw[e1]
   conv=>lhs;arg 1;rw[hf]
   exact OD _ n0
  have eu:∀k,co us k*Lm.low bt ts=co ts k:=λk=>by
   rw[e2,jF (f:=λt=>t.fdiv (Lm.low bt ts)) (by simp)];by_cases c:k<ts.length
   .obtain⟨x,hx⟩:=Lm.awg bt ts (co ts k) (by rw[jL c];exact vG c);rw[hx,OD _ n0,bG]
   .rw[bh ⋯];simp
  refine⟨Lm.low bt ts,by rw[cJ];exact n0,λk=>by rw[cJ,cJ,eu k],by rw[cJ,cJ,eb,bG,<-hf],λx _=>cJ x,⋯,λz=>absurd rfl z,λ_=>?_⟩;have g1:=azr bt ts;have m1:=Lm.Z9 (Lm.low bt ts).natAbs bot.natAbs us;have e3:(Lm.low bt ts).natAbs*bot.natAbs=bt.natAbs:=by rw[eb,<-jD,<-hf]
  have e4:Lm.f9 bt.natAbs (us.map λt=>((Lm.low bt ts).natAbs:Int)*t)=Lm.f9 bt.natAbs ts:=by
   refine Lm.aok _ ?_;refine adk (by simp[h.len]) λk h1 h2=>?_;simp only[aK]at h1 h2;have q:=congrArg AF (eu k);rw[jL h1,jL h2,jD]at q;simp[jD];rw[gZ];exact q
  rw[e3,e4,<-g1]at m1;have:0<(Lm.low bt ts).natAbs:=⋯;exact(YM this (by rw[v8];exact m1)).symm
 .obtain⟨e1,e2⟩:=h.pr P rfl hP;have h2:=QZ P hP;have eX:∀n,tk (P:Int) n=n%(P:Int):=λn=>iz ⋯ n;have inv:=ala hP h0 ht;refine⟨bt,by rw[ht];exact h0,λk=>?_,by rw[e1,fP],λx hx=>?_,⋯,λ_=>e1,λz=>⋯⟩
  .rw[e2,jF (f:=λt=>t*bt^(P-2)%(P:Int)) (by rw[dF];exact Wh _),<-eX,dU,cP,<-cD,inv,iU]
  .rw[e2]at hx;obtain⟨t,_,rfl⟩:=fQ.mp hx;rw[<-eX,dO]
section
variable {b:Int} {n W u m:Nat} {A0 A A':Nat->Nat->Int} {hd hd':Nat->Nat} {r r':Nat} {L L':List (List Int)} {last aAL:Int}
def iw.congr{x y:Nat->Int}{bt Rk:Int}(e:∀k,k<m->tk b (x k)=tk b (y k))(eb:tk b bt=tk b Rk)(h:iw b n m A0 x bt):iw b n m A0 y Rk:=λi hi=>by
 have q:=h i hi;rw[<-dU,<-eb,dU,<-q];exact dZ λk hk=>by rw[<-cD,<-e k hk,cD]
def cN.aAa(h:cN b n W u A0 m A hd r L last)(hz:∀i,r<=i->i<n->tk b (En A hd r i m)=0):iw b n m A0 (co (rM (λh=>tk b (En A hd r h m)) hd m r)) last:=by
 have R:=NP (A:=A) (hd:=hd) (r:=r) (m:=m+1) (k:=m) (b:=b) (n:=n) (λj hj=>by have:=h.hc j hj;lia) (Lh _) hz;have S:iw b n m A0 (λj=>sm r λh=>if j=hd h then En A hd r h m else 0) (dt A hd r):=by
  refine iw.rel.mpr (h.sw.rel.mpr ?_);intro i hi;refine Dt ?_ (R i hi);refine congrArg (Rm.tk b) (aJ λk hk=>?_);congr 1;dsimp only;by_cases c:k=m
  .rw[if_pos c,if_pos c,jA (λj hj=>by rw[if_neg (by have:=h.hc j hj;lia)]),jT]
  .rw[if_neg c,if_neg c,vR]
 refine S.congr (λk hk=>?_) (by rw[h.la,dO]);rw[rM,bZ,if_pos hk];refine dZ λj _=>?_;by_cases e:k=hd j
 .rw[if_pos e,if_pos e,dO]
 .rw[if_neg e,if_neg e]
def cN.apY(h:cN b n W u A0 m A hd r L last)(hW:m<=W){c:Nat}(hc:c<m)(hcf:∀j,j<r->hd j≠c):Rel b n m A0 (co (lQ (λi=>tk b (0-co (ln L i) c)) hd m c last r)):=by
 refine h.sw.rel.mpr ?_;have R:=NP (A:=A) (hd:=hd) (r:=r) (m:=m) (k:=c) (b:=b) (n:=n) h.hc hc (h.zero c hc hcf);intro i hi;have q:=yG (R i hi);rw[<-A8]at q;refine Dt ?_ q;refine dZ λk hk=>?_;rw[<-tX,<-cD,<-cD b (A i k) (-_)];congr 2;dsimp only;rw[lQ,bZ,if_pos hk];by_cases e:k=c
 .rw[if_pos e,if_pos e,jA (λj hj=>by rw[if_neg (by have:=hcf j hj;lia)]),jT,KP,h.la,dO]
 .rw[if_neg e,if_neg e,vR,<-A8];refine dZ λj hj=>?_;by_cases e2:k=hd j
  .rw[if_pos e2,if_pos e2,dO,h.en j c (by have:=h.rn;lia) ⋯,jT];unfold Rm.tk;split
   .rfl
   .rw[<-jT,<-jT,adb,Int.emod_emod,<-adb]
  .rw[if_neg e2,if_neg e2];rfl
def cN.kJ(h:cN b n W u A0 m A hd r L last):last≠0/\tk b last=last:=⟨by rw[h.la];exact h.nz,by rw[h.la,dO]⟩
end
section
variable {b bot:Int}{n m u:Nat}{A0:Nat->Nat->Int}
def xu(u:Nat)(b:Int)(n m:Nat)(A0:Nat->Nat->Int)(bot:Int)(us:List Int):Prop:=
 ∃A hd r L last,cN b n (m+1) u A0 m A hd r L last/\(∀i,r<=i->i<n->tk b (En A hd r i m)=0)/\Low b last (rM (λh=>tk b (En A hd r h m)) hd m r) bot us
def CZ(u:Nat)(b:Int)(n m:Nat)(A0:Nat->Nat->Int)(fs:List Int):Prop:=
 ∃A hd r L last c bot,cN b n (m+1) u A0 m A hd r L last/\c<m/\(∀j,j<r->hd j≠c)/\(∀k,k<c->∃j,j<r/\hd j=k)/\Low b last (lQ (λi=>tk b (0-co (ln L i) c)) hd m c last r) bot fs
def iw.ajw{A:Nat->Nat->Int}{x y:Nat->Int}{bt d:Int}(hD:Dom b)(hd:tk b d≠0)(e:∀k,k<m->tk b (y k*d)=tk b (x k))(eb:tk b (bot*d)=tk b bt)(h:iw b n m A x bt):iw b n m A y bot:=
 iw.rel.mpr (Rel.cut hD hd (λk hk=>by
  by_cases c:k=m
  .rw[if_pos c,if_pos c,iI,<-Af,<-cD,eb,cD,Af]
  .rw[if_neg c,if_neg c];exact e k ⋯) (iw.rel.mp h))
structure JG(b:Int)(n m:Nat)(A0:Nat->Nat->Int)(bot:Int)(us:List Int):Prop where
 len:us.length=m
 tk:∀x∈us,Rm.tk b x=x
 pos:1<=bot
 pr:b≠0->bot=1
 ze:b=0->Lm.f9 bot.natAbs us=1
 sums:iw b n m A0 (co us) bot
def xu.ok{us:List Int}(hB:By b)(h:xu u b n m A0 bot us):JG b n m A0 bot us:=by
 obtain⟨A,hd,r,L,last,I,hz,lo⟩:=h;obtain⟨d,d0,d1,d2,d3,d4,d5,d6⟩:=lo.told hB I.kJ.1 I.kJ.2;exact⟨by rw[lo.len,AZ],d3,d4,d5,d6,iw.ajw hB.dom d0 (λk _=>d1 k) d2 (I.aAa hz)⟩
def CZ.ok{fs:List Int}(hB:By b)(h:CZ u b n m A0 fs):ase b n m A0 fs:=by
 obtain⟨A,hd,r,L,last,c,bot,I,hc,hn,hf,lo⟩:=h;obtain⟨d,d0,d1,d2,d3,d4,d5,d6⟩:=lo.told hB I.kJ.1 I.kJ.2;refine⟨by rw[lo.len,yN],d3,Rel.cut hB.dom d0 (λk _=>d1 k) (I.apY (Nat.le_succ m) hc hn),c,hc,λz=>?_⟩;have q:=d1 c;rw[<-dU,z,dF,tk0,lQ,bZ,if_pos hc,if_pos rfl,I.kJ.2]at q;exact I.kJ.1 q.symm
end
end Dm
namespace Dm
open Rm Pm
section
variable {n i r:Nat}{A A0:Nat->Nat->Int}{hd:Nat->Nat}
def fV(n:Nat)(A:Nat->Nat->Int)(e:Nat->Int):Prop:=∃y:Nat->Int,∀k,e k=sm n λj=>y j*A j k
def fV.row(hi:i<n):fV n A (A i):=⟨λj=>if j=i then 1 else 0,λk=>by
 rw[aJ (g:=λj=>if j=i then A i k else 0) λj _=>?_,iD,if_pos hi];dsimp only;by_cases c:j=i
 .rw[if_pos c,if_pos c,c,fP]
 .rw[if_neg c,if_neg c,dF]⟩
def fV.lin{n:Nat}{A:Nat->Nat->Int}{e f g:Nat->Int}(c d:Int)(he:fV n A e)(hf:fV n A f)(hg:∀k,g k=c*e k+d*f k):fV n A g:=by
 obtain⟨y,hy⟩:=he;obtain⟨z,hz⟩:=hf;refine⟨λj=>c*y j+d*z j,λk=>?_⟩;rw[hg,hy,hz,<-cj,<-cj,<-eZ];exact aJ λj _=>by rw[uy,cP,cP]
def fV.nought:fV n A λ_=>0:=⟨λ_=>0,λk=>(jA λj _=>dF _).symm⟩
theorem fV.sum{n:Nat}{A:Nat->Nat->Int}{f:Nat->Nat->Int}(c:Nat->Int):∀m,(∀j,j<m->fV n A (f j))->fV n A λk=>sm m λj=>c j*f j k
 |0,_=>fV.nought
 |m+1,h=>fV.lin 1 (c m) (fV.sum c m λj hj=>h j ⋯) (h m ⋯) λk=>by rw[fP];rfl
def qY.comb(h:qY n A0 A):∀i,i<n->fV n A0 (A i):=by
 induction h with
 |refl=>exactλi hi=>fV.row hi
 |@step A a c _ h1 h2 ih=>
  intro i hi;by_cases e:i=c
  .subst e;exact fV.lin (-1) 0 (ih a ⋯) fV.nought λk=>by rw[wO];lia
  .by_cases e2:i=a
   .subst e2;exact fV.lin 1 0 (ih c h2) fV.nought λk=>by rw[Am ⋯];lia
   .exact fV.lin 1 0 (ih i hi) fV.nought λk=>by rw[ux e2 e];lia
def akt(A:Nat->Nat->Int)(hd:Nat->Nat){r h:Nat}(hh:h<r):∃C:Nat->Int,∀k,cr A hd r h k=sm r λj=>C j*A j k:=by
 refine⟨λj=>det r (cB (Bk A hd) h λi'=>if i'=j then 1 else 0),λk=>?_⟩;have e:=Bh (n:=r) (Bk A hd) hh (λj=>A j k) (λj i'=>if i'=j then 1 else 0) r;rw[aJ (g:=λj=>A j k*det r (cB (Bk A hd) h λi'=>if i'=j then 1 else 0)) λj _=>bG ..,<-e];refine iy λi j hi _=>?_;unfold cB;by_cases c:j=h
 .rw[if_pos c,if_pos c];dsimp only;rw[aJ (g:=λj=>if j=i then A i k else 0) λj _=>?_,iD,if_pos hi];by_cases c2:j=i
  .rw[if_pos c2,if_pos c2.symm,c2,iU]
  .rw[if_neg c2,if_neg (λz=>c2 z.symm),aV]
 .rw[if_neg c,if_neg c]
def alj(hA:∀j,j<n->fV n A0 (A j))(hr:r<=n)(h1:r<=i)(h2:i<n):fV n A0 (En A hd r i):=by
 have lo:∀h,h<r->fV n A0 (En A hd r h):=λh hh=>by
  obtain⟨C,hC⟩:=akt A hd hh;obtain⟨y,hy⟩:=fV.sum (n:=n) (A:=A0) (f:=A) C r λj hj=>hA j ⋯;refine⟨y,λk=>?_⟩;rw[<-hy k];refine Dt ?_ (hC k);unfold En;rw[if_pos hh]
 refine fV.lin (dt A hd r) (-1) (hA i h2) (fV.sum (λh=>A i (hd h)) r lo) λk=>?_;have:=Ss A hd r i k;rw[if_neg ⋯]at this;rw[bG (dt A hd r),this];lia
def cN.against{b:Int}{W u m:Nat}{L:List (List Int)}{last:Int}(h:cN b n W u A0 m A hd r L last){i:Nat}(h1:r<=i)(h2:i<n)(hne:tk b (En A hd r i m)≠0):
  ∃y:Nat->Int,(∀k,k<m->tk b (sm n λj=>y j*A0 j k)=0)/\tk b (sm n λj=>y j*A0 j m)≠0:=by
 obtain⟨y,hy⟩:=alj (hd:=hd) h.sw.comb h.rn h1 h2;refine⟨y,λk hk=>?_,by rw[<-hy m];exact hne⟩;rw[<-hy k];by_cases c:∃j,j<r/\hd j=k
 .obtain⟨j,hj,e⟩:=c;rw[<-e,El hj,if_neg ⋯,tk0]
 .exact h.zero k hk (λj hj e=>c ⟨j,hj,e⟩) i h1 h2
end
end Dm
namespace Dm
open Rm Pm
end Dm
namespace Dm
open Rm Pm
section
variable {b bt:Int}{f x:Nat->Int}{N s:Nat}
def FB(b:Int)(f:Nat->Int)(N s:Nat)(x:Nat->Int)(bt:Int):Prop:=∀n,s<=n->n<N->tk b (sm s λk=>x k*f (n-1-k))=tk b (bt*f n)
def FB.grow(h:FB b f N s x bt):FB b f N (s+1) (λk=>if k<s then x k else 0) bt:=λn h1 h2=>by
 rw[<-h n ⋯ h2,sm];dsimp only;rw[if_neg (lW _),dF,cU];exact congrArg (tk b) (aJ λk hk=>by rw[if_pos hk])
def FB.more(h:FB b f N s x bt):∀t,s<=t->∃y,FB b f N t y bt:=λt=>by
 induction t with
 |zero=>intro hs;obtain rfl:s=0:=⋯;exact⟨x,h⟩
 |succ t ih=>
  intro hs;by_cases c:s=t+1
  .subst c;exact⟨x,h⟩
  .obtain⟨y,hy⟩:=ih ⋯;exact⟨_,hy.grow⟩
def FB.whole(h:N<=s)(x:Nat->Int)(bt:Int):FB b f N s x bt:=λn h1 h2=>absurd h2 ⋯
theorem Tn(f:Nat->Int):∀n:Nat,sm n f=sm n (λk=>f (n-1-k))
 |0=>rfl
 |n+1=>by
  rw[jr (λk=>f (n+1-1-k)),sm,Tn f n,nK];congr 1;exact aJ λk _=>by rw[(⋯:n-1-k=n+1-1-(k+1))]
end
end Dm
namespace Dm
open Rm Pm
section
variable {b bt:Int}{kn:List Int}{s:Nat}{x:Nat->Int}
def J0:iw b (kn.length-s) s (gO b kn s) x bt↔FB b (co kn) kn.length s x bt:=by
 constructor
 .intro h n h1 h2;have q:=h (n-s) ⋯;rw[Wc ⋯,Qk ⋯,cD]at q;rw[(⋯:s+(n-s)=n)]at q;exact q
 .intro h i hi;rw[Wc hi,Qk hi,cD];exact h (s+i) ⋯ ⋯
def FB.two(hb:tk b bt≠0)(h:FB b (co kn) kn.length s x bt):¬oO b (kn.length-(s+1)) (s+1) (gO b kn (s+1)):=λhI=>by
 have z:=hI (λk=>if k=0 then bt else -x (k-1)) (λi hi=>by
  rw[Wc hi,jr,if_pos rfl];have e:sm s (λk=>(if k+1=0 then bt else -x (k+1-1))*co kn (s+1+i-1-(k+1)))=-sm s λk=>x k*co kn (s+i-1-k):=by
   rw[<-A8];refine aJ λk hk=>?_;rw[if_neg ⋯,fu,iI,(⋯:s+1+i-1-(k+1)=s+i-1-k)]
  have e':(λk=>(if k+1=0 then bt else -x (k+1-1))*co kn (s+1+i-1-(k+1)))=λi_1=>(λk=>(if k=0 then bt else -x (k-1))*co kn (s+1+i-1-k)) (i_1+1):=rfl;rw[<-e',e,(⋯:s+1+i-1-0=s+i),<-K1];exact jJ.mpr (h (s+i) ⋯ ⋯).symm) 0 (gR _)
 rw[if_pos rfl]at z;exact hb z
def apw{t:Nat}(hb:tk b bt≠0)(h:FB b (co kn) kn.length s x bt)(ht:s<t):¬oO b (kn.length-t) t (gO b kn t):=by
 obtain⟨y,hy⟩:=h.more (t-1) ⋯;have:=hy.two hb
 rwa [(⋯:t-1+1=t)]at this
theorem JG.bot{b:Int}{n m:Nat}{A0:Nat->Nat->Int}{bot:Int}{us:List Int}(hb:Rm.tk b 1≠0)(h:JG b n m A0 bot us):Rm.tk b bot≠0:=by
 by_cases c:b=0
 .have:=h.pos;rw[c,Rm.cJ];lia
 .rw[h.pr c];exact hb
end
end Dm
namespace Dm
open Rm Pm
section
variable {b:Int}{m:Nat}{hd:Nat->Nat}{a:Nat->Int}{kn:List Int}
def aue(hD:Dom b)(h1:tk b 1≠0)(n:Nat)(A:Nat->Nat->Int):∃x:Nat->Int,(∃k,k<n+1/\tk b (x k)≠0)/\Rel b n (n+1) A x:=by
 refine ur λhno=>?_;have hI:oO b (n+1) (n+1) (λi k=>if i=0 then 0 else A (i-1) k):=λx hx k hk=>by
  refine ur λhk0=>hno ⟨x,⟨k,hk,hk0⟩,λi hi=>?_⟩;have:=hx (i+1) ⋯;refine Dt (congrArg (tk b) (aJ λk _=>?_)) this;show A i k*x k=(if i+1=0 then 0 else A (i+1-1) k)*x k;rw[if_neg ⋯];rfl
 refine YJ hD h1 hI ?_;rw[aiQ,jA λc _=>by rw[if_pos rfl,aV,dF],tk0]
def Gq{D:Nat}(hh:∀j,j<D->hd j<m)(f x:Nat->Int):sm m (λc=>f c*sm D λj=>if c=hd j then x j else 0)=sm D λj=>f (hd j)*x j:=by
 rw[aJ (g:=λc=>sm D λj=>f c*if c=hd j then x j else 0) λc _=>(cj ..).symm,pW];refine aJ λj hj=>?_;rw[aJ (g:=λc=>if c=hd j then f (hd j)*x j else 0) λc _=>by
  by_cases e:c=hd j
  .rw[if_pos e,if_pos e,e]
  .rw[if_neg e,if_neg e,aV],iD,if_pos (hh j hj)]
theorem ahp{P:Nat->Prop}:∀{n:Nat},(∃k,k<n/\P k)->∃k,k<n/\P k/\∀j,k<j->j<n->¬P j
 |0,⟨_,h,_⟩=>absurd h (kj _)
 |n+1,⟨k,h,hp⟩=>by
  by_cases c:P n
  .exact⟨n,Lh _,c,λj h1 h2=>absurd h2 ⋯⟩
  .obtain⟨k',h1,h2,h3⟩:=ahp (P:=P) (n:=n) ⟨k,by
    rcases aav.mp h with z|z
    .exact z
    .rw[z]at hp;exact absurd hp c,hp⟩
   refine⟨k',⋯,h2,λj j1 j2=>?_⟩;rcases aav.mp j2 with z|z
   .exact h3 j j1 z
   .rw[z];exact c
def cN.arz{n W u:Nat}{A0 A:Nat->Nat->Int}{r:Nat}{L:List (List Int)}{last:Int}(h:cN b n W u A0 m A hd r L last)(hD:Dom b)(h1:tk b 1≠0){d:Nat}{c:Nat->Int}
  (hrec:∀i,i+d<n->∀k,k<m->tk b (A0 (i+d) k)=tk b (sm d λt=>c t*A0 (i+t) k)):r<=d:=by
 refine Gs λz=>?_;obtain⟨x,hex,hx⟩:=aue hD h1 d (λi j=>A0 i (hd j));obtain⟨j0,hj0,hne,htop⟩:=ahp hex;have hh:∀j,j<d+1->hd j<m:=λj hj=>h.hc j ⋯
 let x':Nat->Int:=λj=>if j<=j0 then x j else 0
 have ex:∀j,j<d+1->∀v:Int,tk b (v*x' j)=tk b (v*x j):=λj hj v=>by
  show tk b (v*if j<=j0 then x j else 0)=_;by_cases q:j<=j0
  .rw[if_pos q]
  .have:tk b (x j)=0:=ur λw=>htop j ⋯ hj w;rw[if_neg q,aV,bG,<-dU,this,dF]
 have g0:∀i,i<n->tk b (sm (d+1) λj=>A0 i (hd j)*x' j)=0:=λi=>by
  induction i using mV with
  |ind i ih=>
   intro hi;by_cases q:i<d
   .rw[dZ (g:=λj=>A0 i (hd j)*x j) λj hj=>ex j hj _];exact hx i q
   .obtain⟨i',rfl⟩:∃i',i=i'+d:=⟨i-d,⋯⟩;have e1:tk b (sm (d+1) λj=>A0 (i'+d) (hd j)*x' j)=tk b (sm (d+1) λj=>(sm d λt=>c t*A0 (i'+t) (hd j))*x' j):=dZ λj hj=>by
     rw[<-dU,hrec i' hi (hd j) (hh j hj),dU]
    have e2:sm (d+1) (λj=>(sm d λt=>c t*A0 (i'+t) (hd j))*x' j)=sm d λt=>c t*sm (d+1) λj=>A0 (i'+t) (hd j)*x' j:=by
     rw[aJ (g:=λj=>sm d λt=>c t*(A0 (i'+t) (hd j)*x' j)) λj _=>by
      rw[bG,<-cj];exact aJ λt _=>by rw[bG,cP],pW]
     exact aJ λt _=>cj ..
    rw[e1,e2];refine JN λt ht=>?_;rw[bG,<-dU,ih (i'+t) ⋯ ⋯,dF,tk0]
 refine h.ao4 hD (x:=λk=>sm (d+1) λj=>if k=hd j then x' j else 0) (k:=hd j0) (λi hi=>?_) (hh j0 hj0) (λk hk _=>?_) ?_ j0 ⋯ rfl
 .rw[Gq hh];exact g0 i hi
 .refine jA λj hj=>?_;by_cases e:k=hd j
  .have:¬j<=j0:=λq=>by
    rcases Nat.lt_or_eq_of_le q with w|w
    .have:=h.up j j0 w ⋯;lia
    .rw[w]at e;lia
   show(if k=hd j then(if j<=j0 then x j else 0)else 0)=0;rw[if_neg this];split<;>rfl
  .exact if_neg e
 .have e:sm (d+1) (λj=>if hd j0=hd j then x' j else 0)=sm (d+1) λj=>if j=j0 then x j0 else 0:=aJ λj hj=>by
   by_cases e:j=j0
   .rw[if_pos e,e,if_pos rfl];exact if_pos (aR _)
   .rw[if_neg e,if_neg];intro w;rcases Ew e with y|y
    .have:=h.up j j0 y ⋯;lia
    .have:=h.up j0 j y ⋯;lia
  rw[e,iD,if_pos hj0];exact hne
def axC{Q:List Int}(hM:Mon Q)(hK:Kp b Q a)(n:Nat):tk b (a (n+(Q.length-1)))=tk b (sm (Q.length-1) λj=>-co Q j*a (n+j)):=by
 have hp:=hM.pos;have q:=hK n;rw[ks,(⋯:Q.length=Q.length-1+1),sm,hM.one,fP]at q;have e:sm (Q.length-1) (λj=>-co Q j*a (n+j))=-sm (Q.length-1) λk=>co Q k*a (n+k):=by
  rw[<-A8];exact aJ λk _=>iI ..
 rw[e];refine jJ.mp ?_;rw[Int.sub_neg,nK];exact q
def axR(hD:Dom b)(h1:tk b 1≠0){kn:List Int}{a:Nat->Int}(ha:∀n,n<kn.length->co kn n=a n){Q:List Int}(hM:Mon Q)(hK:Kp b Q a){s u c:Nat}{A:Nat->Nat->Int}{hd:Nat->Nat}{r:Nat}{L:List (List Int)}{last:Int}(hc:c<=s+1)(h:cN b (kn.length-s) (s+1) u (gO b kn s) c A hd r L last):r<=Q.length-1:=by
 refine h.arz hD h1 (c:=λj=>-co Q j) λi hi k hk=>?_;obtain⟨e,he⟩:∃e,∀i,i<kn.length-s->gO b kn s i k=tk b (a (i+e)):=by
  by_cases z:k<s
  .exact⟨s-1-k,λi hi=>by rw[SX hi z,ha _ ⋯,(⋯:s+i-1-k=i+(s-1-k))]⟩
  .exact⟨s,λi hi=>by rw[(⋯:k=s),Qk hi,ha _ ⋯,Ci]⟩
 rw[he _ hi,dO,(⋯:i+(Q.length-1)+e=i+e+(Q.length-1)),axC hM hK];refine dZ λj hj=>?_;rw[he _ ⋯,bG _ (tk b _),dU,bG,(⋯:i+j+e=i+e+j)]
def awS(ha:∀n,n<kn.length->co kn n=a n){m:Nat}(hH:oO b m m (hk a))(hN:2*m<=kn.length):oO b (kn.length-m) m (gO b kn m):=λx hx k hk'=>by
 have q:=hH (λj=>x (m-1-j)) (λi hi=>?_) (m-1-k) ⋯
 .rw[(⋯:m-1-(m-1-k)=k)]at q;exact q
 .have:=hx i ⋯;rw[Tn]at this;refine Dt (dZ λj hj=>?_) this;rw[SX ⋯ ⋯,ha _ ⋯,dU,(⋯:m+i-1-(m-1-j)=i+j)];rfl
def ak1(ha:∀n,n<kn.length->co kn n=a n){m:Nat}(hH:oO b m m (hk a))(hN:2*m<=kn.length){t:Nat}(ht:t<m){x:Nat->Int}{bt:Int}(hb:tk b bt≠0):¬FB b (co kn) kn.length t x bt:=λhF=>by
 have q:=hH (λj=>if j<t then x (t-1-j)else if j=t then -bt else 0) (λi hi=>?_) t ht
 .simp only[lW,if_false,if_true]at q;refine hb ?_;have:tk b (-1 * -bt)=0:=by rw[bG,<-dU,q,dF,tk0]
  rw[(⋯:(-1:Int) * -bt=bt)]at this;exact this
 .show tk b (sm m λj=>a (i+j)*if j<t then x (t-1-j)else if j=t then -bt else 0)=0;rw[lD (m:=t+1) ⋯ λj h2 _=>by rw[if_neg ⋯,if_neg ⋯,aV],sm,if_neg (lW _),if_pos rfl];have e:sm t (λj=>a (i+j)*if j<t then x (t-1-j)else if j=t then -bt else 0)=sm t λk=>x k*co kn (i+t-1-k):=by
   rw[Tn];refine aJ λj hj=>?_;rw[if_pos ⋯,ha _ ⋯,(⋯:t-1-(t-1-j)=j),(⋯:i+(t-1-j)=i+t-1-j),bG]
  have z:=hF (i+t) ⋯ ⋯;rw[ha (i+t) ⋯]at z;rw[e,<-gM,z,gM,show bt*a (i+t)+a (i+t) * -bt=0 by rw[tX,bG];lia,tk0]
def am6(hI:oO b (kn.length-m) m (gO b kn m)){bot:Int}{us rule:List Int}(so:JG b (kn.length-m) m (gO b kn m) bot us)(hr:FB b (co kn) kn.length m (co rule) 1)(lr:rule.length=m)(tr:∀x∈rule,tk b x=x):bot=1/\us=rule:=by
 have hS:=J0.mpr hr;have q:∀k,k<m->tk b (co us k-bot*co rule k)=0:=λk hk=>hI (λk=>co us k-bot*co rule k) (λi hi=>by
  have z1:=so.sums i hi;have z2:=hS i hi;rw[aJ (g:=λk=>gO b kn m i k*co us k-bot*(gO b kn m i k*co rule k)) λk _=>by rw[nJ,fW],GB,cj];rw[fP]at z2;have z3:tk b (bot*sm m λk=>gO b kn m i k*co rule k)=tk b (bot*gO b kn m i m):=by rw[bG,<-dU,z2,dU,bG]
  exact jJ.mpr (z1.trans z3.symm)) k hk
 have c1:∀k,tk b (co us k)=co us k:=λk=>by
  by_cases hk:k<us.length
  .exact so.tk _ (uF hk)
  .rw[bh ⋯,tk0]
 have c2:∀k,tk b (co rule k)=co rule k:=λk=>by
  by_cases hk:k<rule.length
  .exact tr _ (uF hk)
  .rw[bh ⋯,tk0]
 have hb1:bot=1:=by
  by_cases hb:b=0
  .have g:=so.ze hb;subst hb;have hp:=so.pos;have eu:us=rule.map λt=>(bot.natAbs:Int)*t:=nG (by rw[aK,so.len,lr]) λk=>by
    rw[jF (aV _),(⋯:((bot.natAbs:Nat):Int)=bot)];by_cases hk:k<m
    .have:=q k hk;rw[cJ]at this;lia
    .rw[bh (by rw[so.len];lia),bh (p:=rule) ⋯,aV]
   rw[eu]at g;have g2:=Lm.Z9 bot.natAbs 1 rule;rw[v8,g]at g2;have:=Nat.eq_one_of_mul_eq_one_right g2.symm;lia
  .exact so.pr hb
 refine⟨hb1,nG (by rw[so.len,lr]) λk=>?_⟩;by_cases hk:k<m
 .have:=q k hk;rw[hb1,fP]at this;rw[<-c1,<-c2];exact jJ.mp this
 .rw[bh (by rw[so.len];lia),bh ⋯]
end
end Dm
namespace K57
open PySem L2
seal PA PE PS jE PT PW PI PG zY PO zx
def top(i:Nat):Stmt:=PySem.Challenge.pw_nextbyrule_k57_whole_rows_put_together.main.body.getD i (.Pass ⟨0,0,0,0⟩)
abbrev QB:Stmt:=top 7
abbrev OX:Stmt:=top 8
abbrev Pk:Stmt:=top 9
abbrev LD:Stmt:=top 10
abbrev Ny:Stmt:=top 14
abbrev Nk:Stmt:=top 15
abbrev Rp:Stmt:=top 16
abbrev SV:Stmt:=top 17
abbrev UQ:Stmt:=top 18
abbrev Rt:Stmt:=top 20
abbrev Ug:Stmt:=top 21
abbrev Rn:Stmt:=top 22
abbrev Ui:Stmt:=top 23
abbrev Mr:Stmt:=top 24
abbrev Wm:Stmt:=top 25
abbrev Mj:Stmt:=top 26
abbrev LC:Stmt:=top 28
abbrev Rz:Stmt:=top 29
abbrev VN:Stmt:=top 30
abbrev SD:Stmt:=top 33
abbrev TX:Stmt:=top 34
abbrev Tz:Stmt:=top 35
abbrev Ro:Stmt:=top 36
abbrev MQ:Stmt:=top 37
abbrev Qy:Stmt:=top 38
abbrev Oi:Stmt:=top 39
abbrev Uk:Stmt:=top 41
abbrev UU:Stmt:=top 42
abbrev VD:Stmt:=top 43
abbrev VZ:Stmt:=top 47
abbrev MR:Stmt:=top 48
abbrev V5:Stmt:=top 49
abbrev Qt:Stmt:=top 50
abbrev QW:Stmt:=top 51
abbrev O6:Stmt:=top 52
abbrev Sx:Stmt:=top 53
abbrev N7:Stmt:=top 54
abbrev SQ:Stmt:=top 55
abbrev MJ:Stmt:=top 56
abbrev Tw:Stmt:=top 57
abbrev Ob:Stmt:=top 58
abbrev Uv:Stmt:=top 59
abbrev Pa:Stmt:=top 60
abbrev Rv:Stmt:=top 61
abbrev Va:Stmt:=top 63
abbrev TQ:Stmt:=top 64
abbrev Pr:Stmt:=top 65
abbrev VP:Stmt:=top 66
abbrev Qg:Stmt:=top 67
abbrev Qq:Stmt:=top 68
abbrev QF:Stmt:=top 69
abbrev Wk:Stmt:=top 70
abbrev Rh:Stmt:=top 71
abbrev RZ:Stmt:=top 73
abbrev Pn:Stmt:=top 74
abbrev Mp:Stmt:=top 75
abbrev O7:Stmt:=top 77
abbrev SM:Stmt:=top 78
abbrev UG:Stmt:=top 79
abbrev Mg:Stmt:=top 80
abbrev QY:Stmt:=top 81
abbrev VG:Stmt:=top 82
abbrev U6:Stmt:=top 83
abbrev Tp:Stmt:=top 85
abbrev V1:Stmt:=top 86
abbrev Ux:Stmt:=top 87
abbrev PN:Stmt:=top 88
abbrev MH:Stmt:=top 89
abbrev Ow:Stmt:=top 90
abbrev xR:Stmt:=top 91
def Vf:aY ["number","divisor"] ["number"] (aU QB):=bB
def alI:aY ["by","number"] ["by","number"] (aU OX):=bB
def yh:aY ["prime","number","power","square","left"] ["prime","number"] (aU Pk):=bB
def ayr:aY ["by","one","other"] ["by","one","other"] (aU LD):=bB
def axm:aY ["one","other"] ["one","other"] (aU Ny):=bB
def KD:aY ["by","rule","before","total","k"] ["by","rule","before"] (aU Nk):=bB
def Cr:aY ["row","count","by","rule","starts","found"] ["row","count"] (aU Rp):=bB
def av2:aY ["n"] ["n"] (aU SV):=bB
def ak8:aY ["row","count"] ["row","count"] (aU UQ):=bB
def SJ:aY ["numbers","end"] ["numbers"] (aU Rt):=bB
def Jv:aY ["by","one","other","total","i","k"] ["by","one","other"] (aU Ug):=bB
def yO:aY ["by","one","other","top","often","left","shift","factor","k"] ["by","one","other"] (aU Rn):=bB
def Zg:aY ["prime","poly","last"] ["prime","poly"] (aU Ui):=bB
def Bs:aY ["by","one","other","great","small","left"] ["by","one","other"] (aU Mr):=bB
def TY:aY ["by","rule","length","numbers"] ["by","rule"] (aU Wm):=bB
def abI:aY ["by","poly","length"] ["by","poly"] (aU Mj):=bB
def afz:aY ["rule","sums","k","reach"] ["rule","sums","k"] (aU LC):=bB
def Gz:aY ["rule","count","sums","k","own"] ["rule","count"] (aU Rz):=bB
def V3:aY ["sums","rule","k"] ["sums"] (aU VN):=bB
def Wb:aY ["number","found"] ["number"] (aU SD):=bB
def ax3:aY ["monic_one","poly"] ["monic_one","poly"] (aU TX):=bB
def ahP:aY ["prime","poly"] ["prime","poly"] (aU Tz):=bB
def XF:aY ["modulus","number","rest"] ["modulus","number"] (aU Ro):=bB
def WC:aY ["modulus","number","prime","rest","more"] ["modulus","number","prime","rest"] (aU MQ):=bB
def nD:aY ["one","other","told","modulus","prime","ripe","seen","before"] ["one","other"] (aU Qy):=bB
def amV:aY ["by","one","other"] ["by","one","other"] (aU Oi):=bB
def BD:aY ["row","poly","by","starts","top","k","parts"] ["row","poly"] (aU Uk):=bB
def Io:aY ["row","by","poly","top"] ["row"] (aU UU):=bB
def Ti:aY ["row","least","rule"] ["row"] (aU VD):=bB
def aoe:aY ["length"] ["length"] (aU VZ):=bB
def al3:aY ["start","step"] ["start","step"] (aU MR):=bB
def MB:aY ["by","rule","starts","rule_taken","starts_taken"] ["by","rule","starts"] (aU V5):=bB
def aiW:aY ["ours","theirs","n"] ["ours","theirs","n"] (aU Qt):=bB
def aqT:aY ["ours","theirs","n"] ["ours","theirs","n"] (aU QW):=bB
def atD:aY ["ours","theirs","n"] ["ours","theirs","n"] (aU O6):=bB
def G8:aY ["one","other","rule","pair_place","length","ours","theirs"] ["one","other","rule","pair_place"] (aU Sx):=bB
def Dl:aY ["one","other","pair_place","by","ours","theirs","poly"] ["one","other","pair_place"] (aU N7):=bB
def ako:aY ["one","other"] ["one","other"] (aU SQ):=bB
def alb:aY ["one","other"] ["one","other"] (aU MJ):=bB
def yW:aY ["one","other","ours","theirs","length","our_sums","their_sums","rule"] ["one","other"] (aU Tw):=bB
def ah4:aY ["row","number"] ["row","number"] (aU Ob):=bB
def Ca:aY ["row","by","least","length","poly","found"] ["row"] (aU Uv):=bB
def B4:aY ["row","start","step","least","length","sums","found","rule"] ["row","start","step"] (aU Pa):=bB
def R6:aY ["row","numbers","least","rule"] ["row","numbers"] (aU Rv):=bB
def aoG:aY ["by","line"] ["by","line"] (aU Va):=bB
def acQ:aY ["lines","begin","column","i"] ["lines","begin","column"] (aU TQ):=bB
def W4:aY ["by","lines","at","top","down"] ["by","lines","at","top"] (aU Pr):=bB
def Ez:aY ["by","line","head","column","last","pivot","factor","mixed","share"] ["by","line","head","column","last"] (aU VP):=bB
def wK:aY ["by","wide","lines","heads","last","column","top","at","i"] ["by","wide","lines"] (aU Qg):=bB
def Br:aY ["one","other","great","small","left"] ["one","other"] (aU Qq):=bB
def CD:aY ["by","bottom","tops","top","divisor"] ["by","bottom","tops"] (aU QF):=bB
def KH:aY ["by","wide","lines","heads","last","column","free","i"] ["by","wide","lines","heads","last"] (aU Wk):=bB
def wI:aY ["by","wide","table","wished","lines","i","cleared","heads","last","tops","low"] ["by","wide","table","wished"] (aU Rh):=bB
def RD:aY ["known","size","lines","n"] ["known","size"] (aU RZ):=bB
def arU:aY ["by","known","size"] ["by","known","size"] (aU Pn):=bB
def uJ:aY ["by","known","low","high","found","middle","tried"] ["by","known"] (aU Mp):=bB
def asj:aY ["_law_script","_law_k"] ["_law_script","_law_k"] (aU O7):=bB
def Yu:aY ["_law_cell","_law_k","_law_number_here"] ["_law_cell","_law_k"] (aU SM):=bB
def av5:aY ["_law_cell"] ["_law_cell"] (aU UG):=bB
def ate:aY ["_law_by_here","_law_number_here"] ["_law_by_here","_law_number_here"] (aU Mg):=bB
def avl:aY ["_law_by_here","_law_cell","_law_sort"] ["_law_by_here","_law_cell","_law_sort"] (aU QY):=bB
def uR:aY ["_law_row_here","_law_count","_law_by_here","_law_rule","_law_starts","_law_found","_law_total","_law_k","_law_number_here"] ["_law_row_here","_law_count"] (aU VG):=bB
def vM:aY ["_law_script","_law_start","_law_by_here","_law_most_here","_law_cell","_law_size","_law_sort","_law_rule","_law_starts"] ["_law_script","_law_start","_law_by_here","_law_most_here"] (aU U6):=bB
def Uz:aY ["_law_by_here","_law_ones","_law_twos","_law_found","_law_n"] ["_law_by_here","_law_ones","_law_twos"] (aU Tp):=bB
def Sh:aY ["_law_by_here","_law_ones","_law_found","_law_n"] ["_law_by_here","_law_ones"] (aU V1):=bB
def YV:aY ["_law_way","_law_one","_law_other","_law_cell","_law_number_here"] ["_law_way","_law_one","_law_other","_law_cell"] (aU Ux):=bB
def aea:aY ["_law_way","_law_by_here","_law_ones","_law_twos","_law_cell","_law_number_here"] ["_law_way","_law_by_here","_law_ones","_law_twos","_law_cell"] (aU PN):=bB
def aps:aY ["_law_way","_law_ones","_law_twos","_law_cell"] ["_law_way","_law_ones","_law_twos","_law_cell"] (aU MH):=bB
def Ck:aY ["_law_way","_law_one","_law_other","_law_cell","_law_caught","_law_found","e"] ["_law_way","_law_one","_law_other","_law_cell"] (aU Ow):=bB
def jN:aY ["_law_script","_law_by_here","_law_kept","_law_start","_law_row_here","_law_k","_law_cell","_law_one","_law_ones","_law_other","_law_twos","_law_way","_law_rest","_law_most_here","_law_found","_law_due_here","_law_size"] ["_law_script"] (aU xR):=bB
abbrev alo:=dH [(".0",.local),("number",.local),("over",.globalImplicit),("last",.cell),("prime",.cell)]
abbrev amr:=dH [(".0",.local),("k",.local),("taken",.globalImplicit),("by",.cell),("length",.cell),("rule",.cell)]
abbrev aw3:=dH [(".0",.local),("k",.local),("taken",.globalImplicit),("by",.cell),("length",.cell),("poly",.cell)]
abbrev aj7:=dH [(".0",.local),("i",.local),("k",.cell),("rule",.cell),("sums",.cell)]
abbrev asd:=dH [(".0",.local),("number",.local),("taken",.globalImplicit),("prime",.cell)]
abbrev avr:=dH [(".0",.local),("rest",.local),("nearest",.globalImplicit),("prime",.cell)]
abbrev ahV:=dH [(".0",.local),("k",.local),("joined",.globalImplicit),("before",.cell),("modulus",.cell),("prime",.cell),("seen",.cell)]
abbrev aAr:=dH [(".0",.local),("j",.local),("k",.cell),("poly",.cell),("starts",.cell)]
abbrev arq:=dH [(".0",.local),("number",.local),("taken",.globalImplicit),("by",.cell)]
abbrev awD:=dH [(".0",.local),("number",.local),("taken",.globalImplicit),("by",.cell)]
abbrev auk:=dH [(".0",.local),("i",.local),("n",.cell),("ours",.cell),("theirs",.cell)]
abbrev aiL:=dH [(".0",.local),("n",.local),("ours",.cell),("pair_place",.cell),("theirs",.cell)]
abbrev aqD:=dH [(".0",.local),("k",.local),("our_sums",.cell),("their_sums",.cell)]
abbrev ajg:=dH [(".0",.local),("start",.local),("number",.cell)]
abbrev akV:=dH [(".0",.local),("n",.local),("sum",.globalImplicit),("found",.cell)]
abbrev an7:=dH [(".0",.local),("k",.local),("step",.cell),("sums",.cell)]
abbrev auQ:=dH [(".0",.local),("k",.local),("found",.cell),("start",.cell),("step",.cell)]
abbrev axc:=dH [(".0",.local),("number",.local),("taken",.globalImplicit),("by",.cell)]
abbrev ajE:=dH [(".0",.local),("number",.local),("taken",.globalImplicit),("by",.cell)]
abbrev arW:=dH [(".0",.local),("k",.local),("factor",.cell),("head",.cell),("line",.cell),("pivot",.cell)]
abbrev aAz:=dH [(".0",.local),("number",.local),("last",.cell)]
abbrev apP:=dH [(".0",.local),("number",.local),("taken",.globalImplicit),("by",.cell),("share",.cell)]
abbrev aun:=dH [(".0",.local),("top",.local),("over",.globalImplicit),("bottom",.cell),("by",.cell)]
abbrev auX:=dH [(".0",.local),("top",.local),("divisor",.cell)]
abbrev arO:=dH [(".0",.local),("k",.local),("heads",.cell)]
abbrev arJ:=dH [(".0",.local),("i",.local),("line_taken",.globalImplicit),("by",.cell),("table",.cell),("wished",.cell)]
abbrev aob:=dH [(".0",.local),("line",.local),("wide",.cell)]
abbrev an4:=dH [(".0",.local),("k",.local),("known",.cell),("n",.cell)]
abbrev ais:=dH [(".0",.local),("_law_k",.local),("_law_number",.globalImplicit),("_law_mixed",.globalImplicit),("_law_cell_at",.globalImplicit),("_law_by_here",.cell),("_law_script",.cell),("_law_sort",.cell),("_law_start",.cell)]
abbrev arH:=dH [(".0",.local),("_law_k",.local),("_law_number",.globalImplicit),("_law_mixed",.globalImplicit),("_law_cell_at",.globalImplicit),("_law_by_here",.cell),("_law_script",.cell),("_law_sort",.cell),("_law_start",.cell)]
abbrev ajC:=dH [(".0",.local),("_law_k",.local),("_law_number_here",.local),("_law_mixed",.globalImplicit),("_law_cell",.cell)]
abbrev akT:=dH [(".0",.local),("_law_k",.local),("_law_n",.cell),("_law_ones",.cell),("_law_twos",.cell)]
abbrev apA:=dH [(".0",.local),("_law_k",.local),("_law_taken",.globalImplicit),("_law_number_here",.cell),("_law_one",.cell)]
abbrev aiG:=dH [(".0",.local),("_law_a",.local),("_law_b",.local),("_law_taken",.globalImplicit),("_law_by_here",.cell)]
abbrev ari:=dH [(".0",.local),("_law_a",.local),("_law_b",.local),("_law_taken",.globalImplicit),("_law_by_here",.cell)]
abbrev azq:=dH [(".0",.local),("_law_a",.local),("_law_taken",.globalImplicit),("_law_by_here",.cell),("_law_number_here",.cell)]
abbrev ahT:=dH [(".0",.local),("_law_k",.local),("_law_taken",.globalImplicit),("_law_by_here",.cell),("_law_number_here",.cell)]
structure Bt(mg:Str->Option Value):Prop where
 Oq:mg "abs" = none
 akv:mg "any" = none
 Zz:mg "enumerate" = none
 acV:mg "isinstance" = none
 bV:mg "len" = none
 yJ:mg "list" = none
 arx:mg "max" = none
 Yr:mg "min" = none
 dG:mg "range" = none
 Bp:mg "sum" = none
 pU:mg "tuple" = none
 aeN:mg "zip" = none
 Vw:∃t,mg "BELOW_THE_PRIMES" = some (.int 1000000 t)
 Qf:∃t,mg "FARTHEST" = some (.int 300 t)
 RG:∃t,mg "FARTHEST_START" = some (.int 100 t)
 PJ:∃t,mg "LONGEST" = some (.int 12 t)
 Lz:∃t,mg "WIDEST_STEP" = some (.int 10 t)
structure Ms(K:aL)(mg:Str->Option Value)(base:Heap)(rB bD:Addr):Prop where
 aAg:mg "RuleError" = some (.ref rB)
 asB:mg "TooLong" = some (.ref bD)
 aj2:R4 mg base "TooLong" bD
 ake:J9 base bD rB
 aif:vQ K bD
 aby:sH K (.ref bD) (.ref rB)=some true
 MP:sH K (.ref bD) (.ref bD)=some true
 abd:sH K (.ref bD) (.type "ValueError")=some true
abbrev M6:Nat:=18
section
variable {A B C D E F G H I J K L M N O:Type}
inductive Ex2(p:A->B->Prop):Prop
 |mk (a b) (z:p a b):Ex2 p
inductive yu(p:A->B->C->Prop):Prop
 |mk (a b c) (z:p a b c):yu p
inductive W8(p:A->B->C->D->Prop):Prop
 |mk (a b c d) (z:p a b c d):W8 p
inductive CW(p:A->B->C->D->E->Prop):Prop
 |mk (a b c d e) (z:p a b c d e):CW p
inductive Ex7(p:A->B->C->D->E->F->G->Prop):Prop
 |mk (a b c d e f g) (z:p a b c d e f g):Ex7 p
inductive Ex8(p:A->B->C->D->E->F->G->H->Prop):Prop
 |mk (a b c d e f g h) (z:p a b c d e f g h):Ex8 p
inductive Ex9(p:A->B->C->D->E->F->G->H->I->Prop):Prop
 |mk (a b c d e f g h i) (z:p a b c d e f g h i):Ex9 p
inductive MD(p:A->B->C->D->E->F->G->H->I->J->K->L->M->Prop):Prop
 |mk (a b c d e f g h i j k l m) (z:p a b c d e f g h i j k l m):MD p
inductive agq(p:A->B->C->D->E->F->G->H->I->J->K->L->M->N->O->Prop):Prop
 |mk (a b c d e f g h i j k l m n o) (z:p a b c d e f g h i j k l m n o):agq p
end
section
variable {X:Cx}{r:Rw}{a:Addr}{b x y:Int}{pos:Pos}{k p e m n i l u s N c Z w d st z m1 m2:Nat}{ns xs L P sums starts s1 R ms:List Int}{v:V}{H H' H1:Hp}{ix:List (Option Nat)}{te:TE}{σ:St}{Q:VK}{K:aL}{g:Bool->Bool}{J:It}{f F:Nat->Int}{D:Ends}
inductive Zy(a b c:Prop):Prop
 |mk:a->b->c->Zy a b c
inductive Hr(a b c d:Prop):Prop
 |mk:a->b->c->d->Hr a b c d
inductive yw(a b c d e:Prop):Prop
 |mk:a->b->c->d->e->yw a b c d e
inductive za(a b c d e f:Prop):Prop
 |mk:a->b->c->d->e->f->za a b c d e f
inductive Uo(a b c d e f g:Prop):Prop
 |mk:a->b->c->d->e->f->g->Uo a b c d e f g
inductive Hi(a b c d e f g h:Prop):Prop
 |mk:a->b->c->d->e->f->g->h->Hi a b c d e f g h
inductive XR(a b c d e f g h i:Prop):Prop
 |mk:a->b->c->d->e->f->g->h->i->XR a b c d e f g h i
inductive adB(a b c d e f g h i j:Prop):Prop
 |mk:a->b->c->d->e->f->g->h->i->j->adB a b c d e f g h i j
def aN(i:Nat){x:Str}{e:Expr}{te:TE}{pos pos':Pos}(hN:X.N.Nodup)(he:PE X e te)(hi:X.N[i]?=some x:=by rfl)(hx:Loc X.env.scope x:=by exact pO rfl)(hs:swapsWith e (some (.Name x pos')) pos.line X.env=pure false:=by rfl)
  (hf:X.fn x=true∨X.env.scope.names.lookup x=some .local:=by first|exact .inl rfl|exact .inr rfl|assumption):PS X (.Assign [.Name x pos'] e pos) (Gb te (iQ i)):=fL hN hi hx he hs hf
def bJ(i:Nat){x:Str}{pos:Pos}(hN:X.N.Nodup)(hi:X.N[i]?=some x:=by rfl)(hx:Loc X.env.scope x:=by exact pO rfl)(hf:X.fn x=true∨X.env.scope.names.lookup x=some .local:=by first|exact .inl rfl|exact .inr rfl|assumption):PG X (.Name x pos) (iQ i):=JR hN hi hx hf
def aO(K:aL){a b:Expr}{ta tb:TE}{pos:Pos}(ha:PE X a ta)(hb:PE X b tb)(hK:X.K=K:=by rfl)(hs:Xu b:=by exactλ_ _=>rfl):PE X (.Subscript a b pos) (yg (Iz K) ta tb):=atP (xix K hK) ha hb hs
def pad(K:aL){a b:Expr}{ta tb:TE}{pos:Pos}(ha:PE X a ta)(hb:PE X b tb)(hK:X.K=K:=by rfl):PE X (.BinOp a .Add b pos) (yg (Jl K) ta tb):=aF (ajr K hK) ha hb
def bY(K:aL)(hm:X.mg "len" = none){e:Expr}{es:List Expr}{t:TA}{p pos:Pos}(ha:PA X (e::es) t)(hg:Gl X "len" := by rfl)(hK:X.K=K:=by rfl)
  (he:starEach (e::es) X.env=(false,eval e X.env)::starEach es X.env:=by rfl) (hpl:(backTo pos (starEach es X.env)).any (·.1)=false:=by rfl):PE X (.Call (.Name "len" p) (e::es) [] pos) (VR (Tq K) t):=
 lu (apq K hK) hg hm boot_len ha ∅ ∅ he hpl
def bI{op:CmpOp}{r:R2}{a b:Expr}{ta tb:TE}(ho:cZ X (compareOp op) r)(ha:PE X a ta)(hb:PE X b tb)(hm:behindInMarks op b=false:=by exact Ku _):PT X (.Compare a [op] [b] pos) (aaU (yg r ta tb)):=YB ho ha hb hm
abbrev cH(x:Str)(k:Nat)(ps:List Str)(sp:Sp)(P w K mg base):=fM P w K mg base x k ps sp
def aG{x:Str}{k':Nat}{ps:List Str}{sp:Sp}{p:Pos}{e:Expr}{es:List Expr}{t:TA}(C:fM X.prog X.w X.K X.mg X.base x k ps sp)(hr:dh k' X.A)(ha:PA X (e::es) t)(hg:Gl X x:=by rfl)
  (hk:k<=k':=by decide) (hd:(x==("__debug__" : Str))=false:=by decide)
  (he:starEach (e::es) X.env=(false,eval e X.env)::starEach es X.env:=by rfl) (hpl:(backTo pos (starEach es X.env)).any (·.1)=false:=by rfl):PE X (.Call (.Name x p) (e::es) [] pos) (GY sp [] E0 t):=aiF C hr hg ha hk hd he hpl
def cellAt(ns:List Int)(k:Int):Int:=if k<(ns.length:Int)then ns.getD k.toNat 0 else 0
def iK(a:Int){b:Int}(h:0<b):0<=a%b:=oM _ ⋯
def je(a:Int){b:Int}(h:0<b):a%b<b:=oH _ h
def dN{k:Int}(h0:0<=k)(h1:k<(ns.length:Int)):jX (ns.map V.int) k=some (.int (ns.getD k.toNat 0)):=by
 have e:k=((k.toNat:Nat):Int):=⋯;have hk:k.toNat<ns.length:=⋯
 conv=>lhs;rw[e]
 exact XH (by rw[List.getElem?_map,List.getElem?_eq_getElem hk,List.getD_eq_getElem?_getD,List.getElem?_eq_getElem hk]<;>rfl)
def qx{α:Type}{xs:List α}{k:Int}{v:α}(j:Nat)(e:k=(j:Int))(h:xs[j]?=some v):jX xs k=some v:=by rw[e];exact XH h
def dec_true{p:Prop}[Decidable p](c:decide p=true):p:=of_decide_eq_true c
def dec_false{p:Prop}[Decidable p](c:¬decide p=true):¬p:=of_decide_eq_false (ael.mpr c)
def fG(b x:Int):Prop:=b=0∨(0<=x/\x<b)
structure Rw where
 b:Int
 rule:List Int
 starts:List Int
structure fB(r:Rw):Prop where
 len:r.rule.length=r.starts.length
 short:r.rule.length<=24
 lU:0<=r.b
 vd:r.b<1000
 wU:∀x∈r.rule,fG r.b x
 Ax:∀x∈r.starts,fG r.b x
 Ho:∀x∈r.rule,Rm.Bd 60000 x
 Et:∀x∈r.starts,Rm.Bd 10000 x
def Rw.row(r:Rw)(n:Nat):List Int:=Rm.row r.b r.rule r.starts n
def Rw.at(r:Rw)(n:Nat):Int:=Rm.at_ r.b r.rule r.starts n
def fB.bd(h:fB r)(n:Nat)(hn:n<=1000):Rm.Bd 61000000 (r.at n):=by
 have q:=Rm.aiZ (b:=r.b) (rule:=r.rule) (starts:=r.starts) (a:=60000) (c:=10000) h.len h.lU ((Rm.Bd.of (n:=10) (by have:=h.lU;lia) (by have:=h.vd;lia)).mono ∅) h.Ho h.Et n;refine q.mono ?_;have h1:=h.short;have h2:n*(60000+r.rule.length)<=1000*60024:=iH hn ⋯;lia
def fB.ahe(h:fB r)(n:Nat)(hn:n<=1000):∀x∈r.row n,Rm.Bd 61000000 x:=by
 intro x hx;have e:r.row n=(d7 n).map r.at:=Rm.V4 ..;rw[e]at hx;obtain⟨i,hi,rfl⟩:=fQ.mp hx;exact h.bd i (by have:=gF.mp hi;lia)
theorem Rw.mH(r:Rw)(n:Nat):(r.row n).length=n:=Rm.mH ..
def lY(h:Rm.Bd m x)(h':Rm.Bd n y)(hn:m+n<=134217728):IntMulOk x y:=
 IntMulOk.of_le (intBits_le_iff.mpr h) (intBits_le_iff.mpr h') hn
def dI(H:Hp)(v:V)(r:Rw):Prop:=
 yu λa p q=>Hr (v = .ref a) (H a=some (.tup [.int r.b,.ref p,.ref q])) (H p=some (.tup (r.rule.map V.int))) (H q=some (.tup (r.starts.map V.int)))
def dI.same(h:dI H v r)(g:Same H H'):dI H' v r:=by
 obtain⟨a,p,q,e,h1,h2,h3⟩:=h;exact⟨a,p,q,e,g _ _ h1,g _ _ h2,g _ _ h3⟩
def Lq(xs:List Int)(x:Int):(xs++[x]).map V.int=xs.map V.int++[.int x]:=by rw[jo];rfl
def Told(H:Hp)(Q:VK)(xs:List V):Prop:=∀r H',Same H H'->H r=none->H' r=some (.lst xs)->Q (.ref r) H'
inductive au2(K:aL)(vs:List V)(H:Hp)(Q:VK)(E:XK):Prop|mk (a:Addr) (ns:List Int) (bN:vs=[.ref a]) (bQ:aA K H a (ns.map V.int)) (cA:ns.length<=63) (cL:∀H',Q (.bl true) H')
def Mv(K:aL):Sp:=au2 K
def yK(xs:List V)(k:Nat):gC xs none (some (k:Int))=xs.take k:=by
 unfold gC;rw[HT.rP,HT.tM,Nx,nO,List.take_eq_take_iff];lia
def Xc(xs:List V){k:Nat}(h:k<=xs.length):gC xs (some (k:Int)) none=xs.drop k:=by
 unfold gC;rw[HT.rP,HT.tM,Cj h,yM (by rw[yC];lia)]
def wD(H:Hp)(Q:VK)(ns:List Int):Prop:=∀p H',Same H H'->H' p=some (.tup (ns.map V.int))->Q (.ref p) H'
def UO(h:0<n)(hn:n<=xs.length):xs.take n=xs.take (n-1)++[xs.getD (n-1) 0]:=by
 obtain⟨m,rfl⟩:∃m,n=m+1:=⟨n-1,⋯⟩;rw[fu,uP,List.getElem?_eq_getElem ⋯,List.getD_eq_getElem?_getD,List.getElem?_eq_getElem ⋯];rfl
def axl(h:0<n)(hn:n<=xs.length)(ht:Pm.trim (xs.take n)=Pm.trim xs)(h0:xs.getD (n-1) 0=0):Pm.trim (xs.take (n-1))=Pm.trim xs:=by
 rw[UO h hn,h0,Pm.aeY]at ht;exact ht
def Yv(hn:n<=xs.length)(ht:Pm.trim (xs.take n)=Pm.trim xs)(h0:n=0∨xs.getD (n-1) 0≠0):xs.take n=Pm.trim xs:=by
 rcases h0 with h0|h0
 .subst h0;rw[<-ht];rfl
 .by_cases hz:n=0
  .subst hz;rw[<-ht];rfl
  .rw[<-ht,UO ⋯ hn,Pm.Ol _ h0]
def uz{j:Nat}{i:Int}(e:i=(j:Int))(h:j<n):qO n i=some j:=by
 subst e;unfold qO;rw[if_pos ⋯,if_pos ⋯,cM]
def Bu(L:List Int)(j:Nat)(x:Int):(L.map V.int).set j (.int x)=(L.set j x).map V.int:=by rw[List.map_set]
def Bx(n:Nat):(kI n [V.int 0]).flatten=(Pm.aq n λ_=>0).map V.int:=by
 induction n with
 |zero=>rfl
 |succ n ih=>
  rw[Pm.Ef,jo,<-ih,List.replicate_succ',List.flatten_append];rfl
def rT(hz:n<=1000){rest:St}(hst:cst ix σ=none::rest)(f:Nat->Int)
  (he:∀H' k,Same H1 H'->k<n->∀kk:VK,kk (.int (f k)) H'->te (some (.int (0+(k:Int)))::rest) H' kk)
  (hQ:∀D,H1 D=none->Q (.ref D) (upd H1 D (.lst ((Pm.aq n f).map V.int)))):mD ix (iQ 0) oF te σ Q (pY 0 n) H1:=by
 refine Ag DC (by rw[aK,pK];exact fj (dW hz)) hst (λ_=>true) (λx=>match x with | .int k=> .int (f k.toNat)|_=> .non) ?_ ?_ ?_
 .intro H2 x g2 hx k hk;exact hk
 .intro H2 x g2 hx _ k hk;obtain⟨j,hj,rfl⟩:=fQ.mp hx;have e1:(0+(j:Int)).toNat=j:=⋯;refine he H2 j g2 (gF.mp hj) k ?_;have hk':k (V.int (f (0+(j:Int)).toNat)) H2:=hk
  rwa [e1]at hk'
 .intro D hD;have el:((((d7 n).map λi=>V.int (0+(i:Nat))).filter λ_=>true).map λx=>match x with | .int k=>V.int (f k.toNat)|_=>V.non)=(Pm.aq n f).map V.int:=by
   rw[D4.mpr (by simp),gh,Pm.aq,gh];refine uE λk _=>?_;show V.int (f (0+(k:Int)).toNat)=V.int (f k);rw[(⋯:(0+(k:Int)).toNat=k)]
  rw[el];exact hQ D hD
def akq{tc:TT}(hz:n<=1000){rest:St}(hst:cst ix σ=none::rest)(p:Nat->Bool)(f:Nat->Int)
  (ht:∀H' k,Same H1 H'->k<n->∀kk:Bool->Hp->Prop,kk (p k) H'->tc (some (.int (0+(k:Int)))::rest) H' kk)
  (he:∀H' k,Same H1 H'->k<n->p k=true->∀kk:VK,kk (.int (f k)) H'->te (some (.int (0+(k:Int)))::rest) H' kk)
  (hQ:∀D,H1 D=none->Q (.ref D) (upd H1 D (.lst ((((d7 n).filter p).map f).map V.int)))):mD ix (iQ 0) tc te σ Q (pY 0 n) H1:=by
 refine Ag DC (by rw[aK,pK];exact fj (dW hz)) hst (λx=>match x with | .int k=>p k.toNat|_=>false) (λx=>match x with | .int k=> .int (f k.toNat)|_=> .non) ?_ ?_ ?_
 .intro H2 x g2 hx k hk;obtain⟨j,hj,rfl⟩:=fQ.mp hx;have e1:(0+(j:Int)).toNat=j:=⋯;refine ht H2 j g2 (gF.mp hj) k ?_;have hk':k (p (0+(j:Int)).toNat) H2:=hk
  rwa [e1]at hk'
 .intro H2 x g2 hx hp k hk;obtain⟨j,hj,rfl⟩:=fQ.mp hx;have e1:(0+(j:Int)).toNat=j:=⋯;have hp':p (0+(j:Int)).toNat=true:=hp;rw[e1]at hp';refine he H2 j g2 (gF.mp hj) hp' k ?_;have hk':k (V.int (f (0+(j:Int)).toNat)) H2:=hk
  rwa [e1]at hk'
 .intro D hD;have el:((((d7 n).map λi=>V.int (0+(i:Nat))).filter λx=>match x with | .int k=>p k.toNat|_=>false).map λx=>match x with | .int k=>V.int (f k.toNat)|_=>V.non)=(((d7 n).filter p).map f).map V.int:=by
   rw[List.filter_map,gh,gh];have e2:((λx=>match x with|V.int k=>p k.toNat|_=>false)∘λ(i:Nat)=>V.int (0+(i:Nat)))=p:=by
    funext i
    show p (0+(i:Int)).toNat=p i;rw[(⋯:(0+(i:Int)).toNat=i)]
   rw[e2];refine uE λk _=>?_;show V.int (f (0+(k:Int)).toNat)=V.int (f k);rw[(⋯:(0+(k:Int)).toNat=k)]
  rw[el];exact hQ D hD
def Qd(hA:H1 a=some (.tup (xs.map V.int)))(hz:xs.length<=1000){rest:St}(hst:cst ix σ=none::rest)(f:Int->Int)
  (he:∀H' x,Same H1 H'->x∈xs->∀kk:VK,kk (.int (f x)) H'->te (some (.int x)::rest) H' kk)
  (hQ:∀D,H1 D=none->Q (.ref D) (upd H1 D (.lst ((xs.map f).map V.int)))):mD ix (iQ 0) oF te σ Q (yV K a) H1:=by
 refine Ag (MS (aB.of hA)) (by rw[aK];exact fj (dW hz)) hst (λ_=>true) (λx=>match x with | .int k=> .int (f k)|_=> .non) ?_ ?_ ?_
 .intro H2 x g2 hx k hk;exact hk
 .intro H2 x g2 hx _ k hk;obtain⟨y,hy,rfl⟩:=fQ.mp hx;exact he H2 y g2 hy k hk
 .intro D hD;have el:(((xs.map V.int).filter λ_=>true).map λx=>match x with | .int k=>V.int (f k)|_=>V.non)=(xs.map f).map V.int:=by
   rw[D4.mpr (by simp),gh,gh];rfl
  rw[el];exact hQ D hD
def wV(hA:H1 a=some (.lst (xs.map V.int)))(hz:xs.length<=1000){rest:St}(hst:cst ix σ=none::rest)(f:Int->Int)
  (he:∀H' x,Same H1 H'->x∈xs->∀kk:VK,kk (.int (f x)) H'->te (some (.int x)::rest) H' kk)
  (hQ:∀D,H1 D=none->Q (.ref D) (upd H1 D (.lst ((xs.map f).map V.int)))):mD ix (iQ 0) oF te σ Q (BL K a) H1:=by
 refine Ag (Jf (aA.of hA)) (by rw[aK];exact fj (dW hz)) hst (λ_=>true) (λx=>match x with | .int k=> .int (f k)|_=> .non) ?_ ?_ ?_
 .intro H2 x g2 hx k hk;exact hk
 .intro H2 x g2 hx _ k hk;obtain⟨y,hy,rfl⟩:=fQ.mp hx;exact he H2 y g2 hy k hk
 .intro D hD;have el:(((xs.map V.int).filter λ_=>true).map λx=>match x with | .int k=>V.int (f k)|_=>V.non)=(xs.map f).map V.int:=by
   rw[D4.mpr (by simp),gh,gh];rfl
  rw[el];exact hQ D hD
def yX{p:List Int}{x:V}(h:(p.map V.int)[i]?=some x):x = .int (Pm.co p i)/\i<p.length:=by
 by_cases hi:i<p.length
 .rw[List.getElem?_map,List.getElem?_eq_getElem hi]at h;cases h;refine⟨?_,hi⟩;show V.int _=V.int (p.getD i 0);rw[List.getD_eq_getElem?_getD,List.getElem?_eq_getElem hi];rfl
 .rw[List.getElem?_eq_none (by rw[aK];lia)]at h;cases h
def vf:∀P∈Om.mj,2<=P/\P<1000:=by decide +kernel
inductive cC(H:Hp)(ex:List Addr):List V->List (List Int)->Prop
 |nil:cC H ex [] []
 |cons {t:Addr} {p:List Int} {xs:List V} {ps:List (List Int)}:t∉ex->H t=some (.lst (p.map V.int))->cC H ex xs ps->cC H ex (.ref t::xs) (p::ps)
def Keep(ll:Addr)(H H':Hp):Prop:=∀a u,a≠ll->H a=some u->H' a=some u
def Keep.refl(ll:Addr)(H:Hp):Keep ll H H:=λ_ _ _ h=>h
def Keep.trans{ll:Addr}{H2:Hp}(h:Keep ll H H')(h':Keep ll H' H2):Keep ll H H2:=λa u n e=>h' a u n (h a u n e)
def Keep.same{ll:Addr}(g:Same H H'):Keep ll H H':=λa u _ e=>g a u e
theorem Keep.upd(ll:Addr)(H:Hp)(o:HO):Keep ll H (L2.upd H ll o):=λa u n e=>by rw[cW n];exact e
theorem cC.keep{H H':Hp}{ll:Addr}{ex:List Addr}(hm:ll∈ex)(g:Keep ll H H'):∀{xs:List V} {ps:List (List Int)},cC H ex xs ps->cC H' ex xs ps
 |_,_,.nil=> .nil
 |_,_,.cons n h r=> .cons n (g _ _ (λz=>n (z▸hm)) h) (cC.keep hm g r)
theorem cC.same{H H':Hp}{ex:List Addr}(g:Same H H'):∀{xs:List V} {ps:List (List Int)},cC H ex xs ps->cC H' ex xs ps
 |_,_,.nil=> .nil
 |_,_,.cons n h r=> .cons n (g _ _ h) (cC.same g r)
theorem cC.more{H:Hp}{ex:List Addr}{a:Addr}(ha:H a=none):∀{xs:List V} {ps:List (List Int)},cC H ex xs ps->cC H (a::ex) xs ps
 |_,_,.nil=> .nil
 |_,_,.cons n h r=> .cons (λz=>by
   rcases fR.mp z with e|e
   .rw[e,ha]at h;cases h
   .exact n e) h (cC.more ha r)
theorem cC.less{H:Hp}{ex ex':List Addr}(hs:∀a∈ex',a∈ex):∀{xs:List V} {ps:List (List Int)},cC H ex xs ps->cC H ex' xs ps
 |_,_,.nil=> .nil
 |_,_,.cons n h r=> .cons (λz=>n (hs _ z)) h (cC.less hs r)
theorem cC.len{H:Hp}{ex:List Addr}:∀{xs:List V} {ps:List (List Int)},cC H ex xs ps->xs.length=ps.length
 |_,_,.nil=>rfl
 |_,_,.cons _ _ r=>by rw[qp,qp,cC.len r]
theorem cC.get{H:Hp}{ex:List Addr}:∀{xs:List V} {ps:List (List Int)} {i:Nat},cC H ex xs ps->i<ps.length->∃t,xs[i]?=some (.ref t)/\t∉ex/\H t=some (.lst ((Dm.ln ps i).map V.int))
 |_,_,_,.nil,h=>absurd h (kj _)
 |_,_,0,.cons n h _,_=>⟨_,rfl,n,h⟩
 |_,_,i+1,.cons _ _ r,h=>cC.get (i:=i) r (by simpa using h)
theorem cC.set{H:Hp}{ex:List Addr}{t:Addr}{q:List Int}(hn:t∉ex)(hT:H t=some (.lst (q.map V.int))):∀{xs:List V} {ps:List (List Int)} (i:Nat),cC H ex xs ps->cC H ex (xs.set i (.ref t)) (ps.set i q)
 |_,_,_,.nil=> .nil
 |_,_,0,.cons _ _ r=> .cons hn hT r
 |_,_,i+1,.cons n h r=> .cons n h (cC.set hn hT i r)
theorem cC.append{H:Hp}{ex:List Addr}{t:Addr}{q:List Int}(hn:t∉ex)(hT:H t=some (.lst (q.map V.int))):∀{xs:List V} {ps:List (List Int)},cC H ex xs ps->cC H ex (xs++[.ref t]) (ps++[q])
 |_,_,.nil=> .cons hn hT .nil
 |_,_,.cons n h r=> .cons n h (cC.append hn hT r)
def Stand(H:Hp)(ex:List Addr):Prop:=∀a∈ex,∃o,H a=some o
def Stand.fresh{ex:List Addr}{t:Addr}(h:Stand H ex)(ht:H t=none):t∉ex:=λz=>by
 obtain⟨o,e⟩:=h t z;rw[ht]at e;cases e
def Stand.keep{ll:Addr}{ex:List Addr}(h:Stand H ex)(g:Keep ll H H')(hl:∃o,H' ll=some o):Stand H' ex:=λa ha=>by
 by_cases e:a=ll
 .rw[e];exact hl
 .obtain⟨o,q⟩:=h a ha;exact⟨o,g _ _ e q⟩
def yE{L:List (List Int)}(q:List Int)(hi:i<L.length)(k:Nat):Dm.ln (L.set i q) k=if k=i then q else Dm.ln L k:=by
 unfold Dm.ln;rw[List.getD_eq_getElem?_getD,List.getElem?_set,List.getD_eq_getElem?_getD];by_cases e:i=k
 .subst e;simp[hi]
 .rw[if_neg e,if_neg (λz=>e z.symm)]
def fY(b:Int):Prop:=b=0∨∃P:Nat,P∈Om.mj/\b=(P:Int)
def fY.dom(h:fY b):Dm.Dom b:=by
 rcases h with rfl|⟨P,hP,rfl⟩
 .exact Dm.Dom.zero
 .exact Dm.Dom.prime hP (vf P hP).1
def fY.range(h:fY b):0<=b/\b<1000/\b≠1:=by
 rcases h with rfl|⟨P,hP,rfl⟩
 .decide
 .have:=vf P hP;lia
def fY.one{b:Int}(h:fY b):Rm.tk b 1=1:=by
 rcases h with rfl|⟨P,hP,rfl⟩
 .exact Rm.cJ 1
 .have:=vf P hP;rw[Rm.iz ⋯];exact AH ∅ ⋯
inductive axF(vs:List V)(H:Hp)(Q:VK)(E:XK):Prop|mk (t o:Int) (bN:vs=[.int t,.int o]) (bQ:0<=t) (cA:Q (.int (Rm.tk t o)) H)
def X8:Sp:=axF
abbrev jU:=cH "taken" 1 ["by","number"] X8
inductive aua(K:aL)(vs:List V)(H:Hp)(Q:VK)(E:XK):Prop|mk (b:Int) (r s:Addr) (rule before:List Int) (bN:vs=[.int b,.ref r,.ref s]) (bQ:0<=b) (cA:aB K H r (rule.map V.int)) (cL:aA K H s (before.map V.int)) (cT:rule.length<=before.length) (dR:rule.length<=24) (gw:before.length<=1000) (iW:(∀o∈rule,Rm.Bd 60000 o)) (jM:(∀o∈before,Rm.Bd 61000000 o)) (oZ:Q (.int (Rm.tk b (Rm.S rule (λt=>before.getD t 0) before.length rule.length))) H)
def akK(K:aL):Sp:=aua K
abbrev abe(P w K mg base):=fM P w K mg base "next_place" 2 ["by","rule","before"] (akK K)
inductive as4(K:aL)(vs:List V)(H:Hp)(Q:VK)(E:XK):Prop|mk (v:V) (r:Rw) (c:Int) (bN:vs=[v,.int c]) (bQ:dI H v r) (cA:fB r) (cL:0<=c) (cT:c<=900) (dR:Told H Q ((r.row c.toNat).map V.int))
def axT(K:aL):Sp:=as4 K
abbrev EB(P w K mg base):=fM P w K mg base "first_places" 3 ["row","count"] (axT K)
inductive ah3(vs:List V)(H:Hp)(Q:VK)(E:XK):Prop|mk (o:Nat) (bN:vs=[.int o]) (bQ:o<2097152) (cA:∀t:Bool,(t=true↔Om.cG o)->Q (.bl t) H)
def atk:Sp:=ah3
abbrev afs:=cH "is_prime" 1 ["number"] atk
inductive aqK(vs:List V)(H:Hp)(Q:VK)(E:XK):Prop|mk (n q:Nat) (bN:vs=[.int n]) (bQ:Om.cG q) (cA:n<q) (cL:q<2097152) (cT:∀t:Nat,Om.cG t->n<t->t<=q->Q (.int t) H)
def anb:Sp:=aqK
abbrev agS:=cH "prime_above" 2 ["number"] anb
inductive amR(vs:List V)(H:Hp)(Q:VK)(E:XK):Prop|mk (P:Nat) (a:Int) (bN:vs=[.int P,.int a]) (bQ:Om.cG P) (cA:P<2097152) (cL:0<a) (cT:a<(P:Int)) (dR:∀t:Int,0<=t->t<2097152->t%(P:Int)=a^(P-2)%(P:Int)->Q (.int t) H)
def axv:Sp:=amR
def iv0{l:Int}(h:0<=l):(l/2).toNat=l.toNat/2:=⋯
def iv1{l:Int}(h:0<=l):l%2=1↔l.toNat%2=1:=⋯
abbrev XO:=cH "inverse" 2 ["prime","number"] axv
inductive aym(vs:List V)(H:Hp)(Q:VK)(E:XK):Prop|mk (P:Nat) (one other:Int) (bN:vs=[.int P,.int one,.int other]) (bQ:Om.cG P) (cA:P<2097152) (cL:0<other) (cT:other<(P:Int)) (dR:Q (.int (one*other^(P-2)%(P:Int))) H)
def ayN:Sp:=aym
abbrev Du:=cH "over" 3 ["by","one","other"] ayN
inductive asa(K:aL)(vs:List V)(H:Hp)(Q:VK)(E:XK):Prop|mk (l:Addr) (t:List Int) (bN:vs=[.ref l]) (bQ:aA K H l (t.map V.int)) (cA:wD H Q (Pm.trim t))
def asy(K:aL):Sp:=asa K
abbrev Er(P w K mg base):=fM P w K mg base "trimmed" 1 ["numbers"] (asy K)
inductive axE(vs:List V)(H:Hp)(Q:VK)(E:XK):Prop|mk (t:Int) (a c:Addr) (o j:List Int) (bN:vs=[.int t,.ref a,.ref c]) (bQ:0<=t) (cA:H a=some (.tup (o.map V.int))) (cL:H c=some (.tup (j.map V.int))) (cT:o.length<=400) (dR:j.length<=400) (gw:(∀h∈o,Rm.Bd 1000000 h)) (iW:(∀h∈j,Rm.Bd 1000000 h)) (jM:wD H Q (Pm.mul t o j))
def ajz:Sp:=axE
abbrev M8:=cH "times" 2 ["by","one","other"] ajz
def amP(H:Hp)(Q:VK)(b:Int)(P M:List Int):Prop:=∀t x y q r H',Same H H'->H' t=some (.tup [.ref x,.ref y])->H' x=some (.tup (jO V.int q))->H' y=some (.tup (jO V.int r))->Pm.Div b P M q r->
 (∀z∈q,Rm.Bd 5300000 z)->(∀z∈r,Rm.Bd 5300000 z)->q.length<=P.length->Q (.ref t) H'
inductive axX(vs:List V)(H:Hp)(Q:VK)(E:XK):Prop|mk (b:Int) (a c:Addr) (t M:List Int) (bN:vs=[.int b,.ref a,.ref c]) (bQ:0<=b) (cA:b<2097152) (cL:H a=some (.tup (t.map V.int))) (cT:H c=some (.tup (M.map V.int))) (dR:t.length<=40) (gw:M.length<=40) (iW:Pm.Mon M) (jM:(∀o,Rm.tk b (Pm.co t o)=Pm.co t o)) (oZ:(∀j∈t,Rm.Bd 300000 j)) (xG:(∀j∈M,Rm.Bd 124000 j)) (E3:amP H Q b t M)
def azf:Sp:=axX
def aeM(h:∀k,Rm.Bd u (Pm.co L k)):∀x∈Pm.trim L,Rm.Bd u x:=λx hx=>by
 obtain⟨k,hk,e⟩:=kW.mp hx;rw[<-e,<-Pm.jL hk,Pm.qC];exact h k
def max_zero(m n:Nat):(if(m:Int)-((n:Int)-1)>0 then(m:Int)-((n:Int)-1)else 0).toNat=m-(n-1)∨n=0:=by
 by_cases h:n=0
 .exact .inr h
 .left;split<;>lia
def dq0(hn:p-(m-1)=n)(es:n-(i+1)=s)(hi:i<n)(hl:l=p)(hm:0<m):s+m<=l:=⋯
def dq3(hn:p-(m-1)=n)(es:n-(i+1)=s)(hi:i<n)(hl:l=p-(m-1)):s<l:=⋯
def dq4(es:n-(i+1)=s)(hi:i<n):(n:Int)-1-(i:Int)=(s:Int):=⋯
def dq1(h:0<m)(hl:s+m<=l):((s:Int)+((m:Int)-1)).toNat=s+(m-1)/\0<=(s:Int)+((m:Int)-1)/\(s:Int)+((m:Int)-1)<(l:Int):=⋯
def dq2{t:Nat}(h:t<m)(hl:s+m<=l):((s:Int)+(0+(t:Int))).toNat=s+t/\0<=(s:Int)+(0+(t:Int))/\(s:Int)+(0+(t:Int))<(l:Int)/\0<=0+(t:Int)/\0+(t:Int)<(m:Int)/\s+t<l/\(0+(t:Int)).toNat=t/\(s:Int)+(0+(t:Int))=((s+t:Nat):Int):=⋯
abbrev Iu:=cH "divided" 2 ["by","one","other"] azf
def ajT(H:Hp)(Q:VK)(b:Int)(p:List Int):Prop:=∀t m H',Same H H'->H' t=some (.tup (jO V.int m))->Pm.u9 b p m->Q (.ref t) H'
inductive apk(vs:List V)(H:Hp)(Q:VK)(E:XK):Prop|mk (P:Nat) (a:Addr) (p:List Int) (bN:vs=[.int P,.ref a]) (bQ:Om.cG P) (cA:P<2097152) (cL:H a=some (.tup (p.map V.int))) (cT:p.length<=300) (dR:Pm.Py P p) (gw:ajT H Q P p)
def au8:Sp:=apk
abbrev Xv:=cH "monic" 4 ["prime","poly"] au8
def aaV(H:Hp)(Q:VK)(b:Int)(p r:List Int):Prop:=∀t g H',Same H H'->H' t=some (.tup (jO V.int g))->Pm.Gcd b p r g->g.length<=max p.length r.length->Q (.ref t) H'
inductive arj(vs:List V)(H:Hp)(Q:VK)(E:XK):Prop|mk (P:Nat) (a c:Addr) (p r:List Int) (bN:vs=[.int P,.ref a,.ref c]) (bQ:Om.cG P) (cA:P<2097152) (cL:H a=some (.tup (p.map V.int))) (cT:H c=some (.tup (r.map V.int))) (dR:p.length<=40) (gw:r.length<=40) (iW:Pm.Py P p) (jM:Pm.Py P r) (oZ:(r=[]->p≠[])) (xG:aaV H Q P p r)
def azy:Sp:=arj
def QL{P:Nat}(h0:2<=P)(h:P<2097152){p:List Int}(hp:Pm.Py P p):∀x∈p,Rm.Bd 124000 x:=λx hx=>by
 have:=hp.nu x hx;rw[Rm.iz ⋯]at this;rw[<-this];exact Rm.Bd.emod ⋯ ((Rm.Bd.of (n:=21) ⋯ ⋯).mono ∅)
abbrev RM:=cH "greatest" 5 ["by","one","other"] azy
inductive avE(vs:List V)(H:Hp)(Q:VK)(E:XK):Prop|mk (M t:Int) (bN:vs=[.int M,.int t]) (bQ:0<M) (cA:Q (.int (Pm.nr M t)) H)
def avO:Sp:=avE
abbrev Q5:=cH "nearest" 1 ["modulus","number"] avO
inductive ajX(vs:List V)(H:Hp)(Q:VK)(E:XK):Prop|mk (M t:Int) (o:Nat) (j:Int) (bN:vs=[.int M,.int t,.int o,.int j]) (bQ:Om.cG o) (cA:o<2097152) (cL:0<M) (cT:¬(o:Int)∣M) (dR:Q (.int (Pm.jn M t o j)) H)
def aoc:Sp:=ajX
abbrev abD:=cH "joined" 4 ["modulus","number","prime","rest"] aoc
inductive aAG(vs:List V)(H:Hp)(Q:VK)(E:XK):Prop|mk (t:Nat) (a:Addr) (P:List Int) (bN:vs=[.int t,.ref a]) (bQ:0<t) (cA:H a=some (.tup (P.map V.int))) (cL:P.length<=100) (cT:wD H Q (Pm.trim (P.map (Rm.tk t))))
def ams:Sp:=aAG
abbrev adI:=cH "taken_poly" 2 ["prime","poly"] ams
inductive avC(vs:List V)(H:Hp)(Q:VK)(E:XK):Prop|mk (m a:Addr) (M t:List Int) (bN:vs=[.ref m,.ref a]) (bQ:H m=some (.tup (M.map V.int))) (cA:H a=some (.tup (t.map V.int))) (cL:M.length<=40) (cT:t.length<=40) (dR:Pm.Mon M) (gw:(∀j∈M,Rm.Bd 124000 j)) (iW:(∀j∈t,Rm.Bd 300000 j)) (jM:∀o H',Same H H'->(o=true↔Pm.Dv 0 M (Pm.co t))->Q (.bl o) H')
def ape:Sp:=avC
abbrev ac5:=cH "divides" 3 ["monic_one","poly"] ape
inductive ayu(vs:List V)(H:Hp)(Q:VK)(E:XK):Prop|mk (a c:Addr) (P t o:List Int) (N:Int) (U V':Nat) (bN:vs=[.ref a,.ref c]) (bQ:H a=some (.tup (P.map V.int))) (cA:H c=some (.tup (t.map V.int))) (cL:P.length<=40) (cT:t.length<=40) (dR:Pm.Mon P) (gw:(∀h∈P,Rm.Bd 124000 h)) (iW:(∀h∈t,Rm.Bd 300000 h)) (jM:Pm.vX P (Pm.co t) o N) (oZ:Rm.Bd V' N) (xG:(∀j,Rm.Bd U (Pm.co o j))) (E3:V'+U+57<=112100) (OL:wD H Q o)
def ayw:Sp:=ayu
def Q8(p:Nat)(P:List Int)(k:Nat):Rm.tk (p:Int) (Pm.co (Pm.trim (P.map (Rm.tk p))) k)=Rm.tk p (Pm.co P k):=by
 rw[Pm.qC,Pm.jF (Pm.tk0 _),Rm.dO]
def aeD(p:Nat)(P:List Int):Pm.Py p (Pm.trim (P.map (Rm.tk p))):=Pm.Py.of λx hx=>by
 obtain⟨y,_,rfl⟩:=fQ.mp hx;exact Rm.dO ..
def ZL(p:Nat)(P:List Int):(Pm.trim (P.map (Rm.tk p))).length<=P.length:=by
 have:=Pm.yI (P.map (Rm.tk p))
 rwa [aK]at this
def alp(hp:Om.cG p){P:List Int}(hP:Pm.Mon P):Pm.trim (P.map (Rm.tk p))≠[]:=λz=>by
 have:=Q8 p P (P.length-1);rw[z,Pm.gP,hP.one,Pm.U0 hp,Pm.tk0]at this;exact absurd this ∅
def auP{g told:List Int}{N M:Int}{prime bad good:Nat}{ripe:Bool}(I:Pm.lF P g N told M prime ripe bad good)(bP:∀x∈P,Rm.Bd 124000 x)(h:bad+good<=5900):∀x∈told,Rm.Bd 124000 x:=λx hx=>by
 by_cases c:M=1
 .rw[I.first c]at hx;exact bP x hx
 .obtain⟨k,hk,e⟩:=kW.mp hx;have n:=I.near c k;rw[Pm.jL hk,e]at n;unfold Pm.Nr at n;have h1:=I.hi;have h2:(2:Int)^(21*(bad+good))<=2^123900:=by exact_mod_cast uo (n:=2) ∅ (⋯:21*(bad+good)<=123900)
  have h3:M<=2^123900:=abx h1 h2;have hpos:=I.pos;refine(show Rm.Bd 123900 x from ?_).mono ∅;generalize hB:(2:Int)^123900=B at h3;have h4:-B<x/\x<B:=⋯;unfold Rm.Bd;have h5:(x.natAbs:Int)<((2^123900:Nat):Int):=by
   rw[Zi];show(x.natAbs:Int)<(2:Int)^123900;rw[hB];lia
  exact_mod_cast h5
def WZ(H:Hp)(a c:Addr)(P' g:List Int)(N:Int)(m:Nat)(σ':St)(H':Hp):Prop:=Ex9 λ(o6 o7:Option V) (tt:Addr) (told:List Int) (M:Int) (prime:Nat) (ripe:Bool) (bad good:Nat)=>Hi (m=6000-(bad+good)) (σ'=[some (.ref a),some (.ref c),some (.ref tt),some (.int M),some (.int (prime:Int)),some (.bl ripe),o6,o7]) (Same H H') (H' tt=some (.tup (told.map V.int))) (Pm.lF P' g N told M prime ripe bad good) (Om.Many (6000-(bad+good)) prime) (1000000<=prime) (bad+good<=5900)
abbrev acU:=cH "whole_greatest" 6 ["one","other"] ayw
inductive ap2(vs:List V)(H:Hp)(Q:VK)(E:XK):Prop|mk (t:Int) (a:Addr) (o:List Int) (bN:vs=[.int t,.ref a]) (bQ:0<=t) (cA:H a=some (.tup (o.map V.int))) (cL:o.length<=100) (cT:wD H Q (Pm.aW t o))
def alR:Sp:=ap2
abbrev Hl:=cH "of_rule" 2 ["by","rule"] alR
inductive axx(vs:List V)(H:Hp)(Q:VK)(E:XK):Prop|mk (t:Int) (a:Addr) (o:List Int) (bN:vs=[.int t,.ref a]) (bQ:0<=t) (cA:H a=some (.tup (o.map V.int))) (cL:0<o.length) (cT:o.length<=100) (dR:wD H Q (Pm.eE t o))
def aAC:Sp:=axx
abbrev JQ:=cH "rule_of" 2 ["by","poly"] aAC
def aaZ{lo:Int}(hz:n<=1000){rest:St}(hst:cst ix σ=none::rest)(f:Nat->Int)
  (he:∀H' k,Same H1 H'->k<n->∀kk:VK,kk (.int (f k)) H'->te (some (.int (lo+(k:Int)))::rest) H' kk)
  (hQ:∀D,H1 D=none->Q (.ref D) (upd H1 D (.lst ((Pm.aq n f).map V.int)))):mD ix (iQ 0) oF te σ Q (pY lo n) H1:=by
 refine Ag DC (by rw[aK,pK];exact fj (dW hz)) hst (λ_=>true) (λx=>match x with | .int k=> .int (f (k-lo).toNat)|_=> .non) ?_ ?_ ?_
 .intro H2 x g2 hx k hk;exact hk
 .intro H2 x g2 hx _ k hk;obtain⟨j,hj,rfl⟩:=fQ.mp hx;have e1:(lo+(j:Int)-lo).toNat=j:=⋯;refine he H2 j g2 (gF.mp hj) k ?_;have hk':k (V.int (f (lo+(j:Int)-lo).toNat)) H2:=hk
  rwa [e1]at hk'
 .intro D hD;have el:((((d7 n).map λi=>V.int (lo+(i:Nat))).filter λ_=>true).map λx=>match x with | .int k=>V.int (f (k-lo).toNat)|_=>V.non)=(Pm.aq n f).map V.int:=by
   rw[D4.mpr (by simp),gh,Pm.aq,gh];refine uE λk _=>?_;show V.int (f (lo+(k:Int)-lo).toNat)=V.int (f k);rw[(⋯:(lo+(k:Int)-lo).toNat=k)]
  rw[el];exact hQ D hD
def ajh:(Om.mj.all λp=>(d7 32).all λd=>decide (d<2)||decide (p<d*d)||decide (p%d≠0))=true:=by decide +kernel
def Q6{P:Nat}(h:P∈Om.mj):Om.cG P:=by
 have hr:=vf P h;refine Om.MG hr.1 λd hd hdd hdv=>?_;have h32:d<32:=by
  by_cases c:d<32
  .exact c
  .have:32*32<=d*d:=iH ⋯ ⋯;lia
 have:=uw.mp (uw.mp ajh P h) d (gF.mpr h32);simp only[DL,decide_eq_true_eq]at this;have:=Nat.mod_eq_zero_of_dvd hdv;lia
def rJ(r:Rw):List Int:=Pm.trim (Pm.aq r.rule.length λk=>Rm.tk r.b (Pm.tp (Pm.aW r.b r.rule) r.at k))
def Rf(r:Rw)(k:Nat):Pm.co (rJ r) k=Rm.tk r.b (Pm.tp (Pm.aW r.b r.rule) r.at k):=by
 rw[rJ,Pm.qC,Pm.bZ];by_cases c:k<r.rule.length
 .rw[if_pos c]
 .rw[if_neg c,Pm.Cd _ _ k (by rw[Pm.iT];lia),Pm.tk0]
def akl(r:Rw):(rJ r).length<=r.rule.length:=by
 have:=Pm.yI (Pm.aq r.rule.length λk=>Rm.tk r.b (Pm.tp (Pm.aW r.b r.rule) r.at k))
 rwa [Pm.aQ]at this
def fB.E9(ok:fB r):∀x∈Pm.aW r.b r.rule,Rm.Bd 60000 x:=Pm.Nb ok.lU ok.vd ∅ ok.Ho
def ajI(ok:fB r):∀x∈rJ r,Rm.Bd 300000 x:=λx hx=>by
 obtain⟨k,_,rfl⟩:=Pm.gK (Pm.Qn hx);refine Rm.tE ok.lU ((Rm.Bd.of (n:=10) (by have:=ok.lU;lia) (by have:=ok.vd;lia)).mono ∅) ?_;have hs:=ok.short;have hl:=ok.len;unfold Pm.tp;rw[Pm.iT,fu];refine(Pm.yc (c:=70000) _ λi hi=>?_).mono ⋯;refine(Rm.Bd.mul (m:=60000) (n:=10000) (Pm.gk ok.E9 _) ?_).mono ⋯;have e:r.at i=r.starts.getD i 0:=Rm.qe ⋯;rw[e];exact Rm.Bd.getD ok.Et _
inductive ajL(vs:List V)(H:Hp)(Q:VK)(E:XK):Prop|mk (v:V) (t:Rw) (a:Addr) (bN:vs=[v,.ref a]) (bQ:dI H v t) (cA:fB t) (cL:H a=some (.tup ((Pm.aW t.b t.rule).map V.int))) (cT:wD H Q (rJ t))
def aqN:Sp:=ajL
abbrev Xg:=cH "top_of" 2 ["row","poly"] aqN
inductive axw(vs:List V)(H:Hp)(Q:VK)(E:XK):Prop|mk (b:Int) (a c:Addr) (P t:List Int) (bN:vs=[.int b,.ref a,.ref c]) (bQ:H a=some (.tup (P.map V.int))) (cA:H c=some (.tup (t.map V.int))) (cL:P.length<=40) (cT:t.length<=40) (dR:Pm.Mon P) (gw:(∀h∈P,Rm.Bd 124000 h)) (iW:(∀h∈t,Rm.Bd 300000 h)) (jM:((b=0/\∃(o:List Int) (N:Int) (U V':Nat),Pm.vX P (Pm.co t) o N/\Rm.Bd V' N/\(∀j,Rm.Bd U (Pm.co o j))/\V'+U+57<=112100/\wD H Q o)∨
 (∃p:Nat,b=(p:Int)/\Om.cG p/\p<2097152/\Pm.Py p P/\Pm.Py p t/\aaV H Q p P t)))
def apW:Sp:=axw
abbrev ags:=cH "shared_divisor" 7 ["by","one","other"] apW
structure dY(b:Int)(f:Nat->Int)(L:List Int):Prop where
 mon:Pm.Mon L
 nu:∀k,Rm.tk b (Pm.co L k)=Pm.co L k
 kp:Pm.Kp b L f
 all:∀q,Pm.Kp b q f->Pm.Dv b L (Pm.co q)
def Tame(r:Rw):Prop:=r.b=0->∃d ua u:Nat,10<=u/\(∀x∈r.rule,Rm.Bd u x)/\(∃Q0,Pm.Mon Q0/\Pm.Kp 0 Q0 r.at/\Q0.length<=d+1)/\(∀n,n<=2*d->Rm.Bd ua (r.at n))/\d*(ua+d)+1+(u+400)+57<=112100
def fB.kp(ok:fB r):Pm.Kp r.b (Pm.aW r.b r.rule) r.at:=Pm.Kp.aW (Pm.Vb ok.len)
def afY(h:Pm.Mon L)(hn:∀k,Rm.tk b (Pm.co L k)=Pm.co L k):Pm.Py b L:=⟨Pm.E5 (λz=>by have:=h.pos;rw[z]at this;exact absurd this ∅) (by rw[h.one];decide),λx hx=>by
 obtain⟨k,hk,e⟩:=kW.mp hx;have:=hn k
 rwa [Pm.jL hk,e]at this⟩
def Hj(b:Int)(c:List Int)(h1:Rm.tk b 1=1)(k:Nat):Rm.tk b (Pm.co (Pm.aW b c) k)=Pm.co (Pm.aW b c) k:=by
 have h:∀x∈Pm.aW b c,Rm.tk b x=x:=λx hx=>by
  rcases qT.mp hx with hx|hx
  .obtain⟨j,_,e⟩:=Pm.gK hx;rw[e,Rm.dO]
  .rw[oW.mp hx,h1]
 by_cases hk:k<(Pm.aW b c).length
 .exact h _ (Pm.uF hk)
 .rw[Pm.bh ⋯,Pm.tk0]
def anO(hp:Om.cG p){r:Rw}(ok:fB r)(hb:r.b=(p:Int)){g L o:List Int}(hG:Pm.Gcd p (Pm.aW r.b r.rule) (rJ r) g)(D:Pm.Div p (Pm.aW r.b r.rule) g o L):dY r.b r.at o/\o.length<=r.rule.length+1:=by
 have h1:=Pm.U0 hp;have hm:=Pm.uW r.b r.rule;have hd:Pm.Dv p g (Pm.co (Pm.aW r.b r.rule)):=hG.one.to λ_=>rfl;obtain⟨L',hL',hn',hl',e'⟩:=Pm.DY h1 hm hG.mon hd;have D':Pm.Div p (Pm.aW r.b r.rule) g L' []:=⟨afY hL' hn',Pm.Py.nil _,hG.mon.pos,λk=>by rw[Pm.gP,cU];exact(e' k).symm⟩;obtain⟨eo,_⟩:=D.uniq hG.mon D';subst eo;have W:Pm.Ue p (Pm.aW p r.rule) (Pm.tp (Pm.aW p r.rule) r.at) g:=by
  rw[<-hb];refine⟨hG.mon,by rw[hb];rw[hb]at hd;exact hd,?_,?_⟩
  .rw[hb];refine(hG.two.to (q:=rJ r) λ_=>rfl).congr λk=>?_;rw[Rf,hb,Rm.dO]
  .obtain⟨u,v,e⟩:=hG.sum;refine⟨1,Pm.co u,Pm.co v,u.length+v.length,by rw[hb,h1];decide,(Pm.Fs.co u).mono ⋯,(Pm.Fs.co v).mono ⋯,λk=>?_⟩;rw[fP,hb];rw[hb]at e;rw[e k];refine Rm.jk rfl (Pm.iu (λ_ _=>rfl) λi _=>?_);rw[Rf,hb,Rm.dO]
 have ha:∀n,r.rule.length<=n->Rm.tk (p:Int) (r.at n)=Rm.tk p (Rm.S r.rule r.at n r.rule.length):=by
  rw[<-hb];exact Pm.Vb ok.len
 have K:=W.keeps (Dm.Dom.pr hp) ha hL' (by rw[<-hb];rw[<-hb]at e';exact e');refine⟨⟨hL',by rw[hb];exact hn',?_,λq hq=>?_⟩,?_⟩
 .rw[hb];refine(K o).mpr ⟨λk=>if k=0 then 1 else 0,1,λk hk=>if_neg ⋯,λk=>?_⟩;rw[Pm.Ey,if_pos (dD _),fP,nO]
 .rw[hb]at hq ⊢;exact(K q).mp hq
 .have:=hG.mon.pos;rw[Pm.iT]at hl';lia
inductive ain(vs:List V)(H:Hp)(Q:VK)(E:XK):Prop|mk (v:V) (r:Rw) (bN:vs=[v]) (bQ:dI H v r) (cA:fB r) (cL:fY r.b) (cT:Tame r) (dR:∀t o H',Same H H'->H' t=some (.tup (jO V.int o))->dY r.b r.at o->o.length<=r.rule.length+1->Q (.ref t) H')
def at7:Sp:=ain
abbrev adQ:=cH "least_of" 8 ["row"] at7
def aX(r:Rw)(L:List Int):Rw:=⟨r.b,Pm.eE r.b L,r.starts.take (L.length-1)⟩
inductive aAm(vs:List V)(H:Hp)(Q:VK)(E:XK):Prop|mk (v:V) (o:Rw) (bN:vs=[v]) (bQ:dI H v o) (cA:fB o) (cL:fY o.b) (cT:Tame o) (dR:∀v' t H',Same H H'->dI H' v' (aX o t)->dY o.b o.at t->t.length<=o.rule.length+1->Q v' H')
def at6:Sp:=aAm
abbrev wz:=cH "shortest" 9 ["row"] at6
def aw5{k:Int}(j:Nat)(h0:k<0)(e:k+(ns.length:Int)=(j:Int)):jX (ns.map V.int) k=some (.int (ns.getD j 0)):=by
 have hj:j<ns.length:=⋯;unfold jX qO;rw[aK,if_neg ⋯,if_pos ⋯,(⋯:(k+(ns.length:Int)).toNat=j)];show(ns.map V.int)[j]?=_;rw[List.getElem?_map,List.getElem?_eq_getElem hj,List.getD_eq_getElem?_getD,List.getElem?_eq_getElem hj];rfl
structure gH(b:Int):Prop where
 lo:0<=b
 hi:b<1000
 one:Rm.tk b 1=1
 p:fY b
def vB(hb:0<=b)(x:Int):fG b (Rm.tk b x):=by
 by_cases h:b=0
 .exact .inl h
 .rw[Rm.iz h];exact .inr ⟨iK _ ⋯,je _ ⋯⟩
def jY(hb:gH b)(hn:10<=n)(h:Rm.Bd n x):Rm.Bd n (Rm.tk b x):=
 Rm.tE hb.lo ((Rm.Bd.of (n:=10) (by have:=hb.lo;lia) (by have:=hb.hi;lia)).mono hn) h
def Gi(h:fG b x):Rm.tk b x=x:=by
 rcases h with rfl|⟨h1,h2⟩
 .exact Rm.cJ x
 .rw[Rm.iz ⋯];exact AH h1 h2
def Je(hb:gH b)(hn:10<=n)(h0:b≠0)(h:fG b x):Rm.Bd n x:=by
 have:=hb.hi;rcases h with z|z
 .exact absurd z h0
 .exact(Rm.Bd.of (n:=10) ⋯ ⋯).mono hn
def aoa{xs:List V}(I:vZ J xs H1)(hz:xs.length<=sizeLine){rest:St}(hst:cst ix σ=none::rest)(F:V->V)
  (he:∀(H':Hp) (x:V),Same H1 H'->x∈xs->∀k:VK,(∀H2,Same H' H2->k (F x) H2)->te (some x::rest) H' k)
  (hQ:∀D H',H1 D=none->Same H1 H'->H' D=some (.lst (xs.map F))->Q (.ref D) H'):
  mD ix (iQ 0) oF te σ Q J H1:=by
 constructor;intro D hD;refine⟨λi m σ' H'=>m=xs.length-i/\i<=xs.length/\(∃o,σ'=o::rest)/\Same H1 H'/\H' D=some (.lst ((xs.take i).map F)),⟨xs.length,by simp,dD _,⟨none,hst⟩,Same.new hD _,by rw[aD];rfl⟩,?_⟩;rintro i m σ' H' ⟨rfl,hi,⟨o,rfl⟩,g,hl⟩;by_cases hlt:i<xs.length
 .refine .inr ⟨I.go i _ g hlt,λx H2 y=>?_⟩;obtain⟨rfl,hx⟩:=I.mq i _ x H2 g y;have hx:=hx hlt;have hm:x∈xs:=List.mem_of_getElem? hx;have et:xs.take (i+1)=xs.take i++[x]:=by rw[uP,hx];rfl
  change te (some x::rest) H2 _;refine he H2 x g hm _ λH3 g3=>⟨_,g3 _ _ hl,by rw[aK,nT];lia,xs.length-(i+1),⋯,rfl,hlt,⟨_,rfl⟩,Same.upd (g.trans g3) hD _,?_⟩;rw[aD,et,jo];rfl
 .have e:i=xs.length:=⋯;subst e;rw[wL]at hl;exact .inl ⟨I.stop _ _ g (aR _),hQ D H' hD g hl⟩
def air{xs:List V}(I:vZ J xs H1)(hz:xs.length<=1000){rest:St}(hst:cst ix σ=none::rest)(G:V->List Int)
  (he:∀(H':Hp) (x:V),Same H1 H'->x∈xs->∀k:VK,(∀t' H2,Same H' H2->H' t'=none->H2 t'=some (.lst ((G x).map V.int))->k (.ref t') H2)->te (some x::rest) H' k)
  (hQ:∀D ys H',H1 D=none->Same H1 H'->H' D=some (.lst ys)->cC H' [D] ys (xs.map G)->Q (.ref D) H'):
  mD ix (iQ 0) oF te σ Q J H1:=by
 constructor;intro D hD;refine⟨λi m σ' H'=>m=xs.length-i/\i<=xs.length/\(∃o,σ'=o::rest)/\Same H1 H'/\∃ys,H' D=some (.lst ys)/\cC H' [D] ys ((xs.take i).map G),⟨xs.length,by simp,dD _,⟨none,hst⟩,Same.new hD _,[],aD,.nil⟩,?_⟩;rintro i m σ' H' ⟨rfl,hi,⟨o,rfl⟩,g,ys,hl,hy⟩;by_cases hlt:i<xs.length
 .refine .inr ⟨I.go i _ g hlt,λx H2 y=>?_⟩;obtain⟨rfl,hx⟩:=I.mq i _ x H2 g y;have hx:=hx hlt;have hm:x∈xs:=List.mem_of_getElem? hx;have et:xs.take (i+1)=xs.take i++[x]:=by rw[uP,hx];rfl
  change te (some x::rest) H2 _;refine he H2 x g hm _ λt' H3 g3 hn h3=>⟨ys,g3 _ _ hl,?_,xs.length-(i+1),⋯,rfl,hlt,⟨_,rfl⟩,Same.upd (g.trans g3) hD _,ys++[.ref t'],aD,?_⟩
  .have:=hy.len;rw[aK,nT]at this;have:=dW hz;lia
  .have tD:t'∉[D]:=λz=>by
    rw[oW.mp z,hl]at hn;cases hn
   rw[et,jo];exact(cC.append tD h3 (hy.same g3)).keep (oW.mpr rfl) (Keep.upd D H3 _)
 .have e:i=xs.length:=⋯;subst e;rw[wL]at hy;exact .inl ⟨I.stop _ _ g (aR _),hQ D ys H' hD g hl hy⟩
def ata{T:List (List Int)}(h:i<T.length):Dm.ln T i∈T:=by
 unfold Dm.ln;rw[List.getD_eq_getElem?_getD,List.getElem?_eq_getElem h];exact vG h
def aae(f:Nat->List Int):V->List Int
 |.int k=>f k.toNat
 |_=>[]
def zu(hz:n<=1000){rest:St}(hst:cst ix σ=none::rest)(f:Nat->Int)
  (he:∀H' k,Same H1 H'->k<n->∀kk:VK,(∀H2,Same H' H2->kk (.int (f k)) H2)->te (some (.int (0+(k:Int)))::rest) H' kk)
  (hQ:∀D H',H1 D=none->Same H1 H'->H' D=some (.lst ((Pm.aq n f).map V.int))->Q (.ref D) H'):mD ix (iQ 0) oF te σ Q (pY 0 n) H1:=by
 refine aoa DC (by rw[aK,pK];exact fj (dW hz)) hst (λx=>match x with | .int k=> .int (f k.toNat)|_=> .non) ?_ ?_
 .intro H2 x g2 hx k hk;obtain⟨j,hj,rfl⟩:=fQ.mp hx;have e1:(0+(j:Int)).toNat=j:=⋯;refine he H2 j g2 (gF.mp hj) k λH3 g3=>?_;have hk':k (V.int (f (0+(j:Int)).toNat)) H3:=hk H3 g3
  rwa [e1]at hk'
 .intro D H' hD g hl;refine hQ D H' hD g ?_;rw[hl,Pm.aq,gh,gh];refine congrArg (λz=>some (HO.lst z)) (uE λk _=>?_);show V.int (f (0+(k:Int)).toNat)=V.int (f k);rw[(⋯:(0+(k:Int)).toNat=k)]
def akj{P0:Nat}(hP:P0∈Om.mj)(h2:2<=P0){a:Nat->Int}:∀(n:Nat) (P:List Int),P.length=n->Pm.Mon P->(∀k,Rm.tk P0 (Pm.co P k)=Pm.co P k)->Pm.Kp P0 P a->∃L,dY P0 a L/\L.length<=n:=λn=>by
 induction n using mV with
 |ind n ih=>
  intro P hl hm hn hK;by_cases c:∀q,Pm.Kp P0 q a->Pm.Dv P0 P (Pm.co q)
  .exact⟨P,⟨hm,hn,hK,c⟩,⋯⟩
  .obtain⟨q,hq⟩:=Bf.mp c;have hq1:Pm.Kp P0 q a:=ur λz=>hq λy=>absurd y z;have hq2:¬Pm.Dv P0 P (Pm.co q):=λz=>hq λ_=>z;have eq:∀k,Pm.co (q.map (Rm.tk (P0:Int))) k=Rm.tk P0 (Pm.co q k):=λk=>Pm.jF (Pm.tk0 _) ..;obtain⟨s,r,D⟩:=Pm.JM hm (p:=q.map (Rm.tk (P0:Int))) (λk=>by rw[eq,Rm.dO]);have hr:Pm.Kp P0 r a:=(D.kp hK).mp (hq1.congr λk=>by rw[eq,Rm.dO]);by_cases z:r=[]
   .refine absurd ⟨Pm.co s,s.length,Pm.Fs.co s,λk=>?_⟩ hq2;have:=D.eq k;rw[z,Pm.gP,cU,eq,Rm.dO]at this;exact this.symm
   .have M:=Pm.axa hP h2 D.ry z;have hs:=D.short;obtain⟨L,h1,h3⟩:=ih r.length ⋯ _ M.len (M.mon z) (λk=>M.py.co k) ((Pm.dB.scale M.to r).kp hr hr);exact⟨L,h1,⋯⟩
def ad9(hB:fY b){P:List Int}{a:Nat->Int}(hm:Pm.Mon P)(hn:∀k,Rm.tk b (Pm.co P k)=Pm.co P k)(hK:Pm.Kp b P a):∃L,dY b a L/\L.length<=P.length:=by
 rcases hB with rfl|⟨P0,hP,rfl⟩
 .obtain⟨g,L,hL,hy,hk,hall,hl,_,G⟩:=Pm.Ur hm hK;have:=G.mon.pos;exact⟨L,⟨hL,λk=>Rm.cJ _,hk,hall⟩,⋯⟩
 .exact akj hP (vf P0 hP).1 _ P rfl hm hn hK
def dY.uniq(h1:Rm.tk b 1=1){f:Nat->Int}{L L':List Int}(h:dY b f L)(h':dY b f L'):L=L':=by
 have d:=h.all L' h'.kp;have d':=h'.all L h.kp;have l1:=d.len h1 h.mon h'.mon;have l2:=d'.len h1 h'.mon h.mon;refine Pm.nG ⋯ λk=>?_;rw[<-h.nu k,<-h'.nu k];exact(d.same h1 h.mon h'.mon ⋯ k).symm
def dY.le(h1:Rm.tk b 1=1){f:Nat->Int}{L P:List Int}(h:dY b f L)(hm:Pm.Mon P)(hK:Pm.Kp b P f):L.length<=P.length:=(h.all P hK).len h1 h.mon hm
def ahg(hn:∀n,Rm.tk r.b (r.at n)=r.at n){L:List Int}(h:dY r.b r.at L)(hl:L.length<=r.starts.length+1)(n:Nat):(aX r L).at n=r.at n:=by
 have hp:=h.mon.pos;refine Pm.Qs h.nu h.mon h.kp hn (starts:=r.starts.take (L.length-1)) ?_ ?_ n
 .rw[nT];lia
 .intro i hi;rw[nT]at hi;have e:r.at i=r.starts.getD i 0:=Rm.qe ⋯;rw[e,List.getD_eq_getElem?_getD,List.getElem?_take,if_pos ⋯,<-List.getD_eq_getElem?_getD]
def fB.acA(ok:fB r)(n:Nat):fG r.b (r.at n):=by
 by_cases h:r.b=0
 .exact .inl h
 .have h0:=ok.lU;refine .inr (Rm.azw ok.len ⋯ (λx hx=>?_) n);rcases ok.Ax x hx with z|z
  .exact absurd z h
  .exact z
def fB.Em(ok:fB r)(n:Nat):Rm.tk r.b (r.at n)=r.at n:=Gi (ok.acA n)
def EV(hl:L.length<=r.rule.length+1)(ok:fB r):(aX r L).rule.length=L.length-1/\(aX r L).starts.length=L.length-1:=by
 have:=ok.len;refine⟨Pm.tY ..,?_⟩;show(r.starts.take (L.length-1)).length=_;rw[nT];lia
def vO(r:Rw)(n:Nat):r.row n=Pm.aq n r.at:=Rm.V4 ..
def aoB(b b':Int)(p s p' s':List Int):oX (.tuple [.int b,.tuple (p.map .int),.tuple (s.map .int)]) (.tuple [.int b',.tuple (p'.map .int),.tuple (s'.map .int)])=decide (b=b'/\p=p'/\s=s'):=by
 have e1:=Qv p p';have e2:=Qv s s';rw[oX]at e1 e2;simp only[YL,oX,e1,e2,Gr,Bool.decide_and];rfl
def aaw(b:Int)(p r:List Int):SeqAt.shaped (.tuple [.int b,.tuple (p.map .int),.tuple (r.map .int)])=true:=by
 have h1:=Ce p;have h2:=Ce r;have h3:=Aa p;have h4:=Aa r;simp only[SeqAt.shaped,Ei,KW,CG,Fd,h1,h2,GZ,Gr];exact decide_eq_true ⋯
def ar8{v':V}{r':Rw}(h:dI H v r)(h':dI H v' r')(q:Q (.bl (g (decide (r.b=r'.b/\r.rule=r'.rule/\r.starts=r'.starts)))) H):tu K g v v' H Q:=by
 obtain⟨a,x,y,rfl,ha,hx,hy⟩:=h;obtain⟨c,x',y',rfl,hc,hx',hy'⟩:=h';exact .inl ⟨_,_,.tup (aB.of ha) (.cons (.int _) (.cons (.tup (aB.of hx) (ju.ints _)) (.cons (.tup (aB.of hy) (ju.ints _)) .nil))),.tup (aB.of hc) (.cons (.int _) (.cons (.tup (aB.of hx') (ju.ints _)) (.cons (.tup (aB.of hy') (ju.ints _)) .nil))),
  aaw ..,aaw ..,by rw[aoB];exact q⟩
def apD(hb:gH b){P L:List Int}{f:Nat->Int}(hm:Pm.Mon P)(hK:Pm.Kp b P f)(lst:dY b f L){u n:Nat}(hl:P.length<=n+1)(n12:n<=12)(pL:10<=u)(hu:b=0->∀k,Rm.Bd u (Pm.co P k))(k:Nat):Rm.Bd (u+13*(n+1)) (Pm.co L k):=by
 by_cases z:b=0
 .subst z;obtain⟨g,L',hL,hy,hk,hall,hl',hE,G⟩:=Pm.Ur hm hK;have e:L=L':=lst.uniq hb.one ⟨hL,λk=>Rm.cJ _,hk,hall⟩;subst e;have:=Pm.ahn (P:=P) (L:=g) (g:=L) G.mon (λk=>by rw[hE,Pm.j4]) ⋯ (u:=u) (e:=4) (hu rfl) (by show P.length<=16;lia) k;refine this.mono ?_;have g1:=G.mon.pos;have:L.length<=n+1:=⋯;lia
 .rw[<-lst.nu k];exact Je hb ⋯ z (vB hb.lo _)
def ahq(hb:gH r.b)(ok:fB r)(ll:L.length<=r.rule.length+1){U:Nat}(U10:10<=U)(hU:U<=60000)(h:∀k,Rm.Bd U (Pm.co L k)):fB (aX r L)/\∀x∈(aX r L).rule,Rm.Bd U x:=by
 obtain⟨l1,l2⟩:=EV ll ok;have bd:∀x∈(aX r L).rule,Rm.Bd U x:=λx hx=>by
  obtain⟨k,_,rfl⟩:=Pm.gK (show x∈Pm.aq _ _ from hx);refine jY hb U10 ?_;rw[jT];exact Pm.xg (h _)
 have hl:=ok.len;have hs:=ok.short;refine⟨⟨⋯,⋯,ok.lU,ok.vd,λx hx=>?_,λx hx=>ok.Ax x (aaQ hx),λx hx=>(bd x hx).mono hU,λx hx=>ok.Et x (aaQ hx)⟩,bd⟩;obtain⟨k,_,rfl⟩:=Pm.gK (show x∈Pm.aq _ _ from hx);exact vB ok.lU _
structure TR(b:Int)(r:Rw)(a:Nat->Int)(L:List Int):Prop where
 by_:r.b=b
 ok:fB r
 same:∀n,r.at n=a n
 lst:dY b a L
 len:r.rule.length=L.length-1
 jx:r.rule.length<=12
def xY(h:∀x∈xs,fG b x):xs.map (Rm.tk b)=xs:=by
 exact(uE (f:=Rm.tk b) (g:=id) λx hx=>Gi (h x hx)).trans (List.map_id xs)
def al8(rule:List Int)(n m:Nat):Rm.S rule (λ_=>0) n m=0:=by
 induction m with
 |zero=>rfl
 |succ m ih=>unfold Rm.S;rw[ih,aV];rfl
def aot(hb:r.b=b)(hl:r.rule.length=r.starts.length)(n:Nat):(⟨b,r.rule,r.starts.map λs=>Rm.tk b (x*s)⟩:Rw).at n=Rm.tk b (x*r.at n):=by
 refine Rm.B5 (by rw[aK];exact hl) (g:=λn=>Rm.tk b (x*r.at n)) (λi hi=>?_) (λi hi=>?_) n
 .rw[aK]at hi;have e1:r.at i=r.starts.getD i 0:=Rm.qe hi;have e2:(r.starts.map λs=>Rm.tk b (x*s)).getD i 0=Rm.tk b (x*r.starts.getD i 0):=Rm.getD_map (f:=λs=>Rm.tk b (x*s)) (by rw[aV];exact Pm.tk0 b) _ _;rw[e1,e2]
 .rw[aK]at hi;have e1:r.at i=Rm.tk b (Rm.S r.rule r.at i r.rule.length):=by rw[<-hb];exact Rm.vh hl hi
  have q:=Rm.ZK b (rule:=r.rule) (f:=λ_=>0) (g:=r.at) (c:=x) (n:=i) r.rule.length;rw[al8,dj]at q;have e3:(λj=>Rm.tk b (0+x*r.at j))=λj=>Rm.tk b (x*r.at j):=funext λj=>by rw[dj]
  rw[e3]at q;rw[q];show Rm.tk b (x*r.at i)=_;rw[e1,Rm.cD]
def agz{a:Nat->Int}(h:Pm.Kp b P a):Pm.Kp b P λn=>Rm.tk b (x*a n):=λn=>by
 have e:Rm.tk b (Pm.ks P (λn=>Rm.tk b (x*a n)) n)=Rm.tk b (x*Pm.ks P a n):=by
  unfold Pm.ks;rw[<-Pm.cj];refine Pm.dZ λk _=>?_;rw[Rm.cD,fW]
 rw[e,<-Rm.cD,h n,aV,Pm.tk0]
def acC(h:Pm.Kp b P f):Pm.Kp b P λn=>f (n+1):=λn=>by
 have:Pm.ks P (λn=>f (n+1)) n=Pm.ks P f (n+1):=Pm.aJ λk _=>by rw[(⋯:n+1+k=n+k+1)]
 rw[this];exact h _
def RT{g:Nat->Int}(e:∀n,Rm.tk b (f n)=Rm.tk b (g n))(h:Pm.Kp b P f):Pm.Kp b P g:=λn=>by
 rw[<-h n];exact Pm.dZ λk _=>by rw[<-Rm.cD,<-e,Rm.cD]
def lJ(b:Int)(a:Nat->Int):Nat->Int:=λn=>Rm.tk b (Pm.sm (n+1) a)
def nQ(b:Int)(L:List Int):List Int:=Pm.mul b L [Rm.tk b (-1),1]
def azD(b:Int):Pm.Mon [Rm.tk b (-1),1]:=⟨by simp,rfl⟩
def Xl(h1:Rm.tk b 1=1){L:List Int}(hL:Pm.Mon L):Pm.Mon (nQ b L)/\(nQ b L).length=L.length+1:=by
 have:=Pm.W2 h1 hL (azD b);exact⟨this.1,by rw[nQ,this.2];rfl⟩
def arY{a:Nat->Int}(h:Pm.Kp b L a):Pm.Kp b (nQ b L) (lJ b a):=by
 refine Pm.Kp.Z4 (RT (λn=>?_) (acC h));have e:Pm.ks [Rm.tk b (-1),1] (lJ b a) n=Rm.tk b (-1)*lJ b a n+lJ b a (n+1):=by
  show 0+Pm.co [Rm.tk b (-1),1] 0*lJ b a (n+0)+Pm.co [Rm.tk b (-1),1] 1*lJ b a (n+1)=_;rw[dj,show Pm.co [Rm.tk b (-1),1] 0=Rm.tk b (-1)from rfl,show Pm.co [Rm.tk b (-1),1] 1=1 from rfl,fP,BH]
 rw[e];unfold lJ;rw[Rm.sS,<-Rm.gM,Rm.dU,Rm.cD,Rm.gM,show Pm.sm (n+1+1) a=Pm.sm (n+1) a+a (n+1)from rfl];congr 1;lia
def alr(hb:gH b){L:List Int}{u:Nat}(hu:10<=u)(hl:L.length<=13)(h:∀k,Rm.Bd u (Pm.co L k)):∀x∈nQ b L,Rm.Bd (u+23) x:=λx hx=>by
 refine(Pm.abu hb.lo hb.hi hu (p:=L) (q:=[Rm.tk b (-1),1]) (v:=10) (λx hx=>?_) (λx hx=>?_) x hx).mono ⋯
 .obtain⟨k,hk,e⟩:=kW.mp hx;have:=h k;rw[Pm.jL hk,e]at this;exact this
 .rcases fR.mp hx with rfl|hx
  .exact jY hb ∅ (Rm.Bd.of ∅ ∅)
  .rw[oW.mp hx];exact Rm.Bd.of ∅ ∅
def ahI(hb:gH b){L:List Int}{a:Nat->Int}(lst:dY b a L)(n:Nat):(⟨b,Pm.eE b (nQ b L),Pm.aq L.length (lJ b a)⟩:Rw).at n=lJ b a n:=by
 obtain⟨hm,hl⟩:=Xl hb.one lst.mon;refine Pm.Qs (w:=nQ b L) (λk=>by rw[nQ,Pm.qF,Rm.dO]) hm (arY lst.kp) (λn=>Rm.dO _ _) (by rw[Pm.aQ,hl];rfl) (λi hi=>?_) n;rw[Pm.aQ]at hi;exact(Pm.bZ _ _ _).trans (if_pos hi)
def mZ(ns:List Int)(a:Nat->Int):Nat->Int:=λn=>if n<ns.length then Pm.co ns n else a (n-ns.length)
abbrev ou(k:Nat):List Int:=Pm.aq k λ_=>0
def apK{lr ls:List Int}(hl:lr.length=ls.length)(n:Nat):(⟨b,lr++ou ns.length,ns++ls⟩:Rw).at n=mZ ns (⟨b,lr,ls⟩:Rw).at n:=by
 refine Rm.B5 (by rw[gW,gW,Pm.aQ];lia) (g:=mZ ns (⟨b,lr,ls⟩:Rw).at) (λi hi=>?_) (λi hi=>?_) n
 .rw[gW]at hi;have e:(ns++ls).getD i 0=Pm.co (ns++ls) i:=rfl;rw[e,Pm.gY];unfold mZ;by_cases c:i<ns.length
  .rw[if_pos c,if_pos c]
  .rw[if_neg c,if_neg c];exact Rm.qe (⋯:i-ns.length<ls.length)
 .rw[gW]at hi;have e0:mZ ns (⟨b,lr,ls⟩:Rw).at i=(⟨b,lr,ls⟩:Rw).at (i-ns.length):=if_neg ⋯;have e1:(⟨b,lr,ls⟩:Rw).at (i-ns.length)=Rm.tk b (Rm.S lr (⟨b,lr,ls⟩:Rw).at (i-ns.length) lr.length):=Rm.vh hl (⋯:ls.length<=i-ns.length);rw[e0,e1,Pm.pH,Pm.pH,gW,Pm.aQ];refine congrArg (Rm.tk b) ?_;rw[Pm.lD (m:=lr.length) (n:=lr.length+ns.length) ⋯ λk h1 h2=>by
   rw[Pm.gY,if_neg ⋯,Pm.bZ];split<;>rw[dF]]
  refine Pm.aJ λk hk=>?_;rw[Pm.gY,if_pos hk];congr 1;unfold mZ;rw[if_neg ⋯,(⋯:i-1-k-ns.length=i-ns.length-1-k)]
abbrev PF:=(Nat->Int)->(Nat->Int)->Nat->Int
def auK(b:Int)(f:PF)(L1 L2:List Int)(a c:Nat->Int):Rw:=⟨b,Pm.eE b (Pm.mul b L1 L2),Pm.aq (L1.length-1+(L2.length-1)) λn=>Rm.tk b (f a c n)⟩
def agT(hb:gH b){L1 L2:List Int}(m1:Pm.Mon L1)(m2:Pm.Mon L2):Pm.Mon (Pm.mul b L1 L2)/\(Pm.mul b L1 L2).length=L1.length-1+(L2.length-1)+1:=by
 have:=Pm.W2 hb.one m1 m2;have h1:=m1.pos;have h2:=m2.pos;exact⟨this.1,by rw[this.2];lia⟩
def an8(hb:gH b){f:PF}{L1 L2:List Int}{a c:Nat->Int}(m1:Pm.Mon L1)(m2:Pm.Mon L2)(hk:Pm.Kp b (Pm.mul b L1 L2) λn=>Rm.tk b (f a c n))(n:Nat):(auK b f L1 L2 a c).at n=Rm.tk b (f a c n):=by
 obtain⟨hm,hl⟩:=agT hb m1 m2;refine Pm.Qs (w:=Pm.mul b L1 L2) (a:=λn=>Rm.tk b (f a c n)) (λk=>by rw[Pm.qF,Rm.dO]) hm hk (λn=>Rm.dO _ _) (by show(Pm.aq _ _).length=_;rw[Pm.aQ,hl];rfl) (λi hi=>?_) n;have hi':i<L1.length-1+(L2.length-1):=by rw[<-Pm.aQ (L1.length-1+(L2.length-1)) λn=>Rm.tk b (f a c n)];exact hi
 exact(Pm.bZ _ _ _).trans (if_pos hi')
def ah7(hb:gH b){L1 L2:List Int}{u v:Nat}(hu:10<=u)(hl:L1.length<=13)(h1:∀k,Rm.Bd u (Pm.co L1 k))(h2:∀k,Rm.Bd v (Pm.co L2 k)):∀x∈Pm.mul b L1 L2,Rm.Bd (u+v+13) x:=λx hx=>by
 refine(Pm.abu hb.lo hb.hi hu (p:=L1) (q:=L2) (v:=v) (λx hx=>?_) (λx hx=>?_) x hx).mono ⋯
 .obtain⟨k,hk,e⟩:=kW.mp hx;have:=h1 k;rw[Pm.jL hk,e]at this;exact this
 .obtain⟨k,hk,e⟩:=kW.mp hx;have:=h2 k;rw[Pm.jL hk,e]at this;exact this
def atm{a c:Nat->Int}(h1:Pm.Kp b P a)(h2:Pm.Kp b P c):Pm.Kp b P λn=>a n+c n:=λn=>by
 have e:Pm.ks P (λn=>a n+c n) n=Pm.ks P a n+Pm.ks P c n:=by
  unfold Pm.ks;rw[<-Pm.eZ];exact Pm.aJ λk _=>nY ..
 rw[e,<-Rm.gM,<-Rm.sS,h1 n,h2 n];exact Pm.tk0 b
def ZC(h:Pm.Kp b P f):Pm.Kp b P λn=>Rm.tk b (f n):=RT (λn=>(Rm.dO b (f n)).symm) h
def oB:PF:=λa c n=>Pm.sm (n+1) λi=>a i*c (n-i)
theorem abQ(f:Nat->Int)(j:Nat):∀d,Pm.sm (j+d) f=Pm.sm j f+Pm.sm d λi=>f (j+i)
 |0=>by rw[BH];exact(cU _).symm
 |d+1=>by
  show Pm.sm (j+d) f+f (j+d)=Pm.sm j f+(Pm.sm d (λi=>f (j+i))+f (j+d));rw[abQ f j d,QK]
def Rx(L:List Int)(c:Nat->Int)(j:Nat):Int:=Pm.sm L.length λk=>if j<k then Pm.co L k*c (k-1-j)else 0
def akM(L:List Int)(a c:Nat->Int)(n:Nat):Pm.ks L (oB a c) n=Pm.sm (n+1) (λi=>a i*Pm.ks L c (n-i))+Pm.ks (Pm.aq L.length (Rx L c)) (λn=>a (n+1)) n:=by
 have e1:∀k,oB a c (n+k)=Pm.sm (n+1) (λi=>a i*c (n+k-i))+Pm.sm k (λj=>a (n+1+j)*c (n+k-(n+1+j))):=λk=>by
  unfold oB;rw[(⋯:n+k+1=n+1+k),abQ]
 have e2:Pm.ks L (oB a c) n=Pm.sm L.length (λk=>Pm.co L k*Pm.sm (n+1) (λi=>a i*c (n+k-i)))+Pm.sm L.length (λk=>Pm.co L k*Pm.sm k (λj=>a (n+1+j)*c (n+k-(n+1+j)))):=by
  unfold Pm.ks;rw[<-Pm.eZ];exact Pm.aJ λk _=>by rw[e1,nY]
 have e3:Pm.sm L.length (λk=>Pm.co L k*Pm.sm (n+1) (λi=>a i*c (n+k-i)))=Pm.sm (n+1) λi=>a i*Pm.ks L c (n-i):=by
  have q1:Pm.sm L.length (λk=>Pm.co L k*Pm.sm (n+1) (λi=>a i*c (n+k-i)))=Pm.sm L.length λk=>Pm.sm (n+1) λi=>Pm.co L k*(a i*c (n+k-i)):=Pm.aJ λk _=>by rw[Pm.cj]
  rw[q1,Pm.pW];refine Pm.aJ λi hi=>?_;unfold Pm.ks;rw[<-Pm.cj];exact Pm.aJ λk _=>by rw[(⋯:n+k-i=n-i+k),fW]
 have e4:Pm.sm L.length (λk=>Pm.co L k*Pm.sm k (λj=>a (n+1+j)*c (n+k-(n+1+j))))=Pm.ks (Pm.aq L.length (Rx L c)) (λn=>a (n+1)) n:=by
  have q1:Pm.sm L.length (λk=>Pm.co L k*Pm.sm k (λj=>a (n+1+j)*c (n+k-(n+1+j))))=Pm.sm L.length λk=>Pm.sm L.length λj=>a (n+j+1)*(if j<k then Pm.co L k*c (k-1-j)else 0):=Pm.aJ λk hk=>by
   rw[Pm.lD (m:=k) (n:=L.length) ⋯ λj h1 _=>by rw[if_neg ⋯,aV],<-Pm.cj];exact Pm.aJ λj hj=>by rw[if_pos hj,(⋯:n+1+j=n+j+1),(⋯:n+k-(n+j+1)=k-1-j),fW]
  rw[q1,Pm.pW];unfold Pm.ks;rw[Pm.aQ];refine Pm.aJ λj hj=>?_;rw[Pm.bZ,if_pos hj,Pm.cj,bG];rfl
 rw[e2,e3,e4]
def awA{L1 L2:List Int}{a c:Nat->Int}(h1:Pm.Kp b L1 a)(h2:Pm.Kp b L2 c):Pm.Kp b (Pm.mul b L1 L2) λn=>Rm.tk b (oB a c n):=by
 refine ZC (Pm.Kp.Z4 (RT (f:=Pm.ks (Pm.aq L2.length (Rx L2 c)) λn=>a (n+1)) (λn=>?_) (((acC h1).aei _).axg)));have z:Rm.tk b (Pm.sm (n+1) λi=>a i*Pm.ks L2 c (n-i))=0:=Dm.JN λk _=>by rw[<-Rm.cD,h2,aV,Pm.tk0]
 rw[akM,<-Rm.gM,z,dj]
def fO(rule sums:List Int)(k:Nat):Int:=Pm.sm (min (k-1) rule.length) λi=>Pm.co rule i*Pm.co sums (k-2-i)
abbrev Le(x:Int)(n:Nat):Prop:=x.natAbs<=n
theorem Le.sm{f:Nat->Int}{c:Nat}:∀n:Nat,(∀k,k<n->Le (f k) c)->Le (Pm.sm n f) (n*c)
 |0,_=>dD _
 |n+1,h=>by
  have h1:=Le.sm n λk hk=>h k ⋯;have h2:=h n ⋯;have h3:=Aw (Pm.sm n f) (f n);show(Pm.sm n f+f n).natAbs<=(n+1)*c;rw[mJ];unfold Le at h1 h2;lia
def Le.mul(h1:Le x m)(h2:Le y n):Le (x*y) (m*n):=by
 show(x*y).natAbs<=m*n;rw[jD];exact iH h1 h2
def Le.bd(h:Le x (2^n)):Rm.Bd (n+1) x:=by
 show x.natAbs<2^(n+1);have:0<2^n:=pF ∅;rw[iY];unfold Le at h;lia
def aw8{rule:List Int}(hk:1<=k)(hl:rule.length=k-1)(hr:∀i,i<k-1->Le (Pm.co rule i) (Z^(i+1)))(hs:∀i,i<k->Le (Pm.co sums i) (Z^(i+1))):Le ((Pm.co sums (k-1)-fO rule sums k)/(k:Int)) (Z^k):=by
 have e1:Le (fO rule sums k) ((k-1)*Z^k):=by
  unfold fO;rw[hl,Nat.min_self];refine Le.sm (k-1) λi hi=>?_;have:=(hr i hi).mul (hs (k-2-i) ⋯);rw[<-uK,(⋯:i+1+(k-2-i+1)=k)]at this;exact this
 have e2:=hs (k-1) ⋯;rw[(⋯:k-1+1=k)]at e2;obtain⟨m,rfl⟩:∃m,k=m+1:=⟨k-1,⋯⟩;rw[fu]at e1 e2⊢;generalize Pm.co sums m=s at e2;generalize fO rule sums (m+1)=t at e1;generalize Z^(m+1)=z at e1 e2;clear hr hs hl;have h3:Le (s-t) ((m+1)*z):=by
  unfold Le at *;rw[mJ];exact eO (adh s t) (Ci (m*z) z▸PD e2 e1)
 generalize s-t=d at h3;unfold Le at *;have h4:-(((m+1)*z:Nat):Int)<=d/\d<=(((m+1)*z:Nat):Int):=⋯;rw[rm]at h4;have p:(0:Int)<((m+1:Nat):Int):=⋯;have h5:d/((m+1:Nat):Int)<=(z:Int):=by
  have:=adF p h4.2;rw[R3 _ ⋯]at this;exact this
 have h6:-(z:Int)<=d/((m+1:Nat):Int):=by
  have:=adF p h4.1;rw[<-tX,R3 _ ⋯]at this;exact this
 lia
theorem afy{X:Nat}(hX:2<=X)(c:Nat):∀(n:Nat) (f:Nat->Int),(∀i,i<n->Le (f i) (c*X^(n-i)))->Le (Pm.sm n f) (c*(2*X^n))
 |0,_,_=>dD _
 |n+1,f,h=>by
  have h0:=h 0 ⋯;have h1:=afy hX c n (λi=>f (i+1)) λi hi=>by have:=h (i+1) ⋯;rw[(⋯:n+1-(i+1)=n-i)]at this;exact this
  rw[Pm.jr];have h3:=Aw (f 0) (Pm.sm n λi=>f (i+1));have e:X^(n+1-0)=X^n*X:=iY ..;rw[e]at h0;have e2:c*(2*X^(n+1))=c*(X^n*X)+c*(X^n*X):=by rw[iY,<-rC,<-Nat.two_mul]
  have e3:c*(2*X^n)<=c*(X^n*X):=fH _ (by rw[gZ];exact fH _ hX);unfold Le at *;lia
def ao8{rule:List Int}(hk:1<=k)(k24:k<=130)(hr:∀i,Le (Pm.co rule i) (2^w))(hs:∀i,i<k-1->Le (Pm.co sums i) ((2^(w+3))^(i+1))):Le ((if k<=rule.length then(k:Int)*Pm.co rule (k-1)else 0)+fO rule sums k) ((2^(w+3))^k):=by
 obtain⟨m,rfl⟩:∃m,k=m+1:=⟨k-1,⋯⟩;rw[fu]at hs⊢;have X2:2<=2^(w+3):=by
  have:0<2^w:=pF ∅;rw[uK];lia
 have e1:Le (fO rule sums (m+1)) (2^w*(2*(2^(w+3))^m)):=by
  have e:fO rule sums (m+1)=Pm.sm m λi=>if i<rule.length then Pm.co rule i*Pm.co sums (m+1-2-i)else 0:=by
   unfold fO;rw[fu,Pm.lD (m:=min m rule.length) (n:=m) ⋯ λi h1 h2=>if_neg ⋯];exact Pm.aJ λi hi=>(if_pos ⋯).symm
  rw[e];refine afy X2 _ m _ λi hi=>?_;split
  .have:=(hr i).mul (hs (m+1-2-i) ⋯);rw[(⋯:m+1-2-i+1=m-i)]at this;exact this
  .exact dD _
 have e2:Le (if m+1<=rule.length then((m+1:Nat):Int)*Pm.co rule m else 0) ((m+1)*2^w):=by
  split
  .have h1:Le ((m+1:Nat):Int) (m+1):=by unfold Le;lia
   exact h1.mul (hr m)
  .exact dD _
 have h3:=Aw (if m+1<=rule.length then((m+1:Nat):Int)*Pm.co rule m else 0) (fO rule sums (m+1));have kX:∀m,m+1<=6*8^m:=λm=>by
  induction m with
  |zero=>decide
  |succ m ih=>rw[iY];lia
 have p8:8^m<=(2^(w+3))^m:=D6 (by
  have:0<2^w:=pF ∅;rw[uK];lia) m
 have e5:(2^(w+3))^(m+1)=2^w*(2*(2^(w+3))^m)+2^w*(6*(2^(w+3))^m):=by
  rw[iY,gZ,uK,<-rC,<-yR,mz]
 have e6:(m+1)*2^w<=2^w*(6*(2^(w+3))^m):=by
  rw[gZ];refine fH _ (eO (kX m) (fH _ p8))
 unfold Le at *;lia
theorem Fp(f:Nat->Int):∀n,Nw.sm n f=Pm.sm n f
 |0=>rfl
 |n+1=>by show Nw.sm n f+f n=Pm.sm n f+f n;rw[Fp f n]
def Dy(rule sums:List Int)(k:Nat):fO rule sums (k+1)=Nw.sm k λi=>Pm.co rule i*Pm.co sums (k-1-i):=by
 unfold fO;rw[Fp,fu,show(λi=>Pm.co rule i*Pm.co sums (k+1-2-i))=λi=>Pm.co rule i*Pm.co sums (k-1-i)from funext λi=>by rw[(⋯:k+1-2-i=k-1-i)]];by_cases h:k<=rule.length
 .rw[Cj h]
 .rw[SR ⋯,Pm.lD (m:=rule.length) (n:=k) ⋯ λi h1 _=>by rw[Pm.bh h1,dF]]
def jR:PF:=λa c n=>a n*c n
def MX{rule:List Int}(hl:rule.length=starts.length)(i:Nat):Rm.at_ 0 rule starts (i+rule.length)=Nw.sm rule.length λk=>Pm.co rule k*Rm.at_ 0 rule starts (i+rule.length-1-k):=by
 rw[Rm.vh hl ⋯,Rm.cJ,Pm.pH,Fp]
def Mh{rule:List Int}(hl:rule.length=starts.length)(hr:∀x∈rule,fG b x)(hs:∀x∈starts,fG b x)(n:Nat):Rm.at_ b rule starts n=Rm.tk b (Rm.at_ 0 rule starts n):=by
 by_cases z:b=0
 .rw[z,Rm.cJ]
 .have:=Rm.aud (p:=b) z hl n;rw[xY hr,xY hs]at this;exact this
def asZ{c d s2 u1 u2:List Int}(hc:c.length=s1.length)(hd:d.length=s2.length)(hcn:∀x∈c,fG b x)(hdn:∀x∈d,fG b x)(hs1:∀x∈s1,fG b x)(hs2:∀x∈s2,fG b x)(hN:N=c.length*d.length)(hR:R.length=N)
  (e1:∀k,k<N->Pm.co u1 k=(if k+1<=c.length then((k+1:Nat):Int)*Pm.co c k else 0)+fO c u1 (k+1)) (e2:∀k,k<N->Pm.co u2 k=(if k+1<=d.length then((k+1:Nat):Int)*Pm.co d k else 0)+fO d u2 (k+1))
  (e3:∀k,k<N->Pm.co R k=(Pm.co (Pm.aq N λk=>Pm.co u1 k*Pm.co u2 k) k-fO R (Pm.aq N λk=>Pm.co u1 k*Pm.co u2 k) (k+1))/((k+1:Nat):Int)) (n:Nat):
  (⟨b,R.map (Rm.tk b),Pm.aq N λn=>Rm.tk b (jR (Rm.at_ b c s1) (Rm.at_ b d s2) n)⟩:Rw).at n=Rm.tk b (jR (Rm.at_ b c s1) (Rm.at_ b d s2) n):=by
 have own:∀{c:List Int} {k:Nat},(if k+1<=c.length then((k+1:Nat):Int)*Pm.co c k else 0)=((k+1:Nat):Int)*Pm.co c k:=λ{c k}=>by
  by_cases z:k+1<=c.length
  .rw[if_pos z]
  .rw[if_neg z,Pm.bh ⋯,aV]
 have main:=Nw.avN (m:=c.length) (n:=d.length) (c:=Pm.co c) (d:=Pm.co d) (a:=Rm.at_ 0 c s1) (b:=Rm.at_ 0 d s2) (s:=Pm.co u1) (t:=Pm.co u2) (r:=Pm.co R) (λk hk=>Pm.bh hk) (λk hk=>Pm.bh hk) (MX hc) (MX hd)
  (λk hk=>by rw[e1 k ⋯,own,Dy]) (λk hk=>by rw[e2 k ⋯,own,Dy]) (λk hk=>by
   rw[e3 k ⋯,Dy,Pm.bZ,if_pos ⋯];refine congrArg (λx=>(Pm.co u1 k*Pm.co u2 k-x)/_) (Nw.aJ λi hi=>?_);rw[Pm.bZ,if_pos ⋯])
 have ta:∀n,Rm.tk b (jR (Rm.at_ b c s1) (Rm.at_ b d s2) n)=Rm.tk b (Rm.at_ 0 c s1 n*Rm.at_ 0 d s2 n):=λn=>by
  unfold jR;rw[Mh hc hcn hs1,Mh hd hdn hs2,Rm.dU,Rm.cD]
 refine Rm.B5 (b:=b) (rule:=R.map (Rm.tk b)) (starts:=Pm.aq N λn=>Rm.tk b (jR (Rm.at_ b c s1) (Rm.at_ b d s2) n)) (by rw[aK,Pm.aQ,hR]) (g:=λn=>Rm.tk b (jR (Rm.at_ b c s1) (Rm.at_ b d s2) n)) (λi hi=>?_) (λi hi=>?_) n
 .rw[Pm.aQ]at hi;show _=Pm.co (Pm.aq N λn=>Rm.tk b (jR (Rm.at_ b c s1) (Rm.at_ b d s2) n)) i;rw[Pm.bZ,if_pos hi]
 .rw[Pm.aQ]at hi;obtain⟨j,rfl⟩:∃j,i=j+N:=⟨i-N,⋯⟩;rw[ta,aK,hR,Pm.pH,hN,main j,Fp,<-hN];refine Pm.dZ λk hk=>?_;rw[Pm.jF (Pm.tk0 b),Rm.dU];show _=Rm.tk b (Pm.co R k*Rm.tk b (jR _ _ (j+N-1-k)));rw[ta,Rm.cD]
def wM(h:n<xs.length):jX (xs.map V.int) (n:Int)=some (.int (Pm.co xs n)):=by
 rw[dN ⋯ ⋯,cM];rfl
def GF(n:Nat)(f:Nat->Int):(Pm.aq n f).sum=Pm.sm n f:=by rw[Pm.aq,Pm.FN]
def awP{c u:List Int}(he:1<=e)(hc:c.length=s1.length)(hcn:∀x∈c,fG b x)(hs1:∀x∈s1,fG b x)(hN:N=c.length)(hR:R.length=N)
  (e1:∀k,k<e*N->Pm.co u k=(if k+1<=c.length then((k+1:Nat):Int)*Pm.co c k else 0)+fO c u (k+1))
  (e3:∀k,k<N->Pm.co R k=(Pm.co (Pm.aq N λk=>Pm.co u (e*(k+1)-1)) k-fO R (Pm.aq N λk=>Pm.co u (e*(k+1)-1)) (k+1))/((k+1:Nat):Int)) (n:Nat):
  (⟨b,R.map (Rm.tk b),Pm.aq N λn=>Rm.tk b (Rm.at_ b c s1 (st+e*n))⟩:Rw).at n=Rm.tk b (Rm.at_ b c s1 (st+e*n)):=by
 have own:∀{c:List Int} {k:Nat},(if k+1<=c.length then((k+1:Nat):Int)*Pm.co c k else 0)=((k+1:Nat):Int)*Pm.co c k:=λ{c k}=>by
  by_cases z:k+1<=c.length
  .rw[if_pos z]
  .rw[if_neg z,Pm.bh ⋯,aV]
 have main:=Nw.ajG (m:=c.length) (e:=e) he (c:=Pm.co c) (a:=Rm.at_ 0 c s1) (s:=Pm.co u) (r:=Pm.co R) (λk hk=>Pm.bh hk) (MX hc)
  (λk hk=>by rw[e1 k (by rw[hN];exact hk),own,Dy]) (λk hk=>by
   rw[e3 k ⋯,Dy,Pm.bZ,if_pos ⋯];refine congrArg (λx=>(Pm.co u (e*(k+1)-1)-x)/_) (Nw.aJ λi hi=>?_);rw[Pm.bZ,if_pos ⋯]) st
 have ta:∀n,Rm.tk b (Rm.at_ b c s1 n)=Rm.tk b (Rm.at_ 0 c s1 n):=λn=>by rw[Mh hc hcn hs1,Rm.dO]
 refine Rm.B5 (b:=b) (rule:=R.map (Rm.tk b)) (starts:=Pm.aq N λn=>Rm.tk b (Rm.at_ b c s1 (st+e*n))) (by rw[aK,Pm.aQ,hR]) (g:=λn=>Rm.tk b (Rm.at_ b c s1 (st+e*n))) (λi hi=>?_) (λi hi=>?_) n
 .rw[Pm.aQ]at hi;show _=Pm.co (Pm.aq N λn=>Rm.tk b (Rm.at_ b c s1 (st+e*n))) i;rw[Pm.bZ,if_pos hi]
 .rw[Pm.aQ]at hi;obtain⟨j,rfl⟩:∃j,i=j+N:=⟨i-N,⋯⟩;rw[ta,aK,hR,Pm.pH,hN,main j,Fp,<-hN];refine Pm.dZ λk hk=>?_;rw[Pm.jF (Pm.tk0 b),Rm.dU];show _=Rm.tk b (Pm.co R k*Rm.tk b (Rm.at_ b c s1 (st+e*(j+N-1-k))));rw[ta,Rm.cD]
structure Fb(b:Int)(f:Nat->Int)(n u c d:Nat):Prop where
 at_:∀k,Rm.Bd (c+d*k) (f k)
 tk:∀k,Rm.tk b (f k)=f k
 n12:n<=12
 pL:10<=u
 zZ:u<=59000
 kE:10<=c
 kp:∃P,Pm.Mon P/\Pm.Kp b P f/\P.length<=n+1/\(b=0->∀k,Rm.Bd u (Pm.co P k))
structure Ri(b:Int)(r:Rw)(n u c d:Nat):Prop where
 hB:gH b
 by_:r.b=b
 ok:fB r
 jx:r.rule.length<=12
 tame:Tame r
 fb:Fb b r.at n u c d
def Fb.least(h:Fb b f n u c d)(hb:gH b){L:List Int}(lst:dY b f L)(k:Nat):Rm.Bd (u+13*(n+1)) (Pm.co L k):=by
 obtain⟨P,hm,hK,hl,hu⟩:=h.kp;exact apD hb hm hK lst hl h.n12 h.pL hu k
def Fb.len(h:Fb b f n u c d)(hb:gH b){L:List Int}(lst:dY b f L):L.length<=n+1:=by
 obtain⟨P,hm,hK,hl,_⟩:=h.kp;exact eO (lst.le hb.one hm hK) hl
def Ri.B7(h:Ri b r n u c d):fY r.b:=by rw[h.by_];exact h.hB.p
def Ri.ex(h:Ri b r n u c d):∃L,dY b r.at L/\L.length<=r.rule.length+1:=by
 have hk:=h.ok.kp;rw[h.by_]at hk;obtain⟨L,h1,h2⟩:=ad9 h.hB.p (Pm.uW b r.rule) (Hj b r.rule h.hB.one) hk;exact⟨L,h1,by rw[Pm.iT]at h2;exact h2⟩
def Ri.ll(h:Ri b r n u c d){L:List Int}(lst:dY b r.at L):L.length<=r.rule.length+1:=by
 obtain⟨L',l1,l2⟩:=h.ex;rw[lst.uniq h.hB.one l1];exact l2
def Ri.sh(h:Ri b r n u c d){L:List Int}(lst:dY b r.at L):fB (aX r L)/\(∀x∈(aX r L).rule,Rm.Bd (u+13*(n+1)) x)/\(aX r L).at=r.at/\(aX r L).rule.length=L.length-1/\(aX r L).starts.length=L.length-1/\Pm.aW b (aX r L).rule=L:=by
 have ll:=h.ll lst;have:=h.fb.n12;have:=h.fb.pL;have:=h.fb.zZ;obtain⟨o1,o2⟩:=ahq (r:=r) (L:=L) (by rw[h.by_];exact h.hB) h.ok ll (U:=u+13*(n+1)) ⋯ ⋯ (h.fb.least h.hB lst);obtain⟨l1,l2⟩:=EV ll h.ok;have hl:=h.ok.len;refine⟨o1,o2,funext λn=>ahg h.ok.Em (by rw[h.by_];exact lst) ⋯ n,l1,l2,?_⟩;show Pm.aW b (Pm.eE r.b L)=L;rw[h.by_];exact Pm.M9 lst.nu lst.mon
theorem TR.rule{b:Int}(hb:gH b){r:Rw}{a:Nat->Int}{L:List Int}(t:TR b r a L):r.rule=Pm.eE b L:=by
 have hk:=t.ok.kp;rw[t.by_]at hk;have ea:r.at=a:=funext t.same;rw[ea]at hk;have hp:=t.lst.mon.pos;have hl:=t.len;have hm:=Pm.uW b r.rule;have l1:=Pm.iT b r.rule;have e:Pm.aW b r.rule=L:=Pm.nG ⋯ λk=>by
  rw[<-t.lst.nu k,<-Hj b r.rule hb.one k];exact(t.lst.all _ hk).same hb.one t.lst.mon hm ⋯ k
 rw[<-e];exact(Pm.amm λx hx=>Gi (by have:=t.ok.wU x hx;rw[t.by_]at this;exact this)).symm
def TR.ri(hb:gH b){r:Rw}{f:Nat->Int}{L:List Int}(t:TR b r f L){n u c d:Nat}(h:Fb b f n u c d)(hs:n*(c+d*(2*n)+n)+(u+13*(n+1))+458<=112100):Ri b r n u c d:=by
 have ea:r.at=f:=funext t.same;have:=h.pL;refine⟨hb,t.by_,t.ok,t.jx,λz=>?_,by rw[ea];exact h⟩;obtain⟨P,hm,hK,hl,hu⟩:=h.kp;have z':b=0:=by rw[<-t.by_];exact z
 rw[z']at hK;refine⟨n,c+d*(2*n),u+13*(n+1),⋯,λx hx=>?_,⟨P,hm,by rw[ea];exact hK,hl⟩,λk hk=>by rw[ea];exact(h.at_ k).mono (xJ (fH _ hk) _),⋯⟩;rw[t.rule hb]at hx;obtain⟨k,_,rfl⟩:=Pm.gK (show x∈Pm.aq _ _ from hx);refine jY hb ⋯ ?_;rw[jT];exact Pm.xg (h.least hb t.lst _)
structure Td(b:Int)(ns ms:List Int)(F:Nat->Int)(n z c d:Nat):Prop where
 hB:gH b
 ln:ns.length<=n
 n12:n<=12
 lm:ms.length=ns.length
 bd:∀x∈ns,Rm.Bd z x
 n8:10<=z
 wj:z<=59000
 at_:∀k,Rm.Bd (c+d*k) (F k)
 kE:10<=c
 st:c+d*12<=10000
 sz:n*(c+d*(2*n)+n)+z+458<=112100
 eq:∀k,(⟨b,ns.map (Rm.tk b),ms.map (Rm.tk b)⟩:Rw).at k=F k
abbrev qX(b:Int)(ns ms:List Int):Rw:=⟨b,ns.map (Rm.tk b),ms.map (Rm.tk b)⟩
def Td.ok(h:Td b ns ms F n z c d):fB (qX b ns ms):=by
 have hb:=h.hB;have l1:=h.ln;have l2:=h.lm;have l3:=h.n12;have l4:=h.wj;refine⟨by show(ns.map _).length=(ms.map _).length;rw[aK,aK];lia,by show(ns.map _).length<=24;rw[aK];lia,hb.lo,hb.hi,λx hx=>?_,λx hx=>?_,λx hx=>?_,λx hx=>?_⟩
 .obtain⟨y,_,rfl⟩:=fQ.mp hx;exact vB hb.lo _
 .obtain⟨y,_,rfl⟩:=fQ.mp hx;exact vB hb.lo _
 .obtain⟨y,hy,rfl⟩:=fQ.mp hx;exact jY hb ∅ ((h.bd y hy).mono ⋯)
 .obtain⟨k,hk,e⟩:=kW.mp (show x∈ms.map (Rm.tk b)from hx);have e1:(qX b ns ms).at k=(ms.map (Rm.tk b)).getD k 0:=Rm.qe hk;have e2:x=F k:=by rw[<-h.eq k];show x=(qX b ns ms).at k;rw[e1,List.getD_eq_getElem?_getD,List.getElem?_eq_getElem hk,<-e];rfl
  rw[aK]at hk;rw[e2];refine(h.at_ k).mono (eO (xJ (fH d (⋯:k<=12)) _) h.st)
def Td.fb(h:Td b ns ms F n z c d):Fb b F n z c d:=by
 have ok:=h.ok;have ea:(qX b ns ms).at=F:=funext h.eq;have hk:=ok.kp;rw[ea]at hk;have l1:=h.ln;refine⟨h.at_,λk=>by rw[<-ea];exact ok.Em k,h.n12,h.n8,h.wj,h.kE,_,Pm.uW _ _,hk,?_,λ_=>Pm.gk (Pm.Nb h.hB.lo h.hB.hi h.n8 λx hx=>?_)⟩
 .rw[Pm.iT];show(ns.map _).length+1<=n+1;rw[aK];lia
 .obtain⟨y,hy,rfl⟩:=fQ.mp hx;exact jY h.hB h.n8 (h.bd y hy)
def Td.tame(h:Td b ns ms F n z c d):Tame (qX b ns ms):=λhz=>by
 have ea:(qX b ns ms).at=F:=funext h.eq;obtain⟨P,hm,hK,hl,_⟩:=h.fb.kp;have hz':b=0:=hz;rw[hz']at hK;refine⟨n,c+d*(2*n),z,h.n8,λx hx=>?_,⟨P,hm,by rw[ea];exact hK,hl⟩,λk hk=>by rw[ea];exact(h.at_ k).mono (xJ (fH _ hk) _),by have:=h.sz;lia⟩;obtain⟨y,hy,rfl⟩:=fQ.mp hx;exact jY h.hB h.n8 (h.bd y hy)
def Td.tr(h:Td b ns ms F n z c d){L:List Int}(lst:dY b (qX b ns ms).at L)(ll:L.length<=ns.length+1):TR b (aX (qX b ns ms) L) F L:=by
 have ea:(qX b ns ms).at=F:=funext h.eq;have ok:=h.ok;have Df:L.length<=(qX b ns ms).rule.length+1:=by show L.length<=(ns.map _).length+1;rw[aK];exact ll
 have afn:dY b F L:=by rw[<-ea];exact lst
 have l1:=h.n12;have l2:=h.wj;have l3:=h.n8;have l4:=h.ln;obtain⟨o1,_⟩:=ahq (r:=qX b ns ms) (L:=L) h.hB ok Df (U:=z+13*(n+1)) ⋯ ⋯ (h.fb.least h.hB afn);obtain⟨m1,m2⟩:=EV Df ok;refine⟨rfl,o1,λk=>?_,afn,m1,by rw[m1];lia⟩;rw[ahg ok.Em lst (by have:=ok.len;lia),ea]
inductive at8(vs:List V)(H:Hp)(Q:VK)(E:XK):Prop|mk (v1 v2:V) (r1 r2:Rw) (bN:vs=[v1,v2]) (bQ:dI H v1 r1) (cA:dI H v2 r2) (cL:r1.b=r2.b) (cT:Q (.int r1.b) H)
def ahS:Sp:=at8
abbrev Ni:=cH "shared_by" 1 ["one","other"] ahS
def RB(I:vZ J (xs.map V.int) H1)(hz:xs.length<=1000){rest:St}(hst:cst ix σ=none::rest)(f:Int->Int)
  (he:∀H' x,Same H1 H'->x∈xs->∀kk:VK,kk (.int (f x)) H'->te (some (.int x)::rest) H' kk)
  (hQ:∀D,H1 D=none->Q (.ref D) (upd H1 D (.lst ((xs.map f).map V.int)))):mD ix (iQ 0) oF te σ Q J H1:=by
 refine Ag I (by rw[aK];exact fj (dW hz)) hst (λ_=>true) (λx=>match x with | .int k=> .int (f k)|_=> .non) ?_ ?_ ?_
 .intro H2 x g2 hx k hk;exact hk
 .intro H2 x g2 hx _ k hk;obtain⟨y,hy,rfl⟩:=fQ.mp hx;exact he H2 y g2 hy k hk
 .intro D hD;have el:(((xs.map V.int).filter λ_=>true).map λx=>match x with | .int k=>V.int (f k)|_=>V.non)=(xs.map f).map V.int:=by
   rw[D4.mpr (by simp),gh,gh];rfl
  rw[el];exact hQ D hD
def Ints(H:Hp)(a:Addr)(xs:List Int):Prop:=H a=some (.lst (xs.map V.int))∨H a=some (.tup (xs.map V.int))
def Ints.same(h:Ints H a xs)(g:Same H H'):Ints H' a xs:=h.imp (g _ _) (g _ _)
def aaq(hA:Ints H1 a xs)(hz:xs.length<=1000){rest:St}(hst:cst ix σ=none::rest)(f:Int->Int)
  (he:∀H' x,Same H1 H'->x∈xs->∀kk:VK,kk (.int (f x)) H'->te (some (.int x)::rest) H' kk)
  (hQ:∀D,H1 D=none->Q (.ref D) (upd H1 D (.lst ((xs.map f).map V.int)))):ad7 K (V.ref a) H1 λJ H1=>mD ix (iQ 0) oF te σ Q J H1:=by
 rcases hA with h|h
 .exact⟨a,rfl,.inl ⟨⟨_,aA.of h⟩,RB (Jf (aA.of h)) hz hst f he hQ⟩⟩
 .exact⟨a,rfl,.inr ⟨⟨_,aB.of h⟩,RB (MS (aB.of h)) hz hst f he hQ⟩⟩
inductive aAn(C:Addr)(vs:List V)(t:Hp)(Q:VK)(E:XK):Prop|mk (n:Int) (bN:vs=[.int n]) (bQ:(n<=12->Q .non t)) (cA:(12<n->E (.ref C) none t))
def auo(C:Addr):Sp:=aAn C
abbrev Cq(P w K mg base bD):=fM P w K mg base "refuse_long" 1 ["length"] (auo bD)
inductive an2(vs:List V)(H:Hp)(Q:VK)(E:XK):Prop|mk (b:Int) (a e:Addr) (ns ms:List Int) (F:Nat->Int) (n z c d:Nat) (bN:vs=[.int b,.ref a,.ref e]) (bQ:Ints H a ns) (cA:Ints H e ms) (cL:Td b ns ms F n z c d) (cT:∀v' r' L H',Same H H'->dI H' v' r'->TR b r' F L->Fb b F n z c d->L.length<=ns.length+1->Q v' H')
def amX:Sp:=an2
abbrev zV:=cH "told_row" 10 ["by","rule","starts"] amX
def v5{a:Nat->Int}(h:n<m):jX ((Pm.aq m a).map V.int) (n:Int)=some (.int (a n)):=by
 rw[dN ⋯ (by rw[Pm.aQ];lia),cM];show some (V.int (Pm.co (Pm.aq m a) n))=_;rw[Pm.bZ,if_pos h]
inductive aww(j:PF)(vs:List V)(H:Hp)(Q:VK)(E:XK):Prop|mk (l1 l2:Addr) (m':Nat) (t o:Nat->Int) (n':Nat) (bN:vs=[.ref l1,.ref l2,.int (n':Int)]) (bQ:H l1=some (.lst ((Pm.aq m' t).map V.int))) (cA:H l2=some (.lst ((Pm.aq m' o).map V.int))) (cL:n'<m') (cT:m'<=12) (dR:(∀h,h<=12->Rm.Bd 20000 (t h))) (gw:(∀h,h<=12->Rm.Bd 20000 (o h))) (iW:∀H',Same H H'->Q (.int (j t o n')) H')
def Pb(f:PF):Sp:=aww f
def yU:PF:=λa c n=>a n+c n
abbrev Vl:=cH "sum_place" 1 ["ours","theirs","n"] (Pb yU)
abbrev Qw:=cH "product_place" 1 ["ours","theirs","n"] (Pb jR)
abbrev Ud:=cH "rolled_place" 1 ["ours","theirs","n"] (Pb oB)
def aaG(mg:Str->Option Value)(g:Addr)(f:PF):Prop:=(mg "sum_place" = some (.ref g)/\f=yU)∨(mg "rolled_place" = some (.ref g)/\f=oB)∨(mg "product_place" = some (.ref g)/\f=jR)
inductive ajW(mg:Str->Option Value)(vs:List V)(H:Hp)(Q:VK)(E:XK):Prop|mk (o:PF) (v1 v2:V) (t g:Addr) (b:Int) (r1 r2:Rw) (ns:List Int) (n z c d:Nat) (bN:vs=[v1,v2,.ref t,.ref g]) (bQ:aaG mg g o) (cA:dI H v1 r1) (cL:dI H v2 r2) (cT:fB r1) (dR:fB r2) (gw:r1.b=b) (iW:(∀j,j<=12->Rm.Bd 20000 (r1.at j))) (jM:(∀j,j<=12->Rm.Bd 20000 (r2.at j))) (oZ:Ints H t ns) (xG:Td b ns (Pm.aq ns.length (o r1.at r2.at)) (λh=>Rm.tk b (o r1.at r2.at h)) n z c d) (E3:∀v' r' L H',Same H H'->dI H' v' r'->TR b r' (λh=>Rm.tk b (o r1.at r2.at h)) L->Fb b (λh=>Rm.tk b (o r1.at r2.at h)) n z c d->L.length<=ns.length+1->Q v' H')
def azE(mg:Str->Option Value):Sp:=ajW mg
abbrev O8(P w K mg base):=fM P w K mg base "pair_row" 11 ["one","other","rule","pair_place"] (azE mg)
def aeo(C:Addr)(f:PF)(v1 v2:V)(H:Hp)(Q:VK)(E:XK):Prop:=MD λ(b:Int) (r1 r2:Rw) (n1 u1 c1 d1 n2 u2 c2 d2:Nat) (L1 L2:List Int)=>dI H v1 r1/\dI H v2 r2/\Ri b r1 n1 u1 c1 d1/\Ri b r2 n2 u2 c2 d2/\dY b r1.at L1/\dY b r2.at L2/\c1+d1*12<=20000/\c2+d2*12<=20000/\u1+u2<=50000/\
 (L1.length-1+(L2.length-1)<=12->∃n c d,L1.length-1+(L2.length-1)<=n/\n<=12/\Pm.Kp b (Pm.mul b L1 L2) (λk=>Rm.tk b (f r1.at r2.at k))/\(∀k,Rm.Bd (c+d*k) (Rm.tk b (f r1.at r2.at k)))/\10<=c/\c+d*12<=10000/\n*(c+d*(2*n)+n)+(u1+u2+13*(n1+n2+3))+458<=112100/\
  ∀v' r' L' H',Same H H'->dI H' v' r'->TR b r' (λk=>Rm.tk b (f r1.at r2.at k)) L'->Fb b (λk=>Rm.tk b (f r1.at r2.at k)) n (u1+u2+13*(n1+n2+3)) c d->r'.rule.length<=L1.length-1+(L2.length-1)->Q v' H')/\
 (12<L1.length-1+(L2.length-1)->∀H',Same H H'->E (.ref C) none H')
inductive ant(C:Addr)(mg:Str->Option Value)(vs:List V)(H:Hp)(Q:VK)(E:XK):Prop|mk (f:PF) (v1 v2:V) (g:Addr) (bN:vs=[v1,v2,.ref g]) (bQ:aaG mg g f) (cA:aeo C f v1 v2 H Q E)
def auj(C:Addr)(mg:Str->Option Value):Sp:=ant C mg
def Vz{v:Nat}(h:∀k,Rm.Bd u (Pm.co L k))(hv:u<=v):∀x∈L,Rm.Bd v x:=λx hx=>by
 obtain⟨k,hk,e⟩:=kW.mp hx;have:=h k;rw[Pm.jL hk,e]at this;exact this.mono hv
def Fb.few(h:Fb b f n u c d){z:Nat}(hz:c+d*12<=z)(i:Nat)(hi:i<=12):Rm.Bd z (f i):=(h.at_ i).mono (eO (xJ (fH _ hi) _) hz)
abbrev QD(P w K mg base bD):=fM P w K mg base "joint_row" 12 ["one","other","pair_place"] (auj bD mg)
inductive ayY(C:Addr)(f:PF)(vs:List V)(H:Hp)(Q:VK)(E:XK):Prop|mk (v1 v2:V) (bN:vs=[v1,v2]) (bQ:aeo C f v1 v2 H Q E)
def ag6(C:Addr)(f:PF):Sp:=ayY C f
abbrev aev(P w K mg base bD):=fM P w K mg base "added" 13 ["one","other"] (ag6 bD yU)
abbrev ae6(P w K mg base bD):=fM P w K mg base "rolled" 13 ["one","other"] (ag6 bD oB)
def asS{L1 L2:List Int}{a c:Nat->Int}(h1:Pm.Kp b L1 a)(h2:Pm.Kp b L2 c):Pm.Kp b (Pm.mul b L1 L2) λn=>Rm.tk b (yU a c n):=ZC (atm (h1.aei L2) (h2.DB L1))
def azX{rule:List Int}(h:k-1<=sums.length):fO rule (sums++[x]) k=fO rule sums k:=by
 unfold fO;exact Pm.aJ λi hi=>by rw[Pm.gY,if_pos ⋯]
def awt{rule:List Int}(h:k-1<=rule.length):fO (rule++[x]) sums k=fO rule sums k:=by
 unfold fO;rw[gW,Cj ⋯,Cj h];exact Pm.aJ λi hi=>by rw[Pm.gY,if_pos ⋯]
inductive akg(vs:List V)(H:Hp)(Q:VK)(E:XK):Prop|mk (a c:Addr) (rule o:List Int) (t:Nat) (bN:vs=[.ref a,.ref c,.int (t:Int)]) (bQ:Ints H a rule) (cA:Ints H c o) (cL:1<=t) (cT:t<=130) (dR:t-1<=o.length) (gw:(∀j∈rule,Rm.Bd 60000 j)) (iW:(∀j∈o,Rm.Bd 60000 j)) (jM:∀H',Same H H'->Q (.int (fO rule o t)) H')
def atg:Sp:=akg
abbrev U3:=cH "behind_first" 1 ["rule","sums","k"] atg
def Le.list(hz:(xs.length)*w+1<=z)(h:∀i,i<xs.length->Le (Pm.co xs i) ((2^w)^(i+1))):∀x∈xs,Rm.Bd z x:=λx hx=>by
 obtain⟨k,hk,e⟩:=kW.mp hx;have:=h k hk;rw[Pm.jL hk,e,<-yx]at this;refine this.bd.mono ?_;have:w*(k+1)<=xs.length*w:=by rw[gZ];exact ig _ hk
 lia
def Le.grow(hl:xs.length=n)(h:∀i,i<n->Le (Pm.co xs i) (Z^(i+1)))(hx:Le x (Z^(n+1))):∀i,i<n+1->Le (Pm.co (xs++[x]) i) (Z^(i+1)):=λi hi=>by
 rw[Pm.gY];by_cases d:i<n
 .rw[if_pos ⋯];exact h i d
 .have e:i=n:=⋯;subst e;rw[if_neg ⋯,hl,kZ];exact hx
inductive awv(vs:List V)(H:Hp)(Q:VK)(E:XK):Prop|mk (a:Addr) (rule:List Int) (n w:Nat) (bN:vs=[.ref a,.int (n:Int)]) (bQ:H a=some (.tup (rule.map V.int))) (cA:n<=120) (cL:n*(w+3)+1<=60000) (cT:w<=59500) (dR:(∀t,Le (Pm.co rule t) (2^w))) (gw:∀o j H',Same H H'->H' o=some (.lst (j.map V.int))->j.length=n->(∀t,t<n->Le (Pm.co j t) ((2^(w+3))^(t+1)))->(∀k,k<n->Pm.co j k=(if k+1<=rule.length then((k+1:Nat):Int)*Pm.co rule k else 0)+fO rule j (k+1))->Q (.ref o) H')
def akZ:Sp:=awv
abbrev Tf:=cH "power_sums" 2 ["rule","count"] akZ
inductive aws(vs:List V)(H:Hp)(Q:VK)(E:XK):Prop|mk (c:Addr) (j:List Int) (n z:Nat) (bN:vs=[.ref c]) (bQ:H c=some (.lst (j.map V.int))) (cA:j.length=n) (cL:n<=12) (cT:n*z+1<=60000) (dR:(∀t,t<n->Le (Pm.co j t) ((2^z)^(t+1)))) (gw:∀o rule H',Same H H'->H' o=some (.lst (rule.map V.int))->rule.length=n->(∀t,t<n->Le (Pm.co rule t) ((2^z)^(t+1)))->(∀k,k<n->Pm.co rule k=(Pm.co j k-fO rule j (k+1))/((k+1:Nat):Int))->Q (.ref o) H')
def asJ:Sp:=aws
abbrev Sy:=cH "rule_of_sums" 2 ["sums"] asJ
def al0(C:Addr)(v1 v2:V)(H:Hp)(Q:VK)(E:XK):Prop:=MD λ(b:Int) (r1 r2:Rw) (n1 u1 c1 d1 n2 u2 c2 d2:Nat) (L1 L2:List Int)=>dI H v1 r1/\dI H v2 r2/\Ri b r1 n1 u1 c1 d1/\Ri b r2 n2 u2 c2 d2/\dY b r1.at L1/\dY b r2.at L2/\c1+d1*12<=20000/\c2+d2*12<=20000/\
 ((L1.length-1)*(L2.length-1)<=12->∃n c d,(L1.length-1)*(L2.length-1)<=n/\n<=12/\(∀k,Rm.Bd (c+d*k) (Rm.tk b (jR r1.at r2.at k)))/\10<=c/\c+d*12<=10000/\(u1+u2+13*(n1+n2+2)+6)*n+10<=59000/\n*(c+d*(2*n)+n)+((u1+u2+13*(n1+n2+2)+6)*n+10)+458<=112100/\
  ∀v' r' L' H',Same H H'->dI H' v' r'->TR b r' (λk=>Rm.tk b (jR r1.at r2.at k)) L'->Fb b (λk=>Rm.tk b (jR r1.at r2.at k)) n ((u1+u2+13*(n1+n2+2)+6)*n+10) c d->r'.rule.length<=(L1.length-1)*(L2.length-1)->Q v' H')/\
 (12<(L1.length-1)*(L2.length-1)->∀H',Same H H'->E (.ref C) none H')
inductive azo(C:Addr)(vs:List V)(H:Hp)(Q:VK)(E:XK):Prop|mk (v1 v2:V) (bN:vs=[v1,v2]) (bQ:al0 C v1 v2 H Q E)
def aqp(C:Addr):Sp:=azo C
abbrev ac1(P w K mg base bD):=fM P w K mg base "multiplied" 13 ["one","other"] (aqp bD)
inductive azA(vs:List V)(H:Hp)(Q:VK)(E:XK):Prop|mk (st e:Nat) (bN:vs=[.int (st:Int),.int (e:Int)]) (bQ:st<=100) (cA:1<=e) (cL:e<=10) (cT:Q .non H)
def ak5:Sp:=azA
abbrev Xz:=cH "refuse_far_steps" 1 ["start","step"] ak5
def EvG(v:V)(st e:Nat)(H:Hp)(Q:VK):Prop:=Ex7 λ(b:Int) (r:Rw) (n u c d:Nat) (L:List Int)=>adB (dI H v r) (Ri b r n u c d) (dY b r.at L) (st<=100) (1<=e) (e<=10) ((u+13*(n+1)+3)*(e*n)+10<=59000) (c+d*st+d*e*12<=10000) (n*(c+d*st+d*e*(2*n)+n)+((u+13*(n+1)+3)*(e*n)+10)+458<=112100) (∀v' r' L' H',Same H H'->dI H' v' r'->TR b r' (λk=>r.at (st+e*k)) L'->Fb b (λk=>r.at (st+e*k)) n ((u+13*(n+1)+3)*(e*n)+10) (c+d*st) (d*e)->r'.rule.length<=L.length-1->Q v' H')
inductive axU(vs:List V)(H:Hp)(Q:VK)(E:XK):Prop|mk (v:V) (st e:Nat) (bN:vs=[v,.int (st:Int),.int (e:Int)]) (bQ:EvG v st e H Q)
def ahN:Sp:=axU
abbrev XS:=cH "every" 11 ["row","start","step"] ahN
inductive ax5(vs:List V)(H:Hp)(Q:VK)(E:XK):Prop|mk (v:V) (b:Int) (r:Rw) (x:Int) (n u c d j:Nat) (bN:vs=[v,.int x]) (bQ:dI H v r) (cA:Ri b r n u c d) (cL:Rm.Bd 10 x) (cT:(∀o∈r.rule,Rm.Bd j o)) (dR:10<=j) (gw:j<=2500) (iW:c+10+d*12<=2000) (jM:12*(c+10+d*24+12)<=100000) (oZ:∀v' r' L H',Same H H'->dI H' v' r'->TR b r' (λt=>Rm.tk b (x*r.at t)) L->Fb b (λt=>Rm.tk b (x*r.at t)) n u (c+10) d->Q v' H')
def aqx:Sp:=ax5
abbrev abo:=cH "scaled" 11 ["row","number"] aqx
def Ge(a:Nat->Int)(h:n<=m):(Pm.aq m a).take n=Pm.aq n a:=by
 rw[Pm.aq,Pm.aq,<-rR,List.take_range,Cj h]
inductive axo(C:Addr)(vs:List V)(H:Hp)(Q:VK)(E:XK):Prop|mk (v:V) (t:Int) (r:Rw) (n u c d:Nat) (L:List Int) (bN:vs=[v]) (bQ:dI H v r) (cA:Ri t r n u c d) (cL:dY t r.at L) (cT:(12<L.length->∀H',Same H H'->E (.ref C) none H')) (dR:(L.length<=12->n+1<=12/\u+13*(n+1)+23<=59000/\c+1+(d+1)*12<=10000/\(n+1)*(c+1+(d+1)*(2*(n+1))+(n+1))+(u+13*(n+1)+23)+458<=112100/\
 ∀v' r' L' H',Same H H'->dI H' v' r'->TR t r' (lJ t r.at) L'->Fb t (lJ t r.at) (n+1) (u+13*(n+1)+23) (c+1) (d+1)->r'.rule.length<=L.length->Q v' H'))
def anP(C:Addr):Sp:=axo C
abbrev ad5(P w K mg base bD):=fM P w K mg base "summed" 11 ["row"] (anP bD)
inductive aj0(C:Addr)(vs:List V)(H:Hp)(Q:VK)(E:XK):Prop|mk (v:V) (t:Int) (r:Rw) (n u o d:Nat) (L:List Int) (ln:Addr) (j:List Int) (bN:vs=[v,.ref ln]) (bQ:dI H v r) (cA:Ri t r n u o d) (cL:dY t r.at L) (cT:H ln=some (.lst (j.map V.int))) (dR:j.length<=12) (gw:(∀h∈j,fG t h)) (iW:(∀h∈j,Rm.Bd o h)) (jM:(12<L.length-1+j.length->∀H',Same H H'->E (.ref C) none H')) (oZ:(L.length-1+j.length<=12->n+j.length<=12/\u+13*(n+1)<=59000/\o+d*12<=10000/\(n+j.length)*(o+d*(2*(n+j.length))+(n+j.length))+(u+13*(n+1))+458<=112100/\
 ∀v' r' L' H',Same H H'->dI H' v' r'->TR t r' (mZ j r.at) L'->Fb t (mZ j r.at) (n+j.length) (u+13*(n+1)) o d->r'.rule.length<=L.length-1+j.length->Q v' H'))
def ajR(C:Addr):Sp:=aj0 C
abbrev aer(P w K mg base bD):=fM P w K mg base "put_ahead" 11 ["row","numbers"] (ajR bD)
inductive ak2(K:aL)(vs:List V)(H:Hp)(Q:VK)(E:XK):Prop|mk (t:Int) (l:Addr) (p:List Int) (bN:vs=[.int t,.ref l]) (bQ:0<=t) (cA:H l=some (.lst (p.map V.int))) (cL:p.length<=1000) (cT:Told H Q ((p.map (Rm.tk t)).map V.int))
def asi(K:aL):Sp:=ak2 K
abbrev ahs(P w K mg base):=fM P w K mg base "line_taken" 2 ["by","line"] (asi K)
inductive alJ(vs:List V)(H:Hp)(Q:VK)(E:XK):Prop|mk (ll:Addr) (h:List V) (t:List (List Int)) (W r c:Nat) (cI:Int) (ex:List Addr) (bN:vs=[.ref ll,.int r,.int cI]) (bQ:cI=(c:Int)) (cA:H ll=some (.lst h)) (cL:cC H ex h t) (cT:(∀j,j<t.length->(Dm.ln t j).length=W)) (dR:c<W) (gw:t.length<=1000) (iW:r<=t.length) (jM:(∀o:Nat,r<=o->o<t.length->Pm.co (Dm.ln t o) c≠0->Q (.int o) H)) (oZ:((∀j,r<=j->j<t.length->Pm.co (Dm.ln t j) c=0)->Q .non H))
def ajo:Sp:=alJ
abbrev af8:=cH "head_line" 1 ["lines","begin","column"] ajo
def Brt(b:Int)(L L':List (List Int))(a r:Nat):Prop:=(a=r/\L'=L)∨(r<a/\L'.length=L.length/\Dm.ln L' r=Dm.ln L a/\Dm.ln L' a=(Dm.ln L r).map (λx=>Rm.tk b (0-x))/\∀i,i≠r->i≠a->Dm.ln L' i=Dm.ln L i)
inductive anF(vs:List V)(H:Hp)(Q:VK)(E:XK):Prop|mk (b:Int) (ll:Addr) (j:List V) (t:List (List Int)) (a r:Nat) (ex:List Addr) (bN:vs=[.int b,.ref ll,.int a,.int r]) (bQ:0<=b) (cA:H ll=some (.lst j)) (cL:cC H ex j t) (cT:ll∈ex) (dR:Stand H ex) (gw:r<=a) (iW:a<t.length) (jM:(∀o,o<t.length->(Dm.ln t o).length<=1000)) (oZ:∀xs' L' H',Keep ll H H'->H' ll=some (.lst xs')->cC H' ex xs' L'->Brt b t L' a r->Q .non H')
def amd:Sp:=anF
abbrev afl:=cH "bring_up" 2 ["by","lines","at","top"] amd
def ToldF(H:Hp)(Q:VK)(b last pv fa:Int)(p r:List Int):Prop:=∀t m H',Same H H'->H t=none->H' t=some (.lst (jO V.int m))->m.length=p.length->(∀k,k<p.length->Pm.co m k=Rm.tk b (Pm.co m k)/\Rm.tk b (last*Pm.co m k)=Rm.tk b (pv*Pm.co p k-fa*Pm.co r k))->Q (.ref t) H'
inductive ayc(vs:List V)(H:Hp)(Q:VK)(E:XK):Prop|mk (b last:Int) (l1 l2:Addr) (o j:List Int) (t:Nat) (cI:Int) (bN:vs=[.int b,.ref l1,.ref l2,.int cI,.int last]) (bQ:cI=(t:Int)) (cA:fY b) (cL:H l1=some (.lst (o.map V.int))) (cT:H l2=some (.lst (j.map V.int))) (dR:o.length=j.length) (gw:t<o.length) (iW:o.length<=1000) (jM:last≠0) (oZ:last=Rm.tk b last) (xG:Rm.Bd 400000 last) (E3:(∀h∈o,Rm.Bd 1000000 h)) (OL:(∀h∈j,Rm.Bd 1000000 h)) (afE:(b=0->∀k,k<o.length->∃e,Pm.co j t*Pm.co o k-Pm.co o t*Pm.co j k=last*e)) (aqO:ToldF H Q b last (Pm.co j t) (Pm.co o t) o j)
def arG:Sp:=ayc
def ahY(h0:x≠0)(h:Rm.Bd n x):x.natAbs.log2<n:=(Nat.log2_lt ⋯).mpr h
abbrev aac:=cH "freed" 4 ["by","line","head","column","last"] arG
def UL(b:Int)(n W u:Nat)(A0:Nat->Nat->Int):Prop:=∀c A hd r L last,c<=W->Dm.cN b n W u A0 c A hd r L last->Rm.Bd 400000 last/\∀i,i<n->∀x∈Dm.ln L i,Rm.Bd 400000 x
def azK(hB:fY b){n W u l:Nat}{A0:Nat->Nat->Int}(h:∀c A hd r L last,c<=W->Dm.cN b n W u A0 c A hd r L last->r<=l)(hu:(l+1)*(u+(l+1))+1<=400000):UL b n W u A0:=λc A hd r L last hcw I=>by
 obtain⟨hb0,hb1,_⟩:=hB.range;have hr:=h c A hd r L last hcw I;have bb:Rm.Bd 400000 b:=(Rm.Bd.of (n:=10) ⋯ ⋯).mono ∅;have z1:r*(u+r)<=(l+1)*(u+(l+1)):=iH ⋯ ⋯;have z2:(r+1)*(u+(r+1))<=(l+1)*(u+(l+1)):=iH ⋯ ⋯;refine⟨?_,λi hi x hx=>?_⟩
 .rw[I.la];exact Rm.tE hb0 bb ((Dm.DX (u:=u) λi' k' _ _=>I.v7 _ _).mono ⋯)
 .obtain⟨k,hk,e⟩:=kW.mp hx;rw[<-e,<-Pm.jL hk,I.en i k hi (by rw[<-I.wd i hi];exact hk)];exact Rm.tE hb0 bb ((I.bdE i k).mono ⋯)
inductive aqw(vs:List V)(H:Hp)(Q:VK)(E:XK):Prop|mk (b:Int) (wide:Nat) (ll:Addr) (xs'':List V) (o:List (List Int)) (W u:Nat) (ex:List Addr) (bN:vs=[.int b,.int wide,.ref ll]) (bQ:fY b) (cA:H ll=some (.lst xs'')) (cL:cC H ex xs'' o) (cT:ll∈ex) (dR:Stand H ex) (gw:wide<=W) (iW:W<=100) (jM:o.length<=30) (oZ:UL b o.length W u (λj k=>Pm.co (Dm.ln o j) k)) (xG:(∀j,j<o.length->(Dm.ln o j).length=W)) (E3:(∀j k,Rm.tk b (Pm.co (Dm.ln o j) k)=Pm.co (Dm.ln o j) k)) (OL:(∀j k,Rm.Bd u (Pm.co (Dm.ln o j) k))) (afE:∀t th A hd r L' last xs' H',Keep ll H H'->H' t=some (.tup [.ref th,.int last])->H' th=some (.lst ((Pm.aq r λh=>((hd h:Nat):Int)).map V.int))->H' ll=some (.lst xs')->cC H' ex xs' L'->Dm.cN b o.length W u (λj k=>Pm.co (Dm.ln o j) k) wide A hd r L' last->Q (.ref t) H')
def asR:Sp:=aqw
abbrev ahx:=cH "clear" 5 ["by","wide","lines"] asR
def apa{xs:List V}{ps:List (List Int)}{ex:List Addr}(hA:H1 a=some (.lst xs))(hp:cC H1 ex xs ps)(hz:xs.length<=1000){rest:St}(hst:cst ix σ=none::rest)(G:List Int->V)
  (he:∀(H':Hp) (t:Addr) (p:List Int),Same H1 H'->p∈ps->H' t=some (.lst (p.map V.int))->∀k:VK,(∀H2,Same H' H2->k (G p) H2)->te (some (.ref t)::rest) H' k)
  (hQ:∀D H',H1 D=none->Same H1 H'->H' D=some (.lst (ps.map G))->Q (.ref D) H'):
  mD ix (iQ 0) oF te σ Q (BL K a) H1:=by
 have I:=Jf (K:=K) (aA.of hA);have lx:=hp.len;constructor;intro D hD;refine⟨λi m σ' H'=>m=xs.length-i/\i<=xs.length/\(∃o,σ'=o::rest)/\Same H1 H'/\H' D=some (.lst ((ps.take i).map G)),⟨xs.length,by simp,dD _,⟨none,hst⟩,Same.new hD _,aD⟩,?_⟩;rintro i m σ' H' ⟨rfl,hi,⟨o,rfl⟩,g,hl⟩;by_cases hlt:i<xs.length
 .refine .inr ⟨I.go i _ g hlt,λx H2 y=>?_⟩;obtain⟨rfl,hx⟩:=I.mq i _ x H2 g y;have hx:=hx hlt;obtain⟨t,e1,_,e2⟩:=hp.get (⋯:i<ps.length);rw[e1]at hx;cases hx;have hpi:ps[i]?=some (Dm.ln ps i):=by
   unfold Dm.ln;rw[List.getD_eq_getElem?_getD,List.getElem?_eq_getElem ⋯];rfl
  have et:ps.take (i+1)=ps.take i++[Dm.ln ps i]:=by rw[uP,hpi];rfl
  change te (some (.ref t)::rest) H2 _;refine he H2 t (Dm.ln ps i) g (List.mem_of_getElem? hpi) (g _ _ e2) _ λH3 g3=>⟨_,g3 _ _ hl,?_,xs.length-(i+1),⋯,rfl,hlt,⟨_,rfl⟩,Same.upd (g.trans g3) hD _,?_⟩
  .rw[aK,nT];have:=dW hz;lia
  .rw[aD,et,jo];rfl
 .have e:i=xs.length:=⋯;subst e;rw[lx,wL]at hl;exact .inl ⟨I.stop _ _ g (aR _),hQ D H' hD g hl⟩
def Tt(x:Int):(if x<0 then -x else x)=(x.natAbs:Int):=by split<;>lia
inductive awk(vs:List V)(H:Hp)(Q:VK)(E:XK):Prop|mk (x y:Int) (bN:vs=[.int x,.int y]) (bQ:Q (.int (oJ x.natAbs y.natAbs:Nat)) H)
def aky:Sp:=awk
abbrev agw:=cH "common_divisor" 1 ["one","other"] aky
def amb{bt:Int}{ts:List Int}(h0:bt≠0)(h:Rm.Bd 400000 bt):(Lm.low bt ts).natAbs.log2<1000000:=by
 have n0:=Lm.low_ne h0 ts;refine Yq ((Nat.log2_lt (n:=(Lm.low bt ts).natAbs) (k:=400000) ⋯).mpr ?_) ∅;refine Jo ?_ h;have d:(Lm.low bt ts).natAbs∣bt.natAbs:=Int.natAbs_dvd_natAbs.mpr (Lm.abX bt ts);exact uq ⋯ d
inductive alu(vs:List V)(H:Hp)(Q:VK)(E:XK):Prop|mk (b bt:Int) (l:Addr) (ts:List Int) (bN:vs=[.int b,.int bt,.ref l]) (bQ:fY b) (cA:bt≠0) (cL:Rm.tk b bt=bt) (cT:H l=some (.lst (ts.map V.int))) (dR:ts.length<=100) (gw:Rm.Bd 400000 bt) (iW:∀t lt bot us H',Same H H'->H' t=some (.tup [.int bot,.ref lt])->H' lt=some (.lst (jO V.int us))->H lt=none->Dm.Low b bt ts bot us->Q (.ref t) H')
def auJ:Sp:=alu
abbrev V7:=cH "lowest" 4 ["by","bottom","tops"] auJ
theorem cC.drop{H:Hp}{ex:List Addr}:∀{xs:List V} {ps:List (List Int)} (r:Nat),cC H ex xs ps->cC H ex (xs.drop r) (ps.drop r)
 |_,_,0,h=>h
 |_,_,_+1,.nil=> .nil
 |_,_,r+1,.cons _ _ h=>cC.drop r h
def af0{L:List (List Int)}{r:Nat}{p:List Int}(h:p∈L.drop r):∃i,r<=i/\i<L.length/\p=Dm.ln L i:=by
 obtain⟨j,hj,e⟩:=kW.mp h;rw[yC]at hj;refine⟨r+j,⋯,⋯,?_⟩;unfold Dm.ln;rw[List.getD_eq_getElem?_getD,List.getElem?_eq_getElem ⋯,<-e,Xy];rfl
def ayT{L:List (List Int)}{r:Nat}(h1:r<=i)(h2:i<L.length):Dm.ln L i∈L.drop r:=by
 refine kW.mpr ⟨i-r,by rw[yC];lia,?_⟩;unfold Dm.ln;rw[Xy,List.getD_eq_getElem?_getD,List.getElem?_eq_getElem h2];simp only[Xk];congr 1;lia
def ahR(b:Int)(L:List (List Int))(ws:List Int):(((d7 L.length).map λi=>V.int (0+(i:Nat))).map (aae λi=>(Dm.ln L i++[Pm.co ws i]).map (Rm.tk b)))=Dm.qP b L ws:=by
 rw[Dm.qP,gh];refine uE λi _=>?_;show(Dm.ln L (0+(i:Int)).toNat++_).map _=_;rw[(⋯:(0+(i:Int)).toNat=i)]
def C9(b:Int)(n W u:Nat)(A:Nat->Nat->Int):Prop:=10<=u/\UL b n W u A
def am7{p:Nat->Bool}{rest:List Nat}(h:(d7 w).filter p=c::rest):∀k,k<c->p k=false:=λk hk=>by
 have hs:((d7 w).filter p).Pairwise (· < ·):=ajy _ List.pairwise_lt_range;have mc:c∈(d7 w).filter p:=by rw[h];exact mC ..
 have hc:=gF.mp (rF.mp mc).1;cases e:p k with
 |false=>rfl
 |true=>
  have mk:k∈(d7 w).filter p:=rF.mpr ⟨gF.mpr ⋯,e⟩;rw[h]at mk hs;rcases fR.mp mk with z|z
  .lia
  .have:=(List.pairwise_cons.mp hs).1 k z;lia
inductive awu(vs:List V)(H:Hp)(Q:VK)(E:XK):Prop|mk (u:Nat) (b:Int) (wide r n:Nat) (last:Int) (ll lh:Addr) (t:List V) (L:List (List Int)) (hd:Nat->Nat) (A0 A:Nat->Nat->Int) (ex:List Addr) (bN:vs=[.int b,.int wide,.ref ll,.ref lh,.int last]) (bQ:fY b) (cA:H ll=some (.lst t)) (cL:cC H ex t L) (cT:H lh=some (.lst ((Pm.aq r λh=>((hd h:Nat):Int)).map V.int))) (dR:Dm.cN b n (wide+1) u A0 wide A hd r L last) (gw:wide<=60) (iW:C9 b n (wide+1) u A0) (jM:n<=30) (oZ:r≠wide) (xG:∀lt fs H',Same H H'->H' lt=some (.lst (jO V.int fs))->H lt=none->Dm.CZ u b n wide A0 fs->Q (.ref lt) H')
def aqn:Sp:=awu
abbrev acP:=cH "free_numbers" 5 ["by","wide","lines","heads","last"] aqn
inductive aiV(vs:List V)(H:Hp)(Q:VK)(E:XK):Prop|mk (u':Nat) (h:Int) (wide:Nat) (ta tw:Addr) (xs':List V) (o:List (List Int)) (ws:List Int) (ex:List Addr) (bN:vs=[.int h,.int wide,.ref ta,.ref tw]) (bQ:fY h) (cA:H ta=some (.lst xs')) (cL:cC H ex xs' o) (cT:H tw=some (.lst (ws.map V.int))) (dR:ws.length=o.length) (gw:o.length<=30) (iW:wide<=60) (jM:C9 h o.length (wide+1) u' (Dm.aug h o ws)) (oZ:(∀i',i'<o.length->(Dm.ln o i').length=wide)) (xG:(∀p∈o,∀x'∈p,Rm.Bd u' x')) (E3:(∀x'∈ws,Rm.Bd u' x')) (OL:((∀x' bt,Rm.tk h bt≠0->¬Dm.iw h o.length wide (Dm.aug h o ws) x' bt)->(∃y:Nat->Int,(∀k',k'<wide->Rm.tk h (Pm.sm o.length λj=>y j*Dm.aug h o ws j k')=0)/\Rm.tk h (Pm.sm o.length λj=>y j*Dm.aug h o ws j wide)≠0)->∀H',Same H H'->Q .non H')) (afE:(∀bot us,Dm.xu u' h o.length wide (Dm.aug h o ws) bot us->Dm.oO h o.length wide (Dm.aug h o ws)->∀t lt H',Same H H'->H' t=some (.tup [.str ("one" : Str),.int bot,.ref lt])->H' lt=some (.lst (jO V.int us))->H lt=none->Q (.ref t) H')) (aqO:(∀bot us fs,Dm.xu u' h o.length wide (Dm.aug h o ws) bot us->Dm.CZ u' h o.length wide (Dm.aug h o ws) fs->∀t lt lf H',Same H H'->H' t=some (.tup [.str ("many" : Str),.int bot,.ref lt,.ref lf])->H' lt=some (.lst (jO V.int us))->H' lf=some (.lst (jO V.int fs))->H lt=none->H lf=none->lt≠lf->Q (.ref t) H'))
def anB:Sp:=aiV
abbrev adW:=cH "solution" 6 ["by","wide","table","wished"] anB
inductive ak7(vs:List V)(H:Hp)(Q:VK)(E:XK):Prop|mk (ka:Addr) (kn:List Int) (size:Nat) (bN:vs=[.ref ka,.int size]) (bQ:H ka=some (.lst (kn.map V.int))) (cA:size<=kn.length) (cL:kn.length<=30) (cT:∀t ys H',H t=none->Same H H'->H' t=some (.lst ys)->cC H' [t] ys (Dm.qj kn size)->Q (.ref t) H')
def azk:Sp:=ak7
abbrev ahl:=cH "lines_of" 1 ["known","size"] azk
inductive mQ(u:Nat)(o:Int)(kn:List Int)(j:Nat)(H0 H:Hp):V->Prop
 |one {bot:Int} {us:List Int} {t lt:Addr}:Dm.xu u o (kn.length-j) j (Dm.gO o kn j) bot us->Dm.oO o (kn.length-j) j (Dm.gO o kn j)->H t=some (.tup [.str ("one" : Str),.int bot,.ref lt])->H lt=some (.lst (jO V.int us))->H0 lt=none->mQ u o kn j H0 H (.ref t)
 |many {bot:Int} {us fs:List Int} {t lt lf:Addr}:Dm.xu u o (kn.length-j) j (Dm.gO o kn j) bot us->Dm.CZ u o (kn.length-j) j (Dm.gO o kn j) fs->H t=some (.tup [.str ("many" : Str),.int bot,.ref lt,.ref lf])->H lt=some (.lst (jO V.int us))->H lf=some (.lst (jO V.int fs))->H0 lt=none->H0 lf=none->mQ u o kn j H0 H (.ref t)
def mQ.up{kn:List Int}{H0 H0':Hp}(g0:Same H0' H0)(g:Same H H')(h:mQ u b kn s H0 H v):mQ u b kn s H0' H' v:=by
 cases h with
 |one a i b c d=>exact .one a i (g _ _ b) (g _ _ c) (g0.free d)
 |many a f b c d e e'=>exact .many a f (g _ _ b) (g _ _ c) (g _ _ d) (g0.free e) (g0.free e')
def mQ.fits(hB:fY b){kn:List Int}{s:Nat}{H0 H:Hp}{v:V}(h:mQ u b kn s H0 H v):∃x bt,Rm.tk b bt≠0/\Dm.FB b (Pm.co kn) kn.length s x bt:=by
 have h1:Rm.tk b 1≠0:=by rw[hB.one];decide
 cases h with
 |one a _ _ _ _=>exact⟨_,_,(a.ok hB).bot h1,Dm.J0.mp (a.ok hB).sums⟩
 |many a _ _ _ _ _ _=>exact⟨_,_,(a.ok hB).bot h1,Dm.J0.mp (a.ok hB).sums⟩
inductive ak3(vs:List V)(t:Hp)(Q:VK)(E:XK):Prop|mk (u':Nat) (j:Int) (ka:Addr) (kn:List Int) (size:Nat) (bN:vs=[.int j,.ref ka,.int size]) (bQ:fY j) (cA:t ka=some (.lst (kn.map V.int))) (cL:size<=kn.length) (cT:kn.length<=24) (dR:(∀h,h<=kn.length->C9 j (kn.length-h) (h+1) u' (Dm.gO j kn h))) (gw:(∀x'∈kn,Rm.Bd u' x')) (iW:((∀x' bt,Rm.tk j bt≠0->¬Dm.FB j (Pm.co kn) kn.length size x' bt)->∀o,Same t o->Q .non o)) (jM:(∀v' o,Same t o->mQ u' j kn size t o v'->Q v' o))
def ay9:Sp:=ak3
abbrev aaY:=cH "fit" 7 ["by","known","size"] ay9
inductive aAe(vs:List V)(H:Hp)(Q:VK)(E:XK):Prop|mk (h:Nat) (o:Int) (ka:Addr) (kn:List Int) (m:Nat) (bN:vs=[.int o,.ref ka]) (bQ:fY o) (cA:H ka=some (.lst (kn.map V.int))) (cL:kn.length<=24) (cT:(∀j,j<=kn.length->C9 o (kn.length-j) (j+1) h (Dm.gO o kn j))) (dR:(∀x'∈kn,Rm.Bd h x')) (gw:m<=kn.length) (iW:(∃x' bt,Rm.tk o bt≠0/\Dm.FB o (Pm.co kn) kn.length m x' bt)) (jM:(∀t,t<m->∀x' bt,Rm.tk o bt≠0->¬Dm.FB o (Pm.co kn) kn.length t x' bt)) (oZ:∀v H',Same H H'->mQ h o kn m H H' v->Q v H')
def amN:Sp:=aAe
abbrev abt:=cH "fitted" 8 ["by","known"] amN
def aey{s:Str}(hs:agt s=true)(n:Int)(p:List Int):SeqAt.shaped (.tuple [.str s,.int n,.list (p.map .int)])=true:=by
 have h1:=Ce p;have h3:=Aa p;simp only[SeqAt.shaped,Ei,KW,CG,Fd,h1,hs,GZ,Gr];exact decide_eq_true ⋯
def au4(s:Str)(n:Int)(p:List Int):oX (.tuple [.str s,.int n,.list (p.map .int)]) (.tuple [.str s,.int n,.list (p.map .int)])=true:=by
 rw[oX];simp only[YL,ae0,decide_true,Gr];simp[oX]
def aki{c x y:Addr}{s:Str}(hs:agt s=true){n:Int}{p:List Int}{Q:VK}(ha:H a=some (.tup [.str s,.int n,.ref x]))(hx:H x=some (.lst (p.map V.int)))
  (hb:H c=some (.tup [.str s,.int n,.ref y])) (hy:H y=some (.lst (p.map V.int))) (q:Q (.bl (g true)) H):tu K g (.ref a) (.ref c) H Q:=
 .inl ⟨_,_,.tup (aB.of ha) (.cons (.str s) (.cons (.int n) (.cons (.lst (aA.of hx) (ju.ints p)) .nil))),.tup (aB.of hb) (.cons (.str s) (.cons (.int n) (.cons (.lst (aA.of hy) (ju.ints p)) .nil))),
  aey hs n p,aey hs n p,by rw[au4];exact q⟩
theorem X7(n:Nat){rule:List Int}{f:Nat->Int}(hr:∀x∈rule,x.natAbs<=100):∀m:Nat,m<=n->(∀k,k<m->(f (n-1-k)).natAbs<=100*101^(n-1-k))->(Rm.S rule f n m).natAbs+100*101^(n-m)<=100*101^n
 |0,_,_=>by unfold Rm.S;simp
 |m+1,hm,h=>by
  have ih:=X7 n hr m ⋯ λk hk=>h k ⋯;have h1:=h m ⋯;have h2:(rule.getD m 0).natAbs<=100:=by
   by_cases c:m<rule.length
   .exact hr _ (Pm.uF c)
   .rw[show rule.getD m 0=0 from Pm.bh ⋯];decide
  unfold Rm.S;have h3:=Aw (Rm.S rule f n m) (rule.getD m 0*f (n-1-m));rw[jD]at h3;have h4:(rule.getD m 0).natAbs*(f (n-1-m)).natAbs<=100*(100*101^(n-1-m)):=iH h2 h1;have e:n-m=(n-(m+1))+1:=⋯;have e2:n-1-m=n-(m+1):=⋯;rw[e,iY,<-mz]at ih;rw[e2]at h4 h3⊢;generalize 100*101^(n-(m+1))=z at ih h4⊢;lia
def aAj{rule:List Int}(hl:rule.length=starts.length)(hr:∀x∈rule,x.natAbs<=100)(hs:∀x∈starts,x.natAbs<=100):∀n,(Rm.at_ 0 rule starts n).natAbs<=100*101^n:=by
 intro n;induction n using mV with
 |ind n ih=>
  have p6:0<101^n:=pF ∅;by_cases h:n<starts.length
  .rw[Rm.qe h];exact eO (hs _ (Pm.uF h)) (Nat.le_mul_of_pos_right _ p6)
  .rw[Rm.vh hl ⋯,Rm.cJ];by_cases h0:rule.length=0
   .rw[h0];unfold Rm.S;simp
   .have:=X7 n (f:=Rm.at_ 0 rule starts) hr rule.length ⋯ λk hk=>ih _ ⋯;lia
def amY{rule:List Int}(hl:rule.length=starts.length)(hr:∀x∈rule,x.natAbs<=100)(hs:∀x∈starts,x.natAbs<=100)(n:Nat):Rm.Bd (10+7*n) (Rm.at_ 0 rule starts n):=by
 have h1:=aAj hl hr hs n;have h2:101^n<=(2^7)^n:=D6 ∅ n;rw[<-yx]at h2;show(Rm.at_ 0 rule starts n).natAbs<2^(10+7*n);rw[uK];have:(2:Nat)^10=1024:=∅;have p:=pF (n:=7*n) (∅:0<2);generalize (2:Nat)^(7*n)=z at h2 p⊢;lia
def fY.toF(h:fY b):gH b:=⟨h.range.1,h.range.2.1,h.one,h⟩
def agg(hb:gH b){f:Nat->Int}{L:List Int}(lst:dY b f L)(hl:L.length<=13){c d:Nat}(d4:4<=d)(hf:∀k,Rm.Bd (c+d*k) (f k))(k:Nat):Rm.Bd ((d+1)*12+92) (Pm.co L k):=by
 by_cases z:b=0
 .have hne:=Dm.R8 hb.p.dom (by rw[hb.one];decide) lst.mon lst.nu lst.kp lst.all;have hk:=lst.kp;rw[z]at hne hk;rw[Rm.cJ]at hne;have q:=Dm.awp lst.mon hk hne hl d4 hf k;have z1:(d+1)*(L.length-1)<=(d+1)*12:=fH _ ⋯;exact q.mono ⋯
 .rw[<-lst.nu k];exact Je hb ⋯ z (vB hb.lo _)
def dw(p m:Nat):Nat:=if 80<=m then 7*p else 21*p/2
def aoS(h:80<=m):dw p m=7*p:=if_pos h
def qW(p m:Nat):7*p<=dw p m/\2*dw p m<=21*p:=by
 unfold dw;split<;>lia
structure Kw(b:Int)(p m:Nat)(r:Rw):Prop where
 hB:gH b
 by_:r.b=b
 ok:fB r
 jx:r.rule.length<=12
 tame:Tame r
 at_:∀k,Rm.Bd (28*p-18+dw p m*k) (r.at k)
 rl:∀x∈r.rule,Rm.Bd 2200 x
def Kw.ex(h:Kw b p m r):∃L,dY b r.at L/\L.length<=r.rule.length+1:=by
 have hk:=h.ok.kp;rw[h.by_]at hk;obtain⟨L,h1,h2⟩:=ad9 h.hB.p (Pm.uW b r.rule) (Hj b r.rule h.hB.one) hk;exact⟨L,h1,by rw[Pm.iT]at h2;exact h2⟩
def Kw.Dh(h:Kw b p m r){L:List Int}(lst:dY b r.at L):L.length<=13:=by
 obtain⟨L',l1,l2⟩:=h.ex;have:=h.jx;rw[lst.uniq h.hB.one l1];lia
def Kw.ri(h:Kw b p m r)(p1:1<=p)(p8:p<=8){L:List Int}(lst:dY b r.at L):Ri b r (L.length-1) 1112 (28*p-18) (dw p m):=by
 have hp:=lst.mon.pos;have Dh:=h.Dh lst;have:=qW p m;refine⟨h.hB,h.by_,h.ok,h.jx,h.tame,h.at_,λk=>by have:=h.ok.Em k;rw[h.by_]at this;exact this,⋯,∅,∅,⋯,L,lst.mon,lst.kp,⋯,λ_ k=>?_⟩;exact(agg h.hB lst Dh ⋯ h.at_ k).mono ⋯
def Kw.up{p':Nat}(h:Kw b p m r)(hp:p<=p'):Kw b p' m r:=by
 refine⟨h.hB,h.by_,h.ok,h.jx,h.tame,λk=>(h.at_ k).mono (PD ⋯ (ig _ ?_)),h.rl⟩;unfold dw;split<;>lia
def xU(hn:n<=12)(hc:c<=430)(hd:d<=168):n*(c+d*(2*n)+n)<=53688:=by
 have h1:d*(2*n)<=168*24:=iH hd ⋯;have h2:n*(c+d*(2*n)+n)<=12*4474:=iH hn ⋯;lia
def Kw.of(hb:gH b)(t:TR b r f L)(h:Fb b f n u c d)(hu:u<=57000)(p1:1<=p)(p16:p<=16)(hc:c<=28*p-18)(hd:d<=dw p m):Kw b p m r:=by
 have ea:r.at=f:=funext t.same;have hw:=qW p m;have n12:=h.n12;have hs:=xU n12 (⋯:c<=430) (⋯:d<=168);have at_:∀k,Rm.Bd (28*p-18+dw p m*k) (f k):=λk=>(h.at_ k).mono (PD hc (ig _ hd));have hl:=t.len;have h12:=t.jx;refine⟨hb,t.by_,t.ok,t.jx,(t.ri hb h ⋯).tame,by rw[ea];exact at_,λx hx=>?_⟩;rw[t.rule hb]at hx;obtain⟨k,_,rfl⟩:=Pm.gK (show x∈Pm.aq _ _ from hx);refine jY hb ∅ ?_;rw[jT];exact Pm.xg ((agg hb t.lst ⋯ ⋯ at_ _).mono ⋯)
structure Bw(b:Int)(r:Rw):Prop where
 by_:r.b=b
 len:r.rule.length=r.starts.length
 short:r.rule.length<=3
 rn:∀x∈r.rule,fG b x/\(b=0->x.natAbs<=100)
 sn:∀x∈r.starts,fG b x/\(b=0->x.natAbs<=100)
def Bw.kw(hb:gH b){r:Rw}(h:Bw b r):Kw b 1 90 r:=by
 have e:=h.by_;have h3:=h.short;have few:∀x,fG b x/\(b=0->x.natAbs<=100)->Rm.Bd 10 x:=λx hx=>by
  by_cases z:b=0
  .have:=hx.2 z;exact Rm.Bd.of ⋯ ⋯
  .exact Je hb ∅ z hx.1
 have ok:fB r:=⟨h.len,⋯,by rw[e];exact hb.lo,by rw[e];exact hb.hi,λx hx=>by rw[e];exact(h.rn x hx).1,λx hx=>by rw[e];exact(h.sn x hx).1,λx hx=>(few x (h.rn x hx)).mono ∅,λx hx=>(few x (h.sn x hx)).mono ∅⟩;have at_:∀k,Rm.Bd (10+7*k) (r.at k):=λk=>by
  by_cases z:b=0
  .have:=amY h.len (λx hx=>(h.rn x hx).2 z) (λx hx=>(h.sn x hx).2 z) k;rw[<-z,<-e]at this;exact this
  .have:=ok.acA k;rw[e]at this;exact Je hb ⋯ z this
 refine⟨hb,e,ok,⋯,λz=>?_,at_,λx hx=>(few x (h.rn x hx)).mono ∅⟩;have hk:=ok.kp;rw[z]at hk;exact⟨3,10+7*6,10,∅,λx hx=>few x (h.rn x hx),⟨_,Pm.uW _ _,hk,by rw[Pm.iT];lia⟩,λn hn=>(at_ n).mono ⋯,∅⟩
def Fw(w:Nat)(b:Int)(a c:Nat->Int)(x:Int)(st e q:Nat):Nat->Int:=match w with
 |0=>λk=>Rm.tk b (yU a c k)
 |1=>λk=>Rm.tk b (jR a c k)
 |2=>λk=>Rm.tk b (oB a c k)
 |3=>λk=>Rm.tk b (x*a k)
 |4=>lJ b a
 |5=>λk=>a (st+e*k)
 |_=>mZ (Pm.aq q λk=>Rm.tk b (x+(k:Int))) a
def mW(w m1 m2 st e q:Nat):Nat:=match w with
 |0=>min m1 m2
 |1=>min m1 m2
 |2=>min m1 m2
 |3=>m1
 |4=>m1
 |5=>iZ m1 st e
 |_=>q+m1
def E6(w n1 n2 q:Nat):Nat:=match w with
 |0=>n1+n2
 |1=>n1*n2
 |2=>n1+n2
 |3=>n1
 |4=>n1+1
 |5=>n1
 |_=>n1+q
inductive ax8(K:aL)(vs:List V)(H:Hp)(Q:VK)(E:XK):Prop|mk (t j o) (bN:vs=[.ref t,.int o]) (bQ:aA K H t (j.map V.int)) (cA:0<=o) (cL:Q (.int (cellAt j o)) H)
def aii(K:aL):Sp:=ax8 K
abbrev Ph(P w K mg base):=fM P w K mg base "_law_cell_at" 1 ["_law_script","_law_k"] (aii K)
def zj(c k:Int):Int:=(c%2147483647+1)*(k*k+48271)%2147483629
def lE(c k:Int):Int:=zj c k*(zj c k+3*k)%2147483587
inductive aqk(vs:List V)(H:Hp)(Q:VK)(E:XK):Prop|mk (t o:Int) (bN:vs=[.int t,.int o]) (bQ:0<=o) (cA:o<=1000) (cL:Q (.int (lE t o)) H)
def aoC:Sp:=aqk
abbrev aeF:=cH "_law_mixed" 1 ["_law_cell","_law_k"] aoC
def BW:List Int:=[0,2,3,5,0,7,97,997]
def V8(c:Int):Int:=BW.getD (c%8).toNat 0
def ajk:∀k<8,BW.getD k 0=0∨(0<=BW.getD k 0/\(BW.getD k 0).toNat∈Om.mj):=by decide +kernel
def arh(c:Int):fY (V8 c):=by
 have h0:=iK c (∅:(0:Int)<8);have h1:=je c (∅:(0:Int)<8);rcases ajk (c%8).toNat ⋯ with e|⟨e1,e2⟩
 .exact .inl e
 .exact .inr ⟨_,e2,by show BW.getD (c%8).toNat 0=_;lia⟩
inductive aAD(vs:List V)(H:Hp)(Q:VK)(E:XK):Prop|mk (t:Int) (bN:vs=[.int t]) (bQ:∀H',Same H H'->Q (.int (V8 t)) H')
def ak6:Sp:=aAD
abbrev Yx:=cH "_law_by" 1 ["_law_cell"] ak6
abbrev Az:=cH "_law_taken" 1 ["_law_by_here","_law_number_here"] X8
def j9(b c s:Int):Int:=if b>0 then c%b else if s=0 then c%7-3 else if s=1 then c%201-100 else c*7919%(2*10^12-1)-10^12+1
inductive anM(vs:List V)(H:Hp)(Q:VK)(E:XK):Prop|mk (t o j:Int) (bN:vs=[.int t,.int o,.int j]) (bQ:Q (.int (j9 t o j)) H)
def aqJ:Sp:=anM
abbrev ag2:=cH "_law_number" 1 ["_law_by_here","_law_cell","_law_sort"] aqJ
def Vg(F:Int->Int->Int):V->V->V
 |.int u,.int v=> .int (F u v)
 |_,_=> .non
theorem OJ(F:Int->Int->Int):∀p q:List Int,Cg (Vg F) (p.map V.int) (q.map V.int)=(Cg F p q).map V.int
 |[],_=>by simp
 |_::_,[]=>by simp
 |a::p,b::q=>by
  rw[wW,wW,List.zipWith_cons_cons,OJ F p q];rfl
def avm(p:List Int)(F:Nat->Int->Int):(p.map V.int).mapIdx (λj x=>match x with | .int n=>V.int (F j n)|_=>V.non)=(Pm.aq p.length λj=>F j (Pm.co p j)).map V.int:=by
 refine List.ext_getElem? λj=>?_;rw[List.getElem?_mapIdx,List.getElem?_map,List.getElem?_map];by_cases hj:j<p.length
 .rw[List.getElem?_eq_getElem hj,Pm.aq,List.getElem?_map,List.getElem?_range hj];show some (V.int (F j p[j]))=some (V.int (F j (p.getD j 0)));rw[List.getD_eq_getElem?_getD,List.getElem?_eq_getElem hj];rfl
 .rw[List.getElem?_eq_none ⋯,List.getElem?_eq_none (by rw[Pm.aQ];lia)];rfl
def fG.zero(hB:fY b):fG b 0:=by
 obtain⟨hb0,_,_⟩:=hB.range;by_cases h:b=0
 .exact .inl h
 .exact .inr ⟨Int.le_refl _,⋯⟩
def adp(hB:fY b)(c s:Int):fG b (j9 b c s):=by
 obtain⟨hb0,_,_⟩:=hB.range;by_cases h:b=0
 .exact .inl h
 .have hb:0<b:=⋯;have e:j9 b c s=c%b:=if_pos hb;rw[e];exact .inr ⟨iK c hb,je c hb⟩
def ahc{c s:Int}(hs:s=0∨s=1)(h:b=0):(j9 b c s).natAbs<=100:=by
 have a:=iK c (∅:(0:Int)<7);have a':=je c (∅:(0:Int)<7);have d:=iK c (∅:(0:Int)<201);have d':=je c (∅:(0:Int)<201);unfold j9;rw[if_neg ⋯];rcases hs with rfl|rfl
 .rw[if_pos rfl];lia
 .rw[if_neg ∅,if_pos rfl];lia
inductive alF(vs:List V)(H:Hp)(Q:VK)(E:XK):Prop|mk (v:V) (r:Rw) (c:Int) (bN:vs=[v,.int c]) (bQ:dI H v r) (cA:fB r) (cL:0<=c) (cT:c<=900) (dR:Told H Q ((r.row c.toNat).map V.int))
def asw:Sp:=alF
abbrev aeB:=cH "_law_gone" 2 ["_law_row_here","_law_count"] asw
def yZ:List Int:=[0,0,0,1,0,0]
def aAv:∀k<6,yZ.getD k 0=0∨yZ.getD k 0=1:=∅
inductive aoo(K:aL)(vs:List V)(H:Hp)(Q:VK)(E:XK):Prop|mk (a:Addr) (ns:List Int) (st b:Int) (most:Nat) (bN:vs=[.ref a,.int st,.int b,.int most]) (bQ:aA K H a (ns.map V.int)) (cA:0<=st) (cL:fY b) (cT:most<=3) (dR:∀v r H',Same H H'->dI H' v r->Bw b r->Q v H')
def anq(K:aL):Sp:=aoo K
abbrev abh(P w K mg base):=fM P w K mg base "_law_row" 2 ["_law_script","_law_start","_law_by_here","_law_most_here"] (anq K)
def ae9:dw p m1+dw p m2<=dw (2*p) (min m1 m2):=by
 unfold dw;split<;>split<;>split<;>lia
def Oj(hp:1<=p):dw p m+1<=dw (2*p) m:=by
 unfold dw;split<;>lia
def af2(hp:1<=p):dw p m1+1<=dw (2*p) (min m1 m2)/\dw p m2+1<=dw (2*p) (min m1 m2):=by
 have h1:=qW p m1;have h2:=qW p m2;have:=ae9 (p:=p) (m1:=m1) (m2:=m2);lia
def ajF(hp:1<=p){b:Int}(hb:gH b){a c:Nat->Int}(h1:∀k,Rm.Bd (28*p-18+dw p m1*k) (a k))(h2:∀k,Rm.Bd (28*p-18+dw p m2*k) (c k))(k:Nat):Rm.Bd (28*(2*p)-18+dw (2*p) (min m1 m2)*k) (Rm.tk b (yU a c k)):=by
 obtain⟨d1,d2⟩:=af2 (p:=p) (m1:=m1) (m2:=m2) hp;have e1:=ig k (afP d1);have e2:=ig k (afP d2);refine jY hb ⋯ ?_;exact(Rm.Bd.add (n:=28*p-18+dw (2*p) (min m1 m2)*k) ((h1 k).mono ⋯) ((h2 k).mono ⋯)).mono ⋯
def aw1(hp:1<=p){b:Int}(hb:gH b){a c:Nat->Int}(h1:∀k,Rm.Bd (28*p-18+dw p m1*k) (a k))(h2:∀k,Rm.Bd (28*p-18+dw p m2*k) (c k))(k:Nat):Rm.Bd (28*(2*p)-18+dw (2*p) (min m1 m2)*k) (Rm.tk b (jR a c k)):=by
 have e:=ig k (ae9 (p:=p) (m1:=m1) (m2:=m2));rw[yR]at e;refine jY hb ⋯ ?_;exact((h1 k).mul (h2 k)).mono ⋯
def anv(hp:1<=p){b:Int}(hb:gH b){a c:Nat->Int}(h1:∀k,Rm.Bd (28*p-18+dw p m1*k) (a k))(h2:∀k,Rm.Bd (28*p-18+dw p m2*k) (c k))(k:Nat):Rm.Bd (28*(2*p)-18+dw (2*p) (min m1 m2)*k) (Rm.tk b (oB a c k)):=by
 obtain⟨d1,d2⟩:=af2 (p:=p) (m1:=m1) (m2:=m2) hp;obtain⟨M,hM⟩:∃M,dw (2*p) (min m1 m2)=M+1:=⟨dw (2*p) (min m1 m2)-1,⋯⟩;rw[hM];refine jY hb ⋯ ?_;refine(Pm.yc (c:=2*(28*p-18)+M*k) (k+1) λi hi=>((h1 i).mul (h2 (k-i))).mono ?_).mono ?_
 .have e1:=ig i (⋯:dw p m1<=M);have e2:=ig (k-i) (⋯:dw p m2<=M);have e3:M*k=M*i+M*(k-i):=by rw[<-rC];congr 1;lia
  lia
 .have:(M+1)*k=M*k+k:=mJ M k;lia
def CY(r:Rw){N n:Nat}(h:n<N):Pm.co (r.row N) n=r.at n:=Rm.Tr _ _ _ h
structure Kn(b:Int)(r:Rw)(m:Nat)(rule:List Int):Prop where
 len:rule.length=m
 tk:∀x∈rule,Rm.tk b x=x
 ind:Dm.oO b m m (Dm.hk r.at)
 rc:∀n,m<=n->Rm.tk b (r.at n)=Rm.tk b (Pm.sm m λk=>Pm.co rule k*r.at (n-1-k))
def TR.kn(hb:gH b){r:Rw}{f:Nat->Int}{L:List Int}(t:TR b r f L):Kn b r r.rule.length r.rule:=by
 have ea:r.at=f:=funext t.same;have hB:=hb.p;have lst:=t.lst;refine⟨rfl,λx hx=>?_,?_,λn hn=>?_⟩
 .have:=t.ok.wU x hx;rw[t.by_]at this;exact Gi this
 .rw[t.len,ea];exact Dm.aa7 hB.dom (Dm.R8 hB.dom (by rw[hB.one];decide) lst.mon lst.nu lst.kp lst.all)
 .have e1:Rm.tk r.b (r.at n)=Rm.tk r.b (Rm.S r.rule r.at n r.rule.length):=Pm.Vb t.ok.len n hn;rw[t.by_,Pm.pH]at e1;exact e1
def Kn.fits{rule:List Int}(h:Kn b r m rule)(N:Nat):Dm.FB b (Pm.co (r.row N)) (r.row N).length m (Pm.co rule) 1:=λn h1 h2=>by
 have l:(r.row N).length=N:=Rw.mH ..;rw[l]at h2;rw[fP,CY r h2,h.rc n h1];exact Pm.dZ λk hk=>by rw[CY r ⋯]
def mQ.ayn(hB:fY b){r:Rw}{m N:Nat}{rule:List Int}(k:Kn b r m rule)(hN:2*m<=N){H0 H:Hp}{v:V}(h:mQ u b (r.row N) m H0 H v):∃t lt,v = .ref t/\H t=some (.tup [.str ("one" : Str),.int 1,.ref lt])/\H lt=some (.lst (rule.map V.int)):=by
 have l:(r.row N).length=N:=Rw.mH ..;have hI:=Dm.awS (kn:=r.row N) (a:=r.at) (λn hn=>CY r ⋯) k.ind ⋯;cases h with
 |@one bot us t lt a _ ht hl _=>
  obtain⟨e1,e2⟩:=Dm.am6 hI (a.ok hB) (k.fits N) k.len k.tk;rw[e1]at ht;rw[e2]at hl;exact⟨t,lt,rfl,ht,hl⟩
 |many _ f _ _ _ _ _=>
  obtain⟨c,hc,hne⟩:=(f.ok hB).nz;exact absurd (hI _ (f.ok hB).rel c hc) hne
def Kw.amF(h:Kw b p m r)(p16:p<=16){N:Nat}(hN:N<=24):(∀s,s<=(r.row N).length->C9 b ((r.row N).length-s) (s+1) 4462 (Dm.gO b (r.row N) s))/\∀x∈r.row N,Rm.Bd 4462 x:=by
 have hk:=h.ok.kp;rw[h.by_]at hk;have l:(r.row N).length=N:=Rw.mH ..;have hd:=qW p m;have mR:=h.jx;have hB:=h.hB.p;refine⟨λs _=>⟨∅,azK hB (l:=12) (λc A hd' r' L last hc I=>?_) ∅⟩,λx hx=>?_⟩
 .have:=Dm.axR hB.dom (by rw[hB.one];decide) (kn:=r.row N) (a:=r.at) (λn hn=>CY r ⋯) (Pm.uW b r.rule) hk hc I;rw[Pm.iT]at this;lia
 .rw[vO]at hx;obtain⟨n,hn,rfl⟩:=Pm.gK hx;have e:=iH (⋯:dw p m<=168) (⋯:n<=24);exact(h.at_ n).mono ⋯
def Xn(F:Int->Int->Int)(m1 m2:Nat)(a c:Nat->Int):Cg F (Pm.aq m1 a) (Pm.aq m2 c)=Pm.aq (min m1 m2) λk=>F (a k) (c k):=by
 refine List.ext_getElem? λk=>?_;rw[List.getElem?_zipWith,Pm.aq,Pm.aq,Pm.aq,List.getElem?_map,List.getElem?_map,List.getElem?_map];by_cases h:k<min m1 m2
 .rw[List.getElem?_range h,List.getElem?_range ⋯,List.getElem?_range ⋯];rfl
 .rw[List.getElem?_eq_none (l:=d7 (min m1 m2)) (by rw[pK];lia)];by_cases h1:k<m1
  .rw[List.getElem?_eq_none (l:=d7 m2) (by rw[pK];lia),List.getElem?_range h1];rfl
  .rw[List.getElem?_eq_none (l:=d7 m1) (by rw[pK];lia)];rfl
def an5(he:1<=e)(a:Nat->Int):((d7 (iZ ((Pm.aq m a).map V.int).length s e)).map λk=>((Pm.aq m a).map V.int).getD (s+e*k) V.non)=(Pm.aq (iZ m s e) λk=>a (s+e*k)).map V.int:=by
 rw[aK,Pm.aQ,Pm.aq,Pm.aq,gh,gh];refine uE λk hk=>?_;have h:=N6 he (gF.mp hk);rw[List.getD_eq_getElem?_getD,List.getElem?_map,List.getElem?_range h];rfl
def akh(ns:List Int)(m:Nat)(a:Nat->Int):ns++Pm.aq m a=Pm.aq (ns.length+m) (mZ ns a):=by
 refine Pm.nG (by rw[gW,Pm.aQ,Pm.aQ]) λk=>?_;rw[Pm.gY,Pm.bZ,Pm.bZ];unfold mZ;by_cases h:k<ns.length
 .rw[if_pos h,if_pos ⋯,if_pos h]
 .rw[if_neg h,if_neg h];by_cases h2:k<ns.length+m
  .rw[if_pos h2,if_pos ⋯]
  .rw[if_neg h2,if_neg ⋯]
inductive atw(vs:List V)(H:Hp)(Q:VK)(E:XK):Prop|mk (n:Int) (bN:vs=[.int n]) (bQ:0<=n) (cA:n<=300) (cL:Q .non H)
def aqB:Sp:=atw
abbrev ada:=cH "refuse_far" 1 ["n"] aqB
inductive akU(K:aL)(vs:List V)(H:Hp)(Q:VK)(E:XK):Prop|mk (v:V) (r:Rw) (c:Int) (bN:vs=[v,.int c]) (bQ:dI H v r) (cA:fB r) (cL:0<=c) (cT:c<=300) (dR:Told H Q ((r.row c.toNat).map V.int))
def aoO(K:aL):Sp:=akU K
abbrev adG(P w K mg base):=fM P w K mg base "places" 4 ["row","count"] (aoO K)
def Lf(H:Hp)(l:Addr)(m:Nat)(a:Nat->Int):Prop:=H l=some (.lst ((Pm.aq m a).map V.int))/\m<=200/\∀i,i<m->Rm.Bd 20000 (a i)
inductive ayM(vs:List V)(H:Hp)(Q:VK)(E:XK):Prop|mk (b:Int) (l1 l2:Addr) (m1' m2':Nat) (o j:Nat->Int) (bN:vs=[.int b,.ref l1,.ref l2]) (bQ:0<=b) (cA:Lf H l1 m1' o) (cL:Lf H l2 m2' j) (cT:∀t H',H t=none->Same H H'->H' t=some (.lst ((Pm.aq (min m1' m2') λh=>Rm.tk b (oB o j h)).map V.int))->Q (.ref t) H')
def arA:Sp:=ayM
abbrev ahz:=cH "_law_rolled" 2 ["_law_by_here","_law_ones","_law_twos"] arA
inductive aqS(vs:List V)(H:Hp)(Q:VK)(E:XK):Prop|mk (j:Int) (l1:Addr) (m1:Nat) (o:Nat->Int) (bN:vs=[.int j,.ref l1]) (bQ:0<=j) (cA:Lf H l1 m1 o) (cL:∀t H',H t=none->Same H H'->H' t=some (.lst ((Pm.aq m1 (lJ j o)).map V.int))->Q (.ref t) H')
def anA:Sp:=aqS
abbrev aef:=cH "_law_summed" 2 ["_law_by_here","_law_ones"] anA
inductive atF(vs:List V)(H:Hp)(Q:VK)(E:XK):Prop|mk (w rest:Nat) (b:Int) (l1 l2:Addr) (m1 m2:Nat) (a c:Nat->Int) (bN:vs=[.int (w:Int),.int b,.ref l1,.ref l2,.int (rest:Int)]) (bQ:w<=6) (cA:0<=b) (cL:Lf H l1 m1 a) (cT:Lf H l2 m2 c) (dR:4<=m1) (gw:∀t H',H t=none->Same H H'->H' t=some (.lst ((Pm.aq (mW w m1 m2 (rest%5) (1+rest/5%3) (rest/9%3)) (Fw w b a c ((rest:Int)%9-4) (rest%5) (1+rest/5%3) (rest/9%3))).map V.int))->Q (.ref t) H')
def avQ:Sp:=atF
abbrev Xm:=cH "_law_due" 3 ["_law_way","_law_by_here","_law_ones","_law_twos","_law_cell"] avQ
inductive axz(vs:List V)(H:Hp)(Q:VK)(E:XK):Prop|mk (w n1 n2 rest:Nat) (bN:vs=[.int (w:Int),.int (n1:Int),.int (n2:Int),.int (rest:Int)]) (bQ:w<=6) (cA:n1<=100) (cL:n2<=100) (cT:∀H',Same H H'->Q (.int (E6 w n1 n2 (rest/9%3):Nat)) H')
def aAo:Sp:=axz
abbrev Y5:=cH "_law_most" 1 ["_law_way","_law_ones","_law_twos","_law_cell"] aAo
structure Two(H:Hp)(b:Int)(p m1 m2:Nat)(v1 v2:V)(r1 r2:Rw)(L1 L2:List Int):Prop where
 h1:dI H v1 r1
 h2:dI H v2 r2
 k1:Kw b p m1 r1
 k2:Kw b p m2 r2
 l1:dY b r1.at L1
 l2:dY b r2.at L2
 p1:1<=p
 p8:p<=8
 m1:m1<=104
def Yh(C:Addr)(w rest:Nat)(v1 v2:V)(H:Hp)(Q:VK)(E:XK):Prop:=Ex8 λ(b:Int) (p m1 m2:Nat) (r1 r2:Rw) (L1 L2:List Int)=>yw (w<=6) (Two H b p m1 m2 v1 v2 r1 r2 L1 L2) ((w=5->80<=m1)) ((12<E6 w (L1.length-1) (L2.length-1) (rest/9%3)->∀H',Same H H'->E (.ref C) none H')) ((E6 w (L1.length-1) (L2.length-1) (rest/9%3)<=12->∀v' r' L' H',Same H H'->dI H' v' r'->TR b r' (Fw w b r1.at r2.at ((rest:Int)%9-4) (rest%5) (1+rest/5%3) (rest/9%3)) L'->Kw b (2*p) (mW w m1 m2 (rest%5) (1+rest/5%3) (rest/9%3)) r'->r'.rule.length<=E6 w (L1.length-1) (L2.length-1) (rest/9%3)->Q v' H'))
inductive atr(C:Addr)(vs:List V)(H:Hp)(Q:VK)(E:XK):Prop|mk (w rest:Nat) (v1 v2:V) (bN:vs=[.int (w:Int),v1,v2,.int (rest:Int)]) (bQ:Yh C w rest v1 v2 H Q E)
def amc(C:Addr):Sp:=atr C
abbrev abL(P w K mg base bD):=fM P w K mg base "_law_done" 14 ["_law_way","_law_one","_law_other","_law_cell"] (amc bD)
def aqq(C:Addr):Sp:=λvs H Q _=>∃(w rest:Nat) (v1 v2:V),vs=[.int (w:Int),v1,v2,.int (rest:Int)]/\Yh C w rest v1 v2 H Q λ_ _ H1=>∀H',Same H1 H'->Q (.bl true) H'
abbrev aag(P w K mg base bD):=fM P w K mg base "_law_asked" 15 ["_law_way","_law_one","_law_other","_law_cell"] (aqq bD)
def au9{xs:List V}{g:TG}{tb:TS}(Pv:Nat->St->Hp->Prop)(h0:Pv 0 σ H)(Q7:∀i σ' H',Pv i σ' H'->aB K H' a xs)
  (hs:∀i x σ' H',xs[i]?=some x->Pv i σ' H'->g x σ' H' λσ2 H2=>tb { D with nx:=Pv (i+1),ct:=Pv (i+1),bk:=D.nx } σ2 H2) (hd:∀σ' H',Pv xs.length σ' H'->D.nx σ' H'):
  ∃W:Nat->Nat->St->Hp->Prop,(∃m,W 0 m σ H)/\∀i m σ H,W i m σ H->
   ((yV K a).stop i H/\D.nx σ H)∨((yV K a).go i H/\∃N:St->Hp->Prop,(∀σ' H',N σ' H'->∃m',m'<m/\W (i+1) m' σ' H')/\∀x H',(yV K a).mq i H x H'->g x σ H' λσ2 H2=>tb { D with nx:=N,ct:=N,bk:=D.nx } σ2 H2):=by
 refine⟨λi m σ' H'=>m=xs.length-i/\i<=xs.length/\Pv i σ' H',⟨xs.length,by simp,dD _,h0⟩,?_⟩;rintro i m σ' H' ⟨rfl,hi,p⟩;have hq:=Q7 i σ' H' p;by_cases hlt:i<xs.length
 .refine .inr ⟨⟨xs,xs[i],hq,List.getElem?_eq_getElem hlt⟩,Pv (i+1),λσ2 H2 p2=>⟨xs.length-(i+1),⋯,rfl,⋯,p2⟩,?_⟩;rintro x H2 ⟨rfl,hx⟩;exact hs i x σ' H2 (hx xs hq) p
 .have e:i=xs.length:=⋯;subst e;exact .inl ⟨⟨xs,hq,aR _⟩,hd σ' H' p⟩
def hide{a b:TS}(h:∀N:St->Hp->Prop,(∀σ H,b D σ H->N σ H)->a { D with nx:=N } σ H):ado a b D σ H:=h _ λ_ _ x=>x
def ayp{xs:List V}(h0:0<xs.length)(h:xs[xs.length-1]?=some v):jX xs (-1)=some v:=by
 unfold jX qO;rw[if_neg ⋯,if_pos ⋯,(⋯:(-1+(xs.length:Int)).toNat=xs.length-1)];exact h
def oV(H:Hp)(k:Addr)(b:Int)(p:Nat)(v:V):Prop:=CW λ(t:Addr) (rv:V) (l:Addr) (r:Rw) (m:Nat)=>Hi (v = .ref t) (H t=some (.tup [rv,.ref l])) (dI H rv r) (H l=some (.lst ((Pm.aq m r.at).map V.int))) (l≠k) (26<=m) (m<=88+2*p) (Kw b p m r)
theorem oV.same{H H':Hp}{k:Addr}{b:Int}{p:Nat}{v:V}(h:oV H k b p v)(g:Same H H'):oV H' k b p v:=by
 obtain⟨t,rv,l,r,m,e,h1,h2,h3,h4,h5,h6,h7⟩:=h;exact⟨t,rv,l,r,m,e,g _ _ h1,h2.same g,g _ _ h3,h4,h5,h6,h7⟩
theorem oV.up{H:Hp}{k:Addr}{b:Int}{p p':Nat}{v:V}(h:oV H k b p v)(hp:p<=p'):oV H k b p' v:=by
 obtain⟨t,rv,l,r,m,e,h1,h2,h3,h4,h5,h6,h7⟩:=h;exact⟨t,rv,l,r,m,e,h1,h2,h3,h4,h5,⋯,h7.up hp⟩
def oV.put{k:Addr}{ys:List V}{o:HO}(h:oV H k b p v)(hk:H k=some (.lst ys)):oV (upd H k o) k b p v:=by
 have key:∀{t:Addr} {us:List V},H t=some (.tup us)->upd H k o t=some (.tup us):=λ{t us} ht=>by
  rw[cW (λz=>by rw[z,hk]at ht;cases ht)];exact ht
 obtain⟨t,rv,l,r,m,e,h1,⟨a,x,y,e2,h2,h2',aiX⟩,h3,h4,h5,h6,h7⟩:=h;exact⟨t,rv,l,r,m,e,key h1,⟨a,x,y,e2,key h2,key h2',key aiX⟩,by rw[cW h4];exact h3,h4,h5,h6,h7⟩
def arM{q:Nat}(w6:w<=6)(w5:w=5->80<=m1)(a1:26<=m1)(a2:26<=m2)(b1:m1<=88+2*p)(b2:m2<=88+2*p)(hp:1<=p)(hst:st<=4:=by lia)(e1:1<=e:=by lia)(e3:e<=3:=by lia)(q2:q<=2:=by lia):26<=mW w m1 m2 st e q/\mW w m1 m2 st e q<=88+2*(2*p):=by
 obtain rfl|rfl|rfl|rfl|rfl|rfl|rfl:w=0∨w=1∨w=2∨w=3∨w=4∨w=5∨w=6:=⋯
 .show 26<=min m1 m2/\min m1 m2<=_;lia
 .show 26<=min m1 m2/\min m1 m2<=_;lia
 .show 26<=min m1 m2/\min m1 m2<=_;lia
 .show 26<=m1/\m1<=_;lia
 .show 26<=m1/\m1<=_;lia
 .have:=w5 rfl;show 26<=iZ m1 st e/\iZ m1 st e<=_;unfold iZ;obtain rfl|rfl|rfl:e=1∨e=2∨e=3:=⋯
  .lia
  .lia
  .lia
 .show 26<=q+m1/\q+m1<=_;lia
end
section
variable (P:Program) (w:World) {K:aL} {mg:Str->Option Value} {base:Heap}
variable {rB bD:Addr} (B:Bt mg) (M:Ms K mg base rB bD)
include B M
theorem aq3(F:Fn K mg "taken" OX ["by","number"]):jU P w K mg base:=by
 refine F.cal alI λH Q E hr h=>?_
 obtain⟨b,n,rfl,h0,q⟩:=h;refine⟨_,(au (cO (bI (d8 K hr) (pv 0) ao) (aC (aP (pv 1))) cR) (aC (aP (aF eG (pv 1) (pv 0))))),?_⟩;refine⟨_,rfl,_,rfl,?_⟩;refine cX (λc=>?_) (λc=>?_)
 .refine⟨_,rfl,?_⟩;have c':b=0:=dec_true c;have e:Rm.tk b n=n:=by rw[c',Rm.cJ]
  rw[e]at q;exact q
 .have c':¬b=0:=dec_false c;refine⟨_,rfl,_,rfl,_,_,rfl,rfl,(⋯:(0:Int)<b),?_⟩;rw[Rm.iz c']at q;exact q
theorem aqs(F:Fn K mg "next_place" Nk ["by","rule","before"])(cF:jU P w K mg base):abe P w K mg base:=by
 refine F.cal KD λH Q E hr h=>?_
 obtain⟨b,r,s',rule,before,rfl,hb,hR,hS,hl,hl2,hl3,bR,bS,q⟩:=h;refine⟨_,(au (aN 3 KD.nd ao) (au (jj PassesOwn.never rfl (fK rfl B.dG (aM (bY K B.bV (aj (pv 1) ak)) ak)) (bJ 4 KD.nd) (aC (aN 3 KD.nd (pad K (pv 3) (aF v_mul (aO K (pv 1) (pv 4)) (aO K (pv 2) (aF cV (aF cV (bY K B.bV (aj (pv 2) ak)) ao) (pv 4)))))))) (aC (aP (aG cF hr (aj (pv 0) (aj (pv 3) ak))))))),?_⟩;have lR:(rule.map V.int).length=rule.length:=aK _;have lS:(before.map V.int).length=before.length:=aK _;refine⟨_,rfl,.ref r,rule.length,rfl,.inr ⟨_,hR,lR.symm⟩,?_⟩;refine⟨(rule.length:Int),rfl,(⋯:-(2^62)<=(rule.length:Int)),(⋯:(rule.length:Int)<2^62),?_⟩;refine j8 (lo:=0) (n:=(rule.length:Int).toNat) (λi σ' H'=>∃o,σ'=[some (.int b),some (.ref r),some (.ref s'),some (.int (Rm.S rule (λi=>before.getD i 0) before.length i)),o]/\H'=H) ⟨none,rfl,rfl⟩ ?_ ?_
 .rintro i σ' H' hi ⟨o,rfl,rfl⟩;have hi':i<rule.length:=⋯;have e0:(0:Int)+(i:Int)=(i:Int):=⋯;have e1:(before.length:Int)-1-(0+(i:Int))=((before.length-1-i:Nat):Int):=⋯;refine⟨_,rfl,?_⟩;refine⟨_,rfl,_,rfl,_,_,.inr hR,dN (ns:=rule) (⋯:(0:Int)<=0+(i:Int)) ⋯,?_⟩;refine⟨_,rfl,_,rfl,.ref s',before.length,rfl,.inl ⟨_,hS,lS.symm⟩,_,_,rfl,rfl,_,rfl,_,_,rfl,rfl,?_⟩;refine⟨_,_,.inl hS,dN (ns:=before) (⋯:(0:Int)<=(before.length:Int)-1-(0+(i:Int))) ⋯,?_⟩;refine⟨lY (Rm.Bd.getD bR _) (Rm.Bd.getD bS _) ∅,?_⟩;refine⟨some (.int (0+(i:Int))),?_,rfl⟩;rw[e1,e0,cM,cM];rfl
 .rintro σ' H' ⟨o,rfl,rfl⟩;refine⟨_,rfl,_,rfl,b,_,rfl,hb,?_⟩;rw[show(rule.length:Int).toNat=rule.length from cM _];exact q
theorem akf(F:Fn K mg "first_places" Rp ["row","count"])(SW:abe P w K mg base):EB P w K mg base:=by
 refine F.cal Cr λH Q E hr h=>?_
 obtain⟨v,r,c,rfl,⟨a,p,p2,rfl,hA,hR,hS⟩,ok,hc0,hc1,q⟩:=h;refine⟨_,(au (aN 2 Cr.nd (aO K (pv 0) ao)) (au (aN 3 Cr.nd (aO K (pv 0) ao)) (au (aN 4 Cr.nd (aO K (pv 0) ao)) (au (aN 5 Cr.nd (zG (jP (xlist K) rfl B.yJ boot_list (aM (rN (rQ K) (pv 4) rW (tO (pv 1))) ak)))) (au (sW PassesOwn.never (bI rD (bY K B.bV (aj (pv 5) ak)) (pv 1)) (aC (jm (rA K (pv 5) (aG SW hr (aj (pv 2) (aj (pv 3) (aj (pv 5) ak)))))))) (aC (aP (pv 5)))))))),?_⟩;have hl:=ok.len;have hl2:=ok.short;have lS:(r.starts.map V.int).length=r.starts.length:=aK _;refine⟨_,rfl,_,_,.inr (aB.of hA),rfl,?_⟩;refine⟨_,rfl,_,_,.inr (aB.of hA),rfl,?_⟩;refine⟨_,rfl,_,_,.inr (aB.of hA),rfl,?_⟩;have Ul:gC (r.starts.map V.int) none (some c)=(r.row (min c.toNat r.starts.length)).map V.int:=by
  have e:r.row (min c.toNat r.starts.length)=r.starts.take (min c.toNat r.starts.length):=Rm.Dn (RW _ _);rw[e];have e2:c=((c.toNat:Nat):Int):=⋯;unfold gC;rw[e2,HT.rP,HT.tM,Nx,nO,lS,rR,cM]
 refine Bar.by (λv H1=>∃l,v = .ref l/\Same H H1/\H l=none/\H1 l=some (.lst ((r.row (min c.toNat r.starts.length)).map V.int))) (λkk hkk=>?_) ?_
 .refine⟨_,rfl,_,rfl,_,rfl,?_⟩;by_cases hw:r.starts.length<=c.toNat
  ·-- the whole of it
   refine .inr (.inr ⟨_,aB.of hS,?_,?_⟩)
   .have e2:c=((c.toNat:Nat):Int):=⋯;rw[e2,HT.rP,HT.tM,lS];lia
   .refine⟨p2,_,rfl,.inr (aB.of hS),λl hl1=>hkk _ _ ⟨l,rfl,Same.new hl1 _,hl1,?_⟩⟩;rw[aD,SR hw];have e:r.row r.starts.length=r.starts:=(Rm.Dn (aR _)).trans (wL ..);rw[e]
  .refine .inr (.inl ⟨_,aB.of hS,?_,λp3 hp3=>?_⟩)
   .have e2:c=((c.toNat:Nat):Int):=⋯;rw[e2,HT.rP,HT.tM,lS];lia
   .refine⟨p3,_,rfl,.inr (aB.of aD),λl hl1=>?_⟩;have g3:=Same.new hp3 (.tup (gC (r.starts.map V.int) none (some c)));refine hkk _ _ ⟨l,rfl,g3.trans (Same.new hl1 _),g3.free hl1,?_⟩;rw[aD,Ul]
 rintro v H1 ⟨l,rfl,g1,hl1,hr1⟩;refine⟨λm σ' H'=>∃n:Nat,m=c.toNat-n/\min c.toNat r.starts.length<=n/\n<=c.toNat/\σ'=[some (.ref a),some (.int c),some (.int r.b),some (.ref p),some (.ref p2),some (.ref l)]/\Same H H'/\H' l=some (.lst ((r.row n).map V.int)),
  ⟨_,min c.toNat r.starts.length,rfl,aR _,abK _ _,rfl,g1,hr1⟩,?_⟩
 rintro m σ' H' ⟨n,rfl,h1,h2,rfl,g,hL⟩;have lL:((r.row n).map V.int).length=n:=by rw[aK,Rw.mH]
 refine⟨_,rfl,.ref l,n,rfl,.inl ⟨_,aA.of hL,lL.symm⟩,_,rfl,_,_,rfl,rfl,_,rfl,?_⟩;refine cX (λcc=>?_) (λcc=>?_)
 .have hn:n<c.toNat:=by have:=dec_true cc;lia
  refine⟨_,λ_ _ z=>z,?_⟩;refine⟨_,rfl,.inl ⟨rfl,_,aA.of hL⟩,_,rfl,_,rfl,_,rfl,r.b,p,l,r.rule,r.row n,rfl,ok.lU,aB.of (g _ _ hR),aA.of hL,?_,hl2,?_,ok.Ho,ok.ahe n ⋯,?_⟩
  .rw[Rw.mH];lia
  .rw[Rw.mH];lia
  .refine⟨l,_,_,rfl,rfl,hL,?_,?_⟩
   .rw[lL];exact dW ⋯
   .refine⟨c.toNat-(n+1),⋯,n+1,rfl,⋯,⋯,rfl,g.upd hl1 _,?_⟩;rw[aD,Rw.mH];have e:r.row (n+1)=r.row n++[Rm.tk r.b (Rm.S r.rule (λi=>(r.row n).getD i 0) n r.rule.length)]:=by
     show _++[if n<r.starts.length then r.starts.getD n 0 else _]=_;rw[if_neg ⋯];rfl
    rw[e,jo];rfl
 .have hn:n=c.toNat:=by have:=dec_false cc;lia
  subst hn;refine⟨_,rfl,?_⟩;exact q l H' g hl1 hL
theorem asA(F:Fn K mg "is_prime" QB ["number"]):afs P w K mg base:=by
 refine F.cal Vf λH Q E hr h=>?_
 obtain⟨n,rfl,hn,q⟩:=h;refine⟨_,(au (cO (bI rD (pv 0) ao) (aC (aP sG)) cR) (au (aN 1 Vf.nd ao) (au (sW PassesOwn.never (bI abE (aF v_mul (pv 1) (pv 1)) (pv 0)) (au (cO (bI (d8 K hr) (aF eG (pv 0) (pv 1)) ao) (aC (aP sG)) cR) (aC (aN 1 Vf.nd (pad K (pv 1) ao))))) (aC (aP sG))))),?_⟩;refine⟨_,rfl,_,_,rfl,rfl,_,rfl,?_⟩;refine cX (λc=>?_) (λc=>?_)
 .have c':(n:Int)<2:=dec_true c;exact q false ⟨λz=>absurd z ∅,λz=>by have:=z.1;lia⟩
 .have c':¬(n:Int)<2:=dec_false c;refine⟨λm σ' H'=>∃d:Nat,σ'=[some (.int n),some (.int (d:Int))]/\H'=H/\2<=d/\d<=n+1/\m=n+2-d/\∀e:Nat,2<=e->e<d->¬e∣n,⟨_,2,rfl,rfl,⋯,⋯,rfl,λe h1 h2=>⋯⟩,?_⟩;rintro m σ' H' ⟨d,rfl,rfl,h2,hdn,rfl,hd⟩;refine⟨_,rfl,_,rfl,mulL ⋯ ⋯,_,rfl,_,_,rfl,rfl,_,rfl,?_⟩;refine cX (λc2=>?_) (λc2=>?_)
  .have c2':(d:Int)*d<=n:=dec_true c2;have c2n:d*d<=n:=by exact_mod_cast c2'
   have hdl:d*1<=d*d:=fH d ⋯;refine⟨_,λ_ _ z=>z,?_⟩;refine⟨_,rfl,_,rfl,_,_,rfl,rfl,(⋯:(0:Int)<(d:Int)),?_⟩;refine⟨_,rfl,?_⟩;refine cX (λc3=>?_) (λc3=>?_)
   .have U4:(n:Int)%(d:Int)=0:=dec_true c3;have hdv:d∣n:=C4.mp (Eo U4);exact q false ⟨λz=>absurd z ∅,λz=>absurd z (Om.aq0 h2 c2n hdv)⟩
   .have U4:¬(n:Int)%(d:Int)=0:=dec_false c3;refine⟨_,rfl,?_⟩;exact⟨n+2-(d+1),⋯,d+1,by simp,rfl,⋯,⋯,rfl,λe h1 h3=>by
     rcases W9 e d with z|z
     .exact hd e h1 z
     .have:e=d:=⋯;subst this;exactλz=>U4 (Int.emod_eq_zero_of_dvd (C4.mpr z))⟩
  .have c2':¬(d:Int)*d<=n:=dec_false c2;have c2n:¬d*d<=n:=λz=>c2' (by exact_mod_cast z);exact q true ⟨λ_=>Om.MG ⋯ λe h1 h3 hdv=>by
    by_cases c4:e<d
    .exact hd e h1 c4 hdv
    .have:d*d<=e*e:=iH ⋯ ⋯;lia,λ_=>rfl⟩
theorem ayW(F:Fn K mg "prime_above" SD ["number"])(Uy:afs P w K mg base):agS P w K mg base:=by
 refine F.cal Wb λH Q E hr h=>?_
 obtain⟨n,q',rfl,hq,hnq,hqb,q⟩:=h;refine⟨_,(au (aN 1 Wb.nd (pad K (pv 0) ao)) (au (sW PassesOwn.never (DK (zf (aG Uy hr (aj (pv 1) ak)))) (aC (aN 1 Wb.nd (pad K (pv 1) ao)))) (aC (aP (pv 1))))),?_⟩;refine⟨_,rfl,?_⟩;refine⟨λm σ' H'=>∃f:Nat,σ'=[some (.int n),some (.int (f:Int))]/\H'=H/\n<f/\f<=q'/\m=q'-f,⟨_,n+1,rfl,rfl,⋯,⋯,rfl⟩,?_⟩;rintro m σ' H' ⟨f,rfl,rfl,h1,h2,rfl⟩;refine⟨_,rfl,f,rfl,⋯,λb hb=>?_⟩;refine⟨b,rfl,?_⟩;cases b with
 |false=>
  refine⟨_,λ_ _ z=>z,?_⟩;refine⟨_,rfl,?_⟩;have hne:f≠q':=λe=>absurd (hb.mpr (e▸hq)) ∅;exact⟨q'-(f+1),⋯,f+1,rfl,rfl,⋯,⋯,rfl⟩
 |true=>
  refine⟨_,rfl,?_⟩;exact q f (hb.mp rfl) h1 h2
theorem az7(F:Fn K mg "inverse" Pk ["prime","number"])(cF:jU P w K mg base):XO P w K mg base:=by
 refine F.cal yh λH Q E hr h=>?_
 obtain⟨P',a,rfl,hP,hPb,h0,h1,q⟩:=h;have hr2:2<=P'/\P'<2097152:=⟨hP.1,hPb⟩;refine⟨_,(au (aN 2 yh.nd ao) (au (aN 3 yh.nd (pv 1)) (au (aN 4 yh.nd (aF cV (pv 0) ao)) (au (sW PassesOwn.never (bI nZ (pv 4) ao) (au (uV (cO (bI (d8 K hr) (aF eG (pv 4) ao) ao) (aC (aN 2 yh.nd (aG cF hr (aj (pv 0) (cQ (aF v_mul (pv 2) (pv 3)) ak))))) cR)) (au (aN 3 yh.nd (aG cF hr (aj (pv 0) (cQ (aF v_mul (pv 3) (pv 3)) ak)))) (aC (aN 4 yh.nd (aF pC (pv 4) ao)))))) (aC (aP (pv 2))))))),?_⟩;refine⟨_,rfl,?_⟩;refine⟨_,rfl,_,_,rfl,rfl,?_⟩;have e0:((P':Int)-2).toNat=P'-2:=⋯;refine⟨λm σ' H'=>yu λ(power square left:Int)=>XR (σ'=[some (.int P'),some (.int a),some (.int power),some (.int square),some (.int left)]) (H'=H) (m=left.toNat) (0<=power) (power<2097152) (0<=square) (square<2097152) (0<=left) (Om.Keeps P' a (P'-2) power square left.toNat),
  ⟨_,1,a,(P':Int)-2,rfl,rfl,rfl,∅,∅,⋯,⋯,⋯,by rw[e0];exact Om.ahW _ _ _⟩,?_⟩
 rintro m σ' H' ⟨power,square,left,rfl,rfl,rfl,p0,p1,s0,s1,l0,hk⟩;refine⟨_,rfl,_,_,rfl,rfl,_,rfl,?_⟩;refine cX (λc=>?_) (λc=>?_)
 .have c':0<left:=dec_true c;refine⟨_,λ_ _ z=>z,?_⟩;have hpos:(0:Int)<(P':Int):=⋯;have eX:∀n,Rm.tk (P':Int) n=n%(P':Int):=λn=>Rm.iz ⋯ n;refine u6.by (λσ' H2=>∃power':Int,σ'=[some (.int P'),some (.int a),some (.int power'),some (.int square),some (.int left)]/\H2=H'/\((left%2=1/\power'=power*square%(P':Int))∨(¬left%2=1/\power'=power))) (λN hN=>?_) ?_
  .refine⟨_,rfl,_,_,rfl,rfl,(∅:(0:Int)<2),_,rfl,?_⟩;refine cX (λc2=>?_) (λc2=>?_)
   .refine⟨_,rfl,_,rfl,_,rfl,mulL ⋯ ⋯,P',_,rfl,⋯,?_⟩;exact hN _ _ ⟨_,rfl,rfl,.inl ⟨dec_true c2,eX _⟩⟩
   .exact hN _ _ ⟨_,rfl,rfl,.inr ⟨dec_false c2,rfl⟩⟩
  rintro σ' H2 ⟨power',rfl,rfl,hp⟩;refine⟨_,rfl,_,rfl,_,rfl,mulL ⋯ ⋯,P',_,rfl,⋯,?_⟩;refine⟨_,rfl,_,_,rfl,rfl,⟨∅,∅⟩,?_⟩;have b1:=iK (square*square) hpos;have b2:=je (square*square) hpos;have b3:=iK (power*square) hpos;have b4:=je (power*square) hpos;have el:=iv0 l0;refine⟨_,?_,power',square*square%(P':Int),left/2,by rw[eX];rfl,rfl,rfl,?_,?_,b1,⋯,⋯,?_⟩
  .lia
  .rcases hp with⟨_,rfl⟩|⟨_,rfl⟩
   .exact b3
   .exact p0
  .rcases hp with⟨_,rfl⟩|⟨_,rfl⟩
   .lia
   .exact p1
  .rw[el];rcases hp with⟨hodd,rfl⟩|⟨hodd,rfl⟩
   .exact Om.auy hk ((iv1 l0).1 hodd)
   .exact Om.avf hk (λz=>hodd ((iv1 l0).2 z))
 .have c':left=0:=by have:=dec_false c;lia
  subst c';refine⟨_,rfl,?_⟩;exact q power p0 p1 (Om.aph hk)
theorem aji(F:Fn K mg "over" LD ["by","one","other"])(cF:jU P w K mg base)(Vv:XO P w K mg base):Du P w K mg base:=by
 refine F.cal ayr λH Q E hr h=>?_
 obtain⟨P',one,other,rfl,hP,hPb,o0,o1,q⟩:=h;refine⟨_,(au (cO (bI (d8 K hr) (pv 0) ao) (aC D5) cR) (au (cO (bI (d8 K hr) (aG cF hr (aj (pv 0) (aj (pv 2) ak))) ao) (aC D5) cR) (aC (aP (aG cF hr (aj (pv 0) (cQ (aF v_mul (pv 1) (aG Vv hr (aj (pv 0) (aj (pv 2) ak)))) ak))))))),?_⟩;have hr2:2<=P'/\P'<2097152:=⟨hP.1,hPb⟩;refine⟨_,rfl,_,rfl,?_⟩;refine cX (λc=>absurd (dec_true c) ⋯) (λ_=>?_);have eX:∀n,Rm.tk (P':Int) n=n%(P':Int):=λn=>Rm.iz ⋯ n;refine⟨_,rfl,_,rfl,P',other,rfl,⋯,_,rfl,?_⟩;have et:Rm.tk (P':Int) other=other:=by rw[eX];exact AH ⋯ o1
 rw[et];refine cX (λc2=>absurd (dec_true c2) ⋯) (λ_=>?_);refine⟨_,rfl,_,rfl,_,rfl,_,rfl,P',other,rfl,hP,hPb,o0,o1,λx x0 x1 hx=>?_⟩;refine⟨mulR ⋯ ⋯,P',_,rfl,⋯,?_⟩;rw[eX,Om.mod_mul (rfl:one%(P':Int)=one%(P':Int)) hx];exact q
theorem anw(F:Fn K mg "trimmed" Rt ["numbers"]):Er P w K mg base:=by
 refine F.cal SJ λH Q E hr h=>?_
 obtain⟨l,xs,rfl,hL,q⟩:=h;refine⟨_,(au (aN 1 SJ.nd (bY K B.bV (aj (pv 0) ak))) (au (sW PassesOwn.never (PW.pt (Hf (bI nZ (pv 1) ao) (Lw (bI (d8 K hr) (aO K (pv 0) (aF cV (pv 1) ao)) ao)))) (aC (aN 1 SJ.nd (aF cV (pv 1) ao)))) (aC (aP (jP (qG K) rfl B.pU boot_tuple (aM (rN (rQ K) (pv 0) rW (tO (pv 1))) ak)))))),?_⟩;have lL:(xs.map V.int).length=xs.length:=aK _;refine⟨_,rfl,.ref l,xs.length,rfl,.inl ⟨_,hL,lL.symm⟩,?_⟩;refine⟨λm σ' H'=>∃n:Nat,m=n/\n<=xs.length/\σ'=[some (.ref l),some (.int (n:Int))]/\H'=H/\Pm.trim (xs.take n)=Pm.trim xs,⟨_,xs.length,rfl,aR _,rfl,rfl,by rw[wL]⟩,?_⟩;rintro m σ' H' ⟨n,e0,hn,rfl,rfl,ht⟩;refine⟨_,rfl,_,_,rfl,rfl,_,rfl,?_⟩;refine cX (λc=>?_) (λc=>bU ?_)
 .have h0:0<n:=by have:=dec_true c;lia
  have e1:((n:Int)-1).toNat=n-1:=⋯;refine⟨_,rfl,_,rfl,_,_,rfl,rfl,_,_,.inl hL,dN (ns:=xs) (⋯:(0:Int)<=(n:Int)-1) ⋯,_,rfl,?_⟩;refine cX (λc2=>?_) (λc2=>?_)
  .have hz:=dec_true c2;rw[e1]at hz;refine⟨_,λ_ _ z=>z,?_⟩;refine⟨_,rfl,_,_,rfl,rfl,?_⟩;refine⟨n-1,⋯,n-1,rfl,⋯,?_,rfl,axl h0 hn ht hz⟩;rw[(⋯:((n-1:Nat):Int)=(n:Int)-1)];rfl
  .have hz:=dec_false c2;rw[e1]at hz;refine⟨_,rfl,_,rfl,_,rfl,.inl ⟨_,hL,λp hp=>?_⟩⟩;refine⟨p,_,rfl,.inl ⟨aA.of aD,λp2 hp2=>?_⟩⟩;refine q p2 _ ((Same.new hp _).trans (Same.new hp2 _)) ?_;rw[aD,yK,<-rR,Yv hn ht (.inr hz)]
 .have h0:n=0:=by have:=dec_false c;lia
  refine⟨_,rfl,_,rfl,_,rfl,.inl ⟨_,hL,λp hp=>?_⟩⟩;refine⟨p,_,rfl,.inl ⟨aA.of aD,λp2 hp2=>?_⟩⟩;refine q p2 _ ((Same.new hp _).trans (Same.new hp2 _)) ?_;rw[aD,yK,<-rR,Yv hn ht (.inl h0)]
theorem ayj(F:Fn K mg "times" Ug ["by","one","other"])(cF:jU P w K mg base)(oU:Er P w K mg base):M8 P w K mg base:=by
 refine F.cal Jv λH Q E hr h=>?_
 obtain⟨b,a,c,p,r,rfl,hb,hA,hC,zA,zC,bA,bC,q⟩:=h;refine⟨_,(au (aN 3 Jv.nd (aF v_mul (jc (cY ao ak)) (pad K (bY K B.bV (aj (pv 1) ak)) (bY K B.bV (aj (pv 2) ak))))) (au (jj PassesOwn.never rfl (fK rfl B.dG (aM (bY K B.bV (aj (pv 1) ak)) ak)) (bJ 4 Jv.nd) (aC (jj PassesOwn.never rfl (fK rfl B.dG (aM (bY K B.bV (aj (pv 2) ak)) ak)) (bJ 5 Jv.nd) (aC (pZ (aG cF hr (aj (pv 0) (cQ (pad K (aO K (pv 3) (pad K (pv 4) (pv 5))) (aF v_mul (aO K (pv 1) (pv 4)) (aO K (pv 2) (pv 5)))) ak))) (uI (pv 3) (pad K (pv 4) (pv 5)) set_list)))))) (aC (aP (aG oU hr (aj (pv 3) ak)))))),?_⟩;have lP:(p.map V.int).length=p.length:=aK _;have lR:(r.map V.int).length=r.length:=aK _;refine⟨(by show 1<=sizeLine;decide),λl0 h0=>?_⟩;have g0:=Same.new h0 (.lst [.int 0]);refine⟨_,rfl,.ref a,p.length,rfl,.inr ⟨_,aB.of (g0 _ _ hA),lP.symm⟩,_,rfl,.ref c,r.length,rfl,.inr ⟨_,aB.of (g0 _ _ hC),lR.symm⟩,?_⟩;have en:((p.length:Int)+(r.length:Int)).toNat=p.length+r.length:=⋯;refine⟨_,aD,(⋯:-(2^63)<=(p.length:Int)+(r.length:Int)),(⋯:(p.length:Int)+(r.length:Int)<2^63),?_,λl hl=>?_⟩
 .rw[en];show 1*(p.length+r.length)<=sizeLine;rw[oA];exact fj (dW ⋯)
 have g1:=g0.trans (Same.new hl (.lst (kI ((p.length:Int)+(r.length:Int)).toNat [V.int 0]).flatten));have hl0:H l=none:=g0.free hl;refine⟨_,rfl,.ref a,p.length,rfl,.inr ⟨_,aB.of (g1 _ _ hA),lP.symm⟩,?_⟩;refine⟨(p.length:Int),rfl,(⋯:-(2^62)<=(p.length:Int)),(⋯:(p.length:Int)<2^62),?_⟩;refine j8 (lo:=0) (n:=(p.length:Int).toNat) (λi σ' H'=>yu λo4 o5 L=>yw (σ'=[some (.int b),some (.ref a),some (.ref c),some (.ref l),o4,o5]) (Same H H') (H' l=some (.lst (L.map V.int))) (L.length=p.length+r.length) (∀k,Pm.co L k=Rm.tk b (Pm.W (Pm.co p) (Pm.co r) i 0 k)))
  ⟨_,_,Pm.aq (p.length+r.length) (λ_=>0),rfl,g1,(by rw[aD,en,Bx]),Pm.aQ _ _,λk=>by rw[Pm.bZ,Pm.auE,Pm.tk0];split<;>rfl⟩ ?_ ?_
 .rintro i σ' H' hi ⟨o4,o5,L,rfl,g,hL,zL,hW⟩;have hi':i<p.length:=⋯;refine⟨_,rfl,.ref c,r.length,rfl,.inr ⟨_,aB.of (g _ _ hC),lR.symm⟩,?_⟩;refine⟨(r.length:Int),rfl,(⋯:-(2^62)<=(r.length:Int)),(⋯:(r.length:Int)<2^62),?_⟩;refine j8 (lo:=0) (n:=(r.length:Int).toNat) (λk σ' H'=>Ex2 λo5 L=>yw (σ'=[some (.int b),some (.ref a),some (.ref c),some (.ref l),some (.int (0+(i:Int))),o5]) (Same H H') (H' l=some (.lst (L.map V.int))) (L.length=p.length+r.length) (∀j,Pm.co L j=Rm.tk b (Pm.W (Pm.co p) (Pm.co r) i k j)))
   ⟨_,L,rfl,g,hL,zL,hW⟩ ?_ ?_
  .rintro k σ' H2 hk ⟨o5,L,rfl,g,hL,zL,hW⟩;have hk':k<r.length:=⋯;have lL:(L.map V.int).length=L.length:=aK _;have e1:(0+(i:Int)+(0+(k:Int))).toNat=i+k:=⋯;have e2:(0+(i:Int)).toNat=i:=⋯;have e3:(0+(k:Int)).toNat=k:=⋯;refine⟨_,rfl,_,rfl,_,rfl,_,rfl,_,_,.inl (aA.of hL),dN (ns:=L) (⋯:(0:Int)<=0+(i:Int)+(0+(k:Int))) ⋯,?_⟩;refine⟨_,rfl,_,rfl,_,_,.inr (aB.of (g _ _ hA)),dN (ns:=p) (⋯:(0:Int)<=0+(i:Int)) ⋯,?_⟩;refine⟨_,rfl,_,rfl,_,_,.inr (aB.of (g _ _ hC)),dN (ns:=r) (⋯:(0:Int)<=0+(k:Int)) ⋯,?_⟩;refine⟨lY (Rm.Bd.getD bA _) (Rm.Bd.getD bC _) ∅,?_⟩;refine⟨b,_,rfl,hb,?_⟩;refine⟨_,rfl,_,rfl,_,rfl,l,_,_,i+k,rfl,rfl,hL,uz ⋯ (by rw[lL];lia),?_⟩;refine⟨_,L.set (i+k) _,rfl,g.upd hl0 _,(by rw[aD,Bu]),(by rw[nq];exact zL),λj=>?_⟩;rw[Pm.vD _ _ _ _ ⋯,Pm.ah1,e1,e2,e3];by_cases ej:j=i+k
   .have hw:=hW j;rw[if_pos ej,if_pos ej];rw[ej]at hw⊢;rw[<-Rm.gM b (Pm.W (Pm.co p) (Pm.co r) i k (i+k)),<-hw];rfl
   .rw[if_neg ej,if_neg ej,cU];exact hW j
  .rintro σ' H2 ⟨o5,L,rfl,g,hL,zL,hW⟩;refine⟨_,_,L,rfl,g,hL,zL,λk=>?_⟩;rw[hW k,cM,Pm.anW λk hk=>Pm.bh hk]
 .rintro σ' H' ⟨o4,o5,L,rfl,g,hL,zL,hW⟩;refine⟨_,rfl,l,L,rfl,aA.of hL,λt H2 g2 ht=>q t H2 (g.trans g2) ?_⟩;have e:Pm.trim L=Pm.mul b p r:=by
   refine Pm.Dw λk=>?_;rw[hW k,cM,Pm.N8 λk hk=>Pm.bh hk,Pm.bZ];split
   .rfl
   .rw[<-Pm.qF,Pm.mul,Pm.qC,Pm.bZ,if_neg (by assumption)]
  rw[<-e];exact ht
theorem aqg(F:Fn K mg "divided" Rn ["by","one","other"])(cF:jU P w K mg base)(oU:Er P w K mg base):Iu P w K mg base:=by
 refine F.cal yO λH Q E hr h=>?_
 obtain⟨b,a,c,P,M,rfl,hb,hb1,hA,hC,zA,zC,hM,nP,bA,bC,q⟩:=h;refine⟨_,(au (aN 3 yO.nd (aF cV (bY K B.bV (aj (pv 2) ak)) ao)) (au (aN 4 yO.nd (aF v_mul (jc (cY ao ak)) (lu (aiu rfl) rfl B.arx boot_max (cY ao (cQ (aF cV (bY K B.bV (aj (pv 1) ak)) (pv 3)) ak))))) (au (aN 5 yO.nd (jP (xlist K) rfl B.yJ boot_list (aj (pv 1) ak))) (au (jj PassesOwn.never rfl (aon rfl B.dG (cQ (aF cV (bY K B.bV (aj (pv 4) ak)) ao) (U5 (Dg Dq ao) (U5 (Dg Dq ao) ak)))) (bJ 6 yO.nd) (au (aN 7 yO.nd (aO K (pv 5) (pad K (pv 6) (pv 3)))) (au (pZ (pv 7) (uI (pv 4) (pv 6) set_list)) (aC (jj PassesOwn.never rfl (fK rfl B.dG (aM (bY K B.bV (aj (pv 2) ak)) ak)) (bJ 8 yO.nd) (aC (pZ (aG cF hr (aj (pv 0) (cQ (aF cV (aO K (pv 5) (pad K (pv 6) (pv 8))) (aF v_mul (pv 7) (aO K (pv 2) (pv 8)))) ak))) (uI (pv 5) (pad K (pv 6) (pv 8)) set_list)))))))) (aC (aP (lX (aM (aG oU hr (aj (pv 4) ak)) (aM (aG oU hr (aj (pv 5) ak)) ak))))))))),?_⟩;have lP:(P.map V.int).length=P.length:=aK _;have lM:(M.map V.int).length=M.length:=aK _;have MK:=hM.pos;refine⟨_,rfl,.ref c,M.length,rfl,.inr ⟨_,aB.of hC,lM.symm⟩,_,_,rfl,rfl,?_⟩;refine⟨(by show 1<=sizeLine;decide),λl0 h0=>?_⟩;have g0:=Same.new h0 (.lst [.int 0]);refine⟨_,rfl,.ref a,P.length,rfl,.inr ⟨_,aB.of (g0 _ _ hA),lP.symm⟩,_,rfl,_,_,rfl,rfl,_,_,rfl,?_⟩;have en:(if(P.length:Int)-((M.length:Int)-1)>0 then(P.length:Int)-((M.length:Int)-1)else 0).toNat=P.length-(M.length-1):=(max_zero P.length M.length).resolve_right ⋯;refine⟨_,aD,?_,?_,?_,λlo hlo=>?_⟩
 .split<;>lia
 .split<;>lia
 .rw[en];show 1*(P.length-(M.length-1))<=sizeLine;rw[oA];exact fj (dW ⋯)
 rw[en,Bx];have atZ:H lo=none:=g0.free hlo;have g1:=g0.trans (Same.new hlo (.lst ((Pm.aq (P.length-(M.length-1)) λ_=>0).map V.int)));have Qa:(upd (upd H l0 (.lst [.int 0])) lo (.lst ((Pm.aq (P.length-(M.length-1)) λ_=>0).map V.int))) lo=some (.lst ((Pm.aq (P.length-(M.length-1)) λ_=>0).map V.int)):=aD;generalize upd (upd H l0 (.lst [.int 0])) lo (.lst ((Pm.aq (P.length-(M.length-1)) λ_=>0).map V.int))=H1 at g1 Qa;refine⟨_,rfl,a,_,rfl,.inr (aB.of (g1 _ _ hA)),λll hll=>?_⟩;have azj:H ll=none:=g1.free hll;have hne:lo≠ll:=nj Qa hll;have Wg:=Same.new hll (.lst (P.map V.int));have g2:=g1.trans Wg;have Gx:=Wg _ _ Qa;have hL2:(upd H1 ll (.lst (P.map V.int))) ll=some (.lst (P.map V.int)):=aD;generalize upd H1 ll (.lst (P.map V.int))=H2 at Wg g2 Gx hL2;generalize hn:P.length-(M.length-1)=n at Gx;have n40:n<=40:=hn▸eO (Nat.sub_le ..) zA;refine⟨_,rfl,.ref lo,n,rfl,.inl ⟨_,aA.of Gx,by rw[aK,Pm.aQ]⟩,_,_,rfl,rfl,_,rfl,_,rfl,(n:Int)-1,-1,rfl,⟨⋯,⋯,⋯,⋯⟩,?_⟩;refine amZ (lo:=(n:Int)-1) (n:=((n:Int)-1-(-1)).toNat) (λi σ' H'=>CW λo6 o7 o8 O L=>Uo (σ'=[some (.int b),some (.ref a),some (.ref c),some (.int ((M.length:Int)-1)),some (.ref lo),some (.ref ll),o6,o7,o8]) (Same H H') (H' lo=some (.lst (jO V.int O))) (H' ll=some (.lst (jO V.int L))) (Pm.rH b P M (n-i) O L) ((∀k,Rm.Bd (300000+i*124001) (Pm.co O k))) (∀k,Rm.Bd (300000+i*124001) (Pm.co L k)))
  ⟨_,_,_,_,P,rfl,g2,Gx,hL2,(by rw[nO,<-hn];exact Pm.rH.start nP),λk=>by rw[Pm.bZ];split<;>exact Rm.Bd.zero _,λk=>(Pm.gk bA k).mono ⋯⟩ ?_ ?_
 .rintro i σ' H' hi ⟨o6,o7,o8,O,L,rfl,g,hO,hL,I,bO,bL⟩;have hi':i<n:=⋯;have hs:n-i=n-(i+1)+1:=⋯;rw[hs]at I;generalize es:n-(i+1)=s at I;have XJ:(n:Int)-1-(i:Int)=(s:Int):=dq4 es hi';rw[XJ];have hlL:=I.ll;have hlO:=I.ol;have lO:(O.map V.int).length=O.length:=aK _;have sL:s+M.length<=L.length:=dq0 hn es hi' hlL MK;have sO:s<O.length:=dq3 hn es hi' hlO;obtain⟨e1,e1a,e1b⟩:=dq1 MK sL;refine⟨_,rfl,_,rfl,_,rfl,_,_,.inl (aA.of hL),dN (ns:=L) e1a e1b,?_⟩;rw[e1];have hF:Rm.Bd (300000+i*124001) (L.getD (s+(M.length-1)) 0):=bL _;have eF:L.getD (s+(M.length-1)) 0=Pm.co L (s+(M.length-1)):=rfl;rw[eF]at hF⊢;generalize hf:Pm.co L (s+(M.length-1))=f at hF;refine⟨_,rfl,_,rfl,_,rfl,lo,_,_,s,rfl,rfl,hO,uz rfl (by rw[lO];exact sO),?_⟩;have hO3:(upd H' lo (.lst ((O.map V.int).set s (.int f)))) lo=some (.lst ((O.set s f).map V.int)):=by rw[aD,Bu]
  have jW:(upd H' lo (.lst ((O.map V.int).set s (.int f)))) ll=some (.lst (L.map V.int)):=by rw[cW hne.symm];exact hL
  have g3:=g.upd atZ (.lst ((O.map V.int).set s (.int f)));generalize upd H' lo (.lst ((O.map V.int).set s (.int f)))=H3 at hO3 jW g3;refine⟨_,rfl,.ref c,M.length,rfl,.inr ⟨_,aB.of (g3 _ _ hC),lM.symm⟩,?_⟩;refine⟨(M.length:Int),rfl,(⋯:-(2^62)<=(M.length:Int)),(⋯:(M.length:Int)<2^62),?_⟩;refine j8 (lo:=0) (n:=(M.length:Int).toNat) (λt σ' H'=>Ex2 λo8 L'=>za (σ'=[some (.int b),some (.ref a),some (.ref c),some (.int ((M.length:Int)-1)),some (.ref lo),some (.ref ll),some (.int (s:Int)),some (.int f),o8]) (Same H H') (H' lo=some (.lst ((O.set s f).map V.int))) (H' ll=some (.lst (jO V.int L'))) (L'.length=L.length) (∀k,Pm.co L' k=Pm.lf b f s t L M k))
   ⟨_,L,rfl,g3,hO3,jW,rfl,λk=>(Pm.aqh ..).symm⟩ ?_ ?_
  .rintro t σ' H4 ht ⟨o8,L',rfl,g4,Oc,uN,IW,AK⟩;have ht':t<M.length:=⋯;have YD:(L'.map V.int).length=L'.length:=aK _;obtain⟨e2,f1,f2,f3,f4,f5,e3,f6⟩:=dq2 (l:=L'.length) ht' (by rw[IW];exact sL);refine⟨_,rfl,_,rfl,_,rfl,_,rfl,_,_,.inl (aA.of uN),dN (ns:=L') f1 f2,?_⟩;refine⟨_,rfl,_,rfl,_,rfl,_,_,.inr (aB.of (g4 _ _ hC)),dN (ns:=M) f3 f4,?_⟩;refine⟨lY hF (Rm.Bd.getD bC _) (by have:i*124001<=40*124001:=ig _ (eO (fj hi') n40);clear en es XJ hn I;lia),_,_,rfl,rfl,?_⟩;refine⟨b,_,rfl,hb,?_⟩;refine⟨_,rfl,_,rfl,_,rfl,ll,_,_,s+t,rfl,rfl,uN,uz f6 (by rw[YD];exact f5),?_⟩;refine⟨_,L'.set (s+t) _,rfl,g4.upd azj _,(by rw[cW hne];exact Oc),(by rw[aD,Bu]),(by rw[nq];exact IW),λk=>?_⟩;rw[Pm.vD _ _ _ _ f5,Pm.ai5,e2,e3,<-AK k];by_cases ek:k=s+t
   .rw[if_pos ek,if_pos ek,ek];rfl
   .rw[if_neg ek,if_neg ek]
  .rintro σ' H4 ⟨o8,L',rfl,g4,Oc,uN,IW,AK⟩;rw[cM]at AK;refine⟨_,_,_,O.set s f,L',rfl,g4,Oc,uN,?_,λk=>?_,λk=>?_⟩
   .rw[<-hf];rw[<-hf]at AK;exact I.step hM ⋯ IW AK
   .rw[Pm.vD _ _ _ _ ⋯];split
    .exact hF.mono ⋯
    .exact(bO k).mono ⋯
   .rw[AK k];exact(Pm.azs hb hb1 ⋯ hF bL bC k).mono ⋯
 .rintro σ' H' ⟨o6,o7,o8,O,L,rfl,g,hO,hL,I,bO,bL⟩;have e9:((n:Int)-1-(-1)).toNat=n:=⋯;rw[e9]at I bO bL;rw[kZ]at I;refine⟨_,rfl,lo,O,rfl,aA.of hO,λt1 H3 g3 h3=>?_⟩;refine⟨_,rfl,ll,L,rfl,aA.of (g3 _ _ hL),λt2 H4 g4 h4=>?_⟩;refine⟨(by show 2<=sizeLine;decide),λt ht=>?_⟩;have gt:=Same.new ht (.tup [.ref t1,.ref t2]);have hz:300000+n*124001<=5300000:=by have:n*124001<=40*124001:=ig _ n40;lia
  refine q t t1 t2 (Pm.trim O) (Pm.trim L) _ (g.trans (g3.trans (g4.trans gt))) aD (gt _ _ (g4 _ _ h3)) (gt _ _ h4) (I.stop hM) (λz hz'=>(aeM bO z hz').mono hz) (λz hz'=>(aeM bL z hz').mono hz) ?_;have:=Pm.yI O;have:=I.ol;lia
theorem atc(F:Fn K mg "monic" Ui ["prime","poly"])(pI:Du P w K mg base):Xv P w K mg base:=by
 refine F.cal Zg λH Q E hr h=>?_
 obtain⟨P',a,p,rfl,hP,hPb,hA,zA,pP,q⟩:=h;refine⟨_,(au (cO (bI (d8 K hr) (bY K B.bV (aj (pv 1) ak)) ao) (aC (aP (lX ak))) cR) (au (fL (i:=2) Zg.nd rfl (dX rfl) (aO K (pv 1) (aF cV (bY K B.bV (aj (pv 1) ak)) ao))) (aC (aP (jP (qG K) rfl B.pU boot_tuple (aM (fD (sc:=alo) (N:=["number","last","prime"]) (ix:=[none,some 2,some 0]) dJ rfl (j7 K (pv 1)) (λ_ _ _ _ _=>⟨(bJ 0 dz),dM,(aG pI hr (aj (pv 2) (aj (pv 0) (aj (pv 1) ak))))⟩)) ak)))))),?_⟩;have hr2:2<=P'/\P'<2097152:=⟨hP.1,hPb⟩;have lP:(p.map V.int).length=p.length:=aK _;refine⟨_,rfl,.ref a,p.length,rfl,.inr ⟨_,aB.of hA,lP.symm⟩,_,rfl,?_⟩;refine cX (λc=>?_) (λc=>?_)
 .have c':(p.length:Int)=0:=dec_true c;have e:p=[]:=vY ⋯;subst e;exact⟨dD _,λt ht=>q t [] _ (Same.new ht _) aD (Pm.u9.nil _)⟩
 .have c':¬(p.length:Int)=0:=dec_false c;have hn:p≠[]:=λe=>c' (by rw[e];rfl);have hpos:0<p.length:=⋯;have e1:((p.length:Int)-1).toNat=p.length-1:=⋯;refine⟨_,rfl,_,rfl,.ref a,p.length,rfl,.inr ⟨_,aB.of hA,lP.symm⟩,_,_,rfl,rfl,_,_,.inr (aB.of hA),dN (ns:=p) (⋯:(0:Int)<=(p.length:Int)-1) ⋯,?_⟩;rw[e1];have l0:=Pm.kJ hn pP.tr;have l1:=pP.co (p.length-1);rw[Rm.iz ⋯]at l1;have r0:0<=Pm.co p (p.length-1):=by rw[<-l1];exact oM _ ⋯
  have r1:Pm.co p (p.length-1)<(P':Int):=by rw[<-l1];exact oH _ ⋯
  refine⟨_,rfl,a,rfl,.inr ⟨⟨_,aB.of hA⟩,Qd hA ⋯ rfl (λx=>x*(Pm.co p (p.length-1))^(P'-2)%(P':Int)) ?_ ?_⟩⟩
  .intro H2 x g2 hx k hk;exact⟨_,rfl,_,rfl,_,rfl,P',x,_,rfl,hP,hPb,by show 0<Pm.co p (p.length-1);lia,r1,hk⟩
  .intro D hD;refine⟨D,_,rfl,.inl ⟨aA.of aD,λt ht=>?_⟩⟩;exact q t (Pm.jV P' p) _ ((Same.new hD _).trans (Same.new ht _)) aD (Pm.alB hP pP hn)
theorem ajA(F:Fn K mg "greatest" Mr ["by","one","other"])(CK:Xv P w K mg base)(ug:Iu P w K mg base):RM P w K mg base:=by
 refine F.cal Bs λH Q E hr h=>?_
 obtain⟨P',a,c,p,r,rfl,hP,hPb,hA,hC,zA,zC,pP,pR,hne,q⟩:=h;refine⟨_,(au (aN 3 Bs.nd (aG CK hr (aj (pv 0) (aj (pv 1) ak)))) (au (aN 4 Bs.nd (aG CK hr (aj (pv 0) (aj (pv 2) ak)))) (au (sW PassesOwn.never (bI nZ (bY K B.bV (aj (pv 4) ak)) ao) (au (aN 5 Bs.nd (aO K (aG ug hr (aj (pv 0) (aj (pv 3) (aj (pv 4) ak)))) ao)) (au (aN 3 Bs.nd (pv 4)) (aC (aN 4 Bs.nd (aG CK hr (aj (pv 0) (aj (pv 5) ak)))))))) (aC (aP (pv 3)))))),?_⟩;have hr2:2<=P'/\P'<2097152:=⟨hP.1,hPb⟩;refine⟨_,rfl,_,rfl,P',a,p,rfl,hP,hPb,hA,⋯,pP,λtg g0 H1 g1 hG mG=>?_⟩;refine⟨_,rfl,_,rfl,P',c,r,rfl,hP,hPb,g1 _ _ hC,⋯,pR,λts s0 H2 g2 hS' mS=>?_⟩;have lg0:=mG.len;have ls0:=mS.len;refine⟨λm σ' H'=>CW λ(o5:Option V) (tg ts:Addr) (g s:List Int)=>Hi (m=s.length) (σ'=[some (.int P'),some (.ref a),some (.ref c),some (.ref tg),some (.ref ts),o5]) (Same H H') (H' tg=some (.tup (g.map V.int))) (H' ts=some (.tup (s.map V.int))) (Pm.vm P' p r g s) (g.length<=max p.length r.length) (s.length<=max p.length r.length),
  ⟨_,_,tg,ts,g0,s0,rfl,rfl,g1.trans g2,g2 _ _ hG,hS',Pm.vm.start mG mS hne,⋯,⋯⟩,?_⟩
 rintro m σ' H' ⟨o5,tg,ts,gg,ss,rfl,rfl,g,hG,hS',I,zg,zs⟩;have lS:(ss.map V.int).length=ss.length:=aK _;refine⟨_,rfl,.ref ts,ss.length,rfl,.inr ⟨_,aB.of hS',lS.symm⟩,_,_,rfl,rfl,_,rfl,?_⟩;refine cX (λcc=>?_) (λcc=>?_)
 .have hs:ss≠[]:=λe=>by have:=dec_true cc;rw[e]at this;simp at this
  have hMs:=I.ZS hs;refine⟨_,λ_ _ z=>z,?_⟩;refine⟨_,rfl,_,rfl,_,rfl,P',tg,ts,gg,ss,rfl,⋯,⋯,hG,hS',⋯,⋯,hMs,I.gy.co,(λx hx=>(QL hr2.1 hr2.2 I.gy x hx).mono ∅),QL hr2.1 hr2.2 I.sy,λt x y o l H3 g3 hT hX hY D _ _ _=>?_⟩;refine⟨_,_,.inr (aB.of hT),rfl,?_⟩;refine⟨_,rfl,?_⟩;have hsh:=D.short;refine⟨_,rfl,_,rfl,P',y,l,rfl,hP,hPb,hY,⋯,D.ry,λtm m H4 g4 hM mM=>?_⟩;have lm:=mM.len;exact⟨m.length,⋯,_,ts,tm,ss,m,rfl,rfl,g.trans (g3.trans g4),(g3.trans g4) _ _ hS',hM,I.step hs D mM,zs,⋯⟩
 .have hs:ss=[]:=vY (by have:=dec_false cc;lia);refine⟨_,rfl,?_⟩;exact q tg gg H' g hG (I.stop hs) zg
theorem ak0(F:Fn K mg "nearest" Ro ["modulus","number"]):Q5 P w K mg base:=by
 refine F.cal XF λH Q E hr h=>?_
 obtain⟨M,x,rfl,hM,q⟩:=h;refine⟨_,(au (aN 2 XF.nd (aF eG (pv 1) (pv 0))) (aC (aP (Ou (bI nZ (aF v_mul ao (pv 2)) (pv 0)) (aF cV (pv 2) (pv 0)) (pv 2))))),?_⟩;refine⟨_,rfl,_,rfl,_,_,rfl,rfl,hM,?_⟩;refine⟨_,rfl,mulL ∅ ∅,_,rfl,_,_,rfl,rfl,_,rfl,?_⟩;refine cX (λc=>?_) (λc=>?_)
 .have c':2*(x%M)>M:=dec_true c;refine⟨_,rfl,_,rfl,_,_,rfl,rfl,?_⟩;have e:Pm.nr M x=x%M-M:=if_pos c';rw[e]at q;exact q
 .have c':¬2*(x%M)>M:=dec_false c;refine⟨_,rfl,?_⟩;have e:Pm.nr M x=x%M:=if_neg c';rw[e]at q;exact q
theorem awW(F:Fn K mg "joined" MQ ["modulus","number","prime","rest"])(pI:Du P w K mg base)(cF:jU P w K mg base)(Bc:Q5 P w K mg base):abD P w K mg base:=by
 refine F.cal WC λH Q E hr h=>?_
 obtain⟨M,t,p,s',rfl,hp,hpb,hM,yF,q⟩:=h;refine⟨_,(au (aN 4 WC.nd (aG pI hr (aj (pv 2) (aM (aG cF hr (aj (pv 2) (cQ (aF cV (pv 3) (pv 1)) ak))) (aM (aG cF hr (aj (pv 2) (aj (pv 0) ak))) ak))))) (aC (aP (aG Bc hr (cQ (aF v_mul (pv 0) (pv 2)) (cQ (pad K (pv 1) (aF v_mul (pv 0) (pv 4))) ak)))))),?_⟩;have h2:=hp.1;have hp0:(p:Int)≠0:=⋯;have r0:=oM M hp0;have r1:=oH M (⋯:(0:Int)<p);have rn:M%(p:Int)≠0:=λz=>yF (Eo z);have et:Rm.tk (p:Int) M=M%(p:Int):=Rm.iz hp0 M;refine⟨_,rfl,_,rfl,_,rfl,_,rfl,_,_,rfl,rfl,p,_,rfl,⋯,?_⟩;refine⟨_,rfl,_,rfl,p,M,rfl,⋯,?_⟩;refine⟨p,_,_,rfl,hp,hpb,by rw[et];lia,by rw[et];exact r1,?_⟩;have hw:=Pm.aj1 (M:=M) (t:=t) (s:=s') hp;refine⟨_,rfl,_,rfl,mulR ⋯ ⋯,?_⟩;refine⟨_,rfl,_,rfl,_,rfl,mulR (by show -(2^64)<Pm.jw M t p s';lia) (by show Pm.jw M t p s'<2^64;lia),?_⟩;exact⟨_,_,rfl,Int.mul_pos hM ⋯,q⟩
theorem am8(F:Fn K mg "taken_poly" Tz ["prime","poly"])(oU:Er P w K mg base)(cF:jU P w K mg base):adI P w K mg base:=by
 refine F.cal ahP λH Q E hr h=>?_
 obtain⟨p,a,P',rfl,hp,hA,zA,q⟩:=h;refine⟨_,(aC (aP (aG oU hr (aM (fD (sc:=asd) (N:=["number","prime"]) (ix:=[none,some 0]) dJ rfl (j7 K (pv 1)) (λ_ _ _ _ _=>⟨(bJ 0 dz),dM,(aG cF hr (aj (pv 1) (aj (pv 0) ak)))⟩)) ak)))),?_⟩;refine⟨_,rfl,a,rfl,.inr ⟨⟨_,aB.of hA⟩,Qd hA ⋯ rfl (λx=>Rm.tk p x) ?_ ?_⟩⟩
 .intro H2 x g2 hx k hk;exact⟨_,rfl,_,rfl,p,x,rfl,⋯,hk⟩
 .intro D hD;refine⟨D,_,rfl,aA.of aD,λt1 H3 g3 h3=>?_⟩;exact q t1 H3 ((Same.new hD _).trans g3) h3
theorem aqj(F:Fn K mg "divides" TX ["monic_one","poly"])(ug:Iu P w K mg base):ac5 P w K mg base:=by
 refine F.cal ax3 λH Q E hr h=>?_
 obtain⟨m,a,M,P',rfl,hMm,hA,zM,zP,hM,bM,bP,q⟩:=h;refine⟨_,(aC (aP (V0 (d8 K hr) (aO K (aG ug hr (cY ao (aj (pv 1) (aj (pv 0) ak)))) ao) (lX ak) (Ku _)))),?_⟩;refine⟨_,rfl,_,rfl,0,a,m,P',M,rfl,∅,∅,hA,hMm,zP,zM,hM,λk=>Rm.cJ _,bP,bM,λt x y o l H3 g3 hT hX hY D _ _ _=>?_⟩;refine⟨_,_,.inr (aB.of hT),rfl,?_⟩;refine⟨dD _,λt0 ht0=>?_⟩;have g4:=Same.new ht0 (.tup []);refine ZY (ns:=l) (ms:=[]) (aB.of (g4 _ _ hY)) (aB.of aD) ?_;exact q _ _ (g3.trans g4) (by show decide (l=[])=true↔_;rw[decide_eq_true_iff];exact D.dv hM)
theorem az2(F:Fn K mg "whole_greatest" Qy ["one","other"])(Jx:ac5 P w K mg base)(M4:agS P w K mg base)(Ay:RM P w K mg base)(Kr:adI P w K mg base)(Bc:Q5 P w K mg base)(Ng:abD P w K mg base):acU P w K mg base:=by
 refine F.cal nD λH Q E hr h=>?_
 obtain⟨a,c,P',t,g,N,U,V',rfl,hA,hC,zP,zt,hP,bP,bt,G,hV,hU,hUV,q⟩:=h;refine⟨_,(au (aN 2 nD.nd (pv 0)) (au (fL (i:=3) nD.nd rfl (dX rfl) ao) (au (fL (i:=4) nD.nd rfl (dX rfl) (Fj rfl B.Vw)) (au (aN 5 nD.nd sG) (au (sW PassesOwn.never (PW.pt (vU (DK (zf (pv 5))) (vU (DK (zf (aG Jx hr (aj (pv 2) (aj (pv 0) ak))))) (Ij (DK (zf (aG Jx hr (aj (pv 2) (aj (pv 1) ak))))))))) (au (fL (i:=4) nD.nd rfl (dX rfl) (aG M4 hr (aj (pv 4) ak))) (au (fL (i:=6) nD.nd rfl (dX rfl) (aG Ay hr (aj (pv 4) (aM (aG Kr hr (aj (pv 4) (aj (pv 0) ak))) (aM (aG Kr hr (aj (pv 4) (aj (pv 1) ak))) ak))))) (aC (cO (bI rD (bY K B.bV (aj (pv 6) ak)) (bY K B.bV (aj (pv 2) ak))) (au (aN 2 nD.nd (jP (qG K) rfl B.pU boot_tuple (aM (fD (sc:=avr) (N:=["rest","prime"]) (ix:=[none,some 4]) dJ rfl (j7 K (pv 6)) (λ_ _ _ _ _=>⟨(bJ 0 dz),dM,(aG Bc hr (aj (pv 1) (aj (pv 0) ak)))⟩)) ak))) (au (fL (i:=3) nD.nd rfl (dX rfl) (pv 4)) (aC (aN 5 nD.nd sG)))) (aC (uV (cO (bI (d8 K hr) (bY K B.bV (aj (pv 6) ak)) (bY K B.bV (aj (pv 2) ak))) (au (fL (i:=7) nD.nd rfl (dX rfl) (pv 2)) (au (aN 2 nD.nd (jP (qG K) rfl B.pU boot_tuple (aM (fD (sc:=ahV) (N:=["k","before","modulus","prime","seen"]) (ix:=[none,some 7,some 3,some 4,some 6]) dJ rfl (fK rfl B.dG (aM (bY K B.bV (aj (pv 6) ak)) ak)) (λ_ _ _ _ _=>⟨(bJ 0 dz),dM,(aG Ng hr (aj (pv 2) (aM (aO K (pv 1) (pv 0)) (aj (pv 3) (aM (aO K (pv 4) (pv 0)) ak)))))⟩)) ak))) (au (fL (i:=3) nD.nd rfl (dX rfl) (aF v_mul (pv 3) (pv 4))) (aC (aN 5 nD.nd (V0 (d8 K hr) (pv 2) (pv 7) (Ku _))))))) cR)))))))) (aC (aP (pv 2)))))))),?_⟩;have hgP:g.length<=P'.length:=G.one.len rfl G.mon hP;refine⟨_,rfl,?_⟩;refine⟨WZ H a c P' g N,⟨_,_,_,a,P',1,1000000,true,0,0,rfl,rfl,Same.refl _,hA,Pm.lF.start hP hgP _,Om.many,⋯,⋯⟩,?_⟩;rintro m σ' H' ⟨o6,o7,tt,told,M,prime,ripe,bad,good,rfl,rfl,gg,hT,I,aeL,hbig,av8⟩;have bT:=auP I bP av8;have zT:=I.le;refine⟨_,rfl,ripe,rfl,?_⟩;refine cX (λcr=>?b1) (λcr=>?n1)
 case' b1=>
  have hne:¬(ripe=true/\told=g):=λz=>by rw[z.1]at cr;exact absurd cr ∅
  have gx:=gg;have zU:=hT;generalize H'=Hx at gx zU⊢
 case' n1=>
  refine⟨_,rfl,_,rfl,tt,a,told,P',rfl,hT,gg _ _ hA,⋯,zP,I.mon,bT,(λx hx=>(bP x hx).mono ∅),λb1 H1 g1 e1=>?_⟩;refine⟨b1,rfl,?_⟩;refine cX (λc1=>?b2) (λc1=>?n2)
 case' b2=>
  have hne:¬(ripe=true/\told=g):=λz=>by
   have:b1=true:=e1.mpr (by rw[z.2];exact G.one);rw[this]at c1;exact absurd c1 ∅
  have gx:=gg.trans g1;have zU:=g1 _ _ hT;generalize H1=Hx at gx zU⊢
 case' n2=>
  refine⟨_,rfl,_,rfl,tt,c,told,t,rfl,g1 _ _ hT,(gg.trans g1) _ _ hC,⋯,zt,I.mon,bT,bt,λb2 H2 g2 e2=>?_⟩;refine⟨b2,rfl,?_⟩;refine cX (λc2=>?b3) (λc2=>?n3)
 case n3=>
  have hb1:b1=true:=by cases b1<;>first|rfl|exact absurd rfl c1
  have hb2:b2=true:=by cases b2<;>first|rfl|exact absurd rfl c2
  have e:=G.told I.mon (e1.mp hb1) (e2.mp hb2) I.ge;subst e;refine⟨_,rfl,?_⟩;exact q tt H2 (gg.trans (g1.trans g2)) ((g1.trans g2) _ _ hT)
 case' b3=>
  have hne:¬(ripe=true/\told=g):=λz=>by
   have:b2=true:=e2.mpr (by rw[z.2];exact G.two);rw[this]at c2;exact absurd c2 ∅
  have gx:=gg.trans (g1.trans g2);have zU:=(g1.trans g2) _ _ hT;generalize H2=Hx at gx zU⊢
 all_goals
  have hfew:=I.few G.ne hV hU hne;obtain⟨k,hk'⟩:∃k,6000-(bad+good)=k+1:=⟨6000-(bad+good)-1,⋯⟩;rw[hk']at aeL;obtain⟨q0,hq0,ap3,aBd,hnext⟩:=aeL.next;refine⟨_,λ_ _ z=>z,?_⟩;refine⟨_,rfl,prime,q0,rfl,hq0,ap3,⋯,λp hp hlt hle=>?_⟩;have hN:=hnext p hle;refine⟨_,rfl,_,rfl,_,rfl,p,a,P',rfl,⋯,gx _ _ hA,⋯,λt1 H3 g3 h3=>?_⟩;refine⟨_,rfl,_,rfl,p,c,t,rfl,⋯,(gx.trans g3) _ _ hC,⋯,λt2 H4 g4 h4=>?_⟩;have l1:=ZL p P';have l2:=ZL p t;refine⟨p,t1,t2,_,_,rfl,hp,⋯,g4 _ _ h3,h4,⋯,⋯,aeD p P',aeD p t,λ_=>alp hp hP,λts s' H5 g5 hS hG hsl=>?_⟩;have sn:=G.seen hp (Q8 p P') (Q8 p t) hG;have lS:(s'.map V.int).length=s'.length:=aK _;have lT:(told.map V.int).length=told.length:=aK _;have gy:=gx.trans (g3.trans (g4.trans g5));have hTy:=(g3.trans (g4.trans g5)) _ _ zU;refine⟨_,rfl,.ref ts,s'.length,rfl,.inr ⟨_,aB.of hS,lS.symm⟩,_,rfl,.ref tt,told.length,rfl,.inr ⟨_,aB.of hTy,lT.symm⟩,_,_,rfl,rfl,_,rfl,?_⟩;refine cX (λd1=>?_) (λd1=>?_)
  .have d1':(s'.length:Int)<told.length:=dec_true d1;refine⟨_,rfl,ts,rfl,.inr ⟨⟨_,aB.of hS⟩,Qd hS ⋯ rfl (λx=>Pm.nr p x) ?_ ?_⟩⟩
   .intro H6 x g6 hx kk hk;exact⟨_,rfl,_,rfl,p,x,rfl,⋯,hk⟩
   .intro D hD;refine⟨D,_,rfl,.inl ⟨aA.of aD,λtn ht=>?_⟩⟩;obtain⟨qK,qw,PZ,I'⟩:=I.anew hp hlt ⋯ ⋯ sn ⋯;refine⟨_,rfl,?_⟩;exact⟨6000-(qK+qw),⋯,_,_,tn,s'.map (Pm.nr p),p,p,true,qK,qw,rfl,rfl,gy.trans ((Same.new hD _).trans (Same.new ht _)),aD,I',(by rw[PZ,(⋯:6000-(bad+good+1)=k)];exact hN),⋯,⋯⟩
  .have d1':¬(s'.length:Int)<told.length:=dec_false d1;refine u6.by (λσ' H2=>∃m',m'<6000-(bad+good)/\WZ H a c P' g N m' σ' H2) (λN0 Od=>?_) (λσ' H2 z=>z);refine⟨_,rfl,.ref ts,s'.length,rfl,.inr ⟨_,aB.of hS,lS.symm⟩,_,rfl,.ref tt,told.length,rfl,.inr ⟨_,aB.of hTy,lT.symm⟩,_,rfl,?_⟩;refine cX (λd2=>?_) (λd2=>?_)
   .have d2':(s'.length:Int)=told.length:=dec_true d2;have hl:s'.length=told.length:=⋯;have yF:¬(p:Int)∣M:=λz=>by have:=I.div p hp z;lia
    refine⟨_,rfl,?_⟩;refine⟨_,rfl,.ref ts,s'.length,rfl,.inr ⟨_,aB.of hS,lS.symm⟩,?_⟩;refine⟨(s'.length:Int),rfl,(⋯:-(2^62)<=(s'.length:Int)),(⋯:(s'.length:Int)<2^62),?_⟩;rw[cM];refine rT (n:=s'.length) ⋯ rfl (λk=>Pm.jn M (told.getD k 0) p (s'.getD k 0)) ?_ ?_
    .intro H6 k6 g6 hk6 kk hk;have e1:(0+(k6:Int)).toNat=k6:=⋯;refine⟨_,rfl,_,rfl,_,rfl,_,_,.inr (aB.of (g6 _ _ hTy)),dN (ns:=told) (⋯:(0:Int)<=0+(k6:Int)) ⋯,?_⟩;refine⟨_,rfl,_,rfl,_,rfl,_,_,.inr (aB.of (g6 _ _ hS)),dN (ns:=s') (⋯:(0:Int)<=0+(k6:Int)) ⋯,?_⟩;rw[e1];exact⟨M,_,p,_,rfl,hp,⋯,I.pos,yF,hk⟩
    .intro D hD;refine⟨D,_,rfl,.inl ⟨aA.of aD,λtn ht=>?_⟩⟩;have gn:=(Same.new hD (.lst ((Pm.aq s'.length λk=>Pm.jn M (told.getD k 0) p (s'.getD k 0)).map V.int))).trans (Same.new ht (.tup ((Pm.aq s'.length λk=>Pm.jn M (told.getD k 0) p (s'.getD k 0)).map V.int)));refine⟨_,rfl,_,rfl,mulR ⋯ ⋯,?_⟩;refine⟨_,rfl,_,rfl,?_⟩;refine ZY (ns:=Pm.aq s'.length λk=>Pm.jn M (told.getD k 0) p (s'.getD k 0)) (ms:=told) (aB.of aD) (aB.of (gn _ _ hTy)) ?_;obtain⟨qK,qw,PZ,I'⟩:=I.join (jG:=Pm.aq s'.length λk=>Pm.jn M (told.getD k 0) p (s'.getD k 0)) (R7:=decide ((Pm.aq s'.length λk=>Pm.jn M (told.getD k 0) p (s'.getD k 0))=told)) hp hlt ⋯ ⋯ sn hl (by rw[Pm.aQ];exact hl) (λk6 hk6=>⟨Pm.jw M (told.getD k6 0) p (s'.getD k6 0),Pm.aup hp yF,by rw[Pm.bZ,if_pos ⋯];rfl⟩) (decide_eq_true_iff);exact Od _ _ ⟨6000-(qK+qw),⋯,_,_,tn,_,M*p,p,_,qK,qw,rfl,rfl,gy.trans gn,aD,I',(by rw[PZ,(⋯:6000-(bad+good+1)=k)];exact hN),⋯,⋯⟩
   .have d2':¬(s'.length:Int)=told.length:=dec_false d2;have I':=I.stay hp hlt ⋯ sn ⋯;exact Od _ _ ⟨6000-(bad+1+good),⋯,_,_,tt,told,M,p,ripe,bad+1,good,rfl,rfl,gy,hTy,I',(by rw[(⋯:6000-(bad+1+good)=k)];exact hN),⋯,⋯⟩
theorem az6(F:Fn K mg "of_rule" Wm ["by","rule"])(cF:jU P w K mg base):Hl P w K mg base:=by
 refine F.cal TY λH Q E hr h=>?_
 obtain⟨b,a,c,rfl,hb,hA,zA,q⟩:=h;refine⟨_,(au (fL (i:=2) TY.nd rfl (dX rfl) (bY K B.bV (aj (pv 1) ak))) (au (yS (i:=3) (hN:=TY.nd) (hi':=rfl) (hx:=(pO rfl)) (sc:=amr) (N:=["k","by","length","rule"]) (ix:=[none,some 0,some 2,some 1]) dJ rfl (fK rfl B.dG (aj (pv 2) ak)) (λ_ _ _ _ _=>⟨(bJ 0 dz),dM,(aG cF hr (aj (pv 1) (cQ (aF cV ao (aO K (pv 3) (aF cV (aF cV (pv 2) ao) (pv 0)))) ak)))⟩)) (aC (aP (jP (qG K) rfl B.pU boot_tuple (cQ (pad K (pv 3) (jc (cY ao ak))) ak)))))),?_⟩;have lC:(c.map V.int).length=c.length:=aK _;refine⟨_,rfl,.ref a,c.length,rfl,.inr ⟨_,aB.of hA,lC.symm⟩,?_⟩;refine⟨_,rfl,(c.length:Int),rfl,(⋯:-(2^62)<=(c.length:Int)),(⋯:(c.length:Int)<2^62),?_⟩;rw[cM];refine rT (n:=c.length) ⋯ rfl (λk=>Rm.tk b (0-Pm.co c (c.length-1-k))) ?_ ?_
 .intro H2 k g2 hk kk hkk;have e1:((c.length:Int)-1-(0+(k:Int))).toNat=c.length-1-k:=⋯;refine⟨_,rfl,_,rfl,_,rfl,_,_,rfl,rfl,_,rfl,_,_,rfl,rfl,_,_,.inr (aB.of (g2 _ _ hA)),dN (ns:=c) (⋯:(0:Int)<=(c.length:Int)-1-(0+(k:Int))) ⋯,_,_,rfl,rfl,?_⟩;refine⟨b,_,rfl,hb,?_⟩;rw[e1];exact hkk
 .intro D hD;have g1:=Same.new hD (.lst ((Pm.aq c.length λk=>Rm.tk b (0-Pm.co c (c.length-1-k))).map V.int));refine⟨_,rfl,(by show 1<=sizeLine;decide),λl2 hl2=>?_⟩;have g2:=Same.new hl2 (.lst [.int 1]);refine .inl ⟨_,_,g2 _ _ aD,aD,?_,λl3 hl3=>?_⟩
  .rw[aK,Pm.aQ];exact fj (dW (by show _+1<=1000;lia))
  refine⟨l3,_,rfl,.inl ⟨aA.of aD,λt ht=>?_⟩⟩;refine q t _ (g1.trans (g2.trans ((Same.new hl3 _).trans (Same.new ht _)))) ?_;rw[aD,Pm.aW,Lq]
theorem aqW(F:Fn K mg "rule_of" Mj ["by","poly"])(cF:jU P w K mg base):JQ P w K mg base:=by
 refine F.cal abI λH Q E hr h=>?_
 obtain⟨b,a,p,rfl,hb,hA,z0,zA,q⟩:=h;refine⟨_,(au (fL (i:=2) abI.nd rfl (dX rfl) (aF cV (bY K B.bV (aj (pv 1) ak)) ao)) (aC (aP (jP (qG K) rfl B.pU boot_tuple (aM (fD (sc:=aw3) (N:=["k","by","length","poly"]) (ix:=[none,some 0,some 2,some 1]) dJ rfl (fK rfl B.dG (aj (pv 2) ak)) (λ_ _ _ _ _=>⟨(bJ 0 dz),dM,(aG cF hr (aj (pv 1) (cQ (aF cV ao (aO K (pv 3) (aF cV (aF cV (pv 2) ao) (pv 0)))) ak)))⟩)) ak))))),?_⟩;have lC:(p.map V.int).length=p.length:=aK _;refine⟨_,rfl,.ref a,p.length,rfl,.inr ⟨_,aB.of hA,lC.symm⟩,_,_,rfl,rfl,?_⟩;refine⟨_,rfl,(p.length:Int)-1,rfl,(⋯:-(2^62)<=(p.length:Int)-1),(⋯:(p.length:Int)-1<2^62),?_⟩;rw[(⋯:((p.length:Int)-1).toNat=p.length-1)];refine rT (n:=p.length-1) ⋯ rfl (λk=>Rm.tk b (0-Pm.co p (p.length-1-1-k))) ?_ ?_
 .intro H2 k g2 hk kk hkk;have e1:((p.length:Int)-1-1-(0+(k:Int))).toNat=p.length-1-1-k:=⋯;refine⟨_,rfl,_,rfl,_,rfl,_,_,rfl,rfl,_,rfl,_,_,rfl,rfl,_,_,.inr (aB.of (g2 _ _ hA)),dN (ns:=p) (⋯:(0:Int)<=(p.length:Int)-1-1-(0+(k:Int))) ⋯,_,_,rfl,rfl,?_⟩;refine⟨b,_,rfl,hb,?_⟩;rw[e1];exact hkk
 .intro D hD;refine⟨D,_,rfl,.inl ⟨aA.of aD,λt ht=>?_⟩⟩;exact q t _ ((Same.new hD _).trans (Same.new ht _)) aD
theorem avv(F:Fn K mg "top_of" Uk ["row","poly"])(cF:jU P w K mg base)(oU:Er P w K mg base):Xg P w K mg base:=by
 refine F.cal BD λH Q E hr h=>?_
 obtain⟨v,r,a,rfl,⟨a0,p,p2,rfl,hA,hR,hS⟩,ok,hP,q⟩:=h;refine⟨_,(au (aN 2 BD.nd (aO K (pv 0) ao)) (au (fL (i:=3) BD.nd rfl (dX rfl) (aO K (pv 0) ao)) (au (aN 4 BD.nd (jc ak)) (au (jj PassesOwn.never rfl (fK rfl B.dG (aM (bY K B.bV (aj (pv 3) ak)) ak)) (JR (i:=5) BD.nd rfl (dX rfl)) (au (yS (i:=6) (hN:=BD.nd) (hi':=rfl) (hx:=(pO rfl)) (sc:=aAr) (N:=["j","k","poly","starts"]) (ix:=[none,some 5,some 1,some 3]) dJ rfl (Bb rfl B.dG (cQ (pad K (pv 5) ao) (aM (bY K B.bV (aj (pv 1) ak)) ak))) (λ_ _ _ _ _=>⟨(bJ 0 dz),dM,(aF v_mul (aO K (pv 2) (pv 0)) (aO K (pv 3) (aF cV (aF cV (pv 0) ao) (pv 1))))⟩)) (aC (jm (rA K (pv 4) (aG cF hr (aj (pv 2) (aM (lu (Ac K rfl) rfl B.Bp boot_sum (aj (pv 6) ak)) ak)))))))) (aC (aP (aG oU hr (aj (pv 4) ak)))))))),?_⟩;have hl:=ok.len;have hs:=ok.short;have lS:(r.starts.map V.int).length=r.starts.length:=aK _;have lP:((Pm.aW r.b r.rule).map V.int).length=r.rule.length+1:=by rw[aK,Pm.iT]
 refine⟨_,rfl,_,_,.inr (aB.of hA),rfl,?_⟩;refine⟨_,rfl,_,_,.inr (aB.of hA),rfl,?_⟩;refine⟨dD _,λl0 h0=>?_⟩;have g0:=Same.new h0 (.lst []);refine⟨_,rfl,.ref p2,r.starts.length,rfl,.inr ⟨_,aB.of (g0 _ _ hS),lS.symm⟩,?_⟩;refine⟨(r.starts.length:Int),rfl,(⋯:-(2^62)<=(r.starts.length:Int)),(⋯:(r.starts.length:Int)<2^62),?_⟩;refine j8 (lo:=0) (n:=(r.starts.length:Int).toNat) (λi σ' H'=>Ex2 λo5 o6=>Zy (σ'=[some (.ref a0),some (.ref a),some (.int r.b),some (.ref p2),some (.ref l0),o5,o6]) (Same H H') (H' l0=some (.lst ((Pm.aq i λk=>Rm.tk r.b (Pm.tp (Pm.aW r.b r.rule) r.at k)).map V.int))))
  ⟨_,_,rfl,g0,aD⟩ ?_ ?_
 .rintro i σ' H' hi ⟨o5,o6,rfl,g,hL⟩;have hi':i<r.starts.length:=⋯;refine⟨_,rfl,_,rfl,.ref a,r.rule.length+1,rfl,.inr ⟨_,aB.of (g _ _ hP),lP.symm⟩,?_⟩;refine⟨_,_,rfl,⟨⋯,⋯,⋯,⋯⟩,?_⟩;rw[(⋯:(((r.rule.length+1:Nat):Int)-(0+(i:Int)+1)).toNat=r.rule.length-i)];refine aaZ (lo:=0+(i:Int)+1) (n:=r.rule.length-i) ⋯ rfl (λk=>Pm.co (Pm.aW r.b r.rule) (i+1+k)*r.at k) ?_ ?_
  .intro H2 k g2 hk kk hkk;have e1:(0+(i:Int)+1+(k:Int)).toNat=i+1+k:=⋯;have e2:(0+(i:Int)+1+(k:Int)-1-(0+(i:Int))).toNat=k:=⋯;have lq:(Pm.aW r.b r.rule).length=r.rule.length+1:=Pm.iT ..;refine⟨_,rfl,_,rfl,_,_,.inr (aB.of (g2 _ _ (g _ _ hP))),dN (ns:=Pm.aW r.b r.rule) (⋯:(0:Int)<=0+(i:Int)+1+(k:Int)) ⋯,?_⟩;refine⟨_,rfl,_,rfl,_,_,rfl,rfl,_,rfl,_,_,rfl,rfl,_,_,.inr (aB.of (g2 _ _ (g _ _ hS))),dN (ns:=r.starts) (⋯:(0:Int)<=0+(i:Int)+1+(k:Int)-1-(0+(i:Int))) ⋯,?_⟩;refine⟨lY (Rm.Bd.getD ok.E9 _) (Rm.Bd.getD ok.Et _) ∅,?_⟩;rw[e1,e2];have e3:r.at k=r.starts.getD k 0:=Rm.qe ⋯;rw[e3]at hkk;exact hkk
  .intro D hD;have g3:=Same.new hD (.lst ((Pm.aq (r.rule.length-i) λk=>Pm.co (Pm.aW r.b r.rule) (i+1+k)*r.at k).map V.int));have jW:=g3 _ _ hL;have lL:((Pm.aq i λk=>Rm.tk r.b (Pm.tp (Pm.aW r.b r.rule) r.at k)).map V.int).length=i:=by rw[aK,Pm.aQ]
   refine⟨_,rfl,.inl ⟨rfl,_,aA.of jW⟩,_,rfl,_,rfl,D,_,rfl,aA.of aD,r.b,_,rfl,ok.lU,?_⟩;refine⟨l0,_,_,rfl,rfl,jW,?_,?_⟩
   .rw[lL];exact dW ⋯
   .refine⟨_,_,rfl,(g.trans g3).upd h0 _,?_⟩;rw[aD,Pm.Ef,Lq];have e4:Pm.tp (Pm.aW r.b r.rule) r.at i=(Pm.aq (r.rule.length-i) λk=>Pm.co (Pm.aW r.b r.rule) (i+1+k)*r.at k).sum:=by
     unfold Pm.tp;rw[Pm.aq,Pm.FN,Pm.iT,fu]
    rw[e4]
 .rintro σ' H' ⟨o5,o6,rfl,g,hL⟩;refine⟨_,rfl,l0,_,rfl,aA.of hL,λt1 H3 g3 h3=>?_⟩;refine q t1 H3 (g.trans g3) ?_;rw[h3,rJ,hl,cM]
theorem avd(F:Fn K mg "shared_divisor" Oi ["by","one","other"])(Tv:acU P w K mg base)(Ay:RM P w K mg base):ags P w K mg base:=by
 refine F.cal amV λH Q E hr h=>?_
 obtain⟨b,a,c,P',t,rfl,hA,hC,zP,zt,hP,bP,bt,h⟩:=h;refine⟨_,(aC (aP (Ou (bI (d8 K hr) (pv 0) ao) (aG Tv hr (aj (pv 1) (aj (pv 2) ak))) (aG Ay hr (aj (pv 0) (aj (pv 1) (aj (pv 2) ak))))))),?_⟩;refine⟨_,rfl,_,rfl,?_⟩;refine cX (λc0=>?_) (λc0=>?_)
 .have ZD:b=0:=dec_true c0;rcases h with⟨_,g,N,U,V',G,hV,hU,hUV,q⟩|⟨p,rfl,hp,_⟩
  .exact⟨_,rfl,_,rfl,a,c,P',t,g,N,U,V',rfl,hA,hC,zP,zt,hP,bP,bt,G,hV,hU,hUV,q⟩
  .have:=hp.1;lia
 .have ZD:¬b=0:=dec_false c0;rcases h with⟨z,_⟩|⟨p,rfl,hp,hpb,yP,yt,q⟩
  .exact absurd z ZD
  .exact⟨_,rfl,_,rfl,_,rfl,p,a,c,P',t,rfl,hp,hpb,hA,hC,zP,zt,yP,yt,λ_ z=>by have:=hP.pos;rw[z]at this;exact absurd this ∅,q⟩
theorem apr(F:Fn K mg "least_of" UU ["row"])(su:Hl P w K mg base)(SG:Xg P w K mg base)(ug:Iu P w K mg base)(Px:ags P w K mg base):adQ P w K mg base:=by
 refine F.cal Io λH Q E hr h=>?_
 obtain⟨v,r,rfl,⟨a0,p,p2,rfl,hA,hR,hS⟩,ok,hB,hT,q⟩:=h;refine⟨_,(au (aN 1 Io.nd (aO K (pv 0) ao)) (au (aN 2 Io.nd (aG su hr (aj (pv 1) (aM (aO K (pv 0) ao) ak)))) (au (aN 3 Io.nd (aG SG hr (aj (pv 0) (aj (pv 2) ak)))) (aC (aP (aO K (aG ug hr (aj (pv 1) (aj (pv 2) (aM (aG Px hr (aj (pv 1) (aj (pv 2) (aj (pv 3) ak)))) ak)))) ao)))))),?_⟩;have hs:=ok.short;have hb1:=ok.vd;have hm:=Pm.uW r.b r.rule;have lq:(Pm.aW r.b r.rule).length=r.rule.length+1:=Pm.iT ..;refine⟨_,rfl,_,_,.inr (aB.of hA),rfl,?_⟩;refine⟨_,rfl,_,rfl,_,_,.inr (aB.of hA),rfl,r.b,p,r.rule,rfl,ok.lU,hR,⋯,λtP H1 g1 hP=>?_⟩;refine⟨_,rfl,_,rfl,.ref a0,r,tP,rfl,⟨a0,p,p2,rfl,g1 _ _ hA,g1 _ _ hR,g1 _ _ hS⟩,ok,hP,λtT H2 g2 hTp=>?_⟩;have hP2:=g2 _ _ hP;have lt:=akl r;refine⟨_,rfl,_,rfl,_,rfl,_,rfl,_,rfl,r.b,tP,tT,Pm.aW r.b r.rule,rJ r,rfl,hP2,hTp,⋯,⋯,hm,(λx hx=>(ok.E9 x hx).mono ∅),ajI ok,?_⟩;have nP:=Hj r.b r.rule hB.one;by_cases h0:r.b=0
 .obtain⟨d,ua,u,awQ,hur,hQ0,hua,hsz⟩:=hT h0;have hK:=ok.kp;rw[h0]at hK;rw[h0]at hm lq;obtain⟨g,L,N,hL,EY,hKL,hall,hlen,hE,G,hV,hU⟩:=Pm.amg hm hK hQ0 hua (u:=u) (e:=5) (U:=u+400) (λk=>by have:=Pm.Nb ok.lU ok.vd awQ hur;rw[h0]at this;exact Pm.gk this k) (by rw[lq];lia) (by rw[lq];lia);have eT:Pm.co (rJ r)=Pm.tp (Pm.aW 0 r.rule) r.at:=funext λk=>by rw[Rf,h0,Rm.cJ]
  refine .inl ⟨h0,g,N,_,_,by rw[h0,eT];exact G,hV,hU,⋯,λtg H3 g3 hg=>?_⟩;have hgl:g.length<=r.rule.length+1:=by have:=hL.pos;lia
  have bg:∀x∈g,Rm.Bd 124000 x:=λx hx=>by
   obtain⟨k,hk,e⟩:=kW.mp hx;have:=hU k;rw[Pm.jL hk,e]at this;exact this.mono ⋯
  refine⟨r.b,tP,tg,Pm.aW r.b r.rule,g,rfl,ok.lU,⋯,g3 _ _ hP2,hg,by rw[h0];lia,⋯,G.mon,nP,(λx hx=>(ok.E9 x hx).mono ∅),bg,λt x y o l H4 g4 ht hx hy D _ _ _=>?_⟩;refine⟨_,_,.inr (aB.of ht),rfl,?_⟩;have D':Pm.Div r.b (Pm.aW r.b r.rule) g L []:=⟨by rw[h0];exact EY,Pm.Py.nil _,G.mon.pos,λk=>by rw[Pm.gP,cU,h0,hE k]⟩;obtain⟨eo,_⟩:=D.uniq G.mon D';subst eo;exact q x o H4 (g1.trans (g2.trans (g3.trans g4))) hx ⟨hL,λk=>by rw[h0];exact Rm.cJ _,by rw[h0];exact hKL,by rw[h0];exact hall⟩ (by have:=G.mon.pos;lia)
 .obtain⟨P0,qR,hb⟩:=hB.resolve_left h0;have hp:=Q6 qR;have hr:=vf P0 qR;have yP:Pm.Py (P0:Int) (Pm.aW r.b r.rule):=by rw[<-hb];exact afY hm nP
  have yt:Pm.Py (P0:Int) (rJ r):=by rw[<-hb];exact Pm.Py.aq ..
  refine .inr ⟨P0,hb,hp,⋯,yP,yt,λtg g H3 g3 hg hG hgl=>?_⟩;have bg:∀x∈g,Rm.Bd 124000 x:=QL hr.1 ⋯ hG.py;refine⟨r.b,tP,tg,Pm.aW r.b r.rule,g,rfl,ok.lU,⋯,g3 _ _ hP2,hg,⋯,⋯,hG.mon,nP,(λx hx=>(ok.E9 x hx).mono ∅),bg,λt x y o l H4 g4 ht hx hy D _ _ _=>?_⟩;refine⟨_,_,.inr (aB.of ht),rfl,?_⟩;rw[hb]at D;rw[<-hb]at D;obtain⟨hl1,hl2⟩:=anO hp ok hb hG (by rw[hb]at D ⊢;exact D);exact q x o H4 (g1.trans (g2.trans (g3.trans g4))) hx hl1 hl2
theorem avz(F:Fn K mg "shortest" VD ["row"])(TV:adQ P w K mg base)(uU:JQ P w K mg base):wz P w K mg base:=by
 refine F.cal Ti λH Q E hr h=>?_
 obtain⟨v,r,rfl,⟨a0,p,p2,rfl,hA,hR,hS⟩,ok,hB,hT,q⟩:=h;refine⟨_,(au (aN 1 Ti.nd (aG TV hr (aj (pv 0) ak))) (au (aN 2 Ti.nd (aG uU hr (aM (aO K (pv 0) ao) (aj (pv 1) ak)))) (aC (aP (lX (aM (aO K (pv 0) ao) (aj (pv 2) (aM (jP (qG K) rfl B.pU boot_tuple (aM (rN (rQ K) (aO K (pv 0) ao) rW (tO (bY K B.bV (aj (pv 2) ak)))) ak)) ak)))))))),?_⟩;have hs:=ok.short;have hl:=ok.len;have lS:(r.starts.map V.int).length=r.starts.length:=aK _;refine⟨_,rfl,.ref a0,r,rfl,⟨a0,p,p2,rfl,hA,hR,hS⟩,ok,hB,hT,λtL L H1 g1 hL lst ll=>?_⟩;have NT:=lst.mon.pos;refine⟨_,rfl,_,_,.inr (aB.of (g1 _ _ hA)),rfl,_,rfl,r.b,tL,L,rfl,ok.lU,hL,NT,⋯,λtR H2 g2 jz=>?_⟩;have lR:((Pm.eE r.b L).map V.int).length=L.length-1:=by rw[aK,Pm.tY]
 have n6:=(g1.trans g2) _ _ hA;have hS2:=(g1.trans g2) _ _ hS;refine⟨_,rfl,_,_,.inr (aB.of n6),rfl,_,rfl,_,rfl,_,_,.inr (aB.of n6),rfl,?_⟩;refine⟨_,rfl,.ref tR,L.length-1,rfl,.inr ⟨_,aB.of jz,lR.symm⟩,?_⟩;refine⟨_,rfl,?_⟩;by_cases hw:r.starts.length<=L.length-1
 .refine .inr (.inr ⟨_,aB.of hS2,?_,?_⟩)
  .rw[HT.rP,HT.tM,lS];lia
  .refine⟨p2,_,rfl,.inr ⟨aB.of hS2,?_⟩⟩;refine⟨(by show 3<=sizeLine;decide),λt ht=>?_⟩;have g3:=Same.new ht (.tup [.int r.b,.ref tR,.ref p2]);refine q (.ref t) L _ (g1.trans (g2.trans g3)) ⟨t,tR,p2,rfl,aD,g3 _ _ jz,?_⟩ lst ll;show _=some (HO.tup ((r.starts.take (L.length-1)).map V.int));rw[yM hw];exact g3 _ _ hS2
 .refine .inr (.inl ⟨_,aB.of hS2,?_,λp3 hp3=>?_⟩)
  .rw[HT.rP,HT.tM,lS];lia
  .refine⟨p3,_,rfl,.inr ⟨aB.of aD,?_⟩⟩;have g3:=Same.new hp3 (.tup (gC (r.starts.map V.int) none (some ((L.length-1:Nat):Int))));refine⟨(by show 3<=sizeLine;decide),λt ht=>?_⟩;have g4:=Same.new ht (.tup [.int r.b,.ref tR,.ref p3]);refine q (.ref t) L _ (g1.trans (g2.trans (g3.trans g4))) ⟨t,tR,p3,rfl,aD,(g3.trans g4) _ _ jz,?_⟩ lst ll;show _=some (HO.tup ((r.starts.take (L.length-1)).map V.int));rw[rR,<-yK];exact g4 _ _ aD
theorem ay1(F:Fn K mg "shared_by" Ny ["one","other"]):Ni P w K mg base:=by
 refine F.cal axm λH Q E hr h=>?_
 obtain⟨v1,v2,r1,r2,rfl,⟨a1,p1,q1,rfl,uT,_,_⟩,⟨a2,p2,q2,rfl,n6,_,_⟩,e,q⟩:=h;refine⟨_,(au (cO (bI (vo K hr) (aO K (pv 0) ao) (aO K (pv 1) ao)) (aC D5) cR) (aC (aP (aO K (pv 0) ao)))),?_⟩;refine⟨_,rfl,_,_,.inr (aB.of uT),rfl,_,rfl,_,_,.inr (aB.of n6),rfl,_,rfl,?_⟩;rw[decide_eq_true e];refine bU ?_;exact⟨_,rfl,_,_,.inr (aB.of uT),rfl,q⟩
theorem av9(F:Fn K mg "refuse_long" VZ ["length"]):Cq P w K mg base bD:=by
 refine F.wN aoe λH Q E hr h=>?_
 obtain⟨n,rfl,q1,q2⟩:=h;refine⟨_,(aC (cO (bI nZ (pv 0) (Fj rfl B.PJ)) (aC (ar0 M.aj2 rfl (cY Dd ak))) cR)),?_⟩;refine⟨_,rfl,_,_,rfl,rfl,_,rfl,?_⟩;exact cX (λc=>⟨(by show 1<=sizeLine;decide),q2 (dec_true c)⟩) (λc=>q1 (by have:=dec_false c;lia))
theorem akX(F:Fn K mg "told_row" V5 ["by","rule","starts"])(cF:jU P w K mg base)(gq:wz P w K mg base):zV P w K mg base:=by
 refine F.cal MB λH Q E hr h=>?_
 obtain⟨b,a,e,ns,ms,F0,n,z,c,d,rfl,hA,hC,oN,q⟩:=h;have hb0:=oN.hB.lo;have zn:ns.length<=1000:=by have:=oN.ln;have:=oN.n12;lia
 have zm:ms.length<=1000:=by have:=oN.lm;lia
 refine⟨_,(au (aN 3 MB.nd (jP (qG K) rfl B.pU boot_tuple (aM (fD (sc:=arq) (N:=["number","by"]) (ix:=[none,some 0]) dJ rfl (j7 K (pv 1)) (λ_ _ _ _ _=>⟨(bJ 0 dz),dM,(aG cF hr (aj (pv 1) (aj (pv 0) ak)))⟩)) ak))) (au (aN 4 MB.nd (jP (qG K) rfl B.pU boot_tuple (aM (fD (sc:=awD) (N:=["number","by"]) (ix:=[none,some 0]) dJ rfl (j7 K (pv 2)) (λ_ _ _ _ _=>⟨(bJ 0 dz),dM,(aG cF hr (aj (pv 1) (aj (pv 0) ak)))⟩)) ak))) (aC (aP (aG gq hr (aeX (lX (aj (pv 0) (aj (pv 3) (aj (pv 4) ak)))) ak)))))),?_⟩;refine⟨_,rfl,aaq hA zn rfl (Rm.tk b) ?_ ?_⟩
 .intro H2 x g2 hx kk hkk;exact⟨_,rfl,_,rfl,b,x,rfl,hb0,hkk⟩
 intro D hD;have gD:=Same.new hD (.lst ((ns.map (Rm.tk b)).map V.int));refine⟨D,_,rfl,.inl ⟨aA.of aD,λt1 ht1=>?_⟩⟩;have g1:=Same.new ht1 (.tup ((ns.map (Rm.tk b)).map V.int));have h1:(upd (upd H D (.lst ((ns.map (Rm.tk b)).map V.int))) t1 (.tup ((ns.map (Rm.tk b)).map V.int))) t1=some (.tup ((ns.map (Rm.tk b)).map V.int)):=aD;have OV:=gD.trans g1;generalize upd (upd H D (.lst ((ns.map (Rm.tk b)).map V.int))) t1 (.tup ((ns.map (Rm.tk b)).map V.int))=H1 at OV h1;refine⟨_,rfl,aaq (hC.same OV) zm rfl (Rm.tk b) ?_ ?_⟩
 .intro H2 x g2 hx kk hkk;exact⟨_,rfl,_,rfl,b,x,rfl,hb0,hkk⟩
 intro D2 hD2;have gD2:=Same.new hD2 (.lst ((ms.map (Rm.tk b)).map V.int));refine⟨D2,_,rfl,.inl ⟨aA.of aD,λt2 qN=>?_⟩⟩;have g2:=Same.new qN (.tup ((ms.map (Rm.tk b)).map V.int));have h2:(upd (upd H1 D2 (.lst ((ms.map (Rm.tk b)).map V.int))) t2 (.tup ((ms.map (Rm.tk b)).map V.int))) t2=some (.tup ((ms.map (Rm.tk b)).map V.int)):=aD;have Ot:=gD2.trans g2;have h12:=Ot _ _ h1;generalize upd (upd H1 D2 (.lst ((ms.map (Rm.tk b)).map V.int))) t2 (.tup ((ms.map (Rm.tk b)).map V.int))=H2 at Ot h2 h12;refine⟨_,rfl,_,rfl,_,rfl,(by show 3<=sizeLine;decide),λt3 C5=>?_⟩;have g3:=Same.new C5 (.tup [.int b,.ref t1,.ref t2]);refine⟨.ref t3,⟨b,ns.map (Rm.tk b),ms.map (Rm.tk b)⟩,rfl,⟨t3,t1,t2,rfl,aD,g3 _ _ h12,g3 _ _ h2⟩,oN.ok,oN.hB.p,oN.tame,λv' L H4 g4 hR lst ll=>?_⟩;have Df:L.length<=ns.length+1:=by have:(ns.map (Rm.tk b)).length=ns.length:=aK _;rw[<-this];exact ll
 exact q v' _ L H4 (OV.trans (Ot.trans (g3.trans g4))) hR (oN.tr lst Df) oN.fb Df
theorem ayJ(F:Fn K mg "sum_place" Qt ["ours","theirs","n"]):Vl P w K mg base:=by
 refine F.cal aiW λH Q E hr h=>?_
 obtain⟨l1,l2,m,a,c,n,rfl,h1,h2,hn,hm,b1,b2,q⟩:=h;refine⟨_,(aC (aP (pad K (aO K (pv 0) (pv 2)) (aO K (pv 1) (pv 2))))),?_⟩;exact⟨_,rfl,_,rfl,_,_,.inl (aA.of h1),v5 hn,_,rfl,_,rfl,_,_,.inl (aA.of h2),v5 hn,q _ (Same.refl _)⟩
theorem aAh(F:Fn K mg "product_place" QW ["ours","theirs","n"]):Qw P w K mg base:=by
 refine F.cal aqT λH Q E hr h=>?_
 obtain⟨l1,l2,m,a,c,n,rfl,h1,h2,hn,hm,b1,b2,q⟩:=h;refine⟨_,(aC (aP (aF v_mul (aO K (pv 0) (pv 2)) (aO K (pv 1) (pv 2))))),?_⟩;exact⟨_,rfl,_,rfl,_,V.int (a n),.inl (aA.of h1),v5 hn,_,rfl,_,rfl,_,V.int (c n),.inl (aA.of h2),v5 hn,lY (b1 n ⋯) (b2 n ⋯) ∅,q _ (Same.refl _)⟩
theorem ajQ(F:Fn K mg "rolled_place" O6 ["ours","theirs","n"]):Ud P w K mg base:=by
 refine F.cal atD λH Q E hr h=>?_
 obtain⟨l1,l2,m,a,c,n,rfl,h1,h2,hn,hm,b1,b2,q⟩:=h;refine⟨_,(aC (aP (lu (Ac K rfl) rfl B.Bp boot_sum (aM (fD (sc:=auk) (N:=["i","n","ours","theirs"]) (ix:=[none,some 2,some 0,some 1]) dJ rfl (fK rfl B.dG (cQ (pad K (pv 2) ao) ak)) (λ_ _ _ _ _=>⟨(bJ 0 dz),dM,(aF v_mul (aO K (pv 2) (pv 0)) (aO K (pv 3) (aF cV (pv 1) (pv 0))))⟩)) ak)))),?_⟩;refine⟨_,rfl,(n:Int)+1,rfl,(⋯:-(2^62)<=(n:Int)+1),(⋯:(n:Int)+1<2^62),?_⟩;rw[(⋯:((n:Int)+1).toNat=n+1)];refine zu (n:=n+1) ⋯ rfl (λi=>a i*c (n-i)) ?_ ?_
 .intro H8 k g8 hk kk hkk;refine⟨_,rfl,_,rfl,_,V.int (a k),.inl (aA.of (g8 _ _ h1)),(by rw[dj];exact v5 ⋯),_,rfl,_,rfl,_,rfl,_,_,rfl,rfl,_,V.int (c (n-k)),.inl (aA.of (g8 _ _ h2)),(by rw[dj,(⋯:(n:Int)-(k:Int)=((n-k:Nat):Int))];exact v5 ⋯),lY (b1 k ⋯) (b2 (n-k) ⋯) ∅,hkk _ (Same.refl _)⟩
 .intro D H8 hD g8 h8;refine⟨D,Pm.aq (n+1) λi=>a i*c (n-i),rfl,aA.of h8,?_⟩;rw[GF];exact q _ g8
theorem ayC(F:Fn K mg "pair_row" Sx ["one","other","rule","pair_place"])(oY:EB P w K mg base)(mK:zV P w K mg base)(zq:Vl P w K mg base)(Bo:Ud P w K mg base)(AW:Qw P w K mg base):O8 P w K mg base:=by
 refine F.cal G8 λH Q E hr h=>?_
 obtain⟨f0,v1,v2,t,g,b,r1,r2,ns,n,z,c,d,rfl,hg,qz,jz,ok1,ok2,eb,Wn,Sd,hT,oN,q⟩:=h;refine⟨_,(au (aN 4 G8.nd (bY K B.bV (aj (pv 2) ak))) (au (fL (i:=5) G8.nd rfl (dX rfl) (aG oY hr (aj (pv 0) (aj (pv 4) ak)))) (au (fL (i:=6) G8.nd rfl (dX rfl) (aG oY hr (aj (pv 1) (aj (pv 4) ak)))) (aC (aP (aG mK hr (aM (aO K (pv 0) ao) (aj (pv 2) (aM (fD (sc:=aiL) (N:=["n","ours","pair_place","theirs"]) (ix:=[none,some 5,some 3,some 6]) dJ rfl (fK rfl B.dG (aj (pv 4) ak)) (λ_ _ _ _ _=>⟨(bJ 0 dz),dM,(aiI zq Bo AW hr (pv 2) (aj (pv 1) (aj (pv 3) (aj (pv 0) ak))))⟩)) ak))))))))),?_⟩;have n12:ns.length<=12:=eO oN.ln oN.n12;have lT:(ns.map V.int).length=ns.length:=aK _;refine⟨_,rfl,.ref t,ns.length,rfl,hT.elim (λh=> .inl ⟨_,aA.of h,lT.symm⟩) (λh=> .inr ⟨_,aB.of h,lT.symm⟩),?_⟩;refine⟨_,rfl,_,rfl,v1,r1,(ns.length:Int),rfl,qz,ok1,⋯,⋯,λl1 H1 g1 f1 h1=>?_⟩;rw[cM,vO]at h1;refine⟨_,rfl,_,rfl,v2,r2,(ns.length:Int),rfl,jz.same g1,ok2,⋯,⋯,λl2 H2 g2 f2 h2=>?_⟩;rw[cM,vO]at h2;have Ek:=g1.trans g2;obtain⟨a1,p1,q1,rfl,uT,qM,hS1⟩:=id (qz.same Ek);have h12:=g2 _ _ h1;refine⟨_,rfl,_,_,.inr (aB.of uT),rfl,_,rfl,_,rfl,(ns.length:Int),rfl,(⋯:-(2^62)<=(ns.length:Int)),(⋯:(ns.length:Int)<2^62),?_⟩;rw[cM];refine zu (n:=ns.length) ⋯ rfl (f0 r1.at r2.at) ?_ ?_
 .intro H8 k g8 hk kk hkk;rcases hg with⟨hm,ef⟩|⟨hm,ef⟩|⟨hm,ef⟩
  .subst ef;exact⟨_,rfl,.inl ⟨⟨g,hm,rfl⟩,_,rfl,_,rfl,_,rfl,l1,l2,ns.length,r1.at,r2.at,k,by rw[dj],g8 _ _ h12,g8 _ _ h2,hk,n12,Wn,Sd,hkk⟩⟩
  .subst ef;exact⟨_,rfl,.inr (.inl ⟨⟨g,hm,rfl⟩,_,rfl,_,rfl,_,rfl,l1,l2,ns.length,r1.at,r2.at,k,by rw[dj],g8 _ _ h12,g8 _ _ h2,hk,n12,Wn,Sd,hkk⟩)⟩
  .subst ef;exact⟨_,rfl,.inr (.inr ⟨⟨g,hm,rfl⟩,_,rfl,_,rfl,_,rfl,l1,l2,ns.length,r1.at,r2.at,k,by rw[dj],g8 _ _ h12,g8 _ _ h2,hk,n12,Wn,Sd,hkk⟩)⟩
 .intro D H8 hD g8 h8;subst eb;refine⟨r1.b,t,D,ns,Pm.aq ns.length (f0 r1.at r2.at),_,n,z,c,d,rfl,(hT.same Ek).same g8,.inl h8,oN,λv' r' L' H' g' hR' hT' hF' hl'=>?_⟩;exact q v' r' L' H' (Ek.trans (g8.trans g')) hR' hT' hF' hl'
theorem alv(F:Fn K mg "joint_row" N7 ["one","other","pair_place"])(Ak:Ni P w K mg base)(gq:wz P w K mg base)(pJ:Cq P w K mg base bD)(Ba:M8 P w K mg base)(su:Hl P w K mg base)(zN:O8 P w K mg base)(uU:JQ P w K mg base):QD P w K mg base bD:=by
 refine F.wN Dl λH Q E hr h=>?_
 obtain⟨f0,v1,v2,g,rfl,hg,b,r1,r2,n1,u1,c1,d1,n2,u2,c2,d2,L1,L2,qz,jz,M1,M2,nA,jd,hw1,hw2,aBy,q1,q2⟩:=h;refine⟨_,(au (aN 3 Dl.nd (aG Ak hr (aj (pv 0) (aj (pv 1) ak)))) (au (aN 4 Dl.nd (aG gq hr (aj (pv 0) ak))) (au (aN 5 Dl.nd (aG gq hr (aj (pv 1) ak))) (au (jm (qU pJ hr rfl (cQ (pad K (bY K B.bV (aM (aO K (pv 4) ao) ak)) (bY K B.bV (aM (aO K (pv 5) ao) ak))) ak))) (au (aN 6 Dl.nd (aG Ba hr (aj (pv 3) (aM (aG su hr (aj (pv 3) (aM (aO K (pv 4) ao) ak))) (aM (aG su hr (aj (pv 3) (aM (aO K (pv 5) ao) ak))) ak))))) (aC (aP (aG zN hr (aj (pv 4) (aj (pv 5) (aM (aG uU hr (aj (pv 3) (aj (pv 6) ak))) (aj (pv 2) ak)))))))))))),?_⟩;have e1:=M1.by_;have e2:=M2.by_;have hb:=M1.hB;have hb0:=hb.lo;have k1:=nA.mon.pos;have k2:=jd.mon.pos;have s1:=M1.jx;have s2:=M2.jx;have Mq:=M1.ll nA;have Di:=M2.ll jd;refine⟨_,rfl,_,rfl,v1,v2,r1,r2,rfl,qz,jz,by rw[e1,e2],?_⟩;rw[e1];refine⟨_,rfl,v1,r1,rfl,qz,M1.ok,M1.B7,M1.tame,λx1 eV H1 g1 hS1 Ft _=>?_⟩;have PL:eV=L1:=by
  rw[e1]at Ft;exact Ft.uniq hb.one nA
 subst PL;refine⟨_,rfl,v2,r2,rfl,jz.same g1,M2.ok,M2.B7,M2.tame,λx2 eU H2 g2 hS2 E4 _=>?_⟩;have Pj:eU=L2:=by
  rw[e2]at E4;exact E4.uniq hb.one jd
 subst Pj;obtain⟨ok1,_,wG,l1,_,eP1⟩:=M1.sh nA;obtain⟨ok2,_,qb,l2,_,eP2⟩:=M2.sh jd;have C0:=hS1.same g2;obtain⟨a1,p1,t1,rfl,vW,qM,hT1⟩:=id C0;obtain⟨a2,p2,t2,rfl,CF,hP2,hT2⟩:=id hS2;have Es:((aX r1 eV).rule.map V.int).length=eV.length-1:=by rw[aK,l1]
 have CP:((aX r2 eU).rule.map V.int).length=eU.length-1:=by rw[aK,l2]
 refine⟨_,rfl,_,_,.inr (aB.of vW),rfl,.ref p1,eV.length-1,rfl,.inr ⟨_,aB.of qM,Es.symm⟩,_,rfl,_,_,.inr (aB.of CF),rfl,.ref p2,eU.length-1,rfl,.inr ⟨_,aB.of hP2,CP.symm⟩,?_⟩;refine⟨((eV.length-1:Nat):Int)+((eU.length-1:Nat):Int),rfl,λhle=>?_,λhlt=>q2 ⋯ _ (g1.trans g2)⟩;have hle':eV.length-1+(eU.length-1)<=12:=⋯;obtain⟨n,c,d,hn,n12,hK,bd,kE,hst,hsz,q⟩:=q1 hle';have bc1:=M1.fb.least hb nA;have WM:=M2.fb.least hb jd;have u1':=M1.fb.pL;have m1:=M1.fb.n12;have m2:=M2.fb.n12;refine⟨_,rfl,_,rfl,_,rfl,_,_,.inr (aB.of vW),rfl,b,p1,(aX r1 eV).rule,rfl,hb0,qM,⋯,λt3 H3 g3 h3=>?_⟩;refine⟨_,rfl,_,rfl,_,_,.inr (aB.of (g3 _ _ CF)),rfl,b,p2,(aX r2 eU).rule,rfl,hb0,g3 _ _ hP2,⋯,λt4 H4 g4 h4=>?_⟩;rw[eP1]at h3;rw[eP2]at h4;refine⟨b,t3,t4,eV,eU,rfl,hb0,g4 _ _ h3,h4,⋯,⋯,Vz bc1 ⋯,Vz WM ⋯,λt5 H5 g5 h5=>?_⟩;have JF:=g3.trans (g4.trans g5);obtain⟨hm,hl2⟩:=agT hb nA.mon jd.mon;refine⟨_,rfl,_,rfl,_,rfl,_,rfl,b,t5,Pm.mul b eV eU,rfl,hb0,h5,⋯,⋯,λt6 H6 g6 h6=>?_⟩;have tV:=JF.trans g6;have eR:(Pm.eE b (Pm.mul b eV eU)).map (Rm.tk b)=Pm.eE b (Pm.mul b eV eU):=xY λy hy=>by
  obtain⟨k,_,rfl⟩:=Pm.gK (show y∈Pm.aq _ _ from hy);exact vB hb0 _
 have lR:(Pm.eE b (Pm.mul b eV eU)).length=eV.length-1+(eU.length-1):=by rw[Pm.tY,hl2];rfl
 refine⟨_,rfl,f0,.ref a1,.ref a2,t6,g,b,aX r1 eV,aX r2 eU,Pm.eE b (Pm.mul b eV eU),n,u1+u2+13*(n1+n2+3),c,d,rfl,hg,C0.same tV,hS2.same tV,ok1,ok2,e1,by rw[wG];exact M1.fb.few hw1,by rw[qb];exact M2.fb.few hw2,.inr h6,?_,λv' r' L' H' g' hR' hT' hF' hl'=>?_⟩
 .rw[wG,qb];refine⟨hb,⋯,n12,by rw[Pm.aQ],λx hx=>?_,⋯,⋯,bd,kE,hst,hsz,λk=>?_⟩
  .obtain⟨k,_,rfl⟩:=Pm.gK (show x∈Pm.aq _ _ from hx);refine jY hb ⋯ ?_;rw[jT];exact Pm.xg (Pm.gk (λx hx=>(ah7 hb ⋯ ⋯ bc1 WM x hx).mono ⋯) _)
  .rw[eR,lR,show(Pm.aq (eV.length-1+(eU.length-1)) (f0 r1.at r2.at)).map (Rm.tk b)=Pm.aq (eV.length-1+(eU.length-1)) λn=>Rm.tk b (f0 r1.at r2.at n)from gh ..];exact an8 hb nA.mon jd.mon hK k
 .rw[wG,qb]at hT' hF';have hln:=hT'.len;rw[lR]at hl';exact q v' r' L' H' (g1.trans (g2.trans (tV.trans g'))) hR' hT' hF' (by clear q1;lia)
theorem axK(F:Fn K mg "added" SQ ["one","other"])(Bm:QD P w K mg base bD)(zq:Vl P w K mg base):aev P w K mg base bD:=by
 refine F.wN ako λH Q E hr h=>?_
 obtain⟨v1,v2,rfl,q⟩:=h;refine⟨_,(aC (aP (qU Bm hr rfl (aj (pv 0) (aj (pv 1) (aj (Mf zq rfl) ak)))))),?_⟩;exact⟨_,rfl,_,rfl,λg hg=>⟨yU,v1,v2,g,rfl,.inl ⟨hg,rfl⟩,q⟩⟩
theorem aAJ(F:Fn K mg "rolled" MJ ["one","other"])(Bm:QD P w K mg base bD)(Bo:Ud P w K mg base):ae6 P w K mg base bD:=by
 refine F.wN alb λH Q E hr h=>?_
 obtain⟨v1,v2,rfl,q⟩:=h;refine⟨_,(aC (aP (qU Bm hr rfl (aj (pv 0) (aj (pv 1) (aj (Mf Bo rfl) ak)))))),?_⟩;exact⟨_,rfl,_,rfl,λg hg=>⟨oB,v1,v2,g,rfl,.inr (.inl ⟨hg,rfl⟩),q⟩⟩
theorem aso(F:Fn K mg "behind_first" LC ["rule","sums","k"]):U3 P w K mg base:=by
 refine F.cal afz λH Q E hr h=>?_
 obtain⟨a,c,rule,sums,k,rfl,hA,hC,k1,k24,hl,b1,b2,q⟩:=h;refine⟨_,(au (aN 3 afz.nd (lu (agp rfl) rfl B.Yr boot_min (cQ (aF cV (pv 2) ao) (aM (bY K B.bV (aj (pv 0) ak)) ak)))) (aC (aP (lu (Ac K rfl) rfl B.Bp boot_sum (aM (fD (sc:=aj7) (N:=["i","k","rule","sums"]) (ix:=[none,some 2,some 0,some 1]) dJ rfl (fK rfl B.dG (aj (pv 3) ak)) (λ_ _ _ _ _=>⟨(bJ 0 dz),dM,(aF v_mul (aO K (pv 2) (pv 0)) (aO K (pv 3) (aF cV (aF cV (pv 1) ao) (pv 0))))⟩)) ak))))),?_⟩;have lR:(rule.map V.int).length=rule.length:=aK _;refine⟨_,rfl,_,_,rfl,rfl,_,rfl,.ref a,rule.length,rfl,hA.elim (λh=> .inl ⟨_,aA.of h,lR.symm⟩) (λh=> .inr ⟨_,aB.of h,lR.symm⟩),(k:Int)-1,(rule.length:Int),rfl,?_⟩;have em:(if(rule.length:Int)<(k:Int)-1 then(rule.length:Int)else(k:Int)-1)=((min (k-1) rule.length:Nat):Int):=by split<;>lia
 rw[em];refine⟨_,rfl,((min (k-1) rule.length:Nat):Int),rfl,(⋯:-(2^62)<=((min (k-1) rule.length:Nat):Int)),(⋯:((min (k-1) rule.length:Nat):Int)<2^62),?_⟩;rw[cM];refine zu (n:=min (k-1) rule.length) ⋯ rfl (λi=>Pm.co rule i*Pm.co sums (k-2-i)) ?_ ?_
 .intro H2 i g2 hi kk hkk;exact⟨_,rfl,_,rfl,_,V.int (Pm.co rule i),(hA.same g2).imp aA.of aB.of,(by rw[dj];exact wM ⋯),_,rfl,_,rfl,_,_,rfl,rfl,_,rfl,_,_,rfl,rfl,_,V.int (Pm.co sums (k-2-i)),(hC.same g2).imp aA.of aB.of,(by rw[dj,(⋯:(k:Int)-2-(i:Int)=((k-2-i:Nat):Int))];exact wM ⋯),lY (Pm.gk b1 i) (Pm.gk b2 (k-2-i)) ∅,hkk _ (Same.refl _)⟩
 .intro D H8 hD g8 h8;refine⟨D,Pm.aq (min (k-1) rule.length) λi=>Pm.co rule i*Pm.co sums (k-2-i),rfl,aA.of h8,?_⟩;rw[GF];exact q _ g8
theorem aiq(F:Fn K mg "power_sums" Rz ["rule","count"])(Ab:U3 P w K mg base):Tf P w K mg base:=by
 refine F.cal Gz λH Q E hr h=>?_
 obtain⟨a,rule,n,w,rfl,hA,n12,hnw,hw,br,q⟩:=h;refine⟨_,(au (aN 2 Gz.nd (jc ak)) (au (jj PassesOwn.never rfl (Bb rfl B.dG (cY ao (cQ (pad K (pv 1) ao) ak))) (bJ 3 Gz.nd) (au (aN 4 Gz.nd (zG (Ou (bI abE (pv 3) (bY K B.bV (aj (pv 0) ak))) (aF v_mul (pv 3) (aO K (pv 0) (aF cV (pv 3) ao))) ao))) (aC (jm (rA K (pv 2) (pad K (pv 4) (aG Ab hr (aj (pv 0) (aj (pv 2) (aj (pv 3) ak)))))))))) (aC (aP (pv 2))))),?_⟩;have lR:(rule.map V.int).length=rule.length:=aK _;have b1:∀x∈rule,Rm.Bd 60000 x:=λx hx=>by
  obtain⟨k,hk,e⟩:=kW.mp hx;have:=br k;rw[Pm.jL hk,e]at this;exact this.bd.mono ⋯
 refine⟨(by show 0<=sizeLine;decide),λl hl=>?_⟩;refine⟨_,rfl,1,(n:Int)+1,rfl,⟨⋯,⋯,⋯,⋯⟩,?_⟩;rw[(⋯:((n:Int)+1-1).toNat=n)];refine j8 (lo:=1) (n:=n) (λi σ' H'=>yu λ(o3 o4:Option V) (sums:List Int)=>za (σ'=[some (.ref a),some (.int (n:Int)),some (.ref l),o3,o4]) (Same H H') (H' l=some (.lst (sums.map V.int))) (sums.length=i) ((∀j,j<i->Le (Pm.co sums j) ((2^(w+3))^(j+1)))) (∀k,k<i->Pm.co sums k=(if k+1<=rule.length then((k+1:Nat):Int)*Pm.co rule k else 0)+fO rule sums (k+1))) ⟨none,none,[],rfl,Same.new hl _,aD,rfl,λj hj=>absurd hj ⋯,λj hj=>absurd hj ⋯⟩ ?_ ?_
 .rintro i σ' H' hi ⟨o3,o4,sums,rfl,g,hL,ls,bd,eqs⟩;rw[(⋯:(1:Int)+(i:Int)=((i+1:Nat):Int))];have hA':=g _ _ hA;refine Bar.by (λv H1=>v = .int (if i+1<=rule.length then((i+1:Nat):Int)*Pm.co rule i else 0)/\H1=H') (λkk hkk=>?_) ?_
  .refine⟨_,rfl,_,rfl,.ref a,rule.length,rfl,.inr ⟨_,aB.of hA',lR.symm⟩,_,_,rfl,rfl,_,rfl,?_⟩;refine cX (λc=>?_) (λc=>?_)
   .have c':i+1<=rule.length:=by have:=dec_true c;lia
    have hk:=hkk (.int (if i+1<=rule.length then((i+1:Nat):Int)*Pm.co rule i else 0)) H' ⟨rfl,rfl⟩;rw[if_pos c']at hk;exact⟨_,rfl,_,rfl,_,rfl,_,_,rfl,rfl,_,V.int (Pm.co rule i),.inr (aB.of hA'),(by rw[(⋯:((i+1:Nat):Int)-1=(i:Int))];exact wM ⋯),lY (m:=10) (Rm.Bd.of ⋯ ⋯) (Pm.gk b1 i) ∅,hk⟩
   .have c':¬i+1<=rule.length:=by have:=dec_false c;lia
    have hk:=hkk (.int (if i+1<=rule.length then((i+1:Nat):Int)*Pm.co rule i else 0)) H' ⟨rfl,rfl⟩;rw[if_neg c']at hk;exact hk
  rintro _ _ ⟨rfl,rfl⟩;have st:=ao8 (w:=w) (rule:=rule) (sums:=sums) (k:=i+1) ⋯ ⋯ br (λj hj=>bd j ⋯);rw[fu]at st;have aBA:sums.length*(w+3)<=n*(w+3):=ig _ ⋯;refine⟨_,rfl,.inl ⟨rfl,_,aA.of hL⟩,_,rfl,_,rfl,_,rfl,_,rfl,a,l,rule,sums,i+1,rfl,.inr hA',.inl hL,⋯,⋯,⋯,b1,Le.list (w:=w+3) ⋯ (λj hj=>bd j ⋯),λH2 g2=>?_⟩;have hL2:=g2 _ _ hL;refine⟨l,_,_,rfl,rfl,hL2,?_,?_⟩
  .rw[aK,ls];exact dW ⋯
  .refine⟨_,_,sums++[(if i+1<=rule.length then((i+1:Nat):Int)*Pm.co rule i else 0)+fO rule sums (i+1)],rfl,(g.trans g2).upd hl _,by rw[aD,jo];rfl,by rw[gW,ls];rfl,Le.grow ls bd st,λk hk=>?_⟩;rw[azX ⋯];by_cases d:k<i
   .rw[Pm.gY,if_pos ⋯];exact eqs k d
   .have e:k=i:=⋯;subst e;rw[Pm.gY,if_neg ⋯,ls,kZ];rfl
 .rintro σ' H' ⟨o3,o4,sums,rfl,g,hL,ls,bd,eqs⟩;exact⟨_,rfl,q l sums H' g hL ls bd eqs⟩
theorem ayE(F:Fn K mg "rule_of_sums" VN ["sums"])(Ab:U3 P w K mg base):Sy P w K mg base:=by
 refine F.cal V3 λH Q E hr h=>?_
 obtain⟨c,sums,n,z,rfl,hC,hn,n12,hz,bs,q⟩:=h;refine⟨_,(au (aN 1 V3.nd (jc ak)) (au (jj PassesOwn.never rfl (Bb rfl B.dG (cY ao (cQ (pad K (bY K B.bV (aj (pv 0) ak)) ao) ak))) (bJ 2 V3.nd) (aC (jm (rA K (pv 1) (aF pC (aF cV (aO K (pv 0) (aF cV (pv 2) ao)) (aG Ab hr (aj (pv 1) (aj (pv 0) (aj (pv 2) ak))))) (pv 2)))))) (aC (aP (pv 1))))),?_⟩;have lS:(sums.map V.int).length=n:=by rw[aK,hn]
 have aAK:sums.length*z<=n*z:=ig _ ⋯;have b2:∀x∈sums,Rm.Bd 60000 x:=Le.list (w:=z) ⋯ (λj hj=>bs j ⋯);refine⟨(by show 0<=sizeLine;decide),λl hl=>?_⟩;have gl:=Same.new hl (.lst []);refine⟨_,rfl,.ref c,n,rfl,.inl ⟨_,aA.of (gl _ _ hC),lS.symm⟩,1,(n:Int)+1,rfl,⟨⋯,⋯,⋯,⋯⟩,?_⟩;rw[(⋯:((n:Int)+1-1).toNat=n)];refine j8 (lo:=1) (n:=n) (λi σ' H'=>Ex2 λ(o2:Option V) (rule:List Int)=>za (σ'=[some (.ref c),some (.ref l),o2]) (Same H H') (H' l=some (.lst (rule.map V.int))) (rule.length=i) ((∀j,j<i->Le (Pm.co rule j) ((2^z)^(j+1)))) (∀k,k<i->Pm.co rule k=(Pm.co sums k-fO rule sums (k+1))/((k+1:Nat):Int))) ⟨none,[],rfl,gl,aD,rfl,λj hj=>absurd hj ⋯,λj hj=>absurd hj ⋯⟩ ?_ ?_
 .rintro i σ' H' hi ⟨o2,rule,rfl,g,hL,lr,bd,eqs⟩;rw[(⋯:(1:Int)+(i:Int)=((i+1:Nat):Int))];have hC':=g _ _ hC;have st:=aw8 (Z:=2^z) (rule:=rule) (sums:=sums) (k:=i+1) ⋯ ⋯ (λj hj=>bd j ⋯) (λj hj=>bs j ⋯);rw[fu]at st;have aBl:rule.length*z<=n*z:=ig _ ⋯;refine⟨_,rfl,.inl ⟨rfl,_,aA.of hL⟩,_,rfl,_,rfl,_,_,rfl,rfl,_,V.int (Pm.co sums i),.inl (aA.of hC'),(by rw[(⋯:((i+1:Nat):Int)-1=(i:Int))];exact wM ⋯),_,rfl,_,rfl,_,rfl,l,c,rule,sums,i+1,rfl,.inl hL,.inl hC',⋯,⋯,⋯,Le.list (w:=z) ⋯ (λj hj=>bd j ⋯),b2,λH2 g2=>?_⟩;have hL2:=g2 _ _ hL;refine⟨_,_,rfl,rfl,_,rfl,_,_,rfl,rfl,⟨⋯,by show((i+1:Nat):Int)<1073741824;lia⟩,l,_,_,rfl,rfl,hL2,?_,?_⟩
  .rw[aK,lr];exact dW ⋯
  .refine⟨_,rule++[(Pm.co sums i-fO rule sums (i+1))/((i+1:Nat):Int)],rfl,(g.trans g2).upd hl _,by rw[aD,jo];rfl,by rw[gW,lr];rfl,Le.grow lr bd st,λk hk=>?_⟩;rw[awt ⋯];by_cases d:k<i
   .rw[Pm.gY,if_pos ⋯];exact eqs k d
   .have e:k=i:=⋯;subst e;rw[Pm.gY,if_neg ⋯,lr,kZ];rfl
 .rintro σ' H' ⟨o2,rule,rfl,g,hL,lr,bd,eqs⟩;exact⟨_,rfl,q l rule H' g hL lr bd eqs⟩
theorem aAc(F:Fn K mg "multiplied" Tw ["one","other"])(Ak:Ni P w K mg base)(gq:wz P w K mg base)(pJ:Cq P w K mg base bD)(wZ:Tf P w K mg base)(Aj:Sy P w K mg base)(zN:O8 P w K mg base)(AW:Qw P w K mg base):ac1 P w K mg base bD:=by
 refine F.wN yW λH Q E hr h=>?_
 obtain⟨v1,v2,rfl,hU⟩:=h;refine⟨_,(au (jm (aG Ak hr (aj (pv 0) (aj (pv 1) ak)))) (au (aN 2 yW.nd (aG gq hr (aj (pv 0) ak))) (au (aN 3 yW.nd (aG gq hr (aj (pv 1) ak))) (au (aN 4 yW.nd (aF v_mul (bY K B.bV (aM (aO K (pv 2) ao) ak)) (bY K B.bV (aM (aO K (pv 3) ao) ak)))) (au (jm (qU pJ hr rfl (aj (pv 4) ak))) (au (fL (i:=5) yW.nd rfl (dX rfl) (aG wZ hr (aM (aO K (pv 2) ao) (aj (pv 4) ak)))) (au (fL (i:=6) yW.nd rfl (dX rfl) (aG wZ hr (aM (aO K (pv 3) ao) (aj (pv 4) ak)))) (au (aN 7 yW.nd (aG Aj hr (aM (fD (sc:=aqD) (N:=["k","our_sums","their_sums"]) (ix:=[none,some 5,some 6]) dJ rfl (fK rfl B.dG (aj (pv 4) ak)) (λ_ _ _ _ _=>⟨(bJ 0 dz),dM,(aF v_mul (aO K (pv 1) (pv 0)) (aO K (pv 2) (pv 0)))⟩)) ak))) (aC (aP (aG zN hr (aj (pv 2) (aj (pv 3) (aj (pv 7) (aj (Mf AW rfl) ak))))))))))))))),?_⟩;obtain⟨b,r1,r2,n1,u1,c1,d1,n2,u2,c2,d2,L1,L2,qz,jz,M1,M2,nA,jd,hw1,hw2,q1,q2⟩:=hU;have e1:=M1.by_;have e2:=M2.by_;have hb:=M1.hB;have s1:=M1.jx;have s2:=M2.jx;have Mq:=M1.ll nA;have Di:=M2.ll jd;refine⟨_,rfl,_,rfl,v1,v2,r1,r2,rfl,qz,jz,by rw[e1,e2],?_⟩;refine⟨_,rfl,v1,r1,rfl,qz,M1.ok,M1.B7,M1.tame,λx1 eV H1 g1 hS1 Ft _=>?_⟩;have PL:eV=L1:=by
  rw[e1]at Ft;exact Ft.uniq hb.one nA
 subst PL;refine⟨_,rfl,v2,r2,rfl,jz.same g1,M2.ok,M2.B7,M2.tame,λx2 eU H2 g2 hS2 E4 _=>?_⟩;have Pj:eU=L2:=by
  rw[e2]at E4;exact E4.uniq hb.one jd
 subst Pj;obtain⟨ok1,avX,wG,l1,_,_⟩:=M1.sh nA;obtain⟨ok2,ave,qb,l2,_,_⟩:=M2.sh jd;have C0:=hS1.same g2;obtain⟨a1,p1,t1,rfl,vW,qM,hT1⟩:=id C0;obtain⟨a2,p2,t2,rfl,CF,hP2,hT2⟩:=id hS2;have Es:((aX r1 eV).rule.map V.int).length=eV.length-1:=by rw[aK,l1]
 have CP:((aX r2 eU).rule.map V.int).length=eU.length-1:=by rw[aK,l2]
 refine⟨_,rfl,_,_,.inr (aB.of vW),rfl,.ref p1,eV.length-1,rfl,.inr ⟨_,aB.of qM,Es.symm⟩,_,rfl,_,_,.inr (aB.of CF),rfl,.ref p2,eU.length-1,rfl,.inr ⟨_,aB.of hP2,CP.symm⟩,mulL ⋯ ⋯,?_⟩;rw[<-rm];generalize hn:(eV.length-1)*(eU.length-1)=N at q1 q2;refine⟨_,rfl,(N:Int),rfl,λhle=>?_,λhlt=>q2 ⋯ _ (g1.trans g2)⟩;obtain⟨n,c,d,Nn,n12,bd,kE,hst,hz,hsz,q⟩:=q1 ⋯;have N12:N<=12:=⋯;have br1:∀i,Le (Pm.co (aX r1 eV).rule i) (2^(u1+13*(n1+1))):=λi=>fj (Pm.gk avX i);have br2:∀i,Le (Pm.co (aX r2 eU).rule i) (2^(u2+13*(n2+1))):=λi=>fj (Pm.gk ave i);generalize aA6:u1+13*(n1+1)=w1 at br1;generalize aA7:u2+13*(n2+1)=w2 at br2;have eu:u1+u2+13*(n1+n2+2)+6=w1+3+(w2+3):=⋯;rw[eu]at hz hsz q;have z1:N*(w1+3+(w2+3))<=(w1+3+(w2+3))*n:=by rw[gZ];exact fH _ Nn
 have z2:N*(w1+3)<=N*(w1+3+(w2+3)):=fH _ ⋯;have z3:N*(w2+3)<=N*(w1+3+(w2+3)):=fH _ ⋯;have w1b:w1<=59500:=by have:=M1.fb.zZ;have:=M1.fb.n12;lia
 have w2b:w2<=59500:=by have:=M2.fb.zZ;have:=M2.fb.n12;lia
 refine⟨_,rfl,_,_,.inr (aB.of vW),rfl,_,rfl,p1,(aX r1 eV).rule,N,w1,rfl,qM,⋯,⋯,w1b,br1,λl5 s5 H5 g5 h5 ls1 YZ eq1=>?_⟩;refine⟨_,rfl,_,_,.inr (aB.of (g5 _ _ CF)),rfl,_,rfl,p2,(aX r2 eU).rule,N,w2,rfl,g5 _ _ hP2,⋯,⋯,w2b,br2,λl6 s6 H6 g6 h6 ls2 WT eq2=>?_⟩;have Uj:=g6 _ _ h5;have bu1:∀x∈s5,Rm.Bd 60000 x:=Le.list (w:=w1+3) (by rw[ls1];lia) (λj hj=>YZ j ⋯);have bu2:∀x∈s6,Rm.Bd 60000 x:=Le.list (w:=w2+3) (by rw[ls2];lia) (λj hj=>WT j ⋯);refine⟨_,rfl,(N:Int),rfl,(⋯:-(2^62)<=(N:Int)),(⋯:(N:Int)<2^62),?_⟩;rw[cM];refine zu (n:=N) ⋯ rfl (λk=>Pm.co s5 k*Pm.co s6 k) ?_ ?_
 .intro H7 k g7 hk kk hkk;exact⟨_,rfl,_,rfl,_,V.int (Pm.co s5 k),.inl (aA.of (g7 _ _ Uj)),(by rw[dj];exact wM ⋯),_,rfl,_,rfl,_,V.int (Pm.co s6 k),.inl (aA.of (g7 _ _ h6)),(by rw[dj];exact wM ⋯),lY (Pm.gk bu1 k) (Pm.gk bu2 k) ∅,hkk _ (Same.refl _)⟩
 .intro D H7 hD g7 h7;refine⟨D,Pm.aq N λk=>Pm.co s5 k*Pm.co s6 k,N,w1+3+(w2+3),rfl,h7,Pm.aQ ..,N12,⋯,λi hi=>?_,λl8 rule H8 g8 h8 lr br eq3=>?_⟩
  .rw[Pm.bZ,if_pos hi,show(2:Nat)^(w1+3+(w2+3))=2^(w1+3)*2^(w2+3)from uK ..,Nat.mul_pow];exact(YZ i hi).mul (WT i hi)
  .have VW:=g5.trans (g6.trans (g7.trans g8));have hpa:=asZ (b:=b) (c:=(aX r1 eV).rule) (d:=(aX r2 eU).rule) (s1:=(aX r1 eV).starts) (s2:=(aX r2 eU).starts) (u1:=s5) (u2:=s6) (R:=rule) (N:=N) ok1.len ok2.len (λx hx=>by have:=ok1.wU x hx;rw[show(aX r1 eV).b=b from e1]at this;exact this) (λx hx=>by have:=ok2.wU x hx;rw[show(aX r2 eU).b=b from e2]at this;exact this) (λx hx=>by have:=ok1.Ax x hx;rw[show(aX r1 eV).b=b from e1]at this;exact this) (λx hx=>by have:=ok2.Ax x hx;rw[show(aX r2 eU).b=b from e2]at this;exact this) (by rw[l1,l2];exact hn.symm) lr eq1 eq2 eq3;have f1:Rm.at_ b (aX r1 eV).rule (aX r1 eV).starts=r1.at:=by rw[<-wG,<-e1];rfl
   have f2:Rm.at_ b (aX r2 eU).rule (aX r2 eU).starts=r2.at:=by rw[<-qb,<-e2];rfl
   rw[f1,f2]at hpa;refine⟨_,rfl,_,rfl,_,rfl,λg hg=>⟨jR,.ref a1,.ref a2,l8,g,b,aX r1 eV,aX r2 eU,rule,n,(w1+3+(w2+3))*n+10,c,d,rfl,.inr (.inr ⟨hg,rfl⟩),C0.same VW,hS2.same VW,ok1,ok2,e1,by rw[wG];exact M1.fb.few hw1,by rw[qb];exact M2.fb.few hw2,.inl h8,?_,λv' r' L' H' g' hR' hT' hF' hl'=>?_⟩⟩
   .rw[wG,qb];refine⟨hb,⋯,n12,by rw[Pm.aQ],Le.list (w:=w1+3+(w2+3)) (by rw[lr];lia) (λi hi=>br i ⋯),⋯,hz,bd,kE,hst,hsz,λk=>?_⟩;rw[lr,show(Pm.aq N (jR r1.at r2.at)).map (Rm.tk b)=Pm.aq N λn=>Rm.tk b (jR r1.at r2.at n)from gh ..];exact hpa k
   .rw[wG,qb]at hT' hF';have hln:=hT'.len;exact q v' r' L' H' (g1.trans (g2.trans (VW.trans g'))) hR' hT' hF' (by clear q1;lia)
theorem auG(F:Fn K mg "refuse_far_steps" MR ["start","step"]):Xz P w K mg base:=by
 refine F.cal al3 λH Q E hr h=>?_
 obtain⟨st,e,rfl,h1,h2,h3,q⟩:=h;refine⟨_,(aC (cO (PW.pt (vU (bI rD (pv 0) ao) (vU (bI nZ (pv 0) (Fj rfl B.RG)) (vU (bI rD (pv 1) ao) (Ij (bI nZ (pv 1) (Fj rfl B.Lz))))))) (aC D5) cR)),?_⟩;refine⟨_,rfl,_,_,rfl,rfl,_,rfl,?_⟩;rw[decide_eq_false (⋯:¬(st:Int)<0)];refine bU ⟨_,rfl,_,_,rfl,rfl,_,rfl,?_⟩;rw[decide_eq_false (⋯:¬(st:Int)>100)];refine bU ⟨_,rfl,_,_,rfl,rfl,_,rfl,?_⟩;rw[decide_eq_false (⋯:¬(e:Int)<1)];refine bU ⟨_,rfl,_,_,rfl,rfl,_,rfl,?_⟩;rw[decide_eq_false (⋯:¬(e:Int)>10)];exact bU q
theorem aoP(F:Fn K mg "every" Pa ["row","start","step"])(NZ:Xz P w K mg base)(gq:wz P w K mg base)(wZ:Tf P w K mg base)(oY:EB P w K mg base)(Aj:Sy P w K mg base)(mK:zV P w K mg base):XS P w K mg base:=by
 refine F.cal B4 λH Q E hr h=>?_
 obtain⟨v,st,e,rfl,hU⟩:=h;refine⟨_,(au (jm (aG NZ hr (aj (pv 1) (aj (pv 2) ak)))) (au (aN 3 B4.nd (aG gq hr (aj (pv 0) ak))) (au (aN 4 B4.nd (bY K B.bV (aM (aO K (pv 3) ao) ak))) (au (fL (i:=5) B4.nd rfl (dX rfl) (aG wZ hr (aM (aO K (pv 3) ao) (cQ (aF v_mul (pv 2) (pv 4)) ak)))) (au (fL (i:=6) B4.nd rfl (dX rfl) (aG oY hr (aj (pv 3) (cQ (pad K (pv 1) (aF v_mul (pv 2) (pv 4))) ak)))) (au (aN 7 B4.nd (aG Aj hr (aM (fD (sc:=an7) (N:=["k","step","sums"]) (ix:=[none,some 2,some 5]) dJ rfl (Bb rfl B.dG (cY ao (cQ (pad K (pv 4) ao) ak))) (λ_ _ _ _ _=>⟨(bJ 0 dz),dM,(aO K (pv 2) (aF cV (aF v_mul (pv 1) (pv 0)) ao))⟩)) ak))) (aC (aP (aG mK hr (aM (aO K (pv 0) ao) (aj (pv 7) (aM (fD (sc:=auQ) (N:=["k","found","start","step"]) (ix:=[none,some 6,some 1,some 2]) dJ rfl (fK rfl B.dG (aj (pv 4) ak)) (λ_ _ _ _ _=>⟨(bJ 0 dz),dM,(aO K (pv 1) (pad K (pv 2) (aF v_mul (pv 3) (pv 0))))⟩)) ak)))))))))))),?_⟩;obtain⟨b,r,n,u,c,d,L0,hR,M0,auv,hst,e1,e10,hz,al1,hsz,q⟩:=hU;have eb:=M0.by_;subst eb;have hb:=M0.hB;have ok:=M0.ok;have n12:=M0.fb.n12;have pL:=M0.fb.pL;have zZ:=M0.fb.zZ;refine⟨_,rfl,_,rfl,st,e,rfl,hst,e1,e10,?_⟩;refine⟨_,rfl,v,r,rfl,hR,ok,hb.p,M0.tame,λx1 L H1 g1 hS lst ll=>?_⟩;have eL:L=L0:=lst.uniq hb.one auv;subst eL;have lL:=M0.fb.len hb lst;have lp:=lst.mon.pos;obtain⟨K9,bdS,eaS,l1,l2,_⟩:=M0.sh lst;obtain⟨c1,p1,t1,rfl,vW,qM,hT1⟩:=id hS;have lS:((aX r L).rule.map V.int).length=L.length-1:=by rw[aK,l1]
 generalize hN:L.length-1=N at l1 l2 lS;have Nn:N<=n:=⋯;have eN:e*N<=e*n:=fH _ Nn;have eN2:e*N<=10*12:=iH e10 ⋯;have NeN:N<=e*N:=aeW _ e1;refine⟨_,rfl,_,_,.inr (aB.of vW),rfl,.ref p1,N,rfl,.inr ⟨_,aB.of qM,lS.symm⟩,?_⟩;have sz1:(e*N)*(u+13*(n+1)+3)+1<=60000:=by
  have:(e*N)*(u+13*(n+1)+3)<=(u+13*(n+1)+3)*(e*n):=by rw[gZ];exact fH _ eN
  lia
 refine⟨_,rfl,_,_,.inr (aB.of vW),rfl,_,rfl,_,rfl,mulL ⋯ ⋯,p1,(aX r L).rule,e*N,u+13*(n+1),by rw[rm];rfl,qM,⋯,sz1,⋯,λi=>fj (Pm.gk bdS i),λl5 sums H5 g5 h5 ls bs eqs=>?_⟩;have hS5:=hS.same g5;refine⟨_,rfl,_,rfl,_,rfl,_,rfl,mulL ⋯ ⋯,.ref c1,aX r L,(st:Int)+(e:Int)*(N:Int),rfl,hS5,K9,by rw[<-rm];lia,by rw[<-rm];lia,λl6 H6 g6 f6 h6=>?_⟩;rw[show((st:Int)+(e:Int)*(N:Int)).toNat=st+e*N by rw[<-rm];lia,vO,eaS]at h6;have Uj:=g6 _ _ h5;refine⟨_,rfl,1,(N:Int)+1,rfl,⟨⋯,⋯,⋯,⋯⟩,?_⟩;rw[(⋯:((N:Int)+1-1).toNat=N)];refine aaZ (lo:=1) (n:=N) ⋯ rfl (λk=>Pm.co sums (e*(k+1)-1)) ?_ ?_
 .intro H7 k g7 hk kk hkk;have t1:1<=e*(k+1):=Nat.mul_pos e1 ⋯;have t2:(e:Int)*(1+(k:Int))=((e*(k+1):Nat):Int):=by rw[rm,Fq,nK];rfl
  have t3:e*(k+1)<=e*N:=fH _ hk;refine⟨_,rfl,_,rfl,_,rfl,mulL ⋯ ⋯,_,_,rfl,rfl,_,V.int (Pm.co sums (e*(k+1)-1)),.inl (aA.of (g7 _ _ Uj)),?_,hkk⟩;rw[t2,(⋯:((e*(k+1):Nat):Int)-1=((e*(k+1)-1:Nat):Int))];exact wM ⋯
 intro D hD;have gD:=Same.new hD (.lst ((Pm.aq N λk=>Pm.co sums (e*(k+1)-1)).map V.int));refine⟨D,Pm.aq N λk=>Pm.co sums (e*(k+1)-1),N,(u+13*(n+1)+3)*e,rfl,aD,Pm.aQ ..,⋯,?_,λi hi=>?_,λl7 R H7 g7 h7 lr br eq3=>?_⟩
 .rw[gZ,mz,gZ _ (e*N)];exact sz1
 .rw[Pm.bZ,if_pos hi];have t1:1<=e*(i+1):=Nat.mul_pos e1 ⋯;have t3:e*(i+1)<=e*N:=fH _ hi;have:=bs (e*(i+1)-1) ⋯;rw[Nat.sub_add_cancel t1,<-yx]at this;rw[<-yx,mz];exact this
 have Zh:=g1.trans (g5.trans (g6.trans (gD.trans g7)));have Mi:=g7 _ _ (gD _ _ h6);obtain⟨a0,q1,q2,rfl,hA0,_,_⟩:=id (hR.same Zh);refine⟨_,rfl,_,_,.inr (aB.of hA0),rfl,_,rfl,_,rfl,(N:Int),rfl,(⋯:-(2^62)<=(N:Int)),(⋯:(N:Int)<2^62),?_⟩;rw[cM];refine zu (n:=N) ⋯ rfl (λk=>r.at (st+e*k)) ?_ ?_
 .intro H8 k g8 hk kk hkk;have t3:e*(k+1)<=e*N:=fH _ hk;rw[Bq]at t3;refine⟨_,rfl,_,rfl,_,rfl,_,rfl,mulL ⋯ ⋯,_,V.int (r.at (st+e*k)),.inl (aA.of (g8 _ _ Mi)),?_,hkk _ (Same.refl _)⟩;rw[show(st:Int)+(e:Int)*(0+(k:Int))=((st+e*k:Nat):Int)by rw[dj,Fq,rm]];rw[wM (by rw[Pm.aQ];lia),Pm.bZ,if_pos ⋯]
 intro D2 H8 hD2 g8 h8;have hzz:R.length*((u+13*(n+1)+3)*e)+1<=(u+13*(n+1)+3)*(e*n)+10:=by
  rw[lr,gZ,mz];have:=fH (u+13*(n+1)+3) eN;lia
 have bR:∀x∈R,Rm.Bd ((u+13*(n+1)+3)*(e*n)+10) x:=Le.list hzz λi hi=>br i ⋯;have hev:=awP (b:=r.b) (c:=(aX r L).rule) (s1:=(aX r L).starts) (u:=sums) (R:=R) (e:=e) (st:=st) (N:=N) e1 K9.len K9.wU K9.Ax l1.symm lr eqs eq3;have f1:Rm.at_ r.b (aX r L).rule (aX r L).starts=r.at:=by rw[<-eaS];rfl
 rw[f1]at hev;refine⟨r.b,l7,D2,R,_,λk=>r.at (st+e*k),n,(u+13*(n+1)+3)*(e*n)+10,c+d*st,d*e,rfl,.inl (g8 _ _ h7),.inl h8,⟨hb,⋯,n12,by rw[Pm.aQ,lr],bR,⋯,hz,λk=>?_,by have:=M0.fb.kE;lia,al1,hsz,λk=>?_⟩,λv' r' L' H9 g9 hR9 hT9 hF9 hl9=>?_⟩
 .refine(M0.fb.at_ (st+e*k)).mono ?_;rw[rC,mz,Vt];exact aR _
 .rw[show(Pm.aq N λk=>r.at (st+e*k)).map (Rm.tk r.b)=Pm.aq N λk=>Rm.tk r.b (r.at (st+e*k))from gh ..,hev k,ok.Em]
 .have:=hT9.len;exact q v' r' L' H9 (Zh.trans (g8.trans g9)) hR9 hT9 hF9 ⋯
theorem ahU(F:Fn K mg "scaled" Ob ["row","number"])(mK:zV P w K mg base):abo P w K mg base:=by
 refine F.cal ah4 λH Q E hr h=>?_
 obtain⟨v,b,r,x,n,u,c,d,z,rfl,hR,hM,hx,hz,n8,z2,hc,hsz,q⟩:=h;refine⟨_,(aC (aP (aG mK hr (aM (aO K (pv 0) ao) (aM (aO K (pv 0) ao) (aM (fD (sc:=ajg) (N:=["start","number"]) (ix:=[none,some 1]) dJ rfl (j7 K (aO K (pv 0) ao)) (λ_ _ _ _ _=>⟨(bJ 0 dz),dM,(aF v_mul (pv 1) (pv 0))⟩)) ak)))))),?_⟩;obtain⟨a,p,p2,rfl,hA,hP,hS⟩:=id hR;have hl:=hM.ok.len;have h12:=hM.jx;have eb:=hM.by_;have kE:=hM.fb.kE;refine⟨_,rfl,_,_,.inr (aB.of hA),rfl,_,rfl,_,_,.inr (aB.of hA),rfl,_,rfl,_,_,.inr (aB.of hA),rfl,p2,rfl,.inr ⟨⟨_,aB.of hS⟩,RB (MS (aB.of hS)) ⋯ rfl (λs=>x*s) ?_ ?_⟩⟩
 .intro H2 y g2 hy kk hkk;exact⟨_,rfl,_,rfl,lY hx (hM.ok.Et y hy) ∅,hkk⟩
 intro D hD;have gD:=Same.new hD (.lst ((r.starts.map λs=>x*s).map V.int));have e1:r.rule.map (Rm.tk b)=r.rule:=xY λy hy=>by have:=hM.ok.wU y hy;rw[eb]at this;exact this
 have e2:(r.starts.map λs=>x*s).map (Rm.tk b)=r.starts.map λs=>Rm.tk b (x*s):=by rw[gh];rfl
 have bd:∀k,Rm.Bd (c+10+d*k) (Rm.tk b (x*r.at k)):=λk=>jY hM.hB ⋯ ((hx.mul (hM.fb.at_ k)).mono ⋯);rw[eb];refine⟨b,p,D,r.rule,r.starts.map λs=>x*s,λk=>Rm.tk b (x*r.at k),12,z,c+10,d,rfl,.inr (gD _ _ hP),.inl aD,⟨hM.hB,h12,∅,by rw[aK];lia,hz,n8,⋯,bd,⋯,⋯,by show 12*(c+10+d*24+12)+z+458<=112100;lia,λk=>by rw[e1,e2];exact aot eb hl k⟩,λv' r' L H' g' hR' hT _ _=>?_⟩;obtain⟨P,hm,hK,hl,hu⟩:=hM.fb.kp;exact q v' r' L H' (gD.trans g') hR' hT ⟨bd,λk=>Rm.dO _ _,hM.fb.n12,hM.fb.pL,hM.fb.zZ,⋯,P,hm,agz hK,hl,hu⟩
theorem azJ(F:Fn K mg "summed" Uv ["row"])(gq:wz P w K mg base)(pJ:Cq P w K mg base bD)(Ba:M8 P w K mg base)(cF:jU P w K mg base)(su:Hl P w K mg base)(oY:EB P w K mg base)(mK:zV P w K mg base)(uU:JQ P w K mg base):ad5 P w K mg base bD:=by
 refine F.wN Ca λH Q E hr h=>?_
 obtain⟨v,b,r,n,u,c,d,L,rfl,hR,hM,lst,qE,qQ⟩:=h;refine⟨_,(au (aN 1 Ca.nd (aO K (pv 0) ao)) (au (aN 2 Ca.nd (aG gq hr (aj (pv 0) ak))) (au (aN 3 Ca.nd (pad K (bY K B.bV (aM (aO K (pv 2) ao) ak)) ao)) (au (jm (qU pJ hr rfl (aj (pv 3) ak))) (au (aN 4 Ca.nd (aG Ba hr (aj (pv 1) (aM (aG su hr (aj (pv 1) (aM (aO K (pv 2) ao) ak))) (aeX (lX (aM (aG cF hr (aj (pv 1) (U5 (Dg Dq ao) ak))) (cY ao ak))) ak))))) (au (fL (i:=5) Ca.nd rfl (dX rfl) (aG oY hr (aj (pv 2) (aj (pv 3) ak)))) (aC (aP (aG mK hr (aj (pv 1) (aM (aG uU hr (aj (pv 1) (aj (pv 4) ak))) (aM (fD (sc:=akV) (N:=["n","found"]) (ix:=[none,some 5]) dJ rfl (fK rfl B.dG (aj (pv 3) ak)) (λ_ _ _ _ _=>⟨(bJ 0 dz),dM,(lu (Ac K rfl) rfl B.Bp boot_sum (aM (rN (rQ K) (pv 1) rW (tO (pad K (pv 0) ao))) ak))⟩)) ak)))))))))))),?_⟩;obtain⟨a,p,p2,rfl,hA,hP,hS⟩:=id hR;have eb:=hM.by_;have hb:=hM.hB;have h12:=hM.jx;have hlp:=lst.mon.pos;have hb0:=hM.hB.lo;have ll:=hM.ll lst;have lL:=hM.fb.len hb lst;have pL:=hM.fb.pL;have kE:=hM.fb.kE;refine⟨_,rfl,_,_,.inr (aB.of hA),rfl,?_⟩;refine⟨_,rfl,.ref a,r,rfl,hR,hM.ok,hM.B7,hM.tame,λv2 L2 H2 g2 jz jd Di=>?_⟩;have eL:L2=L:=by
  rw[eb]at jd;exact jd.uniq hM.hB.one lst
 subst eL;obtain⟨ok2,_,qb,l1,l2,eP⟩:=hM.sh lst;obtain⟨a2,s1,s2,rfl,n6,hP2,hS2⟩:=id jz;have lS:((aX r L2).rule.map V.int).length=L2.length-1:=by rw[aK,l1]
 refine⟨_,rfl,_,_,.inr (aB.of n6),rfl,.ref s1,L2.length-1,rfl,.inr ⟨_,aB.of hP2,lS.symm⟩,?_⟩;have eN:((L2.length-1:Nat):Int)+1=(L2.length:Int):=⋯;refine⟨_,rfl,((L2.length-1:Nat):Int)+1,rfl,λhle=>?_,λhlt=>qE ⋯ _ g2⟩;obtain⟨n11,hz,hc,hsz,q⟩:=qQ ⋯;rw[eb];refine⟨_,rfl,_,rfl,_,rfl,_,_,.inr (aB.of n6),rfl,b,s1,(aX r L2).rule,rfl,hb0,hP2,⋯,λt3 H3 g3 h3=>?_⟩;refine⟨_,rfl,_,rfl,b,-1,rfl,hb0,(by show 2<=sizeLine;decide),λt4 VX=>?_⟩;have g4:=Same.new VX (.tup ([Rm.tk b (-1),1].map V.int));rw[eP]at h3;have bc:=hM.fb.least hb lst;refine⟨b,t3,t4,L2,[Rm.tk b (-1),1],rfl,hb0,g4 _ _ h3,aD,⋯,(by show 2<=400;decide),Vz bc ⋯,λx hx=>?_,λt5 H5 g5 h5=>?_⟩
 .rcases fR.mp hx with rfl|hx
  .exact jY hM.hB ∅ ((Rm.Bd.of (n:=1) ∅ ∅).mono ∅)
  .rw[oW.mp hx];exact(Rm.Bd.of (n:=1) ∅ ∅).mono ∅
 have g25:=g3.trans (g4.trans g5);refine⟨_,rfl,_,rfl,.ref a2,aX r L2,((L2.length-1:Nat):Int)+1,rfl,jz.same g25,ok2,⋯,⋯,λl6 H6 g6 f6 h6=>?_⟩;have amC:(aX r L2).row (((L2.length-1:Nat):Int)+1).toNat=Pm.aq L2.length r.at:=by
  rw[eN,cM,vO,qb]
 rw[amC]at h6;obtain⟨hm,hl2⟩:=Xl hM.hB.one lst.mon;refine⟨_,rfl,_,rfl,_,rfl,b,t5,nQ b L2,rfl,hb0,g6 _ _ h5,⋯,⋯,λt7 H7 g7 h7=>?_⟩;have Mi:=g7 _ _ h6;refine⟨_,rfl,((L2.length-1:Nat):Int)+1,rfl,(⋯:-(2^62)<=((L2.length-1:Nat):Int)+1),(⋯:((L2.length-1:Nat):Int)+1<2^62),?_⟩;rw[(⋯:(((L2.length-1:Nat):Int)+1).toNat=L2.length)];refine zu (n:=L2.length) ⋯ rfl (λn=>Pm.sm (n+1) r.at) ?_ ?_
 .intro H8 k g8 hk kk hkk;refine⟨_,rfl,_,rfl,_,rfl,.inl ⟨_,aA.of (g8 _ _ Mi),λl9 hl9=>?_⟩⟩;have eC:gC ((Pm.aq L2.length r.at).map V.int) none (some (0+(k:Int)+1))=(Pm.aq (k+1) r.at).map V.int:=by
   rw[(⋯:0+(k:Int)+1=((k+1:Nat):Int)),yK,<-rR,Ge _ ⋯]
  rw[eC];refine⟨l9,Pm.aq (k+1) r.at,rfl,aA.of aD,?_⟩;rw[Pm.aq,Pm.FN];exact hkk _ (Same.new hl9 _)
 .intro D H8 hD g8 h8;have e1:(Pm.eE b (nQ b L2)).map (Rm.tk b)=Pm.eE b (nQ b L2):=xY λy hy=>by
   obtain⟨k,_,rfl⟩:=Pm.gK (show y∈Pm.aq _ _ from hy);exact vB hb0 _
  have e2:(Pm.aq L2.length λn=>Pm.sm (n+1) r.at).map (Rm.tk b)=Pm.aq L2.length (lJ b r.at):=by
   rw[Pm.aq,Pm.aq,gh];rfl
  have lR:(Pm.eE b (nQ b L2)).length=L2.length:=by rw[Pm.tY,hl2];rfl
  refine⟨b,t7,D,Pm.eE b (nQ b L2),Pm.aq L2.length λn=>Pm.sm (n+1) r.at,lJ b r.at,n+1,u+13*(n+1)+23,c+1,d+1,rfl,.inr (g8 _ _ h7),.inl h8,⟨hb,⋯,n11,by rw[Pm.aQ,lR],λx hx=>?_,⋯,hz,λk=>?_,⋯,hc,hsz,λk=>by rw[e1,e2];exact ahI hb lst k⟩,λv' r' L' H' g' hR' hT hF hl'=>?_⟩
  .obtain⟨k,_,rfl⟩:=Pm.gK (show x∈Pm.aq _ _ from hx);refine jY hb ⋯ ?_;rw[jT];exact Pm.xg (Pm.gk (alr hb ⋯ ⋯ bc) _)
  .refine jY hb ⋯ ((Pm.yc (c:=c+d*k) (k+1) λi hi=>(hM.fb.at_ i).mono (xJ (fH _ ⋯) _)).mono ?_);rw[mJ];lia
  .have:=hT.len;rw[lR]at hl';exact q v' r' L' H' (g2.trans (g25.trans (g6.trans (g7.trans (g8.trans g'))))) hR' hT hF ⋯
theorem az8(F:Fn K mg "put_ahead" Rv ["row","numbers"])(gq:wz P w K mg base)(pJ:Cq P w K mg base bD)(mK:zV P w K mg base):aer P w K mg base bD:=by
 refine F.wN R6 λH Q E hr h=>?_
 obtain⟨v,b,r,n,u,c,d,L,ln,ns,rfl,hR,hM,lst,hN,aAS,hn,hnb,qE,qQ⟩:=h;refine⟨_,(au (aN 2 R6.nd (aG gq hr (aj (pv 0) ak))) (au (jm (qU pJ hr rfl (cQ (pad K (bY K B.bV (aM (aO K (pv 2) ao) ak)) (bY K B.bV (aj (pv 1) ak))) ak))) (au (aN 3 R6.nd (pad K (jP (xlist K) rfl B.yJ boot_list (aM (aO K (pv 2) ao) ak)) (aF v_mul (jc (cY ao ak)) (bY K B.bV (aj (pv 1) ak))))) (aC (aP (aG mK hr (aM (aO K (pv 0) ao) (aj (pv 3) (cQ (pad K (jP (xlist K) rfl B.yJ boot_list (aj (pv 1) ak)) (jP (xlist K) rfl B.yJ boot_list (aM (aO K (pv 2) ao) ak))) ak))))))))),?_⟩;obtain⟨a,p,p2,rfl,hA,hP,hS⟩:=id hR;have eb:=hM.by_;have hb:=hM.hB;have h12:=hM.jx;have hlp:=lst.mon.pos;have hb0:=hM.hB.lo;have lL:=hM.fb.len hb lst;have pL:=hM.fb.pL;have lN:(ns.map V.int).length=ns.length:=aK _;refine⟨_,rfl,.ref a,r,rfl,hR,hM.ok,hM.B7,hM.tame,λv2 L2 H2 g2 jz jd Di=>?_⟩;have eL:L2=L:=by
  rw[eb]at jd;exact jd.uniq hM.hB.one lst
 subst eL;obtain⟨ok2,bd2,qb,l1,l2,_⟩:=hM.sh lst;obtain⟨a2,s1,s2,rfl,n6,hP2,hS2⟩:=id jz;have lS:((aX r L2).rule.map V.int).length=L2.length-1:=by rw[aK,l1]
 have ML:=g2 _ _ hN;refine⟨_,rfl,_,_,.inr (aB.of n6),rfl,.ref s1,L2.length-1,rfl,.inr ⟨_,aB.of hP2,lS.symm⟩,_,rfl,.ref ln,ns.length,rfl,.inl ⟨_,aA.of ML,lN.symm⟩,?_⟩;refine⟨((L2.length-1:Nat):Int)+(ns.length:Int),rfl,λhle=>?_,λhlt=>qE ⋯ _ g2⟩;obtain⟨n12,hz,hc,hsz,q⟩:=qQ ⋯;refine⟨_,rfl,_,_,.inr (aB.of n6),rfl,s1,_,rfl,.inr (aB.of hP2),λl3 hl3=>?_⟩;have g3:=Same.new hl3 (.lst ((aX r L2).rule.map V.int));refine⟨(by show 1<=sizeLine;decide),λl4 hl4=>?_⟩;have g4:=Same.new hl4 (.lst [.int 0]);have h4:(upd (upd H2 l3 (.lst ((aX r L2).rule.map V.int))) l4 (.lst [.int 0])) l4=some (.lst [.int 0]):=aD;have h3:(upd (upd H2 l3 (.lst ((aX r L2).rule.map V.int))) l4 (.lst [.int 0])) l3=some (.lst ((aX r L2).rule.map V.int)):=g4 _ _ aD;have Wi:=g3.trans g4;generalize upd (upd H2 l3 (.lst ((aX r L2).rule.map V.int))) l4 (.lst [.int 0])=H4 at Wi h3 h4;refine⟨_,rfl,.ref ln,ns.length,rfl,.inl ⟨_,aA.of (Wi _ _ ML),lN.symm⟩,?_⟩;refine⟨_,h4,⋯,⋯,?_,λl5 hl5=>?_⟩
 .show 1*(ns.length:Int).toNat<=sizeLine;rw[oA];exact fj (dW ⋯)
 rw[show(ns.length:Int).toNat=ns.length from cM _,Bx];have g5:=Same.new hl5 (.lst ((ou ns.length).map V.int));have h5:(upd H4 l5 (.lst ((ou ns.length).map V.int))) l5=some (.lst ((ou ns.length).map V.int)):=aD;have h35:=g5 _ _ h3;have JF:=Wi.trans g5;generalize upd H4 l5 (.lst ((ou ns.length).map V.int))=H5 at JF h5 h35;refine .inl ⟨_,_,h35,h5,?_,λl6 D7=>?_⟩
 .rw[aK,aK,Pm.aQ];exact fj (dW ⋯)
 rw[<-jo];have g6:=Same.new D7 (.lst (((aX r L2).rule++ou ns.length).map V.int));have h6:(upd H5 l6 (.lst (((aX r L2).rule++ou ns.length).map V.int))) l6=some (.lst (((aX r L2).rule++ou ns.length).map V.int)):=aD;have tV:=JF.trans g6;generalize upd H5 l6 (.lst (((aX r L2).rule++ou ns.length).map V.int))=H6 at tV h6;refine⟨_,rfl,_,_,.inr (aB.of ((g2.trans tV) _ _ hA)),rfl,_,rfl,?_⟩;refine⟨_,rfl,ln,_,rfl,.inl (aA.of (tV _ _ ML)),λl7 hl7=>?_⟩;have g7:=Same.new hl7 (.lst (ns.map V.int));refine⟨_,rfl,_,_,.inr (aB.of (g7 _ _ (tV _ _ n6))),rfl,s2,_,rfl,.inr (aB.of (g7 _ _ (tV _ _ hS2))),λl8 hl8=>?_⟩;have g8:=Same.new hl8 (.lst ((aX r L2).starts.map V.int));refine .inl ⟨_,_,g8 _ _ aD,aD,?_,λl9 hl9=>?_⟩
 .rw[aK,aK,l2];exact fj (dW ⋯)
 rw[<-jo];have g9:=Same.new hl9 (.lst ((ns++(aX r L2).starts).map V.int));have g79:=g7.trans (g8.trans g9);rw[eb];have n0:fG b 0:=by
  by_cases z:b=0
  .exact .inl z
  .exact .inr ⟨Int.le_refl _,⋯⟩
 have e1:((aX r L2).rule++ou ns.length).map (Rm.tk b)=(aX r L2).rule++ou ns.length:=xY λy hy=>by
  rcases qT.mp hy with z|z
  .have:=ok2.wU y z;rw[show(aX r L2).b=b from eb]at this;exact this
  .obtain⟨k,_,rfl⟩:=Pm.gK z;exact n0
 have e2:(ns++(aX r L2).starts).map (Rm.tk b)=ns++(aX r L2).starts:=xY λy hy=>by
  rcases qT.mp hy with z|z
  .exact hn y z
  .have:=ok2.Ax y z;rw[show(aX r L2).b=b from eb]at this;exact this
 have ea:∀k,(⟨b,(aX r L2).rule++ou ns.length,ns++(aX r L2).starts⟩:Rw).at k=mZ ns r.at k:=λk=>by
  rw[apK ⋯,<-qb];unfold mZ;split
  .rfl
  .show Rm.at_ b _ _ _=Rm.at_ r.b _ _ _;rw[eb]
 refine⟨b,l6,l9,(aX r L2).rule++ou ns.length,ns++(aX r L2).starts,mZ ns r.at,n+ns.length,u+13*(n+1),c,d,rfl,.inl (g79 _ _ h6),.inl aD,⟨hb,by rw[gW,Pm.aQ];lia,n12,by rw[gW,gW,Pm.aQ];lia,λx hx=>?_,⋯,hz,λk=>?_,hM.fb.kE,hc,hsz,λk=>by rw[e1,e2];exact ea k⟩,λv' r' L' H' g' hR' hT' hF' hl'=>?_⟩
 .rcases qT.mp hx with z|z
  .exact bd2 x z
  .obtain⟨k,_,rfl⟩:=Pm.gK z;exact Rm.Bd.zero _
 .unfold mZ;split
  .exact(Pm.gk hnb _).mono (yr _ _)
  .exact(hM.fb.at_ _).mono (xJ (fH _ ⋯) _)
 .rw[gW,Pm.aQ]at hl';have hlen:=hT'.len;exact q v' r' L' H' (g2.trans (tV.trans (g79.trans g'))) hR' hT' hF' ⋯
theorem alV(F:Fn K mg "line_taken" Va ["by","line"])(cF:jU P w K mg base):ahs P w K mg base:=by
 refine F.cal aoG λH Q E hr h=>?_
 obtain⟨b,l,p,rfl,hb,hL,z,q⟩:=h;refine⟨_,(aC (aP (fD (sc:=axc) (N:=["number","by"]) (ix:=[none,some 0]) dJ rfl (j7 K (pv 1)) (λ_ _ _ _ _=>⟨(bJ 0 dz),dM,(aG cF hr (aj (pv 1) (aj (pv 0) ak)))⟩)))),?_⟩;refine⟨_,rfl,l,rfl,.inl ⟨⟨_,aA.of hL⟩,wV hL z rfl (Rm.tk b) ?_ ?_⟩⟩
 .intro H2 x g2 hx k hk;exact⟨_,rfl,_,rfl,b,x,rfl,hb,hk⟩
 .intro D hD;exact q D _ (Same.new hD _) hD aD
theorem ai8(F:Fn K mg "head_line" TQ ["lines","begin","column"]):af8 P w K mg base:=by
 refine F.cal acQ λH Q E hr h=>?_
 obtain⟨ll,xs,L,W,r,c,cI,ex,rfl,rfl,hL,hx,hw,hc,z,hr',q1,q2⟩:=h;refine⟨_,(au (jj PassesOwn.never rfl (Bb rfl B.dG (aj (pv 1) (aM (bY K B.bV (aj (pv 0) ak)) ak))) (bJ 3 acQ.nd) (aC (cO (bI (vo K hr) (aO K (aO K (pv 0) (pv 3)) (pv 2)) ao) (aC (aP (pv 3))) cR))) (aC (aP J3))),?_⟩;have lx:=hx.len;refine⟨_,rfl,_,rfl,.ref ll,L.length,rfl,.inl ⟨_,aA.of hL,lx.symm⟩,?_⟩;refine⟨(r:Int),(L.length:Int),rfl,⟨⋯,⋯,⋯,⋯⟩,?_⟩;refine j8 (lo:=(r:Int)) (n:=((L.length:Int)-(r:Int)).toNat) (λi σ' H'=>∃o,σ'=[some (.ref ll),some (.int r),some (.int c),o]/\H'=H/\∀j,r<=j->j<r+i->Pm.co (Dm.ln L j) c=0) ⟨_,rfl,rfl,λj h1 h2=>absurd h2 ⋯⟩ ?_ ?_
 .rintro i σ' H' hi ⟨o,rfl,rfl,hz⟩;have hi':r+i<L.length:=⋯;obtain⟨t,e1,_,e2⟩:=hx.get hi';have ei:(r:Int)+(i:Int)=((r+i:Nat):Int):=⋯;have wl:=hw (r+i) hi';refine⟨_,rfl,_,rfl,_,.ref t,.inl (aA.of hL),qx (r+i) ei e1,_,rfl,_,_,.inl (aA.of e2),dN (ns:=Dm.ln L (r+i)) (⋯:(0:Int)<=(c:Int)) ⋯,_,rfl,?_⟩;rw[cM];by_cases hz':(Dm.ln L (r+i)).getD c 0=0
  .refine TN hz' ⟨_,rfl,rfl,λj h1 h2=>?_⟩;by_cases e:j=r+i
   .rw[e];exact hz'
   .exact hz j h1 ⋯
  .rw[decide_eq_false hz'];refine iM ⟨_,rfl,?_⟩;have:=q1 (r+i) ⋯ hi' hz';rw[<-ei]at this;exact this
 .rintro σ' H' ⟨o,rfl,rfl,hz⟩;exact q2 λi h1 h2=>hz i h1 ⋯
theorem azd(F:Fn K mg "bring_up" Pr ["by","lines","at","top"])(cF:jU P w K mg base):afl P w K mg base:=by
 refine F.cal W4 λH Q E hr h=>?_
 obtain⟨b,ll,xs,L,a,r,ex,rfl,hb,hL,hx,hm,hst,hra,ha,hz,q⟩:=h;refine⟨_,(aC (uV (cO (bI (vo K hr) (pv 2) (pv 3)) (au (aN 4 W4.nd (aO K (pv 1) (pv 3))) (au (pZ (aO K (pv 1) (pv 2)) (uI (pv 1) (pv 3) set_list)) (aC (pZ (fD (sc:=ajE) (N:=["number","by"]) (ix:=[none,some 0]) dJ rfl (j7 K (pv 4)) (λ_ _ _ _ _=>⟨(bJ 0 dz),dM,(aG cF hr (aj (pv 1) (cQ (aF cV ao (pv 0)) ak)))⟩)) (uI (pv 1) (pv 2) set_list))))) cR))),?_⟩;have lx:=hx.len;refine⟨_,rfl,_,rfl,_,rfl,?_⟩;by_cases e:a=r
 .exact TN (by rw[e]) (q xs L H (Keep.refl _ _) hL hx (.inl ⟨e,rfl⟩))
 .have hne:¬(a:Int)=(r:Int):=⋯;rw[decide_eq_false hne];refine iM ?_;obtain⟨tr,r1,r2,r3⟩:=hx.get (⋯:r<L.length);obtain⟨ta,a1,a2,a3⟩:=hx.get ha;refine⟨_,rfl,_,rfl,_,.ref tr,.inl (aA.of hL),qx r rfl r1,?_⟩;refine⟨_,rfl,_,rfl,_,.ref ta,.inl (aA.of hL),qx a rfl a1,?_⟩;refine⟨_,rfl,_,rfl,ll,xs,_,r,rfl,rfl,hL,uz rfl (by rw[lx];lia),?_⟩;have kA:=Keep.upd ll H (.lst (xs.set r (.ref ta)));have hL1:(upd H ll (.lst (xs.set r (.ref ta)))) ll=some (.lst (xs.set r (.ref ta))):=aD;have r3':=kA _ _ (λ(z:tr=ll)=>r2 (by rw[z];exact hm)) r3;have hx1:=(cC.set a2 a3 r hx).keep hm kA;have Zo:=hst.keep kA ⟨_,hL1⟩;generalize upd H ll (.lst (xs.set r (.ref ta)))=H1 at kA hL1 r3' hx1 Zo;refine⟨_,rfl,tr,rfl,.inl ⟨⟨_,aA.of r3'⟩,wV r3' (hz r ⋯) rfl (λx=>Rm.tk b (0-x)) ?_ ?_⟩⟩
  .intro H2 x g2 hx k hk;exact⟨_,rfl,_,rfl,_,_,rfl,rfl,b,_,rfl,hb,hk⟩
  .intro D hD;have gD:=Same.new hD (.lst (((Dm.ln L r).map λx=>Rm.tk b (0-x)).map V.int));have hDl:D∉ex:=Zo.fresh hD;have vH:(upd H1 D (.lst (((Dm.ln L r).map λx=>Rm.tk b (0-x)).map V.int))) D=some (.lst (((Dm.ln L r).map λx=>Rm.tk b (0-x)).map V.int)):=aD;have hL2:=gD _ _ hL1;have hx2:=hx1.same gD;have kB:=kA.trans (Keep.same gD);generalize upd H1 D (.lst (((Dm.ln L r).map λx=>Rm.tk b (0-x)).map V.int))=H2 at gD vH hL2 hx2 kB;refine⟨_,rfl,_,rfl,ll,_,_,a,rfl,rfl,hL2,uz rfl (by rw[nq,lx];lia),?_⟩;have kC:=Keep.upd ll H2 (.lst ((xs.set r (.ref ta)).set a (.ref D)));refine q _ ((L.set r (Dm.ln L a)).set a ((Dm.ln L r).map λx=>Rm.tk b (0-x))) _ (kB.trans kC) aD ((cC.set hDl vH a hx2).keep hm kC) (.inr ⟨⋯,by rw[nq,nq],?_,?_,?_⟩)
   .rw[yE _ (by rw[nq];lia),if_neg ⋯,yE _ ⋯,if_pos rfl]
   .rw[yE _ (by rw[nq];lia),if_pos rfl]
   .intro i h1 h2;rw[yE _ (by rw[nq];lia),if_neg h2,yE _ ⋯,if_neg h1]
theorem akI(F:Fn K mg "freed" VP ["by","line","head","column","last"])(pI:Du P w K mg base)(cF:jU P w K mg base):aac P w K mg base:=by
 refine F.cal Ez λH Q E hr h=>?_
 obtain⟨b,last,l1,l2,p,r,c,cI,rfl,rfl,hB,h1,h2,hl,hc,hz,n0,nt,bl,b1,b2,hx,q⟩:=h;refine⟨_,(au (fL (i:=5) Ez.nd rfl (dX rfl) (aO K (pv 2) (pv 3))) (au (fL (i:=6) Ez.nd rfl (dX rfl) (aO K (pv 1) (pv 3))) (au (yS (i:=7) (hN:=Ez.nd) (hi':=rfl) (hx:=(pO rfl)) (sc:=arW) (N:=["k","factor","head","line","pivot"]) (ix:=[none,some 6,some 2,some 1,some 5]) dJ rfl (fK rfl B.dG (aM (bY K B.bV (aj (pv 1) ak)) ak)) (λ_ _ _ _ _=>⟨(bJ 0 dz),dM,(aF cV (aF v_mul (pv 4) (aO K (pv 3) (pv 0))) (aF v_mul (pv 1) (aO K (pv 2) (pv 0))))⟩)) (au (cO (bI (d8 K hr) (pv 0) ao) (aC (aP (fD (sc:=aAz) (N:=["number","last"]) (ix:=[none,some 4]) dJ rfl (j7 K (pv 7)) (λ_ _ _ _ _=>⟨(bJ 0 dz),dM,(aF (Sv hr) (pv 0) (pv 1))⟩)))) cR) (au (fL (i:=8) Ez.nd rfl (dX rfl) (aG pI hr (aj (pv 0) (cY ao (aj (pv 4) ak))))) (aC (aP (fD (sc:=apP) (N:=["number","by","share"]) (ix:=[none,some 0,some 8]) dJ rfl (j7 K (pv 7)) (λ_ _ _ _ _=>⟨(bJ 0 dz),dM,(aG cF hr (aj (pv 1) (cQ (aF v_mul (pv 0) (pv 2)) ak)))⟩))))))))),?_⟩;have lP:(p.map V.int).length=p.length:=aK _;obtain⟨hb0,hb1,hb2⟩:=hB.range;refine⟨_,rfl,_,rfl,_,_,.inl (aA.of h2),dN (ns:=r) (⋯:(0:Int)<=(c:Int)) ⋯,?_⟩;refine⟨_,rfl,_,rfl,_,_,.inl (aA.of h1),dN (ns:=p) (⋯:(0:Int)<=(c:Int)) ⋯,?_⟩;rw[cM];have e1:r.getD c 0=Pm.co r c:=rfl;have e2:p.getD c 0=Pm.co p c:=rfl;rw[e1,e2];refine⟨_,rfl,.ref l1,p.length,rfl,.inl ⟨_,aA.of h1,lP.symm⟩,(p.length:Int),rfl,(⋯:-(2^62)<=(p.length:Int)),(⋯:(p.length:Int)<2^62),?_⟩;rw[cM];refine rT (n:=p.length) hz rfl (λk=>Pm.co r c*Pm.co p k-Pm.co p c*Pm.co r k) ?_ ?_
 .intro H2 k g2 hk kk hkk;have ek:(0+(k:Int)).toNat=k:=⋯;refine⟨_,rfl,_,rfl,_,rfl,_,_,.inl (aA.of (g2 _ _ h1)),dN (ns:=p) (⋯:(0:Int)<=0+(k:Int)) ⋯,lY (Pm.gk b2 c) (Rm.Bd.getD b1 _) ∅,?_⟩;refine⟨_,rfl,_,rfl,_,rfl,_,_,.inl (aA.of (g2 _ _ h2)),dN (ns:=r) (⋯:(0:Int)<=0+(k:Int)) ⋯,lY (Pm.gk b1 c) (Rm.Bd.getD b2 _) ∅,_,_,rfl,rfl,?_⟩;rw[ek];exact hkk
 .intro D hD;have gD:=Same.new hD (.lst ((Pm.aq p.length λk=>Pm.co r c*Pm.co p k-Pm.co p c*Pm.co r k).map V.int));have vH:(upd H D (.lst ((Pm.aq p.length λk=>Pm.co r c*Pm.co p k-Pm.co p c*Pm.co r k).map V.int))) D=some (.lst ((Pm.aq p.length λk=>Pm.co r c*Pm.co p k-Pm.co p c*Pm.co r k).map V.int)):=aD;generalize upd H D (.lst ((Pm.aq p.length λk=>Pm.co r c*Pm.co p k-Pm.co p c*Pm.co r k).map V.int))=H1 at gD vH;have zO:(Pm.aq p.length λk=>Pm.co r c*Pm.co p k-Pm.co p c*Pm.co r k).length<=1000:=by rw[Pm.aQ];exact hz
  refine⟨_,rfl,_,rfl,?_⟩;refine cX (λcc=>?_) (λcc=>?_)
  .have hb:b=0:=dec_true cc;refine⟨_,rfl,D,rfl,.inl ⟨⟨_,aA.of vH⟩,wV vH zO rfl (λx=>x.fdiv last) ?_ ?_⟩⟩
   .intro H2 x g2 hx' k hk;exact⟨_,rfl,_,rfl,_,_,rfl,rfl,⟨n0,Yq (ahY n0 bl) ∅⟩,hk⟩
   .intro D2 hD2;refine q D2 _ _ (gD.trans (Same.new hD2 _)) (gD.free hD2) aD (by rw[aK,Pm.aQ]) λk hk=>?_;rw[Pm.jF (by simp),Pm.bZ,if_pos hk,hb,Rm.cJ,Rm.cJ,Rm.cJ];obtain⟨e,he⟩:=hx hb k hk;rw[he,OD _ n0];exact⟨rfl,rfl⟩
  .have hb:¬b=0:=dec_false cc;obtain⟨P',hP,eP⟩:=hB.resolve_left hb;have hr2:=vf P' hP;have eX:∀n,Rm.tk b n=n%(P':Int):=λn=>by rw[eP];exact Rm.iz ⋯ n
   rw[eX]at nt;have r0:0<=last:=by rw[nt];exact iK _ ⋯
   have r1:last<(P':Int):=by rw[nt];exact je _ ⋯
   refine⟨_,rfl,_,rfl,P',1,last,by rw[eP];rfl,Q6 hP,⋯,⋯,r1,?_⟩;have hinv:(last*(1*last^(P'-2)%(P':Int)))%(P':Int)=1:=by
    rw[fP,jC,jK _ (jQ _),<-jC,bG,<-jy,(⋯:(P'-2).succ=P'-1)];exact Om.xM rfl hP ⋯ r1
   have s0:=iK (1*last^(P'-2)) (⋯:(0:Int)<(P':Int));have s1:=je (1*last^(P'-2)) (⋯:(0:Int)<(P':Int));generalize 1*last^(P'-2)%(P':Int)=sh at hinv s0 s1;refine⟨_,rfl,D,rfl,.inl ⟨⟨_,aA.of vH⟩,wV vH zO rfl (λx=>Rm.tk b (x*sh)) ?_ ?_⟩⟩
   .intro H2 x g2 hx' k hk;exact⟨_,rfl,_,rfl,_,rfl,mulR ⋯ ⋯,b,_,rfl,hb0,hk⟩
   .intro D2 hD2;refine q D2 _ _ (gD.trans (Same.new hD2 _)) (gD.free hD2) aD (by rw[aK,Pm.aQ]) λk hk=>?_;rw[Pm.jF (by simp[Pm.tk0]),Pm.bZ,if_pos hk,Rm.dO];refine⟨rfl,?_⟩;rw[Rm.cD,fW,<-Rm.cD,eX (last*sh),hinv,iU]
theorem azV(F:Fn K mg "clear" Qg ["by","wide","lines"])(VQ:af8 P w K mg base)(R0:afl P w K mg base)(Ma:aac P w K mg base):ahx P w K mg base:=by
 refine F.cal wK λH Q E hr h=>?_
 obtain⟨b,wide,ll,xs,L,W,u,ex,rfl,hB,hL,hx,hmx,hst,hwW,hW,hn,hu,hw,hnu,hbd,q⟩:=h;refine⟨_,(au (aN 3 wK.nd (jc ak)) (au (aN 4 wK.nd ao) (au (jj PassesOwn.never rfl (fK rfl B.dG (aj (pv 1) ak)) (bJ 5 wK.nd) (au (aN 6 wK.nd (bY K B.bV (aj (pv 3) ak))) (au (aN 7 wK.nd (aG VQ hr (aj (pv 2) (aj (pv 6) (aj (pv 5) ak))))) (aC (cO (Uc (adE (pv 7))) (au (jm (aG R0 hr (aj (pv 0) (aj (pv 2) (aj (pv 7) (aj (pv 6) ak)))))) (au (jj PassesOwn.never rfl (fK rfl B.dG (aM (bY K B.bV (aj (pv 2) ak)) ak)) (bJ 8 wK.nd) (aC (uV (cO (bI (vo K hr) (pv 8) (pv 6)) (aC (pZ (aG Ma hr (aj (pv 0) (aM (aO K (pv 2) (pv 8)) (aM (aO K (pv 2) (pv 6)) (aj (pv 5) (aj (pv 4) ak)))))) (uI (pv 2) (pv 8) set_list))) cR)))) (au (aN 4 wK.nd (aO K (aO K (pv 2) (pv 6)) (pv 5))) (aC (jm (rA K (pv 3) (pv 5))))))) cR))))) (aC (aP (lX (aj (pv 3) (aj (pv 4) ak)))))))),?_⟩;obtain⟨hb0,hb1,hb2⟩:=hB.range;have hD:=hB.dom;refine⟨dD _,λlh CT=>?_⟩;have kh:=Same.new CT (.lst []);have hm:ll∈lh::ex:=jZ _ hmx;have hml:lh∈lh::ex:=mC;have st:∀{H':Hp} {o o':HO},Keep ll H H'->H' ll=some o->H' lh=some o'->Stand H' (lh::ex):=λk e e' a ha=>by
  rcases fR.mp ha with z|z
  .rw[z];exact⟨_,e'⟩
  .exact(hst.keep k ⟨_,e⟩) a z
 have hne:lh≠ll:=λz=>by rw[z,hL]at CT;cases CT
 refine⟨_,rfl,(wide:Int),rfl,(⋯:-(2^62)<=(wide:Int)),(⋯:(wide:Int)<2^62),?_⟩;refine j8 (lo:=0) (n:=(wide:Int).toNat) (λc σ' H'=>∃(o5 o6 o7 o8:Option V) (A:Nat->Nat->Int) (hd:Nat->Nat) (r:Nat) (L':List (List Int)) (last:Int) (xs':List V),σ'=[some (.int b),some (.int wide),some (.ref ll),some (.ref lh),some (.int last),o5,o6,o7,o8]/\Keep ll H H'/\H' lh=some (.lst ((Pm.aq r λh=>((hd h:Nat):Int)).map V.int))/\H' ll=some (.lst xs')/\cC H' (lh::ex) xs' L'/\Dm.cN b L.length W u (λi k=>Pm.co (Dm.ln L i) k) c A hd r L' last)
  ⟨_,_,_,_,_,_,0,L,1,xs,rfl,Keep.same kh,aD,kh _ _ hL,(hx.more CT).same kh,Dm.cN.start hB.one hw hnu hbd⟩ ?_ ?_
 .rintro c σ' H1 hc ⟨o5,o6,o7,o8,A,hd,r,L1,last,xs1,rfl,k1,hH1,hL1,hx1,I⟩;have mY:c<W:=⋯;have hrn:=I.rn;have len1:=I.len;have lh1:((Pm.aq r λh=>((hd h:Nat):Int)).map V.int).length=r:=by rw[aK,Pm.aQ]
  refine⟨_,rfl,.ref lh,r,rfl,.inl ⟨_,aA.of hH1,lh1.symm⟩,?_⟩;refine⟨_,rfl,_,rfl,_,rfl,ll,xs1,L1,W,r,c,0+(c:Int),_,rfl,⋯,hL1,hx1,λi hi=>I.wd i ⋯,mY,⋯,⋯,λa h1 h2 h3=>?_,λhz=>?_⟩
  ·-- a head
   refine⟨_,rfl,_,rfl,?_⟩;rw[decide_eq_false (show ¬V.int (a:Int)=V.non fromλz=>by cases z)];refine iM ?_;refine⟨_,rfl,_,rfl,_,rfl,_,rfl,b,ll,xs1,L1,a,r,_,rfl,hb0,hL1,hx1,hm,st k1 hL1 hH1,h1,h2,λi hi=>by rw[I.wd i ⋯];lia,λxs2 L2 H2 k2 hL2 hx2 br=>?_⟩;obtain⟨A2,I2,hp⟩:∃A2,Dm.cN b L.length W u (λi k=>Pm.co (Dm.ln L i) k) c A2 hd r L2 last/\Pm.co (Dm.ln L2 r) c≠0:=by
    rcases br with⟨e1,e2⟩|⟨e0,e1,e2,e3,e4⟩
    .exact⟨A,by rw[e2];exact I,by rw[e2,<-e1];exact h3⟩
    .exact⟨_,I.bring e0 ⋯ ⋯ e2 e3 e4,by rw[e2];exact h3⟩
   have hrl:r<L.length:=⋯;have k12:=k1.trans k2;have hH2:=k2 _ _ hne hH1;have len2:=I2.len;have lx2:=hx2.len;obtain⟨bl,be⟩:=hu _ _ _ _ _ _ (fj mY) I2;have akP:last≠0:=by rw[I2.la];exact I2.nz
   have ai7:last=Rm.tk b last:=by
    have:=I2.la;rw[this,Rm.dO]
   refine⟨_,rfl,.ref ll,L.length,rfl,.inl ⟨_,aA.of hL2,by rw[lx2,len2]⟩,(L.length:Int),rfl,(⋯:-(2^62)<=(L.length:Int)),(⋯:(L.length:Int)<2^62),?_⟩;refine j8 (lo:=0) (n:=(L.length:Int).toNat) (λi σ' H'=>∃(o8:Option V) (L3:List (List Int)) (wR:List V),σ'=[some (.int b),some (.int wide),some (.ref ll),some (.ref lh),some (.int last),some (.int (0+(c:Int))),some (.int r),some (.int a),o8]/\Keep ll H H'/\H' lh=some (.lst ((Pm.aq r λh=>((hd h:Nat):Int)).map V.int))/\H' ll=some (.lst wR)/\cC H' (lh::ex) wR L3/\L3.length=L.length/\
     (∀j,i<=j∨j=r->Dm.ln L3 j=Dm.ln L2 j)/\∀j,j<i->j≠r->(Dm.ln L3 j).length=W/\∀k,k<W->Pm.co (Dm.ln L3 j) k=Rm.tk b (Pm.co (Dm.ln L3 j) k)/\Rm.tk b (last*Pm.co (Dm.ln L3 j) k)=Rm.tk b (Pm.co (Dm.ln L2 r) c*Pm.co (Dm.ln L2 j) k-Pm.co (Dm.ln L2 j) c*Pm.co (Dm.ln L2 r) k))
    ⟨_,L2,xs2,rfl,k12,hH2,hL2,hx2,len2,λ_ _=>rfl,λj hj=>absurd hj (kj _)⟩ ?_ ?_
   .rintro i σ' H3 hi ⟨o8,L3,wR,rfl,k3,Ah,jW,mX,Ls,eq3,EW⟩;have hi':i<L.length:=⋯;have lx3:=mX.len;refine⟨_,rfl,_,rfl,_,rfl,?_⟩;by_cases e:i=r
    .refine TN ⋯ ⟨_,L3,wR,rfl,k3,Ah,jW,mX,Ls,λj hj=>eq3 j ⋯,λj hj hj'=>EW j ⋯ hj'⟩
    .have hne':¬(0+(i:Int))=(r:Int):=⋯;rw[decide_eq_false hne'];refine iM ?_;obtain⟨ti,i1,i2,i3⟩:=mX.get (⋯:i<L3.length);obtain⟨tr,r1,r2,r3⟩:=mX.get (⋯:r<L3.length);rw[eq3 i ⋯]at i3;rw[eq3 r ⋯]at r3;have wi:=I2.wd i hi';have wr:=I2.wd r hrl;refine⟨_,rfl,_,rfl,_,rfl,_,.ref ti,.inl (aA.of jW),qx i ⋯ i1,?_⟩;refine⟨_,rfl,_,rfl,_,.ref tr,.inl (aA.of jW),qx r rfl r1,_,rfl,_,rfl,?_⟩;refine⟨b,last,ti,tr,_,_,c,0+(c:Int),rfl,⋯,hB,i3,r3,⋯,⋯,⋯,akP,ai7,bl,λx hx=>(be i hi' x hx).mono ∅,λx hx=>(be r hrl x hx).mono ∅,λhb k hk=>?_,λt m H4 g4 VX h4 lm hmm=>?_⟩
     .have hen:=λj (hj:j<L.length) k (hk:k<W)=>I2.en j k hj hk;have s:=Dm.Fi (A:=A2) (hd:=hd) (r:=r) (c:=c) (λz=>hp (by rw[hen r hrl c mY,z];exact Pm.tk0 b)) (⋯:i≠r) k;refine⟨Dm.En A2 (Dm.more hd r c) (r+1) i k,?_⟩;rw[hen r hrl c mY,hen i hi' k ⋯,hen i hi' c mY,hen r hrl k ⋯,I2.la,hb];simp only[Rm.cJ];exact s.symm
     .have tl:t∉lh::ex:=(st k3 jW Ah).fresh VX;have uN:=g4 _ _ jW;have Ky:=mX.same g4;refine⟨_,rfl,_,rfl,ll,_,_,i,rfl,rfl,uN,uz ⋯ (by rw[lx3];lia),?_⟩;have k5:=Keep.upd ll H4 (.lst (wR.set i (.ref t)));refine⟨_,L3.set i m,wR.set i (.ref t),rfl,(k3.trans (Keep.same g4)).trans k5,k5 _ _ hne (g4 _ _ Ah),aD,(cC.set tl h4 i Ky).keep hm k5,by rw[nq];exact Ls,λj hj=>?_,λj hj hj'=>?_⟩
      .rw[yE _ ⋯,if_neg ⋯];exact eq3 j ⋯
      .rw[yE _ ⋯];by_cases ej:j=i
       .rw[if_pos ej,ej,lm,wi];exact⟨rfl,λk hk=>hmm k ⋯⟩
       .rw[if_neg ej];exact EW j ⋯ hj'
   .rintro σ' H3 ⟨o8,L3,wR,rfl,k3,Ah,jW,mX,Ls,eq3,EW⟩;rw[cM]at eq3 EW;have aBB:=mX;obtain⟨tr,r1,r2,r3⟩:=mX.get (⋯:r<L3.length);rw[eq3 r (.inr rfl)]at r3;have wr:=I2.wd r hrl;refine⟨_,rfl,_,rfl,_,.ref tr,.inl (aA.of jW),qx r rfl r1,_,rfl,_,_,.inl (aA.of r3),dN (ns:=Dm.ln L2 r) (⋯:(0:Int)<=0+(c:Int)) ⋯,?_⟩;refine⟨_,rfl,.inl ⟨rfl,_,aA.of Ah⟩,_,rfl,lh,_,_,rfl,rfl,Ah,by rw[lh1];exact dW ⋯,?_⟩;have I3:=I2.free hD mY hrl hp Ls (eq3 r (.inr rfl)) λj hj hj'=>EW j hj hj';have ec:(0+(c:Int)).toNat=c:=⋯;refine⟨some (.int (0+(c:Int))),some (.int r),some (.int a),o8,A2,Dm.more hd r c,r+1,L3,Pm.co (Dm.ln L2 r) c,wR,?_,λx v nx hv=>?_,?_,?_,?_,I3⟩
    .rw[ec];rfl
    .by_cases z:x=lh
     .rw[z,CT]at hv;cases hv
     .rw[cW z];exact k3 _ _ nx hv
    .rw[aD,Pm.Ef,Lq];have e1:(Pm.aq r λh=>((Dm.more hd r c h:Nat):Int))=Pm.aq r λh=>((hd h:Nat):Int):=uE λh hh=>by
      have:=gF.mp hh;unfold Dm.more;rw[if_neg ⋯]
     have e2:((Dm.more hd r c r:Nat):Int)=0+(c:Int):=by unfold Dm.more;rw[if_pos rfl];lia
     rw[e1,e2]
    .rw[cW hne.symm];exact jW
    .exact mX.keep hml (Keep.upd lh H3 _)
  ·-- none
   refine⟨_,rfl,_,rfl,?_⟩;rw[decide_eq_true rfl];exact bU ⟨_,_,_,_,A,hd,r,L1,last,xs1,rfl,k1,hH1,hL1,hx1,I.skip hD mY λi h1 h2=>hz i h1 ⋯⟩
 .rintro σ' H1 ⟨o5,o6,o7,o8,A,hd,r,L1,last,xs1,rfl,k1,hH1,hL1,hx1,I⟩;rw[cM]at I;refine⟨_,rfl,_,rfl,(by show 2<=sizeLine;decide),λt ht=>?_⟩;have kt:=Same.new ht (.tup [.ref lh,.int last]);exact q t lh A hd r L1 last xs1 _ (k1.trans (Keep.same kt)) aD (kt _ _ hH1) (kt _ _ hL1) ((hx1.less λa ha=>jZ _ ha).same kt) I
theorem alx(F:Fn K mg "common_divisor" Qq ["one","other"]):agw P w K mg base:=by
 refine F.cal Br λH Q E hr h=>?_
 obtain⟨x,y,rfl,q⟩:=h;refine⟨_,(au (aN 2 Br.nd (lu OG rfl B.Oq boot_abs (aj (pv 0) ak))) (au (aN 3 Br.nd (lu OG rfl B.Oq boot_abs (aj (pv 1) ak))) (au (sW PassesOwn.never (bI nZ (pv 3) ao) (au (aN 4 Br.nd (aF eG (pv 2) (pv 3))) (au (aN 2 Br.nd (pv 3)) (aC (aN 3 Br.nd (pv 4)))))) (aC (aP (pv 2)))))),?_⟩;refine⟨_,rfl,x,rfl,?_⟩;refine⟨_,rfl,y,rfl,?_⟩;rw[Tt,Tt];refine⟨λt σ' H'=>yu λ(g w:Nat) (o4:Option V)=>Hr (w=t) (oJ g w=oJ x.natAbs y.natAbs) (σ'=[some (.int x),some (.int y),some (.int g),some (.int w),o4]) (H=H'),⟨_,x.natAbs,y.natAbs,_,rfl,rfl,rfl,rfl⟩,?_⟩;rintro t σ' H' ⟨g,w,o4,rfl,hg,rfl,rfl⟩;refine⟨_,rfl,_,_,rfl,rfl,_,rfl,?_⟩;refine cX (λc=>?_) (λc=>?_)
 .have hw:0<w:=by have:=dec_true c;lia
  refine⟨_,λ_ _ z=>z,?_⟩;refine⟨_,rfl,_,rfl,_,_,rfl,rfl,(⋯:(0:Int)<(w:Int)),?_⟩;refine⟨_,rfl,?_⟩;refine⟨_,rfl,?_⟩;refine⟨g%w,Nat.mod_lt _ hw,w,g%w,some (.int ((g%w:Nat):Int)),rfl,?_,?_,rfl⟩
  .rw[<-hg,Yo w,<-Nat.gcd_rec,Yo]
  .rw[qD];rfl
 .have hw:w=0:=by have:=dec_false c;lia
  subst hw;rw[Nat.gcd_zero_right]at hg;rw[<-hg]at q;exact⟨_,rfl,q⟩
theorem asF(F:Fn K mg "lowest" QF ["by","bottom","tops"])(pI:Du P w K mg base)(Rg:agw P w K mg base):V7 P w K mg base:=by
 refine F.cal CD λH Q E hr h=>?_
 obtain⟨b,bt,l,ts,rfl,hB,n0,nt,hL,hz,bb,q⟩:=h;refine⟨_,(au (cO (bI (vo K hr) (pv 0) ao) (aC (aP (lX (cY ao (aM (fD (sc:=aun) (N:=["top","bottom","by"]) (ix:=[none,some 1,some 0]) dJ rfl (j7 K (pv 2)) (λ_ _ _ _ _=>⟨(bJ 0 dz),dM,(aG pI hr (aj (pv 2) (aj (pv 0) (aj (pv 1) ak))))⟩)) ak))))) cR) (au (fL (i:=4) CD.nd rfl (dX rfl) (lu OG rfl B.Oq boot_abs (aj (pv 1) ak))) (au (jj PassesOwn.never rfl (j7 K (pv 2)) (bJ 3 CD.nd) (aC (fL (i:=4) CD.nd rfl (dX rfl) (aG Rg hr (aj (pv 4) (aj (pv 3) ak)))))) (au (uV (cO (bI rD (pv 1) ao) (aC (fL (i:=4) CD.nd rfl (dX rfl) (aF cV ao (pv 4)))) cR)) (aC (aP (lX (cQ (aF (Sv hr) (pv 1) (pv 4)) (aM (fD (sc:=auX) (N:=["top","divisor"]) (ix:=[none,some 4]) dJ rfl (j7 K (pv 2)) (λ_ _ _ _ _=>⟨(bJ 0 dz),dM,(aF (Sv hr) (pv 0) (pv 1))⟩)) ak))))))))),?_⟩;refine⟨_,rfl,_,rfl,?_⟩;rcases hB with rfl|⟨P',hP,rfl⟩
 .rw[decide_eq_true rfl];refine bU ?_;refine⟨_,rfl,bt,rfl,?_⟩;rw[Tt];refine⟨_,rfl,l,rfl,.inl ⟨⟨_,aA.of hL⟩,?_⟩⟩;refine aiw (Jf (aA.of hL)) (λi σ' H'=>∃o3,σ'=[some (.int 0),some (.int bt),some (.ref l),o3,some (.int (Lm.f9 bt.natAbs (ts.take i):Nat))]/\H=H') ⟨_,rfl,rfl⟩ (λi σ' H' ⟨_,_,z⟩=>z▸Same.refl _) ?_ ?_
  .rintro i x σ' H' hx ⟨o3,rfl,rfl⟩;obtain⟨rfl,hi⟩:=yX hx;refine⟨_,rfl,_,rfl,_,_,rfl,some (.int (Pm.co ts i)),?_,rfl⟩;rw[UO (xs:=ts) (n:=i+1) ⋯ ⋯,fu,Lm.ai0,C6];rfl
  rintro σ' H' ⟨o3,rfl,rfl⟩;rw[aK,wL];refine u6.by (λσ' H'=>σ'=[some (.int 0),some (.int bt),some (.ref l),o3,some (.int (Lm.low bt ts))]/\H=H') (λNN oG=>?_) ?_
  .refine⟨_,rfl,_,_,rfl,rfl,_,rfl,?_⟩;refine cX (λc=>?_) (λc=>?_)
   .refine⟨_,rfl,_,_,rfl,rfl,oG _ _ ⟨?_,rfl⟩⟩;unfold Lm.low;rw[if_pos (dec_true c)];rfl
   .refine oG _ _ ⟨?_,rfl⟩;unfold Lm.low;rw[if_neg (dec_false c)]
  .rintro _ _ ⟨rfl,rfl⟩;have afR:=amb (ts:=ts) n0 bb;have hne:=Lm.low_ne n0 ts;refine⟨_,rfl,_,rfl,_,_,rfl,rfl,⟨hne,afR⟩,?_⟩;refine⟨_,rfl,l,rfl,.inl ⟨⟨_,aA.of hL⟩,?_⟩⟩;refine wV hL ⋯ rfl (λt=>t.fdiv (Lm.low bt ts)) ?_ ?_
   .intro H2 x g2 hx k hk;exact⟨_,rfl,_,rfl,_,_,rfl,rfl,⟨hne,afR⟩,hk⟩
   .intro D hD;have gD:=Same.new hD (.lst ((ts.map λt=>t.fdiv (Lm.low bt ts)).map V.int));refine⟨(by show 2<=sizeLine;decide),λt ht=>?_⟩;have gt:=Same.new ht (.tup [.int (bt.fdiv (Lm.low bt ts)),.ref D]);exact q t D _ _ _ (gD.trans gt) aD (gt _ _ aD) hD ⟨λP e h=>by have:=(vf P h).1;lia,λ_=>⟨rfl,rfl⟩,aK _⟩
 .have hr2:=vf P' hP;rw[decide_eq_false (⋯:¬(P':Int)=0)];refine iM ?_;have eX:∀n,Rm.tk (P':Int) n=n%(P':Int):=λn=>Rm.iz ⋯ n;have b0:0<bt/\bt<(P':Int):=by
   rw[eX]at nt;have h1:=oM bt (⋯:(P':Int)≠0);have h2:=oH bt (⋯:(0:Int)<(P':Int));lia
  refine⟨_,rfl,l,rfl,.inl ⟨⟨_,aA.of hL⟩,?_⟩⟩;refine wV hL ⋯ rfl (λt=>t*bt^(P'-2)%(P':Int)) ?_ ?_
  .intro H2 x g2 hx k hk;exact⟨_,rfl,_,rfl,_,rfl,P',x,bt,rfl,Q6 hP,⋯,b0.1,b0.2,hk⟩
  .intro D hD;have gD:=Same.new hD (.lst ((ts.map λt=>t*bt^(P'-2)%(P':Int)).map V.int));refine⟨(by show 2<=sizeLine;decide),λt ht=>?_⟩;have gt:=Same.new ht (.tup [.int 1,.ref D]);refine q t D _ _ _ (gD.trans gt) aD (gt _ _ aD) hD ⟨λP e h=>?_,λz=>⋯,aK _⟩;have e':P'=P:=⋯;subst e';exact⟨rfl,rfl⟩
theorem al4(F:Fn K mg "free_numbers" Wk ["by","wide","lines","heads","last"])(cF:jU P w K mg base)(zR:V7 P w K mg base):acP P w K mg base:=by
 refine F.cal KH λH Q E hr h=>?_
 obtain⟨u,b,wide,r,n,last,ll,lh,xs,L,hd,A0,A,ex,rfl,hB,hL,hx,hH,I,hw,hsz,hn,hrw,q⟩:=h;refine⟨_,(au (aN 5 KH.nd (aO K (fD (sc:=arO) (N:=["k","heads"]) (ix:=[none,some 3]) dJ rfl (fK rfl B.dG (aj (pv 1) ak)) (λ_ _ _ _ _=>⟨(bJ 0 dz),(ao1 (YB (aoX K hr) (pv 0) (pv 1) (by with_unfolding_all rfl))),(pv 0)⟩)) ao)) (au (aN 6 KH.nd (aF v_mul (jc (cY ao ak)) (pv 1))) (au (pZ (pv 4) (uI (pv 6) (pv 5) set_list)) (au (jj PassesOwn.never rfl (fK rfl B.dG (aM (bY K B.bV (aj (pv 3) ak)) ak)) (bJ 7 KH.nd) (aC (pZ (aG cF hr (aj (pv 0) (cQ (aF cV ao (aO K (aO K (pv 2) (pv 7)) (pv 5))) ak))) (uI (pv 6) (aO K (pv 3) (pv 7)) set_list)))) (aC (aP (aO K (aG zR hr (aj (pv 0) (aj (pv 4) (aj (pv 6) ak)))) ao))))))),?_⟩;obtain⟨k0,hk0,hk1⟩:=I.aqe hrw;obtain⟨hb0,hb1,_⟩:=hB.range;have hrl:=I.rn;have hLn:=I.len;have hhd:=I.hc;have Fl:=I.wd;have lx:=hx.len;have lH:(Pm.aq r λh=>((hd h:Nat):Int)).length=r:=Pm.aQ ..;refine⟨_,rfl,wide,rfl,(⋯:-(2^62)<=(wide:Int)),(⋯:(wide:Int)<2^62),?_⟩;rw[cM];refine akq (n:=wide) ⋯ rfl (λ(k:Nat)=>!(Pm.aq r λh=>((hd h:Nat):Int)).any (wu (.int (0+(k:Int))))) (λk=>(0+(k:Int))) ?_ ?_ ?_
 .intro H2 k g2 hk kk hkk;exact⟨_,rfl,_,rfl,lh,_,"int",rfl,aA.of (g2 _ _ hH),rfl,_,rfl,hkk⟩
 .intro H2 k g2 hk _ kk hkk;exact⟨_,rfl,hkk⟩
 intro D hD;obtain⟨c,rest,hc⟩:∃c,∃rest,(d7 wide).filter (λ(k:Nat)=>!(Pm.aq r λh=>((hd h:Nat):Int)).any (wu (.int (0+(k:Int)))))=c::rest:=by
  refine List.exists_cons_of_ne_nil λz=>?_;have m:k0∈(d7 wide).filter (λ(k:Nat)=>!(Pm.aq r λh=>((hd h:Nat):Int)).any (wu (.int (0+(k:Int))))):=by
   refine rF.mpr ⟨gF.mpr hk0,?_⟩;rw[Kl,Qe];intro x hx;obtain⟨h,hh,rfl⟩:=Pm.gK hx;show ¬((((hd h:Nat):Int)==0+(k0:Int))=true);have:=hk1 h hh;simp;lia
  rw[z]at m;cases m
 have mc:c∈(d7 wide).filter (λ(k:Nat)=>!(Pm.aq r λh=>((hd h:Nat):Int)).any (wu (.int (0+(k:Int))))):=by rw[hc];exact mC ..
 have hcw:c<wide:=gF.mp (rF.mp mc).1;have hcf:∀j,j<r->hd j≠c:=λj hj e=>by
  have z:=(rF.mp mc).2;rw[Kl,Qe]at z;refine z ((hd j:Nat):Int) (fQ.mpr ⟨j,gF.mpr hj,rfl⟩) ?_;show((((hd j:Nat):Int)==0+(c:Int))=true);rw[e];simp
 rw[hc];have gD:=Same.new hD (.lst (((c::rest).map λ(k:Nat)=>(0+(k:Int))).map V.int));refine⟨_,.int (0+(c:Int)),.inl (aA.of aD),qx 0 rfl rfl,?_⟩;rw[(⋯:(0+(c:Int))=(c:Int))];generalize upd H D (.lst (((c::rest).map λ(k:Nat)=>(0+(k:Int))).map V.int))=H1 at gD;refine⟨(by show 1<=sizeLine;decide),λl1 hl1=>?_⟩;have g1:=Same.new hl1 (.lst [.int 0]);have h1:(upd H1 l1 (.lst [.int 0])) l1=some (.lst [.int 0]):=aD;generalize upd H1 l1 (.lst [.int 0])=H2 at g1 h1;refine⟨_,rfl,_,h1,⋯,⋯,?_,λl2 hl2=>?_⟩
 .show 1*(wide:Int).toNat<=sizeLine;rw[oA];exact fj (dW ⋯)
 rw[cM,Bx];have g2:=Same.new hl2 (.lst ((Pm.aq wide λ_=>0).map V.int));have h2:(upd H2 l2 (.lst ((Pm.aq wide λ_=>0).map V.int))) l2=some (.lst ((Pm.aq wide λ_=>0).map V.int)):=aD;have gg:=gD.trans (g1.trans g2);have f2:H l2=none:=(gD.trans g1).free hl2;generalize upd H2 l2 (.lst ((Pm.aq wide λ_=>0).map V.int))=H3 at g2 h2 gg;refine⟨_,rfl,_,rfl,_,rfl,l2,_,_,c,rfl,rfl,h2,uz rfl (by rw[aK,Pm.aQ];exact hcw),?_⟩;rw[Bu];have e0:=Dm.ama (λi=>Rm.tk b (0-Pm.co (Dm.ln L i) c)) hd last hcw;rw[e0];have gu:=gg.upd f2 (.lst ((Dm.lQ (λi=>Rm.tk b (0-Pm.co (Dm.ln L i) c)) hd wide c last 0).map V.int));have hu:(upd H3 l2 (.lst ((Dm.lQ (λi=>Rm.tk b (0-Pm.co (Dm.ln L i) c)) hd wide c last 0).map V.int))) l2=some (.lst ((Dm.lQ (λi=>Rm.tk b (0-Pm.co (Dm.ln L i) c)) hd wide c last 0).map V.int)):=aD;generalize upd H3 l2 (.lst ((Dm.lQ (λi=>Rm.tk b (0-Pm.co (Dm.ln L i) c)) hd wide c last 0).map V.int))=H4 at gu hu;refine⟨_,rfl,.ref lh,r,rfl,.inl ⟨_,aA.of (gu _ _ hH),by rw[aK,lH]⟩,?_⟩;refine⟨(r:Int),rfl,(⋯:-(2^62)<=(r:Int)),(⋯:(r:Int)<2^62),?_⟩;rw[cM];refine j8 (lo:=0) (n:=r) (λi σ' H'=>∃(o7:Option V),σ'=[some (.int b),some (.int wide),some (.ref ll),some (.ref lh),some (.int last),some (.int c),some (.ref l2),o7]/\Same H H'/\H' l2=some (.lst ((Dm.lQ (λi=>Rm.tk b (0-Pm.co (Dm.ln L i) c)) hd wide c last i).map V.int))) ⟨_,rfl,gu,hu⟩ ?_ ?_
 .rintro i σ' H' hi' ⟨o7,rfl,g,hU⟩;obtain⟨t,e1,_,e2⟩:=(hx.same g).get (i:=i) ⋯;have hwi:=Fl i ⋯;refine⟨_,rfl,_,rfl,_,rfl,_,.ref t,.inl (aA.of (g _ _ hL)),qx i ⋯ e1,_,rfl,_,_,.inl (aA.of e2),dN (ns:=Dm.ln L i) (⋯:(0:Int)<=(c:Int)) ⋯,_,_,rfl,rfl,b,_,rfl,hb0,?_⟩;refine⟨_,rfl,_,rfl,_,rfl,_,_,.inl (aA.of (g _ _ hH)),dN (ns:=Pm.aq r λh=>((hd h:Nat):Int)) (⋯:(0:Int)<=0+(i:Int)) (by rw[lH];lia),?_⟩;have eh:(Pm.aq r λh=>((hd h:Nat):Int)).getD (0+(i:Int)).toNat 0=((hd i:Nat):Int):=by
   rw[(⋯:(0+(i:Int)).toNat=i)];have:=Pm.bZ r (λh=>((hd h:Nat):Int)) i;rw[if_pos hi']at this;exact this
  rw[eh];have hh:=hhd i hi';refine⟨l2,_,_,hd i,rfl,rfl,hU,uz rfl (by rw[aK,Dm.yN];exact hh),?_⟩;rw[Bu];refine⟨_,rfl,g.upd f2 _,?_⟩;rw[aD,cM];have st:=Dm.auO (E:=λi=>Rm.tk b (0-Pm.co (Dm.ln L i) c)) (wide:=wide) (last:=last) hh (hcf i hi') (λh h2 e=>by have:=I.up h i h2 hi';lia);exact congrArg (λz=>some (HO.lst (jO V.int z))) st
 .rintro σ' H' ⟨o7,rfl,g,hU⟩;have hf2:H l2=none:=f2;refine⟨_,rfl,_,rfl,_,rfl,b,last,l2,_,rfl,hB,I.kJ.1,I.kJ.2,hU,by rw[Dm.yN];lia,(hsz.2 _ _ _ _ _ _ ⋯ I).1,λt lt bot us H5 g5 ht hlt fr low=>?_⟩;refine⟨_,_,.inr (aB.of ht),rfl,q lt _ H5 (g.trans g5) hlt (g.free fr) ⟨A,hd,r,L,last,c,bot,I,hcw,hcf,λk hk=>?_,low⟩⟩;have z:=am7 hc k hk;rw[Bool.not_eq_false',BK]at z;obtain⟨x,hx1,hx2⟩:=z;obtain⟨j,hj,rfl⟩:=Pm.gK hx1;refine⟨j,hj,?_⟩;have mX:((((hd j:Nat):Int)==0+(k:Int))=true):=hx2;simp at mX;lia
theorem ani(F:Fn K mg "solution" Rh ["by","wide","table","wished"])(QX:ahs P w K mg base)(Vc:ahx P w K mg base)(zR:V7 P w K mg base)(Qj:acP P w K mg base):adW P w K mg base:=by
 refine F.cal wI λH Q E hr h=>?_
 obtain⟨u,b,wide,ta,tw,xs,L,ws,ex,rfl,hB,hT,hx,hW,lw,hn,hw,hsz,Fl,bL,bW,qn,qo,qm⟩:=h;refine⟨_,(au (yS (i:=4) (hN:=wI.nd) (hi':=rfl) (hx:=(pO rfl)) (sc:=arJ) (N:=["i","by","table","wished"]) (ix:=[none,some 0,some 2,some 3]) dJ rfl (fK rfl B.dG (aM (bY K B.bV (aj (pv 2) ak)) ak)) (λ_ _ _ _ _=>⟨(bJ 0 dz),dM,(aG QX hr (aj (pv 1) (cQ (pad K (aO K (pv 2) (pv 0)) (jc (aM (aO K (pv 3) (pv 0)) ak))) ak)))⟩)) (au (aN 6 wI.nd (aG Vc hr (aj (pv 0) (aj (pv 1) (aj (pv 4) ak))))) (au (aN 7 wI.nd (aO K (pv 6) ao)) (au (aN 8 wI.nd (aO K (pv 6) ao)) (au (cO (zf (lu (asI K rfl) rfl B.akv boot_any (aM (fD (sc:=aob) (N:=["line","wide"]) (ix:=[none,some 1]) dJ rfl (j7 K (rN (rQ K) (pv 4) (tO (bY K B.bV (aj (pv 7) ak))) rW)) (λ_ _ _ _ _=>⟨(bJ 0 dz),dM,(V0 (vo K hr) (aO K (pv 0) (pv 1)) ao (Ku _))⟩)) ak))) (aC (aP J3)) cR) (au (aN 9 wI.nd (aF v_mul (jc (cY ao ak)) (pv 1))) (au (jj PassesOwn.never rfl (fK rfl B.dG (aM (bY K B.bV (aj (pv 7) ak)) ak)) (bJ 5 wI.nd) (aC (pZ (aO K (aO K (pv 4) (pv 5)) (pv 1)) (uI (pv 9) (aO K (pv 7) (pv 5)) set_list)))) (au (aN 10 wI.nd (aG zR hr (aj (pv 0) (aj (pv 8) (aj (pv 9) ak))))) (au (cO (bI (d8 K hr) (bY K B.bV (aj (pv 7) ak)) (pv 1)) (aC (aP (lX (cY Dd (aM (aO K (pv 10) ao) (aM (aO K (pv 10) ao) ak)))))) cR) (aC (aP (lX (cY Dd (aM (aO K (pv 10) ao) (aM (aO K (pv 10) ao) (aM (aG Qj hr (aj (pv 0) (aj (pv 1) (aj (pv 4) (aj (pv 7) (aj (pv 8) ak)))))) ak)))))))))))))))),?_⟩;have hDm:=hB.dom;obtain⟨hb0,hb1,hb2⟩:=hB.range;have lx:=hx.len;have lWm:(ws.map V.int).length=ws.length:=aK _;refine⟨_,rfl,.ref ta,L.length,rfl,.inl ⟨_,aA.of hT,⋯⟩,?_⟩;refine⟨(L.length:Int),rfl,(⋯:-(2^62)<=(L.length:Int)),(⋯:(L.length:Int)<2^62),?_⟩;rw[cM];refine air DC (by rw[aK,pK];lia) rfl (aae λi=>(Dm.ln L i++[Pm.co ws i]).map (Rm.tk b)) ?_ ?_
 .intro H2 x g2 hx2 k hk;obtain⟨j,hj,rfl⟩:=fQ.mp hx2;have hj':=gF.mp hj;obtain⟨t,e1,_,e2⟩:=(hx.same g2).get (i:=j) hj';refine⟨_,rfl,_,rfl,_,rfl,_,.ref t,.inl (aA.of (g2 _ _ hT)),qx j ⋯ e1,?_⟩;refine⟨_,rfl,_,rfl,_,_,.inl (aA.of (g2 _ _ hW)),dN (ns:=ws) (⋯:(0:Int)<=0+(j:Int)) ⋯,(by show 1<=sizeLine;decide),λl1 hl1=>?_⟩;have ej:(0+(j:Int)).toNat=j:=⋯;rw[ej];have g3:=Same.new hl1 (.lst [.int (ws.getD j 0)]);have h1:(upd H2 l1 (.lst [.int (ws.getD j 0)])) l1=some (.lst [.int (ws.getD j 0)]):=aD;have e3:=g3 _ _ e2;generalize upd H2 l1 (.lst [.int (ws.getD j 0)])=H3 at g3 h1 e3;refine .inl ⟨_,_,e3,h1,?_,λl2 hl2=>?_⟩
  .rw[aK,Fl j hj'];exact fj (dW (by show wide+1<=1000;lia))
  have g4:=Same.new hl2 (.lst ((Dm.ln L j).map V.int++[.int (ws.getD j 0)]));refine⟨b,l2,Dm.ln L j++[Pm.co ws j],rfl,hb0,by rw[aD,jo];rfl,by rw[gW,Fl j hj'];show wide+1<=1000;lia,λt' H5 g5 hn5 h5=>?_⟩;refine hk t' H5 ((g3.trans g4).trans g5) ((g3.trans g4).free hn5) ?_;show H5 t'=some (.lst (((Dm.ln L (0+(j:Int)).toNat++[Pm.co ws (0+(j:Int)).toNat]).map (Rm.tk b)).map V.int));rw[ej];exact h5
 intro D ys H1 hD g1 hD1 hy;rw[ahR]at hy;have ly:=hy.len;rw[Dm.xO]at ly;have axB:∀i k,Rm.Bd u (Dm.aug b L ws i k):=λi k=>by
  by_cases hi:i<L.length
  .unfold Dm.aug;rw[Dm.CV hi,Pm.jF (Pm.tk0 b)];refine Rm.tE hb0 ((Rm.Bd.of (n:=10) ⋯ ⋯).mono hsz.1) (Pm.gk (λx hx=>?_) k);rcases qT.mp hx with hx|hx
   .exact bL _ (ata hi) x hx
   .rw[oW.mp hx];exact Pm.gk bW i
  .have e:Dm.ln (Dm.qP b L ws) i=[]:=by
    unfold Dm.ln;rw[List.getD_eq_getElem?_getD,List.getElem?_eq_none (by rw[Dm.xO];lia)];rfl
   unfold Dm.aug;rw[e,Pm.gP];exact Rm.Bd.zero _
 refine⟨_,rfl,_,rfl,_,rfl,b,wide,D,ys,Dm.qP b L ws,wide+1,u,[D],rfl,hB,hD1,hy,oW.mpr rfl,(λa' ha=>by rw[oW.mp ha];exact⟨_,hD1⟩),⋯,⋯,by rw[Dm.xO];lia,by rw[Dm.xO];exact hsz.2,λi hi=>?_,λi k=>Dm.apL i k,λi k=>axB i k,λt th A hd r L' last xs' H2 k2 hTt hTh hL' hx' I=>?_⟩
 .rw[Dm.xO]at hi;rw[Dm.CV hi,aK,gW,Fl i hi];rfl
 rw[Dm.xO]at I;have gS:Same H H2:=λc u hu=>k2 _ _ (λz=>by rw[z,hD]at hu;cases hu) (g1 _ _ hu);have lh:((Pm.aq r λh=>((hd h:Nat):Int)).map V.int).length=r:=by rw[aK,Pm.aQ]
 have lh0:(Pm.aq r λh=>((hd h:Nat):Int)).length=r:=Pm.aQ ..;have lx':=hx'.len;have YD:=I.len;have hrn:=I.rn;refine⟨_,rfl,_,_,.inr (aB.of hTt),rfl,?_⟩;refine⟨_,rfl,_,_,.inr (aB.of hTt),rfl,?_⟩;refine⟨_,rfl,_,rfl,.ref th,r,rfl,.inl ⟨_,aA.of hTh,lh.symm⟩,_,rfl,.inl ⟨_,aA.of hL',λps hps=>?_⟩⟩;rw[Xc xs' ⋯];have gp:=Same.new hps (.lst (xs'.drop r));have hp3:(upd H2 ps (.lst (xs'.drop r))) ps=some (.lst (xs'.drop r)):=aD;have mX:=(cC.drop r hx').same gp;generalize upd H2 ps (.lst (xs'.drop r))=H3 at gp hp3 mX;refine⟨ps,rfl,.inl ⟨⟨_,aA.of hp3⟩,?_⟩⟩;refine apa hp3 mX (by rw[yC];lia) rfl (λp=> .bl (not (decide (p.getD wide 0=0)))) ?_ ?_
 .intro H4 t p g4 hp hT4 k hk;obtain⟨i,h1,h2,rfl⟩:=af0 hp;have:=I.wd i ⋯;refine⟨_,rfl,_,rfl,_,_,.inl (aA.of hT4),dN (ns:=Dm.ln L' i) (⋯:(0:Int)<=(wide:Int)) ⋯,?_⟩;rw[cM];exact hk _ (Same.refl _)
 intro D2 H4 hD2 g4 Lg;have gg:=(gS.trans gp).trans g4;have hbs:((L'.drop r).map λp=>V.bl (not (decide (p.getD wide 0=0))))=((L'.drop r).map λp=>not (decide (p.getD wide 0=0))).map V.bl:=by rw[gh];rfl
 rw[hbs]at Lg;refine⟨D2,_,rfl,aA.of Lg,_,rfl,?_⟩;refine cX (λc=>?_) (λc=>?_)
 .obtain⟨x,hx1,hx2⟩:=BK.mp c;obtain⟨p,hp,rfl⟩:=fQ.mp hx1;obtain⟨i,h1,h2,rfl⟩:=af0 hp;have hne:Rm.tk b (Dm.En A hd r i wide)≠0:=by
   rw[<-I.en i wide ⋯ ⋯];intro z;have z':(Dm.ln L' i).getD wide 0=0:=z;rw[decide_eq_true z']at hx2;cases hx2
  exact qn (λx bt hb hxs=>hne (I.azg hDm hb hxs i h1 ⋯)) (I.against h1 ⋯ hne) _ gg
 have hz:∀i,r<=i->i<L.length->Rm.tk b (Dm.En A hd r i wide)=0:=λi h1 h2=>by
  rw[<-I.en i wide ⋯ ⋯];by_cases z:Pm.co (Dm.ln L' i) wide=0
  .exact z
  .refine absurd (BK.mpr ⟨true,fQ.mpr ⟨_,ayT h1 ⋯,?_⟩,rfl⟩) c;have z':¬(Dm.ln L' i).getD wide 0=0:=z;rw[decide_eq_false z'];rfl
 have uN:=g4 _ _ (gp _ _ hL');have Ky:=(hx'.same gp).same g4;have LV:=g4 _ _ (gp _ _ hTh);refine⟨(by show 1<=sizeLine;decide),λl1 hl1=>?_⟩;have g5:=Same.new hl1 (.lst [.int 0]);have h1:(upd H4 l1 (.lst [.int 0])) l1=some (.lst [.int 0]):=aD;generalize upd H4 l1 (.lst [.int 0])=H5 at g5 h1;refine⟨_,rfl,_,h1,⋯,⋯,?_,λl2 hl2=>?_⟩
 .show 1*(wide:Int).toNat<=sizeLine;rw[oA];exact fj (dW ⋯)
 rw[cM,Bx];have g6:=Same.new hl2 (.lst ((Pm.aq wide λ_=>0).map V.int));have h2:(upd H5 l2 (.lst ((Pm.aq wide λ_=>0).map V.int))) l2=some (.lst ((Dm.rM (λh=>Rm.tk b (Dm.En A hd r h wide)) hd wide 0).map V.int)):=by rw[aD,Dm.ah9]
 have pq:=g5.trans g6;have f2:H4 l2=none:=g5.free hl2;generalize upd H5 l2 (.lst ((Pm.aq wide λ_=>0).map V.int))=H6 at g6 h2 pq;refine⟨_,rfl,.ref th,r,rfl,.inl ⟨_,aA.of (pq _ _ LV),lh.symm⟩,?_⟩;refine⟨(r:Int),rfl,(⋯:-(2^62)<=(r:Int)),(⋯:(r:Int)<2^62),?_⟩;refine j8 (lo:=0) (n:=(r:Int).toNat) (λi σ' H'=>∃(o5:Option V),σ'=[some (.int b),some (.int wide),some (.ref ta),some (.ref tw),some (.ref D),o5,some (.ref t),some (.ref th),some (.int last),some (.ref l2),none]/\Same H4 H'/\H' l2=some (.lst ((Dm.rM (λh=>Rm.tk b (Dm.En A hd r h wide)) hd wide i).map V.int))) ⟨_,rfl,pq,h2⟩ ?_ ?_
 .rintro i σ' H' hi ⟨o5,rfl,g,hU⟩;have hi':i<r:=⋯;obtain⟨t4,e1,_,e2⟩:=(Ky.same g).get (i:=i) ⋯;have hwi:=I.wd i ⋯;refine⟨_,rfl,_,rfl,_,.ref t4,.inl (aA.of (g _ _ uN)),qx i ⋯ e1,_,rfl,_,_,.inl (aA.of e2),dN (ns:=Dm.ln L' i) (⋯:(0:Int)<=(wide:Int)) ⋯,?_⟩;refine⟨_,rfl,_,rfl,_,rfl,_,_,.inl (aA.of (g _ _ LV)),dN (ns:=Pm.aq r λh=>((hd h:Nat):Int)) (⋯:(0:Int)<=0+(i:Int)) (by rw[lh0];lia),?_⟩;have eh:(Pm.aq r λh=>((hd h:Nat):Int)).getD (0+(i:Int)).toNat 0=((hd i:Nat):Int):=by
   rw[(⋯:(0+(i:Int)).toNat=i)];have:=Pm.bZ r (λh=>((hd h:Nat):Int)) i;rw[if_pos hi']at this;exact this
  rw[eh,cM];have hc:=I.hc i hi';refine⟨l2,_,_,hd i,rfl,rfl,hU,uz rfl (by rw[aK,Dm.AZ];exact hc),?_⟩;rw[Bu];refine⟨_,rfl,g.upd f2 _,?_⟩;have en:(Dm.ln L' i).getD wide 0=Rm.tk b (Dm.En A hd r i wide):=I.en i wide ⋯ ⋯;rw[aD,en,Dm.akc hc (λh hh e=>by have:=I.up h i hh hi';lia)]
 rintro σ' H7 ⟨o5,rfl,g7,hU⟩;rw[cM]at hU;refine⟨_,rfl,_,rfl,_,rfl,b,last,l2,_,rfl,hB,I.kJ.1,I.kJ.2,hU,by rw[Dm.AZ];lia,(hsz.2 _ _ _ _ _ _ ⋯ I).1,λtl lt bot us H8 g8 htl hlt frl low=>?_⟩;have so:Dm.xu u b L.length wide (Dm.aug b L ws) bot us:=⟨A,hd,r,L',last,I,hz,low⟩;have acK:=g8 _ _ (g7 _ _ LV);have gA:=(gg.trans g7).trans g8;have fl:H lt=none:=(gg.trans g7).free frl;refine⟨_,rfl,.ref th,r,rfl,.inl ⟨_,aA.of acK,lh.symm⟩,_,rfl,_,rfl,?_⟩;refine cX (λc=>?_) (λc=>?_)
 .have c':r=wide:=by have:=dec_true c;lia
  refine⟨_,rfl,_,_,.inr (aB.of htl),rfl,_,rfl,_,_,.inr (aB.of htl),rfl,(by show 3<=sizeLine;decide),λt2 qN=>?_⟩;have g9:=Same.new qN (.tup [.str ("one" : Str),.int bot,.ref lt]);exact qo _ _ so (I.ind hDm c') t2 lt _ (gA.trans g9) aD (g9 _ _ hlt) fl
 .have c':r≠wide:=by have:=dec_false c;lia
  refine⟨_,rfl,_,_,.inr (aB.of htl),rfl,_,rfl,_,_,.inr (aB.of htl),rfl,?_⟩;refine⟨_,rfl,_,rfl,_,rfl,_,rfl,_,rfl,u,b,wide,r,L.length,last,D,th,xs',L',hd,Dm.aug b L ws,A,[D],rfl,hB,g8 _ _ (g7 _ _ uN),(Ky.same g7).same g8,acK,I,⋯,hsz,⋯,c',λlf fs H9 g9 Fe rZ hfo=>?_⟩;refine⟨(by show 4<=sizeLine;decide),λt2 qN=>?_⟩;have zX:=Same.new qN (.tup [.str ("many" : Str),.int bot,.ref lt,.ref lf]);exact qm _ _ fs so hfo t2 lt lf _ (gA.trans (g9.trans zX)) aD (zX _ _ (g9 _ _ hlt)) (zX _ _ Fe) fl (gA.free rZ) λz=>by rw[z,rZ]at hlt;cases hlt
theorem ajt(F:Fn K mg "lines_of" RZ ["known","size"]):ahl P w K mg base:=by
 refine F.cal RD λH Q E hr h=>?_
 obtain⟨ka,kn,size,rfl,hK,hs,hn,q⟩:=h;refine⟨_,(au (aN 2 RD.nd (jc ak)) (au (jj PassesOwn.never rfl (Bb rfl B.dG (aj (pv 1) (aM (bY K B.bV (aj (pv 0) ak)) ak))) (JR (i:=3) RD.nd rfl (dX rfl)) (aC (jm (rA K (pv 2) (fD (sc:=an4) (N:=["k","known","n"]) (ix:=[none,some 0,some 3]) dJ rfl (fK rfl B.dG (aj (pv 1) ak)) (λ_ _ _ _ _=>⟨(bJ 0 dz),dM,(aO K (pv 1) (aF cV (aF cV (pv 2) ao) (pv 0)))⟩)))))) (aC (aP (pv 2))))),?_⟩;have lK:(kn.map V.int).length=kn.length:=aK _;refine⟨dD _,λD hD=>?_⟩;have g0:=Same.new hD (.lst []);have h0:(upd H D (.lst [])) D=some (.lst []):=aD;generalize upd H D (.lst [])=H0 at g0 h0;refine⟨_,rfl,_,rfl,.ref ka,kn.length,rfl,.inl ⟨_,aA.of (g0 _ _ hK),lK.symm⟩,_,_,rfl,⟨(⋯:-(2^62)<=(size:Int)),(⋯:(size:Int)<2^62),(⋯:-(2^62)<=(kn.length:Int)),(⋯:(kn.length:Int)<2^62)⟩,?_⟩;rw[(⋯:((kn.length:Int)-(size:Int)).toNat=kn.length-size)];refine j8 (lo:=(size:Int)) (n:=kn.length-size) (λi σ' H'=>Ex2 λ(o3:Option V) (ys:List V)=>Hr (σ'=[some (.ref ka),some (.int size),some (.ref D),o3]) (Same H H') (H' D=some (.lst ys)) (cC H' [D] ys ((Dm.qj kn size).take i))) ⟨_,[],rfl,g0,h0,.nil⟩ ?_ ?_
 .rintro i σ' H1 hi ⟨o3,ys,rfl,g1,h1,hy⟩;have ly:=hy.len;rw[nT,Dm.EJ]at ly;refine⟨_,rfl,.inl ⟨rfl,_,aA.of h1⟩,?_⟩;refine⟨_,rfl,(size:Int),rfl,(⋯:-(2^62)<=(size:Int)),(⋯:(size:Int)<2^62),?_⟩;rw[cM];refine rT (n:=size) ⋯ rfl (λk=>Pm.co kn (size+i-1-k)) ?_ ?_
  .intro H2 k g2 hk kk hkk;have e1:(size:Int)+(i:Int)-1-(0+(k:Int))=((size+i-1-k:Nat):Int):=⋯;refine⟨_,rfl,_,rfl,_,_,rfl,rfl,_,rfl,_,_,rfl,rfl,_,_,.inl (aA.of (g2 _ _ (g1 _ _ hK))),dN (ns:=kn) (⋯:(0:Int)<=(size:Int)+(i:Int)-1-(0+(k:Int))) ⋯,?_⟩;rw[e1,cM];exact hkk
  intro t ht;obtain⟨p,hp⟩:∃p:List Int,p=Pm.aq size λk=>Pm.co kn (size+i-1-k):=⟨_,rfl⟩;have g2:=Same.new ht (.lst (p.map V.int));have h2:(upd H1 t (.lst (p.map V.int))) t=some (.lst (p.map V.int)):=aD;have hD2:=g2 _ _ h1;have hy2:=hy.same g2;have nt:t≠D:=λz=>by rw[z,h1]at ht;cases ht
  rw[<-hp];generalize upd H1 t (.lst (p.map V.int))=H2 at g2 h2 hD2 hy2;refine⟨D,_,_,rfl,rfl,hD2,dW ⋯,?_⟩;have ku:Keep D H2 (upd H2 D (.lst (ys++[.ref t]))):=λa u na ha=>by rw[cW na];exact ha
  refine⟨_,ys++[.ref t],rfl,(g1.trans g2).upd hD _,aD,?_⟩;have et:(Dm.qj kn size).take (i+1)=(Dm.qj kn size).take i++[p]:=by
   have:(Dm.qj kn size)[i]?=some p:=by rw[Dm.qj,List.getElem?_map,List.getElem?_range hi,hp];rfl
   rw[uP,this];rfl
  rw[et];exact(hy2.append (by simpa using nt) h2).keep (by simp) ku
 .rintro σ' H1 ⟨o3,ys,rfl,g1,h1,hy⟩;rw[yM (by rw[Dm.EJ];exact aR _)]at hy;exact⟨_,rfl,q D ys H1 hD g1 h1 hy⟩
theorem ahJ(F:Fn K mg "fit" Pn ["by","known","size"])(SY:adW P w K mg base)(SN:ahl P w K mg base):aaY P w K mg base:=by
 refine F.cal arU λH Q E hr h=>?_
 obtain⟨u,b,ka,kn,size,rfl,hB,hK,hs,hn,hsz,bK,q1,q2⟩:=h;refine⟨_,(aC (aP (aG SY hr (aj (pv 0) (aj (pv 2) (aM (aG SN hr (aj (pv 1) (aj (pv 2) ak))) (aM (rN (rQ K) (pv 1) (tO (pv 2)) rW) ak))))))),?_⟩;refine⟨_,rfl,_,rfl,_,rfl,_,rfl,ka,kn,size,rfl,hK,hs,⋯,λD ys H1 hD g1 h1 hy=>?_⟩;refine⟨_,rfl,_,rfl,size,rfl,.inl ⟨_,aA.of (g1 _ _ hK),λl2 hl2=>?_⟩⟩;have ec:gC (kn.map V.int) (some ((size:Nat):Int)) none=(kn.drop size).map V.int:=by
  have:=Xc (kn.map V.int) (k:=size) (by rw[aK];exact hs);rw[List.map_drop];exact this
 rw[ec];have g2:=Same.new hl2 (.lst ((kn.drop size).map V.int));have h2:(upd H1 l2 (.lst ((kn.drop size).map V.int))) l2=some (.lst ((kn.drop size).map V.int)):=aD;have h12:=g2 _ _ h1;have hy2:=hy.same g2;generalize upd H1 l2 (.lst ((kn.drop size).map V.int))=H2 at g2 h2 h12 hy2;have gA:=g1.trans g2;have fl:=Dm.EJ kn size;refine⟨u,b,size,D,l2,ys,Dm.qj kn size,kn.drop size,[D],rfl,hB,h12,hy2,h2,by rw[yC,fl],⋯,⋯,by rw[fl];exact hsz size hs,λi hi=>by rw[Dm.Im ⋯,Pm.aQ],λp hp x hx=>?_,λx hx=>bK x (List.mem_of_mem_drop hx),?_,?_,?_⟩
 .obtain⟨i,hi,rfl⟩:=fQ.mp hp;obtain⟨k,_,rfl⟩:=Pm.gK hx;exact Pm.gk bK _
 .rw[fl];exactλhno _ H3 g3=>q1 (λx bt hb hx=>hno x bt hb (Dm.J0.mpr hx)) H3 (gA.trans g3)
 .rw[fl];exactλbot us so hI t lt H3 g3 ht hlt fr=>q2 _ H3 (gA.trans g3) (.one so hI ht hlt (gA.free fr))
 .rw[fl];exactλbot us fs so fo t lt lf H3 g3 ht hlt Fe fr fr2 _=>q2 _ H3 (gA.trans g3) (.many so fo ht hlt Fe (gA.free fr) (gA.free fr2))
theorem aul(F:Fn K mg "fitted" Mp ["by","known"])(JZ:aaY P w K mg base):abt P w K mg base:=by
 refine F.cal uJ λH Q E hr h=>?_
 obtain⟨u,b,ka,kn,m,rfl,hB,hK,hn,hsz,bK,hm,⟨x0,c0,hc0,hx0⟩,hmin,q⟩:=h;refine⟨_,(au (aN 2 uJ.nd ao) (au (aN 3 uJ.nd (bY K B.bV (aj (pv 1) ak))) (au (aN 4 uJ.nd (zG (aG JZ hr (aj (pv 0) (aj (pv 1) (aj (pv 3) ak)))))) (au (sW PassesOwn.never (PW.pt (Hf (bI rD (pv 2) (pv 3)) (Lw (bI (d8 K hr) (aO K (pv 4) ao) Dd)))) (au (aN 5 uJ.nd (aF pC (pad K (pv 2) (pv 3)) ao)) (au (aN 6 uJ.nd (zG (aG JZ hr (aj (pv 0) (aj (pv 1) (aj (pv 5) ak)))))) (aC (uV (cO (Uc (awI (pv 6))) (aC (aN 2 uJ.nd (pad K (pv 5) ao))) (au (aN 3 uJ.nd (pv 5)) (aC (aN 4 uJ.nd (zG (pv 6))))))))))) (aC (aP (pv 4))))))),?_⟩;have h1:Rm.tk b 1≠0:=by rw[hB.one];decide
 have lK:(kn.map V.int).length=kn.length:=aK _;refine⟨_,rfl,.ref ka,kn.length,rfl,.inl ⟨_,aA.of hK,lK.symm⟩,?_⟩;refine Bar.by (λv H1=>Same H H1/\mQ u b kn kn.length H H1 v) (λkk hkk=>⟨_,rfl,_,rfl,_,rfl,u,b,ka,kn,kn.length,rfl,hB,hK,aR _,hn,hsz,bK,λhno=>absurd (Dm.FB.whole (aR _) (λ_=>0) 1) (hno _ _ h1),λv H1 g f=>hkk _ _ ⟨g,f⟩⟩) ?_;rintro v H1 ⟨g1,hf⟩;refine⟨λt σ' H'=>CW λ(lo hi:Nat) (v:V) (o5 o6:Option V)=>Uo (t=hi-lo) (lo<=m) (m<=hi) (hi<=kn.length) (σ'=[some (.int b),some (.ref ka),some (.int (lo:Int)),some (.int (hi:Int)),some v,o5,o6]) (Same H H') (mQ u b kn hi H H' v),⟨_,0,kn.length,v,_,_,rfl,dD _,hm,aR _,rfl,g1,hf⟩,?_⟩;rintro t σ' H2 ⟨lo,hi,v,o5,o6,rfl,l1,l2,l3,rfl,g2,hf⟩;refine⟨_,rfl,_,rfl,_,_,rfl,rfl,_,rfl,?_⟩;refine cX (λc=>?_) (λc=>bU ?_)
 .have hlt:lo<hi:=by have:=dec_true c;lia
  cases hf with
  |one f1 fI ht hlt' fr=>
   refine⟨_,rfl,_,_,.inr (aB.of ht),rfl,_,rfl,bU ?_⟩;have em:hi=m:=by
    refine Nat.le_antisymm (Gs λhmh=>?_) l2;exact Dm.apw hc0 hx0 hmh fI
   subst em;exact⟨_,rfl,q _ _ g2 (.one f1 fI ht hlt' fr)⟩
  |many f1 ff ht hlt' Fe fr fr'=>
   refine⟨_,rfl,_,_,.inr (aB.of ht),rfl,_,rfl,iM ?_⟩;refine⟨_,λ_ _ z=>z,?_⟩;refine⟨_,rfl,_,rfl,_,_,rfl,rfl,⟨∅,∅⟩,?_⟩;obtain⟨mi,hmi⟩:∃mi:Nat,mi=(lo+hi)/2:=⟨_,rfl⟩;have emi:((lo:Int)+(hi:Int))/2=(mi:Int):=⋯;dsimp only;rw[emi];refine Bar.by (λv H3=>Same H2 H3/\((v = .non/\∀x bt,Rm.tk b bt≠0->¬Dm.FB b (Pm.co kn) kn.length mi x bt)∨mQ u b kn mi H2 H3 v)) (λkk hkk=>⟨_,rfl,_,rfl,_,rfl,u,b,ka,kn,mi,rfl,hB,g2 _ _ hK,⋯,hn,hsz,bK,λhno H3 g3=>hkk _ _ ⟨g3,.inl ⟨rfl,hno⟩⟩,λv H1 g f=>hkk _ _ ⟨g,.inr f⟩⟩) ?_;rintro v H3 ⟨g3,⟨rfl,hno⟩|Rq⟩
   .refine⟨_,rfl,_,rfl,iM ?_⟩;have hmm:mi<m:=Nat.lt_of_not_le λz=>by
     obtain⟨y,hy⟩:=hx0.more mi z;exact hno y _ hc0 hy
    refine⟨_,rfl,hi-(mi+1),⋯,mi+1,hi,_,_,_,rfl,hmm,l2,l3,rfl,g2.trans g3,(mQ.many f1 ff ht hlt' Fe fr fr').up (Same.refl _) g3⟩
   .have hmm:m<=mi:=Gs λz=>by
     obtain⟨y,c,hc,hy⟩:=Rq.fits hB;exact hmin mi z y c hc hy
    have hf4:=Rq.up g2 (Same.refl _);cases Rq with
    |one f3 fI3 C5 hl3=>
     refine⟨_,rfl,_,rfl,bU ?_⟩;exact⟨_,rfl,_,rfl,mi-lo,⋯,lo,mi,_,_,_,rfl,l1,hmm,⋯,rfl,g2.trans g3,hf4⟩
    |many f3 ff3 C5 hl3 aBa=>
     refine⟨_,rfl,_,rfl,bU ?_⟩;exact⟨_,rfl,_,rfl,mi-lo,⋯,lo,mi,_,_,_,rfl,l1,hmm,⋯,rfl,g2.trans g3,hf4⟩
 .have hlt:¬lo<hi:=by have:=dec_false c;lia
  have em:hi=m:=⋯;subst em;exact⟨_,rfl,q _ _ g2 hf⟩
theorem axH(F:Fn K mg "_law_cell_at" O7 ["_law_script","_law_k"]):Ph P w K mg base:=by
 refine F.cal asj λH Q E hr h=>?_
 obtain⟨a,ns,k,rfl,hS,h0,q⟩:=h;refine⟨_,(au (cO (bI rD (pv 1) (bY K B.bV (aj (pv 0) ak))) (aC (aP (aO K (pv 0) (pv 1)))) cR) (aC (aP ao))),?_⟩;have hl:(ns.map V.int).length=ns.length:=aK _;refine⟨_,rfl,_,rfl,.ref a,ns.length,rfl,.inl ⟨_,hS,hl.symm⟩,_,_,rfl,rfl,_,rfl,?_⟩;refine cX (λc=>?_) (λc=>?_)
 .have c':k<(ns.length:Int):=dec_true c;refine⟨_,rfl,_,rfl,ns.map V.int,.int (ns.getD k.toNat 0),.inl hS,dN h0 c',?_⟩;have e:cellAt ns k=ns.getD k.toNat 0:=if_pos c';rw[e]at q;exact q
 .have c':¬k<(ns.length:Int):=dec_false c;have e:cellAt ns k=0:=if_neg c';rw[e]at q;exact q
theorem axQ(F:Fn K mg "_law_mixed" SM ["_law_cell","_law_k"]):aeF P w K mg base:=by
 refine F.cal Yu λH Q E hr h=>?_
 obtain⟨c,k,rfl,h0,h1,q⟩:=h;refine⟨_,(au (aN 2 Yu.nd (aF eG (aF v_mul (pad K (aF eG (pv 0) ao) ao) (pad K (aF v_mul (pv 1) (pv 1)) ao)) ao)) (aC (aP (aF eG (aF v_mul (pv 2) (pad K (pv 2) (aF v_mul ao (pv 1)))) ao)))),?_⟩;have b1:0<=c%2147483647:=iK _ ∅;have b2:c%2147483647<2147483647:=je _ ∅;refine⟨_,rfl,_,_,rfl,rfl,(∅:(0:Int)<2147483647),?_⟩;refine⟨_,rfl,_,rfl,mulL ⋯ ⋯,?_⟩;refine⟨mulL (by show -(2^64)<c%2147483647+1;lia) (by show c%2147483647+1<2^64;lia),_,_,rfl,rfl,(∅:(0:Int)<2147483629),?_⟩;have m0:0<=zj c k:=iK _ ∅;have m1:zj c k<2147483629:=je _ ∅;refine⟨_,rfl,_,rfl,_,rfl,mulL ∅ ∅,?_⟩;refine⟨mulL (by show -(2^64)<zj c k;lia) (by show zj c k<2^64;lia),_,_,rfl,rfl,(∅:(0:Int)<2147483587),?_⟩;exact q
theorem aqu(F:Fn K mg "_law_by" UG ["_law_cell"]):Yx P w K mg base:=by
 refine F.cal av5 λH Q E hr h=>?_
 obtain⟨c,rfl,q⟩:=h;refine⟨_,(aC (aP (aO K (jc (cY ao (cY ao (cY ao (cY ao (cY ao (cY ao (cY ao (cY ao ak))))))))) (aF eG (pv 0) ao)))),?_⟩;refine⟨(by show 8<=sizeLine;decide),λp hp=>?_⟩;refine⟨_,rfl,_,_,rfl,rfl,(∅:(0:Int)<8),?_⟩;refine⟨_,_,.inl (aA.of aD),dN (ns:=BW) (iK _ ∅) (je _ ∅),?_⟩;exact q _ (Same.new hp _)
theorem alk(F:Fn K mg "_law_taken" Mg ["_law_by_here","_law_number_here"]):Az P w K mg base:=by
 refine F.cal ate λH Q E hr h=>?_
 obtain⟨b,n,rfl,h0,q⟩:=h;refine⟨_,(au (cO (bI (d8 K hr) (pv 0) ao) (aC (aP (pv 1))) cR) (aC (aP (aF eG (pv 1) (pv 0))))),?_⟩;refine⟨_,rfl,_,rfl,?_⟩;refine cX (λc=>?_) (λc=>?_)
 .refine⟨_,rfl,?_⟩;have c':b=0:=dec_true c;have e:Rm.tk b n=n:=by rw[c',Rm.cJ]
  rw[e]at q;exact q
 .have c':¬b=0:=dec_false c;refine⟨_,rfl,_,rfl,_,_,rfl,rfl,(⋯:(0:Int)<b),?_⟩;rw[Rm.iz c']at q;exact q
theorem aju(F:Fn K mg "_law_number" QY ["_law_by_here","_law_cell","_law_sort"]):ag2 P w K mg base:=by
 refine F.cal avl λH Q E hr h=>?_
 obtain⟨b,c,so,rfl,q⟩:=h;refine⟨_,(au (cO (bI nZ (pv 0) ao) (aC (aP (aF eG (pv 1) (pv 0)))) cR) (au (cO (bI (d8 K hr) (pv 2) ao) (aC (aP (aF cV (aF eG (pv 1) ao) ao))) cR) (au (cO (bI (d8 K hr) (pv 2) ao) (aC (aP (aF cV (aF eG (pv 1) ao) ao))) cR) (aC (aP (pad K (aF cV (aF eG (aF v_mul (pv 1) ao) (aF cV (aF v_mul ao (aF QM ao ao)) ao)) (aF QM ao ao)) ao)))))),?_⟩;refine⟨_,rfl,_,_,rfl,rfl,_,rfl,?_⟩;refine cX (λcc=>?_) (λcc=>?_)
 .have c':0<b:=dec_true cc;refine⟨_,rfl,_,rfl,_,_,rfl,rfl,c',?_⟩;have e:j9 b c so=c%b:=if_pos c';rw[e]at q;exact q
 .have c':¬b>0:=dec_false cc;refine⟨_,rfl,_,rfl,?_⟩;refine cX (λc1=>?_) (λc1=>?_)
  .refine⟨_,rfl,_,_,rfl,rfl,(∅:(0:Int)<7),_,_,rfl,rfl,?_⟩;have e:j9 b c so=c%7-3:=by rw[j9,if_neg c',if_pos (dec_true c1)]
   rw[e]at q;exact q
  .have n0:=dec_false c1;refine⟨_,rfl,_,rfl,?_⟩;refine cX (λc2=>?_) (λc2=>?_)
   .refine⟨_,rfl,_,_,rfl,rfl,(∅:(0:Int)<201),_,_,rfl,rfl,?_⟩;have e:j9 b c so=c%201-100:=by rw[j9,if_neg c',if_neg n0,if_pos (dec_true c2)]
    rw[e]at q;exact q
   .have e:j9 b c so=c*7919%(2*10^12-1)-10^12+1:=by rw[j9,if_neg c',if_neg n0,if_neg (dec_false c2)]
    rw[e]at q;refine⟨_,rfl,mulR ∅ ∅,?_⟩;refine⟨_,_,rfl,rfl,⟨∅,∅,∅⟩,mulL ∅ ∅,_,_,rfl,rfl,_,_,rfl,rfl,(∅:(0:Int)<2*10^12-1),?_⟩;exact⟨_,_,rfl,rfl,⟨∅,∅,∅⟩,_,_,rfl,rfl,q⟩
theorem aku(F:Fn K mg "_law_gone" VG ["_law_row_here","_law_count"])(jB:Az P w K mg base):aeB P w K mg base:=by
 refine F.cal uR λH Q E hr h=>?_
 obtain⟨v,r,c,rfl,⟨a,p,p2,rfl,hA,hR,hS⟩,ok,hc0,hc1,q⟩:=h;refine⟨_,(au (pZ (pv 0) (yD K (n:=3) rfl (mO (bJ 2 uR.nd) (mO (bJ 3 uR.nd) (mO (bJ 4 uR.nd) xr))))) (au (aN 5 uR.nd (zG (jP (xlist K) rfl B.yJ boot_list (aM (rN (rQ K) (pv 4) rW (tO (pv 1))) ak)))) (au (sW PassesOwn.never (bI rD (bY K B.bV (aj (pv 5) ak)) (pv 1)) (au (aN 6 uR.nd ao) (au (jj PassesOwn.never rfl (Zx K rfl B.Zz (aj (pv 3) ak)) (yD K (n:=2) rfl (mO (bJ 7 uR.nd) (mO (bJ 8 uR.nd) xr))) (aC (aN 6 uR.nd (pad K (pv 6) (aF v_mul (pv 8) (aO K (pv 5) (aF cV (aF cV (bY K B.bV (aj (pv 5) ak)) ao) (pv 7)))))))) (aC (jm (rA K (pv 5) (aG jB hr (aj (pv 2) (aj (pv 6) ak))))))))) (aC (aP (pv 5)))))),?_⟩;have hl:=ok.len;have hl2:=ok.short;have lS:(r.starts.map V.int).length=r.starts.length:=aK _;have lR:(r.rule.map V.int).length=r.rule.length:=aK _;refine⟨_,rfl,a,_,rfl,aB.of hA,rfl,_,_,rfl,_,_,rfl,_,_,rfl,rfl,?_⟩;have Ul:gC (r.starts.map V.int) none (some c)=(r.row (min c.toNat r.starts.length)).map V.int:=by
  have e:r.row (min c.toNat r.starts.length)=r.starts.take (min c.toNat r.starts.length):=Rm.Dn (RW _ _);rw[e];have e2:c=((c.toNat:Nat):Int):=⋯;unfold gC;rw[e2,HT.rP,HT.tM,Nx,nO,lS,rR,cM]
 refine Bar.by (λv H1=>∃l,v = .ref l/\Same H H1/\H l=none/\H1 l=some (.lst ((r.row (min c.toNat r.starts.length)).map V.int))) (λkk hkk=>?_) ?_
 .refine⟨_,rfl,_,rfl,_,rfl,?_⟩;by_cases hw:r.starts.length<=c.toNat
  .refine .inr (.inr ⟨_,aB.of hS,?_,?_⟩)
   .have e2:c=((c.toNat:Nat):Int):=⋯;rw[e2,HT.rP,HT.tM,lS];lia
   .refine⟨p2,_,rfl,.inr (aB.of hS),λl hl1=>hkk _ _ ⟨l,rfl,Same.new hl1 _,hl1,?_⟩⟩;rw[aD,SR hw];have e:r.row r.starts.length=r.starts:=(Rm.Dn (aR _)).trans (wL ..);rw[e]
  .refine .inr (.inl ⟨_,aB.of hS,?_,λp3 hp3=>?_⟩)
   .have e2:c=((c.toNat:Nat):Int):=⋯;rw[e2,HT.rP,HT.tM,lS];lia
   .refine⟨p3,_,rfl,.inr (aB.of aD),λl hl1=>?_⟩;have g3:=Same.new hp3 (.tup (gC (r.starts.map V.int) none (some c)));refine hkk _ _ ⟨l,rfl,g3.trans (Same.new hl1 _),g3.free hl1,?_⟩;rw[aD,Ul]
 rintro v H1 ⟨l,rfl,g1,hl1,hr1⟩;refine⟨λm σ' H'=>W8 λ(n:Nat) (o6 o7 o8:Option V)=>za (m=c.toNat-n) (min c.toNat r.starts.length<=n) (n<=c.toNat) (σ'=[some (.ref a),some (.int c),some (.int r.b),some (.ref p),some (.ref p2),some (.ref l),o6,o7,o8]) (Same H H') (H' l=some (.lst ((r.row n).map V.int))),
  ⟨_,min c.toNat r.starts.length,_,_,_,rfl,aR _,abK _ _,rfl,g1,hr1⟩,?_⟩
 rintro m σ' H' ⟨n,o6,o7,o8,rfl,h1,h2,rfl,g,hL⟩;have lL:((r.row n).map V.int).length=n:=by rw[aK,Rw.mH]
 have lN:(r.row n).length=n:=Rw.mH ..;refine⟨_,rfl,.ref l,n,rfl,.inl ⟨_,aA.of hL,lL.symm⟩,_,rfl,_,_,rfl,rfl,_,rfl,?_⟩;refine cX (λcc=>?_) (λcc=>?_)
 .have hn:n<c.toNat:=by have:=dec_true cc;lia
  refine⟨_,λ_ _ z=>z,?_⟩;refine⟨_,rfl,true,p,_,rfl,aB.of (g _ _ hR),?_⟩;refine aiR (t:=true) (a:=p) (xs:=r.rule.map V.int) (λi σ' H2=>Ex2 λ(o7 o8:Option V)=>σ'=[some (.ref a),some (.int c),some (.int r.b),some (.ref p),some (.ref p2),some (.ref l),some (.int (Rm.S r.rule (λi=>(r.row n).getD i 0) n i)),o7,o8]/\Same H' H2) ⟨_,_,rfl,Same.refl _⟩ (λi σ' H2 ⟨_,_,_,z⟩=>aB.of (z _ _ (g _ _ hR))) ?_ ?_
  .rintro i x σ' H2 pt hx ⟨o7,o8,rfl,g2⟩ hpt;obtain⟨rfl,hi⟩:=yX hx;have g3:=Same.new hpt (.tup [.int (i:Int),.int (Pm.co r.rule i)]);have jW:=g3 _ _ (g2 _ _ hL);refine⟨pt,_,rfl,aB.of aD,rfl,_,_,rfl,_,_,rfl,rfl,?_⟩;refine⟨_,rfl,_,rfl,_,rfl,_,rfl,.ref l,n,rfl,.inl ⟨_,aA.of jW,lL.symm⟩,_,_,rfl,rfl,_,rfl,_,_,rfl,rfl,_,_,.inl (aA.of jW),dN (ns:=r.row n) (⋯:(0:Int)<=(n:Int)-1-(i:Int)) ⋯,?_⟩;refine⟨lY (Pm.gk ok.Ho i) (Rm.Bd.getD (ok.ahe n ⋯) _) ∅,?_⟩;refine⟨some (.int (i:Int)),some (.int (Pm.co r.rule i)),?_,g2.trans g3⟩;rw[(⋯:((n:Int)-1-(i:Int)).toNat=n-1-i)];rfl
  rintro σ' H2 ⟨o7,o8,rfl,g2⟩;rw[lR];have hL2:=g2 _ _ hL;refine⟨_,rfl,.inl ⟨rfl,_,aA.of hL2⟩,_,rfl,_,rfl,r.b,_,rfl,ok.lU,?_⟩;refine⟨l,_,_,rfl,rfl,hL2,?_,?_⟩
  .rw[lL];exact dW ⋯
  .refine⟨c.toNat-(n+1),⋯,n+1,_,_,_,rfl,⋯,⋯,rfl,(g.trans g2).upd hl1 _,?_⟩;rw[aD];have e:r.row (n+1)=r.row n++[Rm.tk r.b (Rm.S r.rule (λi=>(r.row n).getD i 0) n r.rule.length)]:=by
    show _++[if n<r.starts.length then r.starts.getD n 0 else _]=_;rw[if_neg ⋯];rfl
   rw[e,jo];rfl
 .have hn:n=c.toNat:=by have:=dec_false cc;lia
  subst hn;exact⟨_,rfl,q l H' g hl1 hL⟩
theorem am4(F:Fn K mg "_law_row" U6 ["_law_script","_law_start","_law_by_here","_law_most_here"])(tH:Ph P w K mg base)(FY:ag2 P w K mg base)(CJ:aeF P w K mg base):abh P w K mg base:=by
 refine F.cal vM λH Q E hr h=>?_
 obtain⟨a,ns,st,b,most,rfl,hS,s0,hB,hm,q⟩:=h;refine⟨_,(au (fL (i:=4) vM.nd rfl (dX rfl) (aG tH hr (aj (pv 0) (aj (pv 1) ak)))) (au (aN 5 vM.nd (aF eG (pv 4) (pad K (pv 3) ao))) (au (fL (i:=6) vM.nd rfl (dX rfl) (aO K (jc (cY ao (cY ao (cY ao (cY ao (cY ao (cY ao ak))))))) (aF eG (aF pC (pv 4) ao) ao))) (au (yS (i:=7) (hN:=vM.nd) (hi':=rfl) (hx:=(pO rfl)) (sc:=ais) (N:=["_law_k","_law_by_here","_law_script","_law_sort","_law_start"]) (ix:=[none,some 2,some 0,some 6,some 1]) dJ rfl (fK rfl B.dG (aj (pv 5) ak)) (λ_ _ _ _ _=>⟨(bJ 0 dz),dM,(aG FY hr (aj (pv 1) (aM (aG CJ hr (aM (aG tH hr (aj (pv 2) (cQ (pad K (pv 4) ao) ak))) (aj (pv 0) ak))) (aj (pv 3) ak))))⟩)) (au (yS (i:=8) (hN:=vM.nd) (hi':=rfl) (hx:=(pO rfl)) (sc:=arH) (N:=["_law_k","_law_by_here","_law_script","_law_sort","_law_start"]) (ix:=[none,some 2,some 0,some 6,some 1]) dJ rfl (fK rfl B.dG (aj (pv 5) ak)) (λ_ _ _ _ _=>⟨(bJ 0 dz),dM,(aG FY hr (aj (pv 1) (aM (aG CJ hr (aM (aG tH hr (aj (pv 2) (cQ (pad K (pv 4) ao) ak))) (cQ (pad K ao (pv 0)) ak))) (aj (pv 3) ak))))⟩)) (au (uV (cO (bI (d8 K hr) (aF eG (aF pC (pv 4) ao) ao) ao) (aC (yS (i:=7) (hN:=vM.nd) (hi':=rfl) (hx:=(pO rfl)) (sc:=ajC) (N:=["_law_k","_law_number_here","_law_cell"]) (ix:=[none,none,some 4]) dJ rfl (Zx K rfl B.Zz (aj (pv 7) ak)) (λ_ _ _ _ _=>⟨(yD K (n:=2) rfl (mO (bJ 0 dz) (mO (bJ 1 dz) xr))),dM,(aF v_mul (pv 1) (aF eG (aG CJ hr (aj (pv 2) (cQ (pad K ao (pv 0)) ak))) ao))⟩))) cR)) (au (uV (cO (PW.pt (Hf (bI (d8 K hr) (aF eG (aF pC (pv 4) ao) ao) ao) (Lw (bI nZ (pv 5) ao)))) (aC (aN 8 vM.nd (pad K (aF v_mul (jc (cY ao ak)) (aF cV (pv 5) ao)) (jc (aM (aO K (pv 8) (Dg Dq ao)) ak))))) cR)) (aC (aP (lX (aj (pv 2) (aM (jP (qG K) rfl B.pU boot_tuple (aj (pv 7) ak)) (aM (jP (qG K) rfl B.pU boot_tuple (aj (pv 8) ak)) ak))))))))))))),?_⟩;obtain⟨hb0,hb1,_⟩:=hB.range;refine⟨_,rfl,_,rfl,a,ns,st,rfl,hS,s0,?_⟩;generalize cellAt ns st=c;refine⟨_,rfl,_,rfl,_,_,rfl,rfl,(by show 0<(most:Int)+1;lia),?_⟩;obtain⟨N,eN,hN⟩:∃N:Nat,c%((most:Int)+1)=(N:Int)/\N<=most:=by
  have h0:=iK c (⋯:0<(most:Int)+1);have h1:=je c (⋯:0<(most:Int)+1);exact⟨_,(O1 h0).symm,⋯⟩
 dsimp only;rw[eN];refine⟨(by show 6<=sizeLine;decide),λp6 hp6=>?_⟩;have g1:=Same.new hp6 (.lst (yZ.map V.int));have e0:=iK (c/13) (∅:(0:Int)<6);have e1:=je (c/13) (∅:(0:Int)<6);refine⟨_,rfl,_,_,rfl,rfl,⟨∅,∅⟩,_,_,rfl,rfl,(∅:(0:Int)<6),_,_,.inl (aA.of aD),dN (ns:=yZ) e0 e1,?_⟩;have hso:=aAv (c/13%6).toNat ⋯;generalize yZ.getD (c/13%6).toNat 0=so at hso;have eH:(upd H p6 (.lst [.int 0,.int 0,.int 0,.int 1,.int 0,.int 0]))=upd H p6 (.lst (yZ.map V.int)):=rfl;rw[eH];generalize upd H p6 (.lst (yZ.map V.int))=H1 at g1;have hS1:=g1.seq hS;refine⟨_,rfl,(N:Int),rfl,(⋯:-(2^62)<=(N:Int)),(⋯:(N:Int)<2^62),?_⟩;rw[cM];refine rT (n:=N) ⋯ rfl (λk=>j9 b (lE (cellAt ns (st+1)) (0+(k:Int))) so) ?_ ?_
 .intro H2 k g2 hk kk hkk;exact⟨_,rfl,_,rfl,_,rfl,a,ns,st+1,rfl,g2.seq hS1,⋯,_,rfl,cellAt ns (st+1),0+(k:Int),rfl,⋯,⋯,_,rfl,b,_,so,rfl,hkk⟩
 intro D1 hD1;generalize hr0:(Pm.aq N λk=>j9 b (lE (cellAt ns (st+1)) (0+(k:Int))) so)=rule;have lr:rule.length=N:=by rw[<-hr0];exact Pm.aQ ..
 have nr:∀x∈rule,fG b x/\(b=0->x.natAbs<=100):=λx hx=>by
  rw[<-hr0]at hx;obtain⟨j,_,rfl⟩:=Pm.gK hx;exact⟨adp hB _ _,ahc hso⟩
 clear hr0;have g2:=Same.new hD1 (.lst (rule.map V.int));have h1:(upd H1 D1 (.lst (rule.map V.int))) D1=some (.lst (rule.map V.int)):=aD;generalize upd H1 D1 (.lst (rule.map V.int))=H2 at g2 h1;have hS2:=g2.seq hS1;refine⟨_,rfl,(N:Int),rfl,(⋯:-(2^62)<=(N:Int)),(⋯:(N:Int)<2^62),?_⟩;rw[cM];refine rT (n:=N) ⋯ rfl (λk=>j9 b (lE (cellAt ns (st+2)) (20+(0+(k:Int)))) so) ?_ ?_
 .intro H3 k g3 hk kk hkk;exact⟨_,rfl,_,rfl,_,rfl,a,ns,st+2,rfl,g3.seq hS2,⋯,_,rfl,cellAt ns (st+2),20+(0+(k:Int)),rfl,⋯,⋯,_,rfl,b,_,so,rfl,hkk⟩
 intro D2 hD2;generalize hs0:(Pm.aq N λk=>j9 b (lE (cellAt ns (st+2)) (20+(0+(k:Int)))) so)=starts;have ls:starts.length=N:=by rw[<-hs0];exact Pm.aQ ..
 have Ad:∀x∈starts,fG b x/\(b=0->x.natAbs<=100):=λx hx=>by
  rw[<-hs0]at hx;obtain⟨j,_,rfl⟩:=Pm.gK hx;exact⟨adp hB _ _,ahc hso⟩
 clear hs0;have g3:=Same.new hD2 (.lst (starts.map V.int));have h2:(upd H2 D2 (.lst (starts.map V.int))) D2=some (.lst (starts.map V.int)):=aD;have h1':=g3 _ _ h1;generalize upd H2 D2 (.lst (starts.map V.int))=H3 at g3 h2 h1';have gA:=g1.trans (g2.trans g3);refine u6.by (λσ' H'=>Ex2 λ(l1:Addr) (rule:List Int)=>yw (σ'=[some (.ref a),some (.int st),some (.int b),some (.int most),some (.int c),some (.int N),some (.int so),some (.ref l1),some (.ref D2)]) (Same H3 H') (H' l1=some (.lst (rule.map V.int))) (rule.length=N) (∀x∈rule,fG b x/\(b=0->x.natAbs<=100))) (λNN oG=>?_) ?_
 .refine⟨_,rfl,_,_,rfl,rfl,⟨∅,∅⟩,_,_,rfl,rfl,(∅:(0:Int)<3),_,rfl,?_⟩;refine cX (λ_=>?_) (λ_=>oG _ _ ⟨D1,rule,rfl,Same.refl _,h1',lr,nr⟩);refine⟨_,rfl,false,D1,_,rfl,aA.of h1',?_⟩;refine apT (t:=false) (aA.of h1') (by rw[aK,lr];exact fj (dW ⋯)) rfl (λk x=>match x with | .int n=> .int (n*(lE c (40+(k:Int))%2))|_=> .non) ?_ ?_
  .intro H4 k x g4 hxk kk hkk;obtain⟨rfl,hk⟩:=yX hxk;have m0:=iK (lE c (40+(k:Int))) (∅:(0:Int)<2);have m1:=je (lE c (40+(k:Int))) (∅:(0:Int)<2);exact⟨_,rfl,_,rfl,_,rfl,c,40+(k:Int),rfl,⋯,⋯,_,_,rfl,rfl,(∅:(0:Int)<2),mulR (by show -(2^64)<lE c (40+(k:Int))%2;lia) (by show lE c (40+(k:Int))%2<2^64;lia),hkk _ (Same.refl _)⟩
  .intro D3 H4 hD3 g4 Lg;have ed:H4 D3=some (.lst ((Pm.aq rule.length λk=>Pm.co rule k*(lE c (40+(k:Int))%2)).map V.int)):=Lg.trans (congrArg (λz=>some (HO.lst z)) (avm rule λk n=>n*(lE c (40+(k:Int))%2)));refine oG _ _ ⟨D3,_,rfl,g4,ed,by rw[Pm.aQ];exact lr,λx hx=>?_⟩;obtain⟨k,hk,rfl⟩:=Pm.gK hx;have nk:=nr _ (Pm.uF hk);have m0:=iK (lE c (40+(k:Int))) (∅:(0:Int)<2);have m1:=je (lE c (40+(k:Int))) (∅:(0:Int)<2);rcases(⋯:lE c (40+(k:Int))%2=0∨lE c (40+(k:Int))%2=1)with z|z
   .rw[z,aV];exact⟨fG.zero hB,λ_=>∅⟩
   .rw[z,iU];exact nk
 clear nr lr h1 h1';rintro σ' H4 ⟨l1,rule,rfl,g4,h1,lr,nr⟩;have h2':=g4 _ _ h2;refine u6.by (λσ' H'=>Ex2 λ(l2:Addr) (starts:List Int)=>yw (σ'=[some (.ref a),some (.int st),some (.int b),some (.int most),some (.int c),some (.int N),some (.int so),some (.ref l1),some (.ref l2)]) (Same H4 H') (H' l2=some (.lst (starts.map V.int))) (starts.length=N) (∀x∈starts,fG b x/\(b=0->x.natAbs<=100))) (λNN oG=>?_) ?_
 .refine⟨_,rfl,_,_,rfl,rfl,⟨∅,∅⟩,_,_,rfl,rfl,(∅:(0:Int)<3),_,rfl,?_⟩;refine cX (λ_=>?_) (λ_=>bU (oG _ _ ⟨D2,starts,rfl,Same.refl _,h2',ls,Ad⟩));refine⟨_,rfl,_,_,rfl,rfl,_,rfl,?_⟩;refine cX (λcc=>?_) (λ_=>oG _ _ ⟨D2,starts,rfl,Same.refl _,h2',ls,Ad⟩);have Od:0<N:=by have:=dec_true cc;lia
  refine⟨(by show 1<=sizeLine;decide),λm1 hm1=>?_⟩;have k1:=Same.new hm1 (.lst [.int 0]);have e1:(upd H4 m1 (.lst [.int 0])) m1=some (.lst [.int 0]):=aD;generalize upd H4 m1 (.lst [.int 0])=G1 at k1 e1;refine⟨_,rfl,_,_,rfl,rfl,_,e1,⋯,⋯,?_,λm2 hm2=>?_⟩
  .show 1*((N:Int)-1).toNat<=sizeLine;rw[oA];exact fj (dW ⋯)
  rw[(⋯:((N:Int)-1).toNat=N-1),Bx];have k2:=Same.new hm2 (.lst ((Pm.aq (N-1) λ_=>0).map V.int));have e2:(upd G1 m2 (.lst ((Pm.aq (N-1) λ_=>0).map V.int))) m2=some (.lst ((Pm.aq (N-1) λ_=>0).map V.int)):=aD;generalize upd G1 m2 (.lst ((Pm.aq (N-1) λ_=>0).map V.int))=G2 at k2 e2;have h2G:=k2 _ _ (k1 _ _ h2');refine⟨_,rfl,_,rfl,_,_,.inl (aA.of h2G),aw5 (ns:=starts) (N-1) ⋯ ⋯,(by show 1<=sizeLine;decide),λm3 hm3=>?_⟩;have k3:=Same.new hm3 (.lst [.int (starts.getD (N-1) 0)]);have e3:(upd G2 m3 (.lst [.int (starts.getD (N-1) 0)])) m3=some (.lst [.int (starts.getD (N-1) 0)]):=aD;have e2':=k3 _ _ e2;generalize upd G2 m3 (.lst [.int (starts.getD (N-1) 0)])=G3 at k3 e3 e2';refine .inl ⟨_,_,e2',e3,?_,λm4 hm4=>?_⟩
  .rw[aK,Pm.aQ];exact fj (dW (by show _+1<=1000;lia))
  have k4:=Same.new hm4 (.lst ((Pm.aq (N-1) λ_=>0).map V.int++[.int (starts.getD (N-1) 0)]));refine oG _ _ ⟨m4,(Pm.aq (N-1) λ_=>0)++[Pm.co starts (N-1)],rfl,k1.trans (k2.trans (k3.trans k4)),by rw[aD,Lq];rfl,by rw[gW,Pm.aQ];show N-1+1=N;lia,λx hx=>?_⟩;rcases qT.mp hx with hx|hx
  .obtain⟨_,_,rfl⟩:=Pm.gK hx;exact⟨fG.zero hB,λ_=>∅⟩
  .rw[oW.mp hx];exact Ad _ (Pm.uF ⋯)
 clear Ad ls h2 h2';rintro σ' H5 ⟨l2,starts,rfl,g5,h2,ls,Ad⟩;refine⟨_,rfl,_,rfl,l1,_,rfl,.inl ⟨aA.of (g5 _ _ h1),λt1 ht1=>?_⟩⟩;have gt1:=Same.new ht1 (.tup (rule.map V.int));refine⟨_,rfl,l2,_,rfl,.inl ⟨aA.of (gt1 _ _ h2),λt2 qN=>?_⟩⟩;have W6:=Same.new qN (.tup (starts.map V.int));refine⟨(by show 3<=sizeLine;decide),λt3 C5=>?_⟩;have O9:=Same.new C5 (.tup [.int b,.ref t1,.ref t2]);exact q (.ref t3) ⟨b,rule,starts⟩ _ (gA.trans (g4.trans (g5.trans (gt1.trans (W6.trans O9))))) ⟨t3,t1,t2,rfl,aD,O9 _ _ (W6 _ _ aD),O9 _ _ aD⟩ ⟨rfl,lr.trans ls.symm,by show rule.length<=3;lia,nr,Ad⟩
theorem asG(F:Fn K mg "refuse_far" SV ["n"]):ada P w K mg base:=by
 refine F.cal av2 λH Q E hr h=>?_
 obtain⟨n,rfl,h0,h1,q⟩:=h;refine⟨_,(aC (cO (PW.pt (vU (bI rD (pv 0) ao) (Ij (bI nZ (pv 0) (Fj rfl B.Qf))))) (aC D5) cR)),?_⟩;refine⟨_,rfl,_,_,rfl,rfl,_,rfl,?_⟩;refine cX (λc=>absurd (dec_true c) ⋯) (λ_=>?_);refine⟨_,rfl,_,_,rfl,rfl,_,rfl,?_⟩;refine cX (λc=>absurd (dec_true c) ⋯) (λ_=>?_);exact q
theorem avR(F:Fn K mg "places" UQ ["row","count"])(Vi:ada P w K mg base)(oY:EB P w K mg base):adG P w K mg base:=by
 refine F.cal ak8 λH Q E hr h=>?_
 obtain⟨v,r,c,rfl,hR,ok,h0,h1,q⟩:=h;refine⟨_,(au (jm (aG Vi hr (aj (pv 1) ak))) (aC (aP (aG oY hr (aj (pv 0) (aj (pv 1) ak)))))),?_⟩;refine⟨_,rfl,c,rfl,h0,h1,?_⟩;exact⟨_,rfl,_,rfl,v,r,c,rfl,hR,ok,h0,⋯,q⟩
theorem atL(F:Fn K mg "_law_rolled" Tp ["_law_by_here","_law_ones","_law_twos"])(jB:Az P w K mg base):ahz P w K mg base:=by
 refine F.cal Uz λH Q E hr h=>?_
 obtain⟨b,l1,l2,m1,m2,a,c,rfl,hb,⟨h1,k1,b1⟩,⟨h2,k2,b2⟩,q⟩:=h;refine⟨_,(au (aN 3 Uz.nd (jc ak)) (au (jj PassesOwn.never rfl (fK rfl B.dG (aM (lu (agp rfl) rfl B.Yr boot_min (aM (bY K B.bV (aj (pv 1) ak)) (aM (bY K B.bV (aj (pv 2) ak)) ak))) ak)) (JR (i:=4) Uz.nd rfl (dX rfl)) (aC (jm (rA K (pv 3) (aG jB hr (aj (pv 0) (aM (lu (Ac K rfl) rfl B.Bp boot_sum (aM (fD (sc:=akT) (N:=["_law_k","_law_n","_law_ones","_law_twos"]) (ix:=[none,some 4,some 1,some 2]) dJ rfl (fK rfl B.dG (cQ (pad K (pv 4) ao) ak)) (λ_ _ _ _ _=>⟨(bJ 0 dz),dM,(aF v_mul (aO K (pv 2) (pv 0)) (aO K (pv 3) (aF cV (pv 1) (pv 0))))⟩)) ak)) ak))))))) (aC (aP (pv 3))))),?_⟩;have L1:((Pm.aq m1 a).map V.int).length=m1:=by rw[aK,Pm.aQ]
 have L2:((Pm.aq m2 c).map V.int).length=m2:=by rw[aK,Pm.aQ]
 refine⟨dD _,λD hD=>?_⟩;have g0:=Same.new hD (.lst []);have h0:(upd H D (.lst [])) D=some (.lst []):=aD;generalize upd H D (.lst [])=H0 at g0 h0;have eM:(if(m2:Int)<(m1:Int)then(m2:Int)else(m1:Int))=((min m1 m2:Nat):Int):=by split<;>lia
 refine⟨_,rfl,.ref l1,m1,rfl,.inl ⟨_,aA.of (g0 _ _ h1),L1.symm⟩,_,rfl,.ref l2,m2,rfl,.inl ⟨_,aA.of (g0 _ _ h2),L2.symm⟩,_,_,rfl,((min m1 m2:Nat):Int),congrArg (λz=>[V.int z]) eM,(⋯:-(2^62)<=((min m1 m2:Nat):Int)),(⋯:((min m1 m2:Nat):Int)<2^62),?_⟩;rw[cM];refine j8 (lo:=0) (n:=min m1 m2) (λi σ' H'=>∃(o4:Option V),σ'=[some (.int b),some (.ref l1),some (.ref l2),some (.ref D),o4]/\Same H H'/\H' D=some (.lst ((Pm.aq i λk=>Rm.tk b (oB a c k)).map V.int))) ⟨_,rfl,g0,h0⟩ ?_ ?_
 .rintro i σ' H1 hi ⟨o4,rfl,g1,h3⟩;refine⟨_,rfl,.inl ⟨rfl,_,aA.of h3⟩,?_⟩;refine⟨_,rfl,_,rfl,(0+(i:Int))+1,rfl,(⋯:-(2^62)<=(0+(i:Int))+1),(⋯:(0+(i:Int))+1<2^62),?_⟩;rw[(⋯:(0+(i:Int)+1).toNat=i+1)];refine rT (n:=i+1) ⋯ rfl (λk=>a k*c (i-k)) ?_ ?_
  .intro H2 k g2 hk kk hkk;exact⟨_,rfl,_,rfl,_,V.int (a k),.inl (aA.of (g2 _ _ (g1 _ _ h1))),(by rw[dj];exact v5 ⋯),_,rfl,_,rfl,_,rfl,_,_,rfl,rfl,_,V.int (c (i-k)),.inl (aA.of (g2 _ _ (g1 _ _ h2))),(by rw[dj,dj,(⋯:(i:Int)-(k:Int)=((i-k:Nat):Int))];exact v5 ⋯),lY (b1 k ⋯) (b2 (i-k) ⋯) ∅,hkk⟩
  intro t ht;have g2:=Same.new ht (.lst ((Pm.aq (i+1) λk=>a k*c (i-k)).map V.int));refine⟨t,Pm.aq (i+1) λk=>a k*c (i-k),rfl,aA.of aD,?_⟩;rw[GF];refine⟨b,_,rfl,hb,?_⟩;have h4:=g2 _ _ h3;generalize upd H1 t (.lst ((Pm.aq (i+1) λk=>a k*c (i-k)).map V.int))=H2 at g2 h4;refine⟨D,_,_,rfl,rfl,h4,?_,?_⟩
  .rw[aK,Pm.aQ];exact dW ⋯
  .refine⟨_,rfl,(g1.trans g2).upd hD _,?_⟩;rw[aD,Pm.Ef,jo];rfl
 .rintro σ' H1 ⟨o4,rfl,g1,h3⟩;exact⟨_,rfl,q D H1 hD g1 h3⟩
theorem asK(F:Fn K mg "_law_summed" V1 ["_law_by_here","_law_ones"])(jB:Az P w K mg base):aef P w K mg base:=by
 refine F.cal Sh λH Q E hr h=>?_
 obtain⟨b,l1,m1,a,rfl,hb,⟨h1,k1,b1⟩,q⟩:=h;refine⟨_,(au (aN 2 Sh.nd (jc ak)) (au (jj PassesOwn.never rfl (fK rfl B.dG (aM (bY K B.bV (aj (pv 1) ak)) ak)) (bJ 3 Sh.nd) (aC (jm (rA K (pv 2) (aG jB hr (aj (pv 0) (aM (lu (Ac K rfl) rfl B.Bp boot_sum (aM (rN (rQ K) (pv 1) rW (tO (pad K (pv 3) ao))) ak)) ak))))))) (aC (aP (pv 2))))),?_⟩;have L1:((Pm.aq m1 a).map V.int).length=m1:=by rw[aK,Pm.aQ]
 refine⟨dD _,λD hD=>?_⟩;have g0:=Same.new hD (.lst []);have h0:(upd H D (.lst [])) D=some (.lst []):=aD;generalize upd H D (.lst [])=H0 at g0 h0;refine⟨_,rfl,.ref l1,m1,rfl,.inl ⟨_,aA.of (g0 _ _ h1),L1.symm⟩,(m1:Int),rfl,(⋯:-(2^62)<=(m1:Int)),(⋯:(m1:Int)<2^62),?_⟩;rw[cM];refine j8 (lo:=0) (n:=m1) (λi σ' H'=>∃(o4:Option V),σ'=[some (.int b),some (.ref l1),some (.ref D),o4]/\Same H H'/\H' D=some (.lst ((Pm.aq i (lJ b a)).map V.int))) ⟨_,rfl,g0,h0⟩ ?_ ?_
 .rintro i σ' H1 hi ⟨o4,rfl,g1,h3⟩;refine⟨_,rfl,.inl ⟨rfl,_,aA.of h3⟩,?_⟩;refine⟨_,rfl,_,rfl,_,rfl,_,rfl,.inl ⟨_,aA.of (g1 _ _ h1),λt ht=>?_⟩⟩;have eC:gC ((Pm.aq m1 a).map V.int) none (some (0+(i:Int)+1))=(Pm.aq (i+1) a).map V.int:=by
   rw[(⋯:0+(i:Int)+1=((i+1:Nat):Int)),yK,<-rR,Ge _ ⋯]
  rw[eC];have g2:=Same.new ht (.lst ((Pm.aq (i+1) a).map V.int));refine⟨t,Pm.aq (i+1) a,rfl,aA.of aD,?_⟩;rw[GF];refine⟨b,_,rfl,hb,?_⟩;have h4:=g2 _ _ h3;generalize upd H1 t (.lst ((Pm.aq (i+1) a).map V.int))=H2 at g2 h4;refine⟨D,_,_,rfl,rfl,h4,?_,?_⟩
  .rw[aK,Pm.aQ];exact dW ⋯
  .refine⟨_,rfl,(g1.trans g2).upd hD _,?_⟩;rw[aD,Pm.Ef,jo];rfl
 .rintro σ' H1 ⟨o4,rfl,g1,h3⟩;exact⟨_,rfl,q D H1 hD g1 h3⟩
theorem anT(F:Fn K mg "_law_due" PN ["_law_way","_law_by_here","_law_ones","_law_twos","_law_cell"])(jB:Az P w K mg base)(Og:ahz P w K mg base)(NQ:aef P w K mg base):Xm P w K mg base:=by
 refine F.cal aea λH Q E hr h=>?_
 obtain⟨w,rest,b,l1,l2,m1,m2,a,c,rfl,w6,hb,hl1,hl2,m4,q⟩:=h;refine⟨_,(au (fL (i:=5) aea.nd rfl (dX rfl) (aF cV (aF eG (pv 4) ao) ao)) (au (cO (bI (d8 K hr) (pv 0) ao) (aC (aP (fD (sc:=aiG) (N:=["_law_a","_law_b","_law_by_here"]) (ix:=[none,none,some 1]) dJ rfl (acI K rfl B.aeN (aj (pv 2) (aj (pv 3) ak))) (λ_ _ _ _ _=>⟨(yD K (n:=2) rfl (mO (bJ 0 dz) (mO (bJ 1 dz) xr))),dM,(aG jB hr (aj (pv 2) (cQ (pad K (pv 0) (pv 1)) ak)))⟩)))) cR) (au (cO (bI (d8 K hr) (pv 0) ao) (aC (aP (fD (sc:=ari) (N:=["_law_a","_law_b","_law_by_here"]) (ix:=[none,none,some 1]) dJ rfl (acI K rfl B.aeN (aj (pv 2) (aj (pv 3) ak))) (λ_ _ _ _ _=>⟨(yD K (n:=2) rfl (mO (bJ 0 dz) (mO (bJ 1 dz) xr))),dM,(aG jB hr (aj (pv 2) (cQ (aF v_mul (pv 0) (pv 1)) ak)))⟩)))) cR) (au (cO (bI (d8 K hr) (pv 0) ao) (aC (aP (aG Og hr (aj (pv 1) (aj (pv 2) (aj (pv 3) ak)))))) cR) (au (cO (bI (d8 K hr) (pv 0) ao) (aC (aP (fD (sc:=azq) (N:=["_law_a","_law_by_here","_law_number_here"]) (ix:=[none,some 1,some 5]) dJ rfl (j7 K (pv 2)) (λ_ _ _ _ _=>⟨(bJ 0 dz),dM,(aG jB hr (aj (pv 1) (cQ (aF v_mul (pv 2) (pv 0)) ak)))⟩)))) cR) (au (cO (bI (d8 K hr) (pv 0) ao) (aC (aP (aG NQ hr (aj (pv 1) (aj (pv 2) ak))))) cR) (au (cO (bI (d8 K hr) (pv 0) ao) (aC (aP (aqQ (K:=K) (pv 2) (aF eG (pv 4) ao) (pad K ao (aF eG (aF pC (pv 4) ao) ao))))) cR) (aC (aP (pad K (fD (sc:=ahT) (N:=["_law_k","_law_by_here","_law_number_here"]) (ix:=[none,some 1,some 5]) dJ rfl (fK rfl B.dG (cQ (aF eG (aF pC (pv 4) ao) ao) ak)) (λ_ _ _ _ _=>⟨(bJ 0 dz),dM,(aG jB hr (aj (pv 1) (cQ (pad K (pv 2) (pv 0)) ak)))⟩)) (pv 2))))))))))),?_⟩;obtain⟨h1,k1,b1⟩:=id hl1;obtain⟨h2,k2,b2⟩:=id hl2;have L1:((Pm.aq m1 a).map V.int).length=m1:=by rw[aK,Pm.aQ]
 have L2:((Pm.aq m2 c).map V.int).length=m2:=by rw[aK,Pm.aQ]
 refine⟨_,rfl,_,_,rfl,rfl,(∅:(0:Int)<9),_,_,rfl,rfl,?_⟩;have x0:=iK (rest:Int) (∅:(0:Int)<9);have x1:=je (rest:Int) (∅:(0:Int)<9);generalize hx:(rest:Int)%9-4=x at q;obtain rfl|rfl|rfl|rfl|rfl|rfl|rfl:w=0∨w=1∨w=2∨w=3∨w=4∨w=5∨w=6:=⋯
 .refine⟨_,rfl,_,rfl,iM ?_⟩;refine⟨_,rfl,_,rfl,false,false,l1,l2,_,_,rfl,aA.of h1,aA.of h2,?_⟩;refine abq (t1:=false) (t2:=false) (aA.of h1) (aA.of h2) (by rw[L1];exact fj (dW ⋯)) rfl (Vg λx y=>Rm.tk b (x+y)) ?_ ?_
  .intro H8 k x y g8 hxk Tj kk hkk;obtain⟨rfl,_⟩:=yX hxk;obtain⟨rfl,_⟩:=yX Tj;exact⟨_,rfl,_,rfl,_,rfl,b,_,rfl,hb,hkk⟩
  intro D H8 hD g8 h8;rw[OJ,Xn]at h8;exact q D H8 hD g8 h8
 .refine⟨_,rfl,_,rfl,bU ⟨_,rfl,_,rfl,iM ?_⟩⟩;refine⟨_,rfl,_,rfl,false,false,l1,l2,_,_,rfl,aA.of h1,aA.of h2,?_⟩;refine abq (t1:=false) (t2:=false) (aA.of h1) (aA.of h2) (by rw[L1];exact fj (dW ⋯)) rfl (Vg λx y=>Rm.tk b (x*y)) ?_ ?_
  .intro H8 k x y g8 hxk Tj kk hkk;obtain⟨rfl,i1⟩:=yX hxk;obtain⟨rfl,i2⟩:=yX Tj;rw[Pm.aQ]at i1 i2;refine⟨_,rfl,_,rfl,_,rfl,lY (m:=20000) (n:=20000) (by rw[Pm.bZ,if_pos i1];exact b1 k i1) (by rw[Pm.bZ,if_pos i2];exact b2 k i2) ∅,b,_,rfl,hb,hkk⟩
  intro D H8 hD g8 h8;rw[OJ,Xn]at h8;exact q D H8 hD g8 h8
 .refine⟨_,rfl,_,rfl,bU ⟨_,rfl,_,rfl,bU ⟨_,rfl,_,rfl,iM ?_⟩⟩⟩;exact⟨_,rfl,_,rfl,_,rfl,b,l1,l2,m1,m2,a,c,rfl,hb,hl1,hl2,q⟩
 .refine⟨_,rfl,_,rfl,bU ⟨_,rfl,_,rfl,bU ⟨_,rfl,_,rfl,bU ⟨_,rfl,_,rfl,iM ?_⟩⟩⟩⟩;refine⟨_,rfl,l1,rfl,.inl ⟨⟨_,aA.of h1⟩,?_⟩⟩;refine wV h1 (by rw[Pm.aQ];lia) rfl (λy=>Rm.tk b (x*y)) ?_ ?_
  .intro H8 y g8 hy kk hkk;exact⟨_,rfl,_,rfl,_,rfl,mulL ⋯ ⋯,b,_,rfl,hb,hkk⟩
  intro D hD;refine q D _ hD (Same.new hD _) ?_;rw[aD,show(Pm.aq m1 a).map (λy=>Rm.tk b (x*y))=Pm.aq m1 λk=>Rm.tk b (x*a k)from gh ..];rfl
 .refine⟨_,rfl,_,rfl,bU ⟨_,rfl,_,rfl,bU ⟨_,rfl,_,rfl,bU ⟨_,rfl,_,rfl,bU ⟨_,rfl,_,rfl,iM ?_⟩⟩⟩⟩⟩;exact⟨_,rfl,_,rfl,b,l1,m1,a,rfl,hb,hl1,q⟩
 .refine⟨_,rfl,_,rfl,bU ⟨_,rfl,_,rfl,bU ⟨_,rfl,_,rfl,bU ⟨_,rfl,_,rfl,bU ⟨_,rfl,_,rfl,bU ⟨_,rfl,_,rfl,iM ?_⟩⟩⟩⟩⟩⟩;refine⟨_,rfl,_,rfl,_,_,rfl,rfl,(∅:(0:Int)<5),_,rfl,_,_,rfl,rfl,⟨∅,∅⟩,_,_,rfl,rfl,(∅:(0:Int)<3),l1,_,rest%5,1+rest/5%3,rfl,?_,?_,aA.of h1,by rw[L1];lia,⋯,λD hD=>?_⟩
  .show V.int ((rest:Int)%5)=V.int ((rest%5:Nat):Int);rw[qD];rfl
  .show V.int (1+(rest:Int)/5%3)=V.int ((1+rest/5%3:Nat):Int);rw[Fq,qD,Ao];rfl
  refine q D _ hD (Same.new hD _) ?_;rw[aD,an5 ⋯];rfl
 .refine⟨_,rfl,_,rfl,bU ⟨_,rfl,_,rfl,bU ⟨_,rfl,_,rfl,bU ⟨_,rfl,_,rfl,bU ⟨_,rfl,_,rfl,bU ⟨_,rfl,_,rfl,bU ?_⟩⟩⟩⟩⟩⟩;have Ae:(rest:Int)/9%3=((rest/9%3:Nat):Int):=by rw[qD,Ao];rfl
  refine⟨_,rfl,_,_,rfl,rfl,⟨∅,∅⟩,_,_,rfl,rfl,(∅:(0:Int)<3),((rest/9%3:Nat):Int),congrArg (λz=>[V.int z]) Ae,(⋯:-(2^62)<=((rest/9%3:Nat):Int)),(⋯:((rest/9%3:Nat):Int)<2^62),?_⟩;rw[cM];refine rT (n:=rest/9%3) ⋯ rfl (λk=>Rm.tk b (x+(k:Int))) ?_ ?_
  .intro H2 k g2 hk kk hkk;refine⟨_,rfl,_,rfl,_,rfl,b,_,rfl,hb,?_⟩;rw[dj];exact hkk
  intro D hD;have g2:=Same.new hD (.lst ((Pm.aq (rest/9%3) λk=>Rm.tk b (x+(k:Int))).map V.int));have h3:=aD (H:=H) (a:=D) (o:= .lst ((Pm.aq (rest/9%3) λk=>Rm.tk b (x+(k:Int))).map V.int));have h1':=g2 _ _ h1;generalize upd H D (.lst ((Pm.aq (rest/9%3) λk=>Rm.tk b (x+(k:Int))).map V.int))=H2 at g2 h3 h1';refine⟨_,rfl,.inl ⟨_,_,h3,h1',?_,λD2 hD2=>?_⟩⟩
  .rw[aK,L1,Pm.aQ];exact fj (dW ⋯)
  refine q D2 _ (g2.free hD2) (g2.trans (Same.new hD2 _)) ?_;rw[aD,<-jo,akh,Pm.aQ];rfl
theorem auz(F:Fn K mg "_law_most" MH ["_law_way","_law_ones","_law_twos","_law_cell"]):Y5 P w K mg base:=by
 refine F.cal aps λH Q E hr h=>?_
 obtain⟨w,n1,n2,rest,rfl,w6,h1,h2,q⟩:=h;refine⟨_,(au (cO (bI (d8 K hr) (pv 0) ao) (aC (aP (aF v_mul (pv 1) (pv 2)))) cR) (aC (aP (pad K (pv 1) (aO K (jc (aj (pv 2) (cY ao (aj (pv 2) (cY ao (cY ao (cY ao (cQ (aF eG (aF pC (pv 3) ao) ao) ak)))))))) (pv 0)))))),?_⟩;by_cases hw:w=1
 .subst hw;refine⟨_,rfl,_,rfl,iM ⟨_,rfl,_,rfl,mulL ⋯ ⋯,?_⟩⟩;rw[<-rm];exact q H (Same.refl _)
 .refine⟨_,rfl,_,rfl,?_⟩;refine cX (λcc=>absurd (dec_true cc) ⋯) (λ_=>?_);have Ae:(rest:Int)/9%3=((rest/9%3:Nat):Int):=by rw[qD,Ao];rfl
  refine⟨_,rfl,_,rfl,_,rfl,_,rfl,_,_,rfl,rfl,⟨∅,∅⟩,_,_,rfl,rfl,(∅:(0:Int)<3),(by show 7<=sizeLine;decide),λp hp=>?_⟩;have g1:=Same.new hp (.lst (([(n2:Int),0,(n2:Int),0,1,0,(rest:Int)/9%3]:List Int).map V.int));refine⟨_,rfl,_,V.int (([(n2:Int),0,(n2:Int),0,1,0,(rest:Int)/9%3]:List Int).getD w 0),.inl (aA.of aD),?_,?_⟩
  .have:=dN (ns:=[(n2:Int),0,(n2:Int),0,1,0,(rest:Int)/9%3]) (k:=(w:Int)) ⋯ (by show(w:Int)<7;lia);rw[cM]at this;exact this
  have qq:=q _ g1;obtain rfl|rfl|rfl|rfl|rfl|rfl:w=0∨w=2∨w=3∨w=4∨w=5∨w=6:=⋯
  .exact qq
  .exact qq
  .exact(show V.int ((n1:Int)+0)=V.int (n1:Int)by rw[cU])▸qq
  .exact qq
  .exact(show V.int ((n1:Int)+0)=V.int (n1:Int)by rw[cU])▸qq
  .show Q (.int ((n1:Int)+(rest:Int)/9%3)) _;rw[Ae];exact qq
theorem auW(F:Fn K mg "_law_done" Ux ["_law_way","_law_one","_law_other","_law_cell"])(Us:aev P w K mg base bD)(PB:ac1 P w K mg base bD)(LK:ae6 P w K mg base bD)(Oe:abo P w K mg base)(jB:Az P w K mg base)(PV:ad5 P w K mg base bD)(NS:XS P w K mg base)(M7:aer P w K mg base bD):abL P w K mg base bD:=by
 refine F.wN YV λH Q E hr h=>?_
 obtain⟨w,rest,v1,v2,rfl,b,p,m1,m2,r1,r2,L1,L2,w6,T,w5,qE,qQ⟩:=h;refine⟨_,(au (fL (i:=4) YV.nd rfl (dX rfl) (aF cV (aF eG (pv 3) ao) ao)) (au (cO (bI (d8 K hr) (pv 0) ao) (aC (aP (qU Us hr rfl (aj (pv 1) (aj (pv 2) ak))))) cR) (au (cO (bI (d8 K hr) (pv 0) ao) (aC (aP (qU PB hr rfl (aj (pv 1) (aj (pv 2) ak))))) cR) (au (cO (bI (d8 K hr) (pv 0) ao) (aC (aP (qU LK hr rfl (aj (pv 1) (aj (pv 2) ak))))) cR) (au (cO (bI (d8 K hr) (pv 0) ao) (aC (aP (aG Oe hr (aj (pv 1) (aM (aG jB hr (aM (aO K (pv 1) ao) (aj (pv 4) ak))) ak))))) cR) (au (cO (bI (d8 K hr) (pv 0) ao) (aC (aP (qU PV hr rfl (aj (pv 1) ak)))) cR) (au (cO (bI (d8 K hr) (pv 0) ao) (aC (aP (aG NS hr (aj (pv 1) (cQ (aF eG (pv 3) ao) (cQ (pad K ao (aF eG (aF pC (pv 3) ao) ao)) ak)))))) cR) (aC (aP (qU M7 hr rfl (aj (pv 1) (aM (fD (sc:=apA) (N:=["_law_k","_law_number_here","_law_one"]) (ix:=[none,some 4,some 1]) dJ rfl (fK rfl B.dG (cQ (aF eG (aF pC (pv 3) ao) ao) ak)) (λ_ _ _ _ _=>⟨(bJ 0 dz),dM,(aG jB hr (aM (aO K (pv 2) ao) (cQ (pad K (pv 1) (pv 0)) ak)))⟩)) ak)))))))))))),?_⟩;have hb:=T.k1.hB;have hb0:=hb.lo;have p1:=T.p1;have p8:=T.p8;have R1:=T.k1.ri p1 p8 T.l1;have R2:=T.k2.ri p1 p8 T.l2;have s1:=T.k1.Dh T.l1;have s2:=T.k2.Dh T.l2;have e1:=T.l1.mon.pos;have e2:=T.l2.mon.pos;have w1:=qW p m1;have w2:=qW p m2;have hm1:=T.m1;obtain⟨a1,t1,t2,rfl,uT,_,_⟩:=id T.h1;refine⟨_,rfl,_,_,rfl,rfl,(∅:(0:Int)<9),_,_,rfl,rfl,?_⟩;have x0:=iK (rest:Int) (∅:(0:Int)<9);have x1:=je (rest:Int) (∅:(0:Int)<9);generalize hx:(rest:Int)%9-4=x at qQ;obtain rfl|rfl|rfl|rfl|rfl|rfl|rfl:w=0∨w=1∨w=2∨w=3∨w=4∨w=5∨w=6:=⋯
 .refine⟨_,rfl,_,rfl,iM ?_⟩;have w3:=qW (2*p) (min m1 m2);refine⟨_,rfl,_,rfl,_,v2,rfl,b,r1,r2,_,_,_,_,_,_,_,_,L1,L2,T.h1,T.h2,R1,R2,T.l1,T.l2,⋯,⋯,∅,λhle=>⟨L1.length-1+(L2.length-1),28*(2*p)-18,dw (2*p) (min m1 m2),aR _,hle,asS T.l1.kp T.l2.kp,ajF p1 hb T.k1.at_ T.k2.at_,⋯,⋯,?_,λv' r' L' H' g hR hT hF hl=>?_⟩,qE⟩
  .have:=xU hle (⋯:28*(2*p)-18<=430) (⋯:dw (2*p) (min m1 m2)<=168);lia
  .exact qQ hle v' r' L' H' g hR hT (.of hb hT hF ⋯ ⋯ ⋯ (aR _) (aR _)) hl
 .refine⟨_,rfl,_,rfl,bU ⟨_,rfl,_,rfl,iM ?_⟩⟩;have w3:=qW (2*p) (min m1 m2);refine⟨_,rfl,_,rfl,_,v2,rfl,b,r1,r2,_,_,_,_,_,_,_,_,L1,L2,T.h1,T.h2,R1,R2,T.l1,T.l2,⋯,⋯,λhle=>?_,qE⟩;have z1:(1112+1112+13*(L1.length-1+(L2.length-1)+2)+6)*((L1.length-1)*(L2.length-1))<=2568*12:=iH ⋯ hle;refine⟨(L1.length-1)*(L2.length-1),28*(2*p)-18,dw (2*p) (min m1 m2),aR _,hle,aw1 p1 hb T.k1.at_ T.k2.at_,⋯,⋯,⋯,?_,λv' r' L' H' g hR hT hF hl=>?_⟩
  .have:=xU hle (⋯:28*(2*p)-18<=430) (⋯:dw (2*p) (min m1 m2)<=168);lia
  .exact qQ hle v' r' L' H' g hR hT (.of hb hT hF ⋯ ⋯ ⋯ (aR _) (aR _)) hl
 .refine⟨_,rfl,_,rfl,bU ⟨_,rfl,_,rfl,bU ⟨_,rfl,_,rfl,iM ?_⟩⟩⟩;have w3:=qW (2*p) (min m1 m2);refine⟨_,rfl,_,rfl,_,v2,rfl,b,r1,r2,_,_,_,_,_,_,_,_,L1,L2,T.h1,T.h2,R1,R2,T.l1,T.l2,⋯,⋯,∅,λhle=>⟨L1.length-1+(L2.length-1),28*(2*p)-18,dw (2*p) (min m1 m2),aR _,hle,awA T.l1.kp T.l2.kp,anv p1 hb T.k1.at_ T.k2.at_,⋯,⋯,?_,λv' r' L' H' g hR hT hF hl=>?_⟩,qE⟩
  .have:=xU hle (⋯:28*(2*p)-18<=430) (⋯:dw (2*p) (min m1 m2)<=168);lia
  .exact qQ hle v' r' L' H' g hR hT (.of hb hT hF ⋯ ⋯ ⋯ (aR _) (aR _)) hl
 .refine⟨_,rfl,_,rfl,bU ⟨_,rfl,_,rfl,bU ⟨_,rfl,_,rfl,bU ⟨_,rfl,_,rfl,iM ?_⟩⟩⟩⟩;have hd1:=Oj (p:=p) (m:=m1) p1;have hle:L1.length-1<=12:=⋯;refine⟨_,rfl,_,rfl,_,_,.inr (aB.of uT),rfl,_,rfl,r1.b,x,rfl,by rw[T.k1.by_];exact hb0,?_⟩;rw[T.k1.by_];have ex:(λk=>Rm.tk b (Rm.tk b x*r1.at k))=λk=>Rm.tk b (x*r1.at k):=funext λk=>Rm.dU ..;refine⟨_,b,r1,Rm.tk b x,L1.length-1,1112,28*p-18,dw p m1,2200,rfl,T.h1,R1,jY hb ∅ (Rm.Bd.of ⋯ ⋯),T.k1.rl,∅,∅,⋯,⋯,λv' r' L' H' g hR hT hF=>?_⟩;rw[ex]at hT hF;have hl:=hT.len;have hL':L'.length<=L1.length:=hT.lst.le hb.one T.l1.mon (agz T.l1.kp);exact qQ hle v' r' L' H' g hR hT (.of hb hT hF ⋯ ⋯ ⋯ ⋯ (by show _<=dw (2*p) m1;lia)) (by show _<=L1.length-1;lia)
 .refine⟨_,rfl,_,rfl,bU ⟨_,rfl,_,rfl,bU ⟨_,rfl,_,rfl,bU ⟨_,rfl,_,rfl,bU ⟨_,rfl,_,rfl,iM ?_⟩⟩⟩⟩⟩;have hd1:=Oj (p:=p) (m:=m1) p1;refine⟨_,rfl,_,b,r1,_,_,_,_,L1,rfl,T.h1,R1,T.l1,λh12=>qE (by show 12<L1.length-1+1;lia),λh12=>?_⟩;have hle:L1.length-1+1<=12:=⋯;have:=xU hle (⋯:28*p-18+1<=430) (⋯:dw p m1+1<=168);refine⟨hle,⋯,⋯,⋯,λv' r' L' H' g hR hT hF hl=>?_⟩;exact qQ hle v' r' L' H' g hR hT (.of hb hT hF ⋯ ⋯ ⋯ ⋯ (by show _<=dw (2*p) m1;lia)) (by show _<=L1.length-1+1;lia)
 .refine⟨_,rfl,_,rfl,bU ⟨_,rfl,_,rfl,bU ⟨_,rfl,_,rfl,bU ⟨_,rfl,_,rfl,bU ⟨_,rfl,_,rfl,bU ⟨_,rfl,_,rfl,iM ?_⟩⟩⟩⟩⟩⟩;have Oh:=w5 rfl;have hdw:=aoS (p:=p) Oh;obtain⟨st,hst⟩:∃st,rest%5=st:=⟨_,rfl⟩;obtain⟨e,he⟩:∃e,1+rest/5%3=e:=⟨_,rfl⟩;have IG:st<=4:=⋯;have Jc:1<=e/\e<=3:=⋯;have q1:(rest:Int)%5=(st:Int):=by rw[<-hst,qD];rfl
  have q2:1+(rest:Int)/5%3=(e:Int):=by rw[<-he,Fq,qD,Ao];rfl
  rw[hst,he]at qQ;have hle:L1.length-1<=12:=⋯;have n36:e*(L1.length-1)<=3*12:=iH Jc.2 hle;have z1:(1112+13*(L1.length-1+1)+3)*(e*(L1.length-1))<=1284*36:=iH ⋯ n36;have d1:dw p m1*st<=7*p*4:=by rw[hdw];exact fH _ IG
  have d2:dw p m1*e<=7*p*3:=by rw[hdw];exact fH _ Jc.2
  have d3:dw p m1*e<=dw (2*p) (iZ m1 st e):=by
   rw[hdw];have hs:80<=iZ m1 st e->e=1:=λh=>by
    obtain rfl|rfl|rfl:e=1∨e=2∨e=3:=⋯
    .rfl
    .unfold iZ at h;lia
    .unfold iZ at h;lia
   unfold dw;split
   .rename_i h;rw[hs h];lia
   .have:=fH (7*p) Jc.2;lia
  have:=xU hle (⋯:28*p-18+dw p m1*st<=430) (⋯:dw p m1*e<=168);refine⟨_,rfl,_,rfl,_,_,rfl,rfl,(∅:(0:Int)<5),_,rfl,_,_,rfl,rfl,⟨∅,∅⟩,_,_,rfl,rfl,(∅:(0:Int)<3),_,st,e,?_,b,r1,_,_,_,_,L1,T.h1,R1,T.l1,⋯,Jc.1,⋯,⋯,⋯,⋯,λv' r' L' H' g hR hT hF hl=>?_⟩
  .show[_,V.int ((rest:Int)%5),V.int (1+(rest:Int)/5%3)]=_;rw[q1,q2]
  .exact qQ hle v' r' L' H' g hR hT (.of hb hT hF ⋯ ⋯ ⋯ ⋯ d3) hl
 .refine⟨_,rfl,_,rfl,bU ⟨_,rfl,_,rfl,bU ⟨_,rfl,_,rfl,bU ⟨_,rfl,_,rfl,bU ⟨_,rfl,_,rfl,bU ⟨_,rfl,_,rfl,bU ?_⟩⟩⟩⟩⟩⟩;have Ae:(rest:Int)/9%3=((rest/9%3:Nat):Int):=by rw[qD,Ao];rfl
  generalize hq:rest/9%3=q at qQ qE Ae;have q2:q<=2:=⋯;refine⟨_,rfl,_,rfl,_,_,rfl,rfl,⟨∅,∅⟩,_,_,rfl,rfl,(∅:(0:Int)<3),(q:Int),congrArg (λz=>[V.int z]) Ae,(⋯:-(2^62)<=(q:Int)),(⋯:(q:Int)<2^62),?_⟩;rw[cM];refine rT (n:=q) ⋯ rfl (λk=>Rm.tk b (x+(k:Int))) ?_ ?_
  .intro H2 k g2 hk kk hkk;refine⟨_,rfl,_,_,.inr (aB.of (g2 _ _ uT)),rfl,_,rfl,_,rfl,r1.b,_,rfl,by rw[T.k1.by_];exact hb0,?_⟩;rw[T.k1.by_,dj];exact hkk
  intro D hD;have g2:=Same.new hD (.lst ((Pm.aq q λk=>Rm.tk b (x+(k:Int))).map V.int));have lN:(Pm.aq q λk=>Rm.tk b (x+(k:Int))).length=q:=Pm.aQ ..;have hN:∀y∈(Pm.aq q λk=>Rm.tk b (x+(k:Int))),fG b y/\Rm.Bd 10 y:=λy hy=>by
   obtain⟨k,hk,rfl⟩:=Pm.gK hy;exact⟨vB hb0 _,jY hb ∅ (Rm.Bd.of ⋯ ⋯)⟩
  refine⟨_,b,r1,_,_,_,_,L1,D,_,rfl,T.h1.same g2,R1,T.l1,aD,⋯,λy hy=>(hN y hy).1,λy hy=>(hN y hy).2.mono ⋯,λh12 H' g=>qE (by rw[lN]at h12;exact h12) H' (g2.trans g),λh12=>?_⟩;rw[lN]at h12⊢;have hd1:=Oj (p:=p) (m:=m1) p1;have hd2:dw (2*p) m1<=dw (2*p) (q+m1)∨dw p m1<=dw (2*p) (q+m1):= .inr (by unfold dw;split<;>split<;>lia);have:=xU h12 (⋯:28*p-18<=430) (⋯:dw p m1<=168);refine⟨h12,⋯,⋯,⋯,λv' r' L' H' g hR hT hF hl=>?_⟩;exact qQ h12 v' r' L' H' (g2.trans g) hR hT (.of hb hT hF ⋯ ⋯ ⋯ ⋯ (by show _<=dw (2*p) (q+m1);unfold dw;split<;>split<;>lia)) hl
theorem ay6(F:Fn K mg "_law_asked" Ow ["_law_way","_law_one","_law_other","_law_cell"])(Vm:abL P w K mg base bD):aag P w K mg base bD:=by
 refine F.cal Ck (λH Q E hr h=>?_) λ_ _ _ _ h=>by obtain⟨w,rest,v1,v2,rfl,_⟩:=h;rfl
 obtain⟨w,rest,v1,v2,rfl,b,p,m1,m2,r1,r2,L1,L2,w6,T,w5,qE,qQ⟩:=h;refine⟨_,(au (aN 4 Ck.nd J3) (au (aN 5 Ck.nd J3) (au (atE (i:=5) (j:=6) Vm hr rfl rfl rfl rfl (aj (pv 0) (aj (pv 1) (aj (pv 2) (aj (pv 3) ak)))) Ck.nd rfl (pO rfl) rfl rfl rfl M.aAg (λa=>(aC (aN 4 Ck.nd (pv 6))))) (au (cO (Uc (adE (pv 4))) (aC (aP (lu (aiT K) rfl B.acV boot_isinstance (aj (pv 4) (aj (azn rfl M.asB) ak))))) cR) (aC (aP (pv 5))))))),?_⟩;refine⟨_,rfl,_,rfl,_,rfl,_,rfl,w,rest,v1,v2,rfl,b,p,m1,m2,r1,r2,L1,L2,w6,T,w5,λh12 H1 g1=>⟨_,rfl,M.ake,λa ha=>?_⟩,λh12 v' r' L' H1 g1 hR hT hK hl=>?_⟩
 .have g0:=Same.new ha (yp a bD);have hA:=aD (H:=H1) (a:=a) (o:=yp a bD);generalize upd H1 a (yp a bD)=H2 at g0 hA;refine⟨_,rfl,?_⟩;refine⟨_,rfl,_,rfl,iM ?_⟩;exact⟨_,rfl,a,bD,_,true,rfl,hA,M.aif,.inl ⟨_,rfl,M.MP⟩,qE h12 _ g1 _ g0⟩
 .refine⟨_,rfl,_,rfl,bU ?_⟩;exact⟨_,rfl,qQ h12 v' r' L' H1 g1 hR hT hK hl⟩
theorem ajs{f:Addr}{fd:FuncData}(F:uY K "law" "law" xR f fd)(Nf:Yx P w K mg base)(tH:Ph P w K mg base)(RP:abh P w K mg base)(Vy:aeB P w K mg base)(Sq:Y5 P w K mg base)(gq:wz P w K mg base)(QT:aag P w K mg base bD)(VJ:Xm P w K mg base)(Mu:adG P w K mg base)(Pg:abt P w K mg base):sX P w K mg base (rK P w) M6 f fd ["_law_script"] (Mv K):=by
 refine F.okN (k:=17) jN (λvs H Q E h=>?_) (λcdv A outer s H vs Q E hr h=>?_)
 .obtain⟨a,ns,rfl,_⟩:=h;rfl
 .obtain⟨a,ns,rfl,hS,hlen,q⟩:=h;refine⟨_,(au (aN 1 jN.nd (aG Nf hr (aM (aG tH hr (aj (pv 0) (cY ao ak))) ak))) (au (aN 2 jN.nd (jc ak)) (au (jj PassesOwn.never rfl (j7 K (lX (cY ao (cY ao ak)))) (bJ 3 jN.nd) (au (aN 4 jN.nd (aG RP hr (aj (pv 0) (aj (pv 3) (aj (pv 1) (cY ao ak)))))) (aC (jm (rA K (pv 2) (lX (aj (pv 4) (aM (aG Vy hr (aj (pv 4) (cY ao ak))) ak)))))))) (au (jj PassesOwn.never rfl (fK rfl B.dG (cQ (pad K ao (aF eG (aG tH hr (aj (pv 0) (cY ao ak))) ao)) ak)) (bJ 5 jN.nd) (au (aN 6 jN.nd (aF eG (aG tH hr (aj (pv 0) (cQ (pad K ao (pv 5)) ak))) (pad K (aF QM ao ao) ao))) (au (pZ (aO K (pv 2) (Dg Dq ao)) (yD K (n:=2) rfl (mO (bJ 7 jN.nd) (mO (bJ 8 jN.nd) xr)))) (au (pZ (aO K (pv 2) (aF eG (aF pC (pv 6) ao) (bY K B.bV (aj (pv 2) ak)))) (yD K (n:=2) rfl (mO (bJ 9 jN.nd) (mO (bJ 10 jN.nd) xr)))) (au (aN 11 jN.nd (aF eG (pv 6) ao)) (au (uV (cO (PW.pt (Hf (bI (d8 K hr) (pv 11) ao) (Lw (bI rD (bY K B.bV (aj (pv 8) ak)) ao)))) (aC (aN 11 jN.nd ao)) cR)) (au (aN 12 jN.nd (aF pC (pv 6) ao)) (au (aN 13 jN.nd (aG Sq hr (aj (pv 11) (aM (bY K B.bV (aM (aO K (aG gq hr (aj (pv 7) ak)) ao) ak)) (aM (bY K B.bV (aM (aO K (aG gq hr (aj (pv 9) ak)) ao) ak)) (aj (pv 12) ak)))))) (au (aN 14 jN.nd (aG QT hr (aj (pv 11) (aj (pv 7) (aj (pv 9) (aj (pv 12) ak)))))) (au (cO (bI nZ (pv 13) ao) (aC (aP (az4 (asb (pv 14))))) cR) (au (aN 15 jN.nd (aG VJ hr (aj (pv 11) (aj (pv 1) (aj (pv 8) (aj (pv 10) (aj (pv 12) ak))))))) (au (cO (PW.pt (vU (DK (zf (lu ayb rfl B.acV boot_isinstance (aj (pv 14) (aj (anK rfl B.pU boot_tuple) ak))))) (vU (bI nZ (bY K B.bV (aM (aO K (pv 14) ao) ak)) (pv 13)) (Ij (bI (vo K hr) (aG gq hr (aj (pv 14) ak)) (pv 14)))))) (aC (aP sG)) cR) (au (aN 16 jN.nd (bY K B.bV (aM (aO K (pv 14) ao) ak))) (au (cO (bI (vo K hr) (aG Mu hr (aj (pv 14) (cQ (pad K (pv 13) (pv 16)) ak))) (rN (rQ K) (pv 15) rW (tO (pad K (pv 13) (pv 16))))) (aC (aP sG)) cR) (au (cO (bI (vo K hr) (aG Pg hr (aj (pv 1) (aM (rN (rQ K) (pv 15) rW (tO (aF v_mul ao (pv 16)))) ak))) (lX (cY Dd (cY ao (aM (jP (xlist K) rfl B.yJ boot_list (aM (aO K (pv 14) ao) ak)) ak))))) (aC (aP sG)) cR) (aC (jm (rA K (pv 2) (lX (aj (pv 14) (aj (pv 15) ak))))))))))))))))))))) (aC (aP sG)))))),?_⟩;refine⟨_,rfl,a,ns,0,rfl,hS,∅,?_⟩;refine⟨_,rfl,λH0 g0=>?_⟩;have hB:=arh (cellAt ns 0);generalize V8 (cellAt ns 0)=b at hB;have hb:=hB.toF;have hb0:=hb.lo;refine⟨dD _,λkp hkp=>?_⟩;have hfr:H kp=none:=g0.free hkp;have g1:=g0.trans (Same.new hkp (.lst []));have h1:(upd H0 kp (.lst [])) kp=some (.lst []):=aD;generalize upd H0 kp (.lst [])=H1 at g1 h1;refine⟨(by show 2<=sizeLine;decide),λt ht=>?_⟩;have g2:=Same.new ht (.tup [.int 1,.int 4]);have h2:(upd H1 t (.tup [.int 1,.int 4])) t=some (.tup [.int 1,.int 4]):=aD;have h12:=g2 _ _ h1;have gA:=g1.trans g2;generalize upd H1 t (.tup [.int 1,.int 4])=H2 at gA h2 h12;refine⟨t,rfl,.inr ⟨⟨_,aB.of h2⟩,au9 (K:=K) (a:=t) (xs:=[.int 1,.int 4]) (λi σ' H'=>yu λ(o3 o4:Option V) (ys:List V)=>za (σ'=[some (.ref a),some (.int b),some (.ref kp),o3,o4,none,none,none,none,none,none,none,none,none,none,none,none]) (Same H H') (H' kp=some (.lst ys)) (H' t=some (.tup [.int 1,.int 4])) (ys.length=i) (∀v∈ys,oV H' kp b 1 v)) ⟨_,_,[],rfl,gA,h12,h2,rfl,λv hv=>(nH hv).elim⟩ (λi σ' H' ⟨_,_,_,_,_,_,z,_,_⟩=>aB.of z) ?_ ?_⟩⟩
  .rintro i x σ' H3 hx ⟨o3,o4,ys,rfl,g3,qg,Oa,ly,hE⟩;obtain⟨st,rfl,hst⟩:∃st:Int,x = .int st/\0<=st:=by
    match i,hx with
    |0,hx=>exact⟨1,(qZ hx).symm,∅⟩
    |1,hx=>exact⟨4,(qZ hx).symm,∅⟩
   have i2:i<2:=(List.getElem?_eq_some_iff.mp hx).1;refine⟨_,rfl,_,rfl,_,rfl,a,ns,st,b,3,rfl,g3.seq hS,hst,hB,∅,λv r H4 g4 hR hBw=>?_⟩;have kw:=hBw.kw hb;refine⟨_,rfl,.inl ⟨rfl,_,aA.of (g4 _ _ qg)⟩,_,rfl,_,rfl,v,r,90,rfl,hR,kw.ok,∅,∅,λl H5 g5 hl h5=>?_⟩;refine⟨(by show 2<=sizeLine;decide),λt2 qN=>?_⟩;have g6:=Same.new qN (.tup [v,.ref l]);have h6:(upd H5 t2 (.tup [v,.ref l])) t2=some (.tup [v,.ref l]):=aD;have pq:=g4.trans (g5.trans g6);have EG:=pq _ _ qg;have lk:l≠kp:=λz=>by rw[z,g4 _ _ qg]at hl;cases hl
   have e6:=(hR.same g5).same g6;have D7:=g6 _ _ h5;rw[show((90:Int)).toNat=90 from rfl,vO]at D7;generalize upd H5 t2 (.tup [v,.ref l])=H6 at g6 h6 pq EG e6 D7;refine⟨kp,_,_,rfl,rfl,EG,?_,?_⟩
   .exact dW ⋯
   refine⟨_,_,ys++[.ref t2],rfl,(g3.trans pq).upd hfr _,aD,?_,by rw[gW,ly];rfl,λw hw=>?_⟩
   .have:=pq _ _ Oa;rw[cW (λz=>by rw[z,EG]at this;cases this)];exact this
   rcases qT.mp hw with hw|hw
   .exact((hE w hw).same pq).put EG
   .rw[oW.mp hw];exact oV.put ⟨t2,v,l,r,90,rfl,h6,e6,D7,lk,∅,∅,kw⟩ EG
  clear h2 h12 gA g1 g2 h1;rintro σ' H3 ⟨o3,o4,ys,rfl,g3,qg,Oa,ly,hE⟩;obtain⟨n,en,hn⟩:∃n:Nat,1+cellAt ns 7%4=(n:Int)/\n<=4:=by
   have h0:=iK (cellAt ns 7) (∅:(0:Int)<4);have h1:=je (cellAt ns 7) (∅:(0:Int)<4);exact⟨(1+cellAt ns 7%4).toNat,⋯,⋯⟩
  refine⟨_,rfl,a,ns,7,rfl,g3.seq hS,∅,_,_,rfl,rfl,(∅:(0:Int)<4),(n:Int),congrArg (λz=>[V.int z]) en,(⋯:-(2^62)<=(n:Int)),(⋯:(n:Int)<2^62),?_⟩;rw[cM];refine j8 (lo:=0) (n:=n) (λi σ' H'=>agq λ(o3 o4 o5 o6 o7 o8 o9 Mx aH wY vJ wC yL sU:Option V) (ys:List V)=>yw (σ'=[some (.ref a),some (.int b),some (.ref kp),o3,o4,o5,o6,o7,o8,o9,Mx,aH,wY,vJ,wC,yL,sU]) (Same H H') (H' kp=some (.lst ys)) (ys.length=2+i) (∀v∈ys,oV H' kp b (2^i) v)) ⟨_,_,_,_,_,_,_,_,_,_,_,_,_,_,ys,rfl,g3,qg,by rw[ly];rfl,hE⟩ ?_ ?_
  .clear qg Oa ly hE g3;rintro i σ' H3 hi ⟨o3,o4,o5,o6,o7,o8,o9,Mx,aH,wY,vJ,wC,yL,sU,ys,rfl,g3,qg,ly,hE⟩;refine hide λN hN=>?_;refine⟨_,rfl,_,rfl,a,ns,8+(0+(i:Int)),rfl,g3.seq hS,⋯,?_⟩;generalize cellAt ns (8+(0+(i:Int)))=c0;obtain⟨c,ec⟩:∃c:Nat,c0%(10^Int.toNat 9+7)=(c:Int):=⟨(c0%(10^Int.toNat 9+7)).toNat,(O1 (iK _ ∅)).symm⟩;refine⟨_,_,rfl,rfl,⟨∅,∅,∅⟩,_,_,rfl,rfl,(∅:(0:Int)<10^9+7),?_⟩;dsimp only;rw[ec];refine hN _ _ (hide λN hN=>?_);have y0:0<ys.length:=⋯;obtain⟨t1,v1,l1,r1,m1,e1,ht1,qz,hl1,lk1,m26,Zf,wB⟩:=hE (ys[ys.length-1]'⋯) (vG _);refine⟨_,rfl,_,rfl,_,.ref t1,.inl (aA.of qg),ayp y0 (by rw[<-e1];exact List.getElem?_eq_getElem _),t1,_,rfl,aB.of ht1,rfl,_,_,rfl,_,_,rfl,rfl,?_⟩;refine hN _ _ (hide λN hN=>?_);obtain⟨j,ej,hj⟩:∃j:Nat,(c:Int)/7%(ys.length:Int)=(j:Int)/\j<ys.length:=by
    have h0:=iK ((c:Int)/7) (⋯:(0:Int)<(ys.length:Int));have h1:=je ((c:Int)/7) (⋯:(0:Int)<(ys.length:Int));exact⟨((c:Int)/7%(ys.length:Int)).toNat,(O1 h0).symm,⋯⟩
   obtain⟨t2,v2,l2,r2,m2,e2,qN,jz,hl2,lk2,ao3,ab6,wA⟩:=hE ys[j] (vG _);refine⟨_,rfl,_,rfl,_,_,rfl,rfl,⟨∅,∅⟩,_,rfl,.ref kp,ys.length,rfl,.inl ⟨_,aA.of qg,rfl⟩,_,_,rfl,rfl,(by show(0:Int)<(ys.length:Int);lia),_,.ref t2,.inl (aA.of qg),qx j ej (by rw[<-e2];exact List.getElem?_eq_getElem _),t2,_,rfl,aB.of qN,rfl,_,_,rfl,_,_,rfl,rfl,?_⟩;refine hN _ _ (hide λN hN=>?_);refine⟨_,rfl,_,_,rfl,rfl,(∅:(0:Int)<7),?_⟩;refine hN _ _ (hide λN hN=>?_);have Lm1:((Pm.aq m1 r1.at).map V.int).length=m1:=by rw[aK,Pm.aQ]
   refine u6.by (λσ' H'=>∃w:Nat,σ'=[some (.ref a),some (.int b),some (.ref kp),o3,o4,some (.int (0+(i:Int))),some (.int (c:Int)),some v1,some (.ref l1),some v2,some (.ref l2),some (.int (w:Int)),wY,vJ,wC,yL,sU]/\H'=H3/\w<=6/\(w=5->80<=m1)) (λNN oG=>?_) ?_
   .have e7:(c:Int)%7=((c%7:Nat):Int):=by rw[qD];rfl
    refine⟨_,rfl,_,rfl,?_⟩;refine cX (λcc=>?_) (λcc=>bU (oG _ _ ⟨c%7,by rw[<-e7];rfl,rfl,⋯,λz=>absurd (by show(c:Int)%7=5;lia) (dec_false cc)⟩));refine⟨_,rfl,.ref l1,m1,rfl,.inl ⟨_,aA.of hl1,Lm1.symm⟩,_,_,rfl,rfl,_,rfl,?_⟩;refine cX (λc2=>?_) (λc2=>?_)
    .exact oG _ _ ⟨4,rfl,rfl,∅,λz=>absurd z ∅⟩
    .exact oG _ _ ⟨c%7,by rw[<-e7];rfl,rfl,⋯,λ_=>by have:=dec_false c2;lia⟩
   rintro σ' H' ⟨w,rfl,rfl,w6,w5⟩;refine hN _ _ (hide λN hN=>?_);obtain⟨p,hp,p1,p8⟩:∃p:Nat,2^i=p/\1<=p/\p<=8:=⟨_,rfl,Nat.pos_of_ne_zero (by have:=pF (n:=i) (∅:0<2);lia),eO (uo ∅ (⋯:i<=3)) ∅⟩;rw[hp]at wB wA Zf ab6;refine⟨_,rfl,_,_,rfl,rfl,⟨∅,∅⟩,?_⟩;obtain⟨rest,er⟩:∃rest:Nat,(c:Int)/70=(rest:Int):=⟨c/70,by rw[Ao];rfl⟩;dsimp only;rw[er];refine hN _ _ (hide λN hN=>?_);have vd:=wB.by_;have by2:=wA.by_;refine⟨_,rfl,_,rfl,v1,r1,rfl,qz,wB.ok,by rw[vd];exact hB,wB.tame,λx1 L1 H4 g4 hS1 nA Mq=>?_⟩;rw[vd]at nA;have k12:=wB.jx;have aBo:=wA.jx;obtain⟨a1,p1',s1',rfl,uT,qM,_⟩:=id hS1;have Es:((aX r1 L1).rule.map V.int).length=L1.length-1:=by rw[aK,(EV Mq wB.ok).1]
   refine⟨_,_,.inr (aB.of uT),rfl,.ref p1',L1.length-1,rfl,.inr ⟨_,aB.of qM,Es.symm⟩,?_⟩;refine⟨_,rfl,v2,r2,rfl,jz.same g4,wA.ok,by rw[by2];exact hB,wA.tame,λx2 L2 H5 g5 hS2 jd Di=>?_⟩;rw[by2]at jd;obtain⟨a2,p2',s2',rfl,n6,hP2,_⟩:=id hS2;have CP:((aX r2 L2).rule.map V.int).length=L2.length-1:=by rw[aK,(EV Di wA.ok).1]
   refine⟨_,_,.inr (aB.of n6),rfl,.ref p2',L2.length-1,rfl,.inr ⟨_,aB.of hP2,CP.symm⟩,?_⟩;refine⟨_,rfl,w,L1.length-1,L2.length-1,rest,rfl,w6,⋯,⋯,λH6 g6=>?_⟩;have pq:=g4.trans (g5.trans g6);refine hN _ _ (hide λN hN=>?_);have m1l:m1<=104:=⋯;refine⟨_,rfl,_,rfl,_,rfl,_,rfl,w,rest,v1,v2,rfl,b,p,m1,m2,r1,r2,L1,L2,w6,⟨qz.same pq,jz.same pq,wB,wA,nA,jd,p1,p8,m1l⟩,w5,λh12 H7 g7 H8 g8=>?_,λh12 v r L H7 g7 hR hT Gd hrl=>?_⟩
   .refine hN _ _ ?_;refine⟨_,rfl,_,_,rfl,rfl,_,rfl,?_⟩;refine cX (λ_=>?_) (λcc=>absurd h12 (by have:=dec_false cc;lia));exact⟨_,rfl,q _⟩
   refine hN _ _ (hide λN hN=>?_);generalize hmo:E6 w (L1.length-1) (L2.length-1) (rest/9%3)=mo at h12 hrl;refine⟨_,rfl,_,_,rfl,rfl,_,rfl,?_⟩;refine cX (λcc=>absurd h12 (by have:=dec_true cc;lia)) (λ_=>?_);refine hN _ _ (hide λN hN=>?_);have GC:=pq.trans g7;have Fn:∀{m:Nat} {r':Rw},Kw b p m r'->m<=104->∀k,k<m->Rm.Bd 20000 (r'.at k):=λ{m r'} h hm k hk=>(h.at_ k).mono (by
    have:=qW p m;have:=iH (⋯:dw p m<=84) (⋯:k<=104);lia)
   refine⟨_,rfl,_,rfl,_,rfl,_,rfl,_,rfl,w,rest,b,l1,l2,m1,m2,r1.at,r2.at,rfl,w6,hb0,⟨GC _ _ hl1,⋯,Fn wB m1l⟩,⟨GC _ _ hl2,⋯,Fn wA ⋯⟩,⋯,λD H8 hD g8 h8=>?_⟩;refine hN _ _ (hide λN hN=>?_);have ea:r.at=Fw w b r1.at r2.at ((rest:Int)%9-4) (rest%5) (1+rest/5%3) (rest/9%3):=funext hT.same;rw[<-ea]at h8 hT;obtain⟨M26,M98⟩:26<=mW w m1 m2 (rest%5) (1+rest/5%3) (rest/9%3)/\mW w m1 m2 (rest%5) (1+rest/5%3) (rest/9%3)<=88+2*(2*p):=arM w6 w5 m26 ao3 Zf ab6 p1;generalize mW w m1 m2 (rest%5) (1+rest/5%3) (rest/9%3)=m at h8 Gd M26 M98;clear ea;have Fo:=hR.same g8;have ok:=hT.ok;have rb:=hT.by_;have rl:=hT.len;have aBq:=hT.jx;obtain⟨av,pv,sv,rfl,GJ,hPv,hSv⟩:=id Fo;have lP:(r.rule.map V.int).length=r.rule.length:=aK _;refine⟨_,rfl,_,"tuple","tuple",rfl,by simp only[zF,GJ],∅,_,rfl,?_⟩;rw[show subB "tuple" "tuple" = true by decide];refine bU ⟨_,rfl,_,_,.inr (aB.of GJ),rfl,.ref pv,r.rule.length,rfl,.inr ⟨_,aB.of hPv,lP.symm⟩,_,rfl,_,_,rfl,rfl,_,rfl,?_⟩;refine cX (λcc=>absurd hrl (by have:=dec_true cc;lia)) (λ_=>?_);refine⟨_,rfl,.ref av,r,rfl,Fo,ok,by rw[rb];exact hB,Gd.tame,λx9 L9 H9 g9 hS9 ahj ll9=>?_⟩;have eL9:L9=L:=by
    rw[rb]at ahj;exact ahj.uniq hb.one hT.lst
   subst eL9;refine⟨_,rfl,ar8 hS9 (Fo.same g9) ⟨_,rfl,?_⟩⟩;rw[decide_eq_true (show(aX r L9).b=r.b/\(aX r L9).rule=r.rule/\(aX r L9).starts=r.starts from⟨rfl,by show Pm.eE r.b L9=r.rule;rw[rb];exact(hT.rule hb).symm,by show r.starts.take (L9.length-1)=r.starts;exact yM (by rw[<-ok.len];lia)⟩)];refine bU ?_;refine hN _ _ (hide λN hN=>?_);refine⟨_,rfl,_,_,.inr (aB.of (g9 _ _ GJ)),rfl,.ref pv,r.rule.length,rfl,.inr ⟨_,aB.of (g9 _ _ hPv),lP.symm⟩,?_⟩;refine hN _ _ (hide λN hN=>?_);refine⟨_,rfl,_,rfl,_,rfl,.ref av,r,(mo:Int)+(r.rule.length:Int),rfl,Fo.same g9,ok,⋯,⋯,λl10 Gv zX aAZ h10=>?_⟩;rw[(⋯:((mo:Int)+(r.rule.length:Int)).toNat=mo+r.rule.length),vO]at h10;have h8':=zX _ _ (g9 _ _ h8);refine⟨_,rfl,_,rfl,_,rfl,_,rfl,.inl ⟨_,aA.of h8',λl11 ash=>?_⟩⟩;have eC:gC ((Pm.aq m r.at).map V.int) none (some ((mo:Int)+(r.rule.length:Int)))=(Pm.aq (mo+r.rule.length) r.at).map V.int:=by
    rw[<-Fq,yK,<-rR,Ge _ ⋯]
   rw[eC];have Ut:=Same.new ash (.lst ((Pm.aq (mo+r.rule.length) r.at).map V.int));have h11:=aD (H:=Gv) (a:=l11) (o:= .lst ((Pm.aq (mo+r.rule.length) r.at).map V.int));have aao:=Ut _ _ h8';have afr:=Ut _ _ h10;have Ys:=g9.trans (zX.trans Ut);generalize upd Gv l11 (.lst ((Pm.aq (mo+r.rule.length) r.at).map V.int))=H11 at h11 aao afr Ys;refine aui (aA.of afr) (aA.of h11) ⟨_,rfl,?_⟩;rw[decide_eq_true rfl];refine bU ?_;refine hN _ _ (hide λN hN=>?_);have kn:=hT.kn hb;obtain⟨cap,ubd⟩:=Gd.amF ⋯ (⋯:2*r.rule.length<=24);have lN:(r.row (2*r.rule.length)).length=2*r.rule.length:=Rw.mH ..;refine⟨_,rfl,_,rfl,_,rfl,mulL ∅ ∅,_,rfl,.inl ⟨_,aA.of aao,λmR azI=>?_⟩⟩;have eC2:gC ((Pm.aq m r.at).map V.int) none (some (2*(r.rule.length:Int)))=(r.row (2*r.rule.length)).map V.int:=by
    rw[(⋯:2*(r.rule.length:Int)=((2*r.rule.length:Nat):Int)),yK,<-rR,Ge _ ⋯,vO]
   rw[eC2];have Ek:=Same.new azI (.lst ((r.row (2*r.rule.length)).map V.int));refine⟨4462,b,mR,r.row (2*r.rule.length),r.rule.length,rfl,hB,aD,⋯,cap,ubd,⋯,⟨_,1,by rw[hB.one];decide,kn.fits _⟩,λt' ht' x' Rk hb'=>Dm.ak1 (a:=r.at) (λn hn=>CY r ⋯) kn.ind ⋯ ht' hb',λv13 H13 g13 hf=>?_⟩;obtain⟨t13,ah5,rfl,ame,ar6⟩:=hf.ayn hB kn (aR _);have MF:=Ys.trans (Ek.trans g13);refine⟨_,rfl,_,_,.inr (aB.of (MF _ _ GJ)),rfl,pv,_,rfl,.inr (aB.of (MF _ _ hPv)),λJ1 at9=>?_⟩;refine⟨(by show 3<=sizeLine;decide),λxK awr=>?_⟩;have Rb:=Same.new at9 (.lst (r.rule.map V.int));have Il:=Same.new awr (.tup [.str ("one" : Str),.int 1,.ref J1]);have Ii:=MF.trans (Rb.trans Il);refine aki (s:= "one") (n:=1) (p:=r.rule) (x:=ah5) (y:=J1) (by decide +kernel) (Il _ _ (Rb _ _ ame)) (Il _ _ (Rb _ _ ar6)) aD (Il _ _ aD) ⟨_,rfl,?_⟩;refine bU ?_;generalize upd (upd H13 J1 (.lst (r.rule.map V.int))) xK (.tup [.str ("one" : Str),.int 1,.ref J1])=H15 at Ii;refine hN _ _ ?_;have g3K:=GC.trans (g8.trans Ii);have aa4:=g3K _ _ qg;refine⟨_,rfl,.inl ⟨rfl,_,aA.of aa4⟩,_,rfl,_,rfl,(by show 2<=sizeLine;decide),λqJ ayk=>?_⟩;have Cv:=Same.new ayk (.tup [.ref av,.ref D]);have QG:(upd H15 qJ (.tup [.ref av,.ref D])) qJ=some (.tup [.ref av,.ref D]):=aD;have Ig:=Cv _ _ aa4;have XQ:=(Fo.same Ii).same Cv;have Yy:=Cv _ _ (Ii _ _ h8);have Ve:=g3K.trans Cv;generalize upd H15 qJ (.tup [.ref av,.ref D])=H16 at Cv QG Ig XQ Yy Ve;have Dk:D≠kp:=λz=>by rw[z,GC _ _ qg]at hD;cases hD
   refine⟨kp,_,_,rfl,rfl,Ig,dW ⋯,?_⟩;have ep:2^(i+1)=2*p:=by rw[iY,hp,gZ]
   refine⟨_,_,_,_,_,_,_,_,_,_,_,_,_,_,ys++[.ref qJ],rfl,(g3.trans Ve).upd hfr _,aD,by rw[gW,ly];rfl,λx hx=>?_⟩;rw[ep];rcases qT.mp hx with hx|hx
   .exact(((hE x hx).same Ve).up ⋯).put Ig
   .rw[oW.mp hx];exact oV.put ⟨qJ,.ref av,D,r,m,rfl,QG,XQ,Yy,Dk,M26,M98,Gd⟩ Ig
  .rintro σ' H4 ⟨o3,o4,o5,o6,o7,o8,o9,Mx,aH,wY,vJ,wC,yL,sU,ys,rfl,g4,hK4,ly,hE⟩;exact q _
end
def all_mk{P:Program}{w:World}{K:aL}{h:Heap}{mg:Str->Option Value}{fa:Addr}(X:K.In h)(G:h.Ns mainGlobals mg)(hfa:mg "law" = some (.ref fa))
  (F0:bf K "is_prime" QB) (F1:bf K "taken" OX) (F2:bf K "inverse" Pk) (F3:bf K "over" LD) (F4:bf K "shared_by" Ny) (F5:bf K "next_place" Nk) (F6:bf K "first_places" Rp) (F7:bf K "refuse_far" SV) (F8:bf K "places" UQ) (F9:bf K "trimmed" Rt) (F10:bf K "times" Ug) (F11:bf K "divided" Rn) (F12:bf K "monic" Ui) (F13:bf K "greatest" Mr) (F14:bf K "of_rule" Wm) (F15:bf K "rule_of" Mj) (F16:bf K "behind_first" LC) (F17:bf K "power_sums" Rz) (F18:bf K "rule_of_sums" VN) (F19:bf K "prime_above" SD) (F20:bf K "divides" TX) (F21:bf K "taken_poly" Tz) (F22:bf K "nearest" Ro) (F23:bf K "joined" MQ) (F24:bf K "whole_greatest" Qy) (F25:bf K "shared_divisor" Oi) (F26:bf K "top_of" Uk) (F27:bf K "least_of" UU) (F28:bf K "shortest" VD) (F29:bf K "refuse_long" VZ) (F30:bf K "refuse_far_steps" MR) (F31:bf K "told_row" V5) (F32:bf K "sum_place" Qt) (F33:bf K "product_place" QW) (F34:bf K "rolled_place" O6) (F35:bf K "pair_row" Sx) (F36:bf K "joint_row" N7) (F37:bf K "added" SQ) (F38:bf K "rolled" MJ) (F39:bf K "multiplied" Tw) (F40:bf K "scaled" Ob) (F41:bf K "summed" Uv) (F42:bf K "every" Pa) (F43:bf K "put_ahead" Rv) (F44:bf K "line_taken" Va) (F45:bf K "head_line" TQ) (F46:bf K "bring_up" Pr) (F47:bf K "freed" VP) (F48:bf K "clear" Qg) (F49:bf K "common_divisor" Qq) (F50:bf K "lowest" QF) (F51:bf K "free_numbers" Wk) (F52:bf K "solution" Rh) (F53:bf K "lines_of" RZ) (F54:bf K "fit" Pn) (F55:bf K "fitted" Mp) (F56:bf K "_law_cell_at" O7) (F57:bf K "_law_mixed" SM) (F58:bf K "_law_by" UG) (F59:bf K "_law_taken" Mg) (F60:bf K "_law_number" QY) (F61:bf K "_law_gone" VG) (F62:bf K "_law_row" U6) (F63:bf K "_law_rolled" Tp) (F64:bf K "_law_summed" V1) (F65:bf K "_law_done" Ux) (F66:bf K "_law_due" PN) (F67:bf K "_law_most" MH) (F68:bf K "_law_asked" Ow) (FL:bf K "law" xR) (avS:iB K mainGlobals "abs" = some none) (aut:iB K mainGlobals "any" = some none) (asu:iB K mainGlobals "enumerate" = some none) (auI:iB K mainGlobals "isinstance" = some none) (azz:iB K mainGlobals "len" = some none) (axV:iB K mainGlobals "list" = some none) (apH:iB K mainGlobals "max" = some none) (atd:iB K mainGlobals "min" = some none) (auq:iB K mainGlobals "range" = some none) (amB:iB K mainGlobals "sum" = some none) (aAE:iB K mainGlobals "tuple" = some none) (atJ:iB K mainGlobals "zip" = some none) (Vw:∃t,iB K mainGlobals "BELOW_THE_PRIMES" = some (some (.int 1000000 t))) (Qf:∃t,iB K mainGlobals "FARTHEST" = some (some (.int 300 t))) (RG:∃t,iB K mainGlobals "FARTHEST_START" = some (some (.int 100 t))) (PJ:∃t,iB K mainGlobals "LONGEST" = some (some (.int 12 t))) (Lz:∃t,iB K mainGlobals "WIDEST_STEP" = some (some (.int 10 t))) {rB:Addr} (auT:iB K mainGlobals "RuleError" = some (some (.ref rB))) {bD:Addr} (aaC:iB K mainGlobals "TooLong" = some (some (.ref bD))) (amU:W.excIn K bD [.type "ValueError",.type "Exception",.type "BaseException",.type "object"] "ValueError.__new__" = true) (ahM:TJ K bD rB=true) (alS:W.ktsIn K rB "BaseException" = true) (aw0:wg K (.ref bD) "__getattribute__" = some (some (.builtin "BaseException.__getattribute__"))) (anl:wg K (.ref bD) "__getattr__" = some none) (aja:wg K (.ref bD) "__class__" = some (some (.builtin "object.__class__"))) (axZ:Cy K bD (.type "BaseException")=some true) (awM:Cy K bD (.type "object")=some true) (auh:(Ia K bD).isSome=true) (aby:sH K (.ref bD) (.ref rB)=some true) (MP:sH K (.ref bD) (.ref bD)=some true) (abd:sH K (.ref bD) (.type "ValueError")=some true):
  ∃fd:FuncData,(∀(s:Shared) (v:Value),BindsTo s fd ⟨[v],[]⟩ [("_law_script",v)])/\∀base:Heap,K.In base->base.Ns mainGlobals mg->sX P w K mg base (rK P w) M6 fa fd ["_law_script"] (Mv K):=by
 obtain⟨f,oc,od,kV,doc,pm,an,cdv,ct,sl,e1,e2,e3,e4⟩:=FL.ex;have e:=hfa.symm.trans (sV X G e1);cases e;have FF:=afB (st:=xR) e2 e3 e4;have B:Bt mg:=⟨pN X G avS,pN X G aut,pN X G asu,pN X G auI,pN X G azz,pN X G axV,pN X G apH,pN X G atd,pN X G auq,pN X G amB,pN X G aAE,pN X G atJ,(let⟨t,q⟩:=Vw;⟨t,sV X G q⟩),(let⟨t,q⟩:=Qf;⟨t,sV X G q⟩),(let⟨t,q⟩:=RG;⟨t,sV X G q⟩),(let⟨t,q⟩:=PJ;⟨t,sV X G q⟩),(let⟨t,q⟩:=Lz;⟨t,sV X G q⟩)⟩;refine⟨qH "law" "law" (rE xR) (mF xR) (aU xR) .none kV doc pm an cdv ct,λs v=> .of_eq rfl,λbase kB gB=>?_⟩;have M:Ms K mg base rB bD:=⟨sV X G auT,sV X G aaC,ax6 kB gB aaC amU afm ∅,axi kB ahM alS,⟨aw0,anl,aja,axZ,awM,auh⟩,aby,MP,abd⟩;have Uy:=asA P w B M (F0.bF X G);have cF:=aq3 P w B M (F1.bF X G);have Vv:=az7 P w B M (F2.bF X G) cF;have pI:=aji P w B M (F3.bF X G) cF Vv;have Ak:=ay1 P w B M (F4.bF X G);have SW:=aqs P w B M (F5.bF X G) cF;have oY:=akf P w B M (F6.bF X G) SW;have Vi:=asG P w B M (F7.bF X G);have Mu:=avR P w B M (F8.bF X G) Vi oY;have oU:=anw P w B M (F9.bF X G);have Ba:=ayj P w B M (F10.bF X G) cF oU;have ug:=aqg P w B M (F11.bF X G) cF oU;have CK:=atc P w B M (F12.bF X G) pI;have Ay:=ajA P w B M (F13.bF X G) CK ug;have su:=az6 P w B M (F14.bF X G) cF;have uU:=aqW P w B M (F15.bF X G) cF;have Ab:=aso P w B M (F16.bF X G);have wZ:=aiq P w B M (F17.bF X G) Ab;have Aj:=ayE P w B M (F18.bF X G) Ab;have M4:=ayW P w B M (F19.bF X G) Uy;have Jx:=aqj P w B M (F20.bF X G) ug;have Kr:=am8 P w B M (F21.bF X G) oU cF;have Bc:=ak0 P w B M (F22.bF X G);have Ng:=awW P w B M (F23.bF X G) pI cF Bc;have Tv:=az2 P w B M (F24.bF X G) Jx M4 Ay Kr Bc Ng;have Px:=avd P w B M (F25.bF X G) Tv Ay;have SG:=avv P w B M (F26.bF X G) cF oU;have TV:=apr P w B M (F27.bF X G) su SG ug Px;have gq:=avz P w B M (F28.bF X G) TV uU;have pJ:=av9 P w B M (F29.bF X G);have NZ:=auG P w B M (F30.bF X G);have mK:=akX P w B M (F31.bF X G) cF gq;have zq:=ayJ P w B M (F32.bF X G);have AW:=aAh P w B M (F33.bF X G);have Bo:=ajQ P w B M (F34.bF X G);have zN:=ayC P w B M (F35.bF X G) oY mK zq Bo AW;have Bm:=alv P w B M (F36.bF X G) Ak gq pJ Ba su zN uU;have Us:=axK P w B M (F37.bF X G) Bm zq;have LK:=aAJ P w B M (F38.bF X G) Bm Bo;have PB:=aAc P w B M (F39.bF X G) Ak gq pJ wZ Aj zN AW;have Oe:=ahU P w B M (F40.bF X G) mK;have PV:=azJ P w B M (F41.bF X G) gq pJ Ba cF su oY mK uU;have NS:=aoP P w B M (F42.bF X G) NZ gq wZ oY Aj mK;have M7:=az8 P w B M (F43.bF X G) gq pJ mK;have QX:=alV P w B M (F44.bF X G) cF
 have VQ:=ai8 P w B M (F45.bF X G);have R0:=azd P w B M (F46.bF X G) cF;have Ma:=akI P w B M (F47.bF X G) pI cF;have Vc:=azV P w B M (F48.bF X G) VQ R0 Ma;have Rg:=alx P w B M (F49.bF X G);have zR:=asF P w B M (F50.bF X G) pI Rg;have Qj:=al4 P w B M (F51.bF X G) cF zR;have SY:=ani P w B M (F52.bF X G) QX Vc zR Qj;have SN:=ajt P w B M (F53.bF X G);have JZ:=ahJ P w B M (F54.bF X G) SY SN;have Pg:=aul P w B M (F55.bF X G) JZ;have tH:=axH P w B M (F56.bF X G);have CJ:=axQ P w B M (F57.bF X G);have Nf:=aqu P w B M (F58.bF X G);have jB:=alk P w B M (F59.bF X G);have FY:=aju P w B M (F60.bF X G);have Vy:=aku P w B M (F61.bF X G) jB;have RP:=am4 P w B M (F62.bF X G) tH FY CJ;have Og:=atL P w B M (F63.bF X G) jB;have NQ:=asK P w B M (F64.bF X G) jB;have Vm:=auW P w B M (F65.bF X G) Us PB LK Oe jB PV NS M7;have VJ:=anT P w B M (F66.bF X G) jB Og NQ;have Sq:=auz P w B M (F67.bF X G);have QT:=ay6 P w B M (F68.bF X G) Vm;exact ajs P w B M FF Nf tH RP Vy Sq gq QT VJ Mu Pg
end K57
namespace L2
open PySem PySem.W W.X
def azx{q:Program}{loose:List Str}{XP:(Str->Option Value)->Heap->Prop}{K:Params->Frag}{as:List Addr}{n t:Nat}{r:RowW}{d:DefRec}{kwd:List (Str×PySem.Expr)}{run:Value->List Value->Sem Value}(keys:∀P,as=(K P).map (·.1))
  (W:WalkO q loose XP (λw h=>(K w.params).In h) r d kwd run):WalkX q loose XP (obsZ as) (valZ K n t) r d kwd run:=
 λw s0 s1 mg mb G y a o pm cd doc dV kV h1 h2 h3 h4 h5 h6 args vals as' L p1 p2 p3 p4 p5=>W w s0 s1 mg mb G (InK.keeps w _ _ (z_facts keys y).2.1 L.keeps) a o pm cd doc dV kV h1 h2 h3 h4 h5 h6 args vals as' p1 p2 p3 p4 p5
end L2
open PySem PySem.W PyProof.Rows
set_option maxRecDepth 100000 in
set_option maxHeartbeats 0 in
theorem PySem.Challenge.cw_nextbyrule_k57_whole_rows_put_together_holds : PySem.Challenge.rw_nextbyrule_k57_whole_rows_put_together.Holds := by
 change K57.rwL.Holds
 w_on;o_law;rename_i said
 refine holds_openX (d:=?d) (kwd:=?kwd) K57.H.left (λs h=>xl_of s (Kz.mp h).1) XL.keeps (by rfl) (by rfl) (by rfl) (λs h=>recFacts_of (Kz.mp h).2) (by rfl) said (by decide +kernel) ⟨rfl,rfl,rfl,rfl,rfl,by decide +kernel⟩ ?hw ?hc;case hw=>w_witness2
 k_fill
 refine L2.azx (λ_=>by kernel_rfl) ?_;refine L2.ank (l:=K57.rwL) (n:=63) (k:=K57.M6) (x:= "_law_script") (CX:=λw=>L2.rK K57.rwL.prog w) (sp:=λ_=>K57.Mv _) rfl (by decide) rfl ⟨rfl,by decide,by decide⟩ (by kernel_rfl) rfl (λw h Y=>Y) ?F (λw H a ns hl _ hS=>⟨a,ns,rfl,hS,hl,λ_=>rfl⟩) (λ_ _ _ _ _ z=>L2.abV z);case F=>
  intro w mg fa h KX G hmg;apply K57.all_mk KX G hmg;all_goals first|(refine' L2.avx ?a ?l ?c ?k;(case a|l|c|k=>k_is))|k_is|exact⟨_,by k_is⟩|k_exc|kernel_rfl|kit_is
