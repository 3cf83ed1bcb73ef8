import PyProof.Rows.All
import Wide.All
import OpenK.AllK
import Wide.FinOn
import Lean
import PyProof.EqAt
import PyProof.EqKinds
import PyProof.TupleCall
import PySem.Challenge.RW_nextbyrule_k55_whole_desk_by_places
set_option compiler.extract_closed false
set_option compiler.reuse false
set_option hygiene false
open Lean in
def mmA(f:Syntax)(y:Array Syntax):Term:=⟨mkNode `Lean.Parser.Term.app #[f,mkNullNode y]⟩
open Lean in
def mmL(e:Syntax):Syntax:=
  let p(i):Syntax:=mmA (mkIdent `pv) #[i]
  if e.isOfKind `num then p e
  else if e.isOfKind `Lean.Parser.Term.hole then mkIdent `aR
  else if e.isStrLit?==some "" then mkIdent `gj
  else if e.isOfKind `«term-_» then mmA (mkIdent `aL) #[mkIdent `K,p (e.getArg 1),mkIdent `aR]
  else e
open Lean in
def mmO(a:Array Syntax)(h:Syntax):MacroM Syntax:=
  `(tactic|obtain ⟨$(⟨mkSepArray (a.map λe=>mkNode `Lean.Parser.Tactic.rcasesPatLo #[mkNode `Lean.Parser.Tactic.rcasesPatMed #[mkNullNode #[e]],mkNullNode]) (mkAtom ",")⟩),*⟩:=$(⟨h⟩))
open Lean in
def mmD n:=mkNode `Lean.Parser.Term.dotIdent #[mkAtom ".",mkIdent n]
open Lean in
def mmI(x:Syntax)(n:Nat):Syntax:=
  let j n:=mkNode `Lean.Parser.Term.proj #[x,mkAtom ".",mkIdent n]
  let d:=(("0 heap.objs.size lst tup ref int str 7 cps.toList length V.str V.int".splitOn " ").getD n "").toName
  if n>11 then mmA (mkIdent `model) #[j `prog,j `w]
  else if n>9 then mmA (j `map) #[mkIdent d]
  else if n>1&&n<7 then mmA (mkIdent `ι) #[mmA (mmD d) #[x]]
  else j d
open Lean in
local macro_rules
|`($x[$i])=>
  match i.raw.isNatLit? with
  |some 0=>`(($x : Int))
  |some 7=>`(by simpa using $x)
  |some n=>pure (mmI x n)
  |_=>if i.raw.isOfKind `Lean.Parser.Term.hole then pure (mmI x 9) else Macro.throwUnsupported
|`(tactic|ext $x*)=>mmO (x.raw.pop.map λe=>e.getArg 0) ((x.raw.back!.getArg 0).getArg 0)
|`(#v[$a,*])=>do
  let mut r:=#[]
  for e in a.getElems do match e with|`(-$x)=>r:=r.push (<-`(Parser.Tactic.rwRule|←$x))|_=>r:=r.push (<-`(Parser.Tactic.rwRule|$e:term))
  `(by rw[$r,*];first|done|lia)
|`($n:scientific)=>do
  let t<-match n.getScientific.1 with|0=>`(tactic|decide +kernel)|1=>`(tactic|simp)|3=>`(tactic|decide)|4=>`(tactic|lia)|6=>`(tactic|simp_all)|7=>`(tactic|grind -ring)|8=>`(tactic|omega)|9=>`(tactic|omega)|11=>`(tactic|simp[*])|_=>`(tactic|assumption)
  if [4,8].contains n.getScientific.1 then `(by simp;$t:tactic) else `(by $t:tactic)
|`(tactic|rw[$a,*,$n:term])=>do
  let t<-match n with|`(5)=>`(tactic|kernel_rfl)|`(4)=>`(tactic|grind)|`(3)=>`(tactic|decide)|`(2)=>`(tactic|simp)|`(1)=>`(tactic|lia)|`(0)=>`(tactic|rfl)|`(!$x)=>`(tactic|show $x)|_=>Macro.throwUnsupported
  `(tactic|(rw[$a,*];$t))
|`(tactic|let⟨$x,*⟩:=$e)=>mmO (x.getElems.map λe=>if e.raw.isIdent then mkNode `Lean.Parser.Tactic.rcasesPat.one #[e] else mkNode `Lean.Parser.Tactic.rcasesPat.ignore #[e]) e
|`(tactic|let $d:letDecl)=>`(tactic|have $d:letDecl)
|`(tactic|show $t)=>`(tactic|refine $t)
|`(($i:num :))=>pure (mmA (mkIdent `pv) #[i])
|`(tactic|delta $x)=>`(tactic|refine F.cal $x λH Q E hr h=>?_)
|`({$x:term,*})=>do
  let u<-`(_)
  let r<-`(rfl)
  let g n m (h:Syntax):=[u,u,mmA (mmD n) #[mmA (mkIdent m) #[h]]]
  let mut a:=#[]
  for e in x.getElems do
    a:=match e with
     |`(())=>a++[u,r]
     |`("")=>a++[u,u,r,r]
     |`(!$h)=>a++g `inr `ao.of h
     |`(¬$h)=>a++g `inl `aj.of h
     |_=>a.push e
  `(⟨$a,*⟩)
|`(⋯)=>`(by lia)
|`(tactic| lia)=>`(tactic| first|lia -trace|omega)
set_option hygiene true
set_option Elab.async false
set_option linter.all false
set_option maxRecDepth 100000
noncomputable section
def PySem.W.Fast.tw1689261699367664097:PySem.Program:=PySem.Challenge.pw_nextbyrule_k55_whole_desk_by_places
theorem PySem.W.Fast.te1689261699367664097:PySem.Challenge.pw_nextbyrule_k55_whole_desk_by_places=PySem.W.Fast.tw1689261699367664097:=rfl
open List renaming length_map->aA,forall_mem_cons->cj,mem_map->bN,length_append->fJ,replicate->dN,mem_cons_of_mem->gW,map_append->eG,map_map->dh,size_toArray->gC,length_cons->gh,mem_singleton->iI,mem_range->fQ,mem_cons->fj,map_congr_left->jx,mem_append->iz,length_take->jg,mem_cons_self->lH,range->dY,all_eq_true->jU,mem_iff_getElem->pH,take_of_length_le->sG,mem_append_right->rW,eq_nil_of_length_eq_zero->zH,length_range->oO,map_cons->jK,length_pos_iff->tM,filter_eq_self->uw,take_length->qw,mem_filter->pD,map->fR,getElem_mem->rD,length_set->qt,append_nil->sU,drop_eq_nil_of_le->Ae,map_take->qg,nil_append->uf,length_drop->vB,append_assoc->yX,take_add_one->zp,length_reverse->Eb,nodup_cons->yF,length_replicate->Gk,cons_append->CJ,replicate_succ->K5,filter_cons_of_neg->Rq,not_mem_nil->En,take_append_of_le_length->ft,range'->zx,mem_append_left->Q6,mem_of_mem_take->UU,any_eq_true->Ip,map_eq_nil_iff->Us,filter_cons_of_pos->Yk,count_eq_zero->Ur,filter_map->OV,take_succ_eq_append_getElem->Si,lookup->CQ,flatten_cons->QD,length_singleton->qq,take_append_drop->x9,count_eq_zero_of_not_mem->Tb,dropLast_concat_getLast->aik,filterMap_cons->iL,length->GB,range_succ->QW,map_id->Fy,length_zipWith->wy,perm_ext_iff_of_nodup->PQ,filter_append->WK,length_range'->Y9,drop_eq_getElem_cons->EI,drop_zero->RD,take_zero->R0,mem_range'_1->kK,pairwise_map->dC,nodup_append->Yw,append_cancel_left->AO,map_drop->Vy,filter_cons->V1,drop_append->gX,of_mem_zip->Wd,length_nil->Wl,forIn_cons->rg,length_filter_le->OZ,sum_append->YJ,count_cons_self->P8,replicate_succ'->ahz,take_succ_cons->A2,flatten_append->Nd,replicate_zero->Yf,mem_filterMap->B2,any_cons->qr,sum_cons->WB,getElem_range->VY,reverse_cons->RS,foldl->Rn,count_append->WU,map_nil->ub,map_set->pT,map_id'->WX,ext_getElem->AR,getElem_map->Ha,range'_succ->Lo,take_left'->VS,headD_cons->WE,take_nil->aiN
open Option renaming some->ι,none->ν
abbrev ζ:=List Int
abbrev χ:=PySem.Value->PySem.Shared->Prop
abbrev μ:=PySem.Str->Option PySem.Value
open Nat renaming le_refl->aZ,le_trans->cD,lt_of_lt_of_le->gY,add_sub_cancel->gU,zero_le->dz,lt_of_le_of_lt->jD,pow_le_pow_right->mX,mul_le_mul_left->nH,le_of_lt->gQ,mul_le_mul_right->pN,succ_pos->iZ,ne_of_lt->jP,mul_le_mul->nZ,pow_succ->lY,strongRecOn->rz,not_lt_zero->tE,add_sub_cancel_left->CW,sub_self->ql,sub_zero->qe,lt_irrefl->rO,add_comm->qz,mul_comm->qW,toDigits_of_lt_base->HB,succ_mul->rm,mod_eq_of_lt->zF,toDigits->uq,zero_add->vL,min_eq_left->BW,le_of_dvd->yI,mul_succ->wF,gcd_dvd_right->Hu,le_of_not_lt->HS,gcd_dvd_left->EB,toDigits_append_toDigits->Wu,pow_add->yL,mul_add->yj,gcd->m6,add_assoc->Dl,lt_trichotomy->O4,add_mul_mod_self_left->fi,add_zero->Dj,le_add_right->SV,min_eq_right->TQ,dvd_trans->NP,one_mul->G8,pow_le_pow_left->kx,div_le_self->SM,add_mul_mod_self_right->TB,le_of_eq->Lz,lt_trans->Ik,pow_zero->Li,pow_lt_pow_iff_right->Z3,pow_pos->Ko,mul_assoc->Qe,eq_zero_of_zero_dvd->ahR,digitChar->Vd,lt_succ_self->YK,mul_zero->Ug,dvd_refl->R7,div_add_mod->W9,min_self->Uy,add_le_add->uC,add_mul->Sg,mul_one->Sy,one_le_two_pow->ES,dvd_mul_right->B1,mod_lt->Qv,dvd_zero->nh,zero_mul->rV,min_le_right->Ds,le_max_right->YY,succ_ne_zero->NF,succ_le_succ->Bz,dvd_antisymm->BS,le_succ->vt,le_max_left->aj2,dvd_gcd->rk,toList_repr->OF,pow_mul->yz,log2_lt->aV,gcd_comm->DO,beq->S9,add->Ua
open Int renaming toNat_natCast->dg,mul_zero->dG,zero_add->dO,add_zero->fK,mul_comm->fO,mul_assoc->iT,zero_mul->jk,emod_lt_of_pos->qQ,emod_emod_of_dvd->u5,mul_left_comm->rZ,emod_nonneg->pW,ofNat_dvd_left->vN,natCast_mul->sW,mul_one->m7,pow_succ->oN,one_mul->mU,dvd_of_emod_eq_zero->Hv,zero_sub->rH,natAbs_mul->wG,natAbs_natCast->C0,mul_le_mul_of_nonneg_left->Vf,dvd_refl->vC,add_comm->u9,toNat_of_nonneg->Et,mul_emod->wB,dvd_add->uL,neg_one_mul->Dg,natCast_add->CM,eq_ofNat_of_zero_le->QN,sub_eq_add_neg->Js,pow_zero->Ac,mul_add->yd,natAbs_add_le->Je,dvd_mul_right->Nm,emod_eq_of_lt->Ph,sub_zero->CY,mul_ediv_cancel_left->y9,mul_eq_zero->K9,neg_mul->B5,natAbs_neg->Oh,dvd_trans->NK,ofNat_dvd->O6,mul_sub->Fo,mul_ne_zero->UL,fdiv_eq_ediv_of_nonneg->X1,eq_of_mul_eq_mul_left->ahI,add_assoc->Qz,add_mul->Od,emod_eq_zero_of_dvd->AU,ediv_one->Qw,sub_self->QX,dvd_self_sub_emod->O0,mul_le_mul->WR,mul_neg->U6,mul_fdiv_cancel->GH,natAbs_sub_le->Iy,le_trans->sP,dvd_mul_left->zr,natCast_emod->IM,ediv_le_ediv->HP,sub_mul->qc,natCast_pow->Cb,mul_nonneg->MA,ofNat_le->ahf,zero_dvd->EZ
open PySem.Str renaming ofString->eZ,cps_append->Ii,length->Vb,join->ui
open PySem.W renaming Frag->aH,nsIn->cQ,mg_none_of->nW,mg_of->j5,emptyDict->zY,kia_one->u6,findIn->qZ,keepIn->su,instObj->BP,fnOf->rY,callWith_K->Uu,plainGet->KP,hasDictIn->U0,plainGet_of->Xl,codeIn->Ho,cellsFrom_some->Ct,methodObj->WT,plainOver->nV,makesIn->Tn,lookIn->Uo,takerIn->n9
open Bool renaming false_ne_true->iU,and_eq_true_iff->vX,and_eq_true->tH,or_eq_true->Am,eq_iff_iff->Gq,false_eq_true->b8,eq_false_iff->Zm,true_and->S7,false_and->FG
open PySem.Heap renaming lt_size->dX,SameBut->Jp,ExtBut->ko,size_push->Zl
open PySem.F renaming plainAttrs_str->oJ,slot_str_join->B4,type_str_join->Cu,slot_str_split->GX,type_str_split->Ej,plainAttrs_list->QG,slot_tuple_mul->EY,slot_dict_getitem->fw,args_tuple_add_2->Yg,entry_tuple_add->Xk,args_tuple_mul_2->Vq,slot_tuple_add->ZG,entry_tuple_mul->Vg,slot_int_rmul->R5,slot_str_startswith->B0,type_str_startswith->RO,args_str_split_2->yA,entry_str_split->XS,slot_str_split->aa,slot_dict_len->HQ,args_int_rmul_2->ahs,slot_tuple_rmul->zk,slot_int_index->zi,entry_int_rmul->N3,fills_int_mul->WO
open PyProof.Rows renaming callWith_type1->xr,slot_tuple_getitem->Hs,isStrOf->LI,callWith_builtin1->aHF,signs_ofString->aUL
open Option.some renaming inj->nQ
open PySem.StrLaws renaming join_length_le->AF,sumLen_le->BX,found_one->L1,joinFits->Oy
open PySem.Builtin.Int renaming intBits->zG
open Classical renaming byContradiction->BL,not_forall->RX,skolem->QO
open Or renaming inr->dR,inl->ju
open PySem renaming mem_of_lookup->Ad,JoinOk->Bp,Within->bc,seqSlot_of->AS,call->Ex
open PySem.Txt renaming split->wj
open Array renaming toList_append->Gz,toList_inj->Fj,length_toList->ag,mem_toList_iff->OR,toList->zI
open Option renaming map_eq_some_iff->SX,map_some->Jt,isSome_iff_exists->Lu,getD_none->b9,isSome_map->Y3,getD_some->RA,none->Se
open PyProof renaming noPylong_small->W2
open PySem.PyData renaming eqv->Ba,keyHash->MH,depthAll->bB,str->Oo,canLay0->qk,canLayAll0->G2,depth->qE,int->cw
open List.cons renaming inj->Kl
open PySem.Obj renaming mapSeq->C4
open Ne renaming symm->ux
open PySem.Calls renaming Name_function_global->zD,spliced_cons->Yz,spliced_nil->YD,callWith_builtin->DU
open Sum renaming inr->yx,inl->DR
open PySem.Around renaming under->V2
open PySem.EqNone renaming eq_none_none->aD6,eq_none_bool->aHX,eq_bool_none->aQ6,ne_none_none->azb,ne_none_bool->aLs,ne_bool_none->azk,eq_none_int->aCW,eq_none_str->aw8,eq_int_none->aBs,eq_str_none->aMq,ne_none_int->aMf,ne_none_str->aA4,ne_int_none->aAo,ne_str_none->aBu
open PySem.EqMixed renaming eq_bool_str->aRm,eq_str_bool->aQ5,ne_bool_str->aMZ,ne_str_bool->aAf,eq_int_str->aAc,eq_str_int->aUz,ne_int_str->aQf,ne_str_int->aKB
open PySem.W.X renaming obsZ->LW,valZ->FO
open And renaming intro->Xi
open Sum.inr renaming inj->YA
open PySem.Heap.IsSliceOf renaming new->aXm
open Eq renaming trans->V3
open List.Sublist renaming slnil->aBi
open PySem.Within renaming cons->axW
open List.Pairwise renaming nil->axA
open PySem.Heap.SameBut renaming refl->aPJ
open List renaming getD_eq_getElem?_getD->À,getElem?_eq_getElem->Ä,getElem?_map->Î,mem_of_getElem?->Ð,getElem?_eq_some_iff->Ú,getElem?_eq_none->à,getElem?_append_right->á,getElem?_append_left->ê,getElem?_take_of_lt->ø,getElem?_range->ú,find?_cons->Č,getElem?_drop->č,getElem?_cons_succ->Ď,mem_of_find?_eq_some->ě,find?_range_eq_some->ĝ,getElem?_set->Ň,getElem?_set_self->Ũ,getElem?_reverse->Ű,getElem?_set_ne->Ŵ
open PySem renaming Value->Ã,wpAny_bind->Å,Addr->Æ,sizeLine->Ê,mainGlobals->Í,wpAny_pure->Ñ,starEach->Ò,Shared->Ó,wpAny->Ô,Stmt->Ö,PassesOwn->Ø,Heap->Û,bootBuiltins->Ü,World->Ý,Program->Þ,compareOp->â,sysModules->ã,wpAny_truthy_bool->ä,binaryOp->ç,wpAny_holding->é,wpAny_loadPart'->ë,wpAny_Call_Name_kw->í,Around->î,wpAny_mono->ð,call_meets->ñ,backTo->ó,assignEach->ô,OsState->ù,attributeBase->û,Expr->ü,DictEntry->ý,strIterType->ÿ,wpAny_passesOwn->ą,FuncData->Ć,strValues->ć,behindInMarks->Ĉ,wpAny_newObj_type->ĉ,Params->ċ,wpAny_getItem_str_slice->Đ,foldedSetIterable->ē,NameKind->ĕ,sliceBounds->ę,keywordEach->Ě,codeAny->Ĝ,typeIs_str->Ğ,intBits_le_iff->ğ,wpAny_pyIter_list->Ģ,sizeLine_eq->ģ,getItem->Ĥ,wpAny_standAt->Ĩ,assignInOrder->ĩ,wpAny_callSpecial?_slot->ī,treeTable->Ĭ,swapsWith->ĭ,typeIs_int->Ĵ,revObj->ĵ,wpAny_specialOf->ķ,wpAny_execs_nil->ĸ,post_val_or_str->Ĺ,letOwnedTupleGo->ĺ,Scope->ļ,backToKw->Ń,IsPart->ń,IntMulOk->Ņ,valueAt->ņ,Keyword->ň,tupleKind_room_in1->Ŏ,builtinsNs->ŏ,wpAny_typeOf->Œ,codeAny_mono->œ,callerA->Ŕ,wpAny_getItem_of->ŗ,tupleKind->Ř,noFill_tuple_add->ř,PyData->Ş,subscripted->Š,cLine->š,IsRangeIter->Ť,importedModules->ť,typeLookup->Ū,compPost->ū,bindArgs->ŭ,atKey->Ů,wpAny_binaryOp_repeat_ref->ų,seq_tuple_add->ŷ,numTextOf->Ź,numSeenOf->ź,wpAny_pyNext_range_end->ž,wpAny_pyNext_list_item->Α,wpAny_pyIter_rangeiter->Β,seqIndex_neg->Δ,concat_meets->Ε,BindsTo->Ζ,wpAny_pyNext_list_end->Η,wpAny_isTrue_Compare1->Θ,builtinLookup_eq_fast->Ι,wpAny_pyIter_revIter->Ν,wpAny_field->Ξ,unpackItems->Ο,seqIndex_of->Ρ,wpAny_pyIter_range->δ,call_reversed_list->ε,wpAny_sequenceKey->υ,wpAny_assign_Name->ω,slot_list_getitem->ϊ,wpAny_pyIter_zip->ύ,wpAny_execs_cons->ώ,wpAny_call_entry->Ϗ,wpAny_Dict_empty->ϐ,typeLookup_type->ϕ
open PySem.Heap renaming get?_push_of_some->Ç,get?_push_size->Ù,get?_update_other->ĥ,get?_update_self->ű
open PySem.PassesOwn renaming never->Ë
open PySem.Str renaming join->Õ,ofString->õ,length->Ĕ,cps_append->Ķ,ext'->ŝ,length_append->Κ
open PySem.Value renaming ref->ß,bool->è,str->Ē,int->Ĳ,none->Ŀ,type->ŕ,isStrOf->ś,float->ů
open PySem.SeqAt renaming EqAt->å,shaped->ï
open PySem.Builtin.Range renaming rangeSize->æ,small->ď,rangeFitsLong->ľ
open PySem.Builtin.Str renaming occurrences->ì,strKind->Ă,partsBetween->Ę
open False renaming elim->ò
open True renaming intro->ö
open PySem.Builtin.Slice renaming slicePlaces->þ,sliceAdjust->Ė,sliceApplied->Ł,slicePartIndex->ϒ
open PySem.Txt renaming split->Ā,partition->ė,slice_le->Ō,slice->ő,startswith->Ŝ
open PySem.Builtin.Tuple renaming tupleExact->ā,tupleItemsOf->ŀ
open PySem.Builtin.Int renaming intBits->ă
open PySem.Builtin.List renaming listTooLong->Ą,listExtendWith->đ,listSameRef->ŋ,listItems->ō,listLengthHint->ϖ
open ForInStep renaming yield->Ċ
open PyProof.Rows renaming envOfC->Ġ,AllBare->ħ,IsTup->Ľ,IntsAre->Ŋ,assignInOrder_cons->Ő,boot_range->Ŭ,subscriptTail->Ŷ,Constant_none->Ÿ,subscriptTail_builtinR->Γ,entry_tuple_getitem->Χ,args_tuple_getitem->η,assignInOrder_nil->ϋ,countIn_strs_sum->ϑ
open Char renaming toNat->Ħ
open PySem.W renaming boot_heap->Į,WData->Ļ,behindTheImports->Ś,SharedT->ŧ
open PySem.NameKind renaming free->į
open PySem.W.WData renaming int->İ
open PyProof.Rows.IsTup renaming new->ĳ
open PySem.AutoSeq1 renaming idx_int->ł
open Nat renaming two_pow_pos->Ŗ
open PySem.SeqAt.EqAt renaming str_int->Ţ,int_str->ţ
open PySem.IsRange renaming new->Ŧ
open PySem.Code renaming isFrame->ũ
open PySem.Data renaming fields->ŵ
open PySem.AutoListH renaming list___mul___list_int_3->Ϩ
open PySem.AutoIntG2 renaming int_bit_length_int_0->ϩ
def Á{c:Prop}{_:Decidable c}{α}{t e:α}(h:c):ite c t e=t:=if_pos h
def Â{c:Prop}{_:Decidable c}{α}{t e:α}(h:¬c):ite c t e=e:=if_neg h
def È{a:Prop}{b}(h:a)(k:¬a):b:=absurd h k
def É{p}[Decidable p](h:p):decide p=true:=decide_eq_true h
def Ì{p}[Decidable p](h:¬p):decide p=false:=decide_eq_false h
def Ï{α β}{a b:α}(f:α->β)(h:a=b):f a=f b:=congrArg f h
namespace L2
open PySem PySem.Spec PyProof.Rows
def inClass(s:Ö)(j:Nat):Ö:=match s with
 |.ClassDef _ _ _ body _ _ _ _ _ _ _=>body.getD j (.Pass {0,0,0,(0)})
 |_=>.Pass {0,0,0,(0)}
def nG(s:Ö):Arguments:=match s with
 |.FunctionDef _ a _ _ _ _ _ _ _ _=>a
 |_=>{posonlyargs:=[],args:=[],vararg:=ν,kwonlyargs:=[],kw_defaults:=[],kwarg:=ν,defaults:=[]}
def jG(s:Ö):List Ö:=match s with
 |.FunctionDef _ _ b _ _ _ _ _ _ _=>b
 |_=>[]
def aG(s:Ö):ļ:=match s with
 |.FunctionDef _ _ _ _ _ _ sc _ _ _=>sc
 |_=>{kind:=.function,names:=[],isGenerator:=false,isCoroutine:=false}
end L2
namespace K55
def topF(i:Nat):PySem.Stmt:=PySem.Challenge.pw_nextbyrule_k55_whole_desk_by_places.main.body.getD i (.Pass {0,0,0,(0)})
def ş:PySem.Program:={PySem.Challenge.pw_nextbyrule_k55_whole_desk_by_places with main:={PySem.Challenge.pw_nextbyrule_k55_whole_desk_by_places.main with body:=(List.range 183).map topF}}
def rwL:PySem.W.OpenLaw:={PySem.Challenge.rw_nextbyrule_k55_whole_desk_by_places with prog:=ş}
end K55
namespace K55
namespace H
noncomputable section
open PySem PySem.W PySem.Calls PyProof.Rows
abbrev kh:=MH
abbrev tt(i:Nat):Ö:=topF i
def zs(n:Nat):Str:={{Nat.rec (motive:=λ_=>Nat->List Nat) (λ_=>[]) (λ_ f n=>cond (S9 n 0) [] (Nat.mod n 128::f (Nat.div n 128))) 64 n}}
def z0:=zs 0xbf7f2edc3bafdf
def z1:=zs 0x1cf2e3c3b385ff38afebe79725fcbb37e8ef7dab5d77f2ecebcbce2e9e32eebfdf0ec
def z2:=zs 421105403244511
def z3:=zs 0x17efe5cf875e3c3c2fdf
def z4:=zs 0x2fdfe597261dfb2fdf
def z5:=zs 0xbf7f1e5e1cefdf
def z6:=zs 0x17eff3ddbf4f4c3d37eedd86fdf
def z7:=zs 0xbf7f9eed3d3669eb8afdf
def z8:=zs 0xbf7f2ecd39afdf
def z9:=zs 0x79e0bba75c6bf6e9c3b31af
def R4:=zs 0x2fdfc997463c38efdf
def xH:=zs 0x72dfcb945cbb3ad2
def xU:=zs 0xe59716deb3b7ce
def xO:=zs 254851022
def yG:=zs 4018155108302
def yw:=zs 3943197046740
def xV:=zs 456808319416276
def yZ:=zs 3567379019732
def zE:=zs 32177960910
def zR:=zs 3499797755854
def Ϛ:=zs 0x53b30afcc9906fc5ad3e141
def Ln:=zs 0xcbb37e8ef7f9e9
def PL:=zs 0xcbb74f2e17f9e9
def Nq:=zs 32687782377
def Oa:=zs 0x72cb8b6f5dd7f9e9
def Oq:=zs 29741478132
def LV:=zs 448184882935657
def IB:=zs 240745327
def XJ:=zs 372306437449676
def ϙ:=zs 0xa94e2c8a94a0c6
def LZ:=zs 0x1cf965c5b7aeebf97961
def K8:=zs 4118845848041
def Ks:=zs 0x79c57f265e587473
def MD:=zs 0xcbb74f2e17f2f3eb9b2f2
def Ma:=zs 0x32e3c3b385fe9e32ee
def Iw:=zs 0xe7971e1d9c2ff4e7cb4e6
def MS:=zs 0x3961cd7f2f3eb9b2f2
def zV:=zs 3978691114608
def Mx:=zs 443304474474868
def Mw:=zs 0x74c37f965c5b7aee
def IW:=zs 31083689204
def LQ:=zs 443302050378980
def NS:=zs 26797127661
def LK:=zs 0xe9cf2f4c397967
def Jq:=zs 447945196958575
def Kf:=zs 452440390056690
def JY:=zs 4011968920307
def Yu:=zs 0xa7166c9a542fc59152fd79f322c2
def LD:=zs 0x197b6fc586fe5dba7970
def uM:=zs 509272748045540
def Jg:=zs 0x3cecdfc2feecbaf0f4
def Iv:=zs 514152117859054
def Nh:=zs 3463318239210
def Im:=zs 0x3a73cbd30e5e59efe5d9bf477
def HZ:=zs 0x396fe7a7b69c97f265e587473
def Nt:=zs 3534690727924
def Lp:=zs 0xcdbeff4e7872ec
def MJ:=zs 0xe9cf2f4e5bf473
def Og:=zs 456806792737008
def Mj:=zs 0xe9cf969cd7f26ed3a32e2
def JD:=zs 0x39edebceff2cbdf7f0
def KC:=zs 0xe7b7af3bf9b7dfcbb3af2
def Xx:=zs 0x2a5283529dfa94e2c8a94a0c6
def Ϙ:=zs 0x1422d4a77ea538b124d7
def Ly:=zs 0x19f76fd97f2f3eb9b2f2
def Lq:=zs 0xe7c32f4e77f961cd7f2f3eb9b2f2
def Nk:=zs 0xefbf95fc9b37f4
def Ie:=zs 0x65c787670bfb7af3
def MQ:=zs 0x65c787670bfd31f5c9bf970
def KH:=zs 0xcb8f0ece17f265d9b37f2
def Kw:=zs 0xefbf95fe5a70f0
def Pk:=zs 0x77dfcaff4dda77ea
def Ny:=zs 27057009249
def Ou:=zs 3463314094066
def OD:=zs 0x3265d3b3869e9b3aed
def Kc:=zs 3463313912307
def PB:=zs 3463316208371
def zq:=zs 32721435493
def Kd:=zs 0x64c397461bfd3af0
def KY:=zs 0x3765d787a5fcbbb4ec
def O5:=zs 0x65dda765fc9872e8
def JL:=zs 0xe1d6fe7dda7962
def Ni:=zs 27057027430
def Ls:=zs 30806734435
def Ol:=zs 0x396fe7a7b69c97f76fdbb77e3
def HY:=zs 4016813504492
def MX:=zs 0xe7cb2e2dbd775fcb97966
def NW:=zs 0xddbf4f4ebb37f3
def NQ:=zs 0x66df7f76debb37e3
def Oc:=zs 0x74e7bb4e1cf86ff2cbc30f0
def La:=zs 3463335065587
def JR:=zs 0xefbf95fe9cf2f2
def J4:=zs 0x336fbfcb7f3d3db4e4
def Ld:=zs 0x64cb934f6d393775
def K6:=zs 0xcbb74f2e17fce2
def ϗ:=zs 0x30bf6615fa94e2c8a94a0c6
def Jk:=zs 0x1c36f5d57f961cd7f2f3eb9b2f2
def M5:=zs 0x3a66cbb2ff2cbdf7f0
def MK:=zs 236681962
def Ir:=zs 0xe986fe5c787670
def OL:=zs 3466780866415
def sg:=zs 0x53a51614dab3afcc9906fc5ad3e141
def Ov:=zs 0x33e9c57f2f3eb9b2f2
def JK:=zs 0x39f2dfcf4f6d392fe5d9bf477
def M6:=zs 0x73e9bf7f2bfcf861d1cb2f0
def Ky:=zs 0x1d3aefbf932e4d3db4e4
def JB:=zs 0x1cfa6fdfcafe5d9bf477
def Hj:=zs 30815418352
def O7:=zs 0x65dda765fdbcb7e6
def Oz:=zs 0xcdbeff3e9cb0f0
def uV:=zs 3463328822883
def i9:=zs 0xa75e7c49d26bdfa94e7cd
def Jy:=zs 0x197269ef7f2f3eb9b2f2
def J3:=zs 0x77dfcafe4ddd77f2
def Jm:=zs 0x326eebbf95fcbb70e3
def Ji:=zs 0xcdbefe4ddd77f2
def uZ:=zs 27352724599
def i8:=zs 367430873507014
def aWN:=zs 0x1cb86ed9ab466c98b0
def oi:=zs 0x44831695fa7169558f2635fa94e7cd
def Mq:=zs 0x1bbbefd1cefecd986fe5edbf161
def PD:=zs 0xdddf7e8e77f965c5b7aee
def Jl:=zs 29779293299
def Ku:=zs 0x3765e9d34f2ef7f9e9
def Nf:=zs 0x1cb2e2dbd775fc9872f2
def Nj:=zs 0x32edd3cb85fc9872f2
def Lr:=zs 0x39e4e5bfbdfc9872f2
def N6:=zs 211317490
def yn:=zs 0x29ce8f269df8b360ce
def aEs:=zs 0x72e1bb66ad19b262c3d79f1dfb75e9cf971e1bf76dd9af569d19f365c98f161
def Zn:=zs 0x8b360cebf529c58f3a7cc
def du:=zs 0x22418b220dfa94e7cd
def K0:=zs 22442977222
def Io:=zs 0xcdbeff3c9cb7f7
def NT:=zs 0xcdbeff3c9bb4eb
def O3:=zs 0x65db8775fc9872f2
def Nx:=zs 0x64cbb70eebfdf7f2
def J5:=zs 0x64e5bfbdfc9872f2
def Ja:=zs 0xefbf95fcbaf0ed
def Ml:=zs 0x3a72dfa39dfcbaf0ed
def Np:=zs 0xc9930dfcbaf0ed
def Iu:=zs 0x79d9c34f4d9d76dfcbaf0ed
def J8:=zs 0x6cd9bf95fcbaf0ed
def IY:=zs 0x32ecc38f9dfcbaf0ed
def Mh:=zs 0xdbd79dfcbaf0ed
def IZ:=zs 0x3cf2cbdb2dfcbaf0ed
def MZ:=zs 0x3261cba30dfcbaf0ed
def KN:=zs 487624762126573
def KQ:=zs 0x74e79795fcbaf0ed
def J6:=zs 0x6eefbf473bfcf965c5b7aee
def Kg:=zs 0x77dfa39dfd9b32f4
def Jc:=zs 0x1cf2e3c3b385fd9b32f4
def Ij:=zs 513532019553012
def Ob:=zs 0x74e58785fd9b32f4
def Mt:=zs 0x326eebbf95fd9b32f4
def J2:=zs 0x32f2cba3bdfd9b32f4
def JQ:=zs 0x1932f3dfb31dfd9b32f4
def MN:=zs 0xe5bf9e9eda725fd9b32f4
def Pb:=zs 0xe797269eda725fd9b32f4
def OQ:=zs 2874015932621
def NG:=zs 367874041651924
def zU:=zs 226292420
def IX:=zs 0xe986fecd9971dfef8765f
def Oj:=zs 0xf1a76dfef8765f
def Oi:=zs 535556634736223
def Ke:=zs 0x1cb2e2dbd775fef8765f
def PY:=zs 0xe7cb2e2dbd775fef8765f
def KW:=zs 0x3befe57f66cc3b79dfef8765f
def Pg:=zs 0x74e79795fef8765f
def LY:=zs 0x74f197a5fef8765f
def N5:=zs 0x1bb4dfe7cb2e2dbd775fef8765f
def K4:=zs 0x1cf2e3c3b385fef8765f
def JN:=zs 0x3265f1a76dfef8765f
def Jz:=zs 0x3265edbf6dfef8765f
def IV:=zs 0x1d3467d3caff4e58785fef8765f
def JZ:=zs 0x3a63c3e32dfef8765f
def PV:=zs 0x74d19f4f2bf932f3dfb31dfef8765f
def Jf:=zs 0x1cf26eebbf95fef8765f
def Uw:=zs 1962220
def awM:=zs 0x7d97675c9bf6bc
def aV3:=zs 0xbf7f769c3b6fdf
def eN:=zs 0x2fdfcbb3ae4dfb6fdf
def iJ:=zs 0x73e5bf972cabb2ecebcbce2e9e32ee
def kO:=zs 0xbf7f2edc3bb661ebc6fdf
def d8:=zs 0x17efefdd97769d9d39f2d39afdf
def d9:=zs 0x5fbfcf2f4eb8b4f2e9d30dfc7a7a61e9cefdf
def Hw:=zs 0x17efe6cbcb5e1cbdefdf
def Q5:=zs 27881272436
def Cg:=zs 0x39f2cb8b6f5dcbb2ecebcbce2e9e32ee
def yK:=zs 3944329476846
def xP:=zs 505222325449956
def nO:=zs 15586
def Kq:=zs 27342305648
def aUT:=zs 3501140572403
def Cq:=zs 244953836
def uR:=zs 1668975
def vJ:=zs 30815173231
def AJ:=zs 0x1cfbefe4bb2ecebcbce2e9e32ee
def Bf:=zs 213596914
def IA:=zs 3982749104755
def nD:=zs 1964018
def aVq:=zs 3501169685218
def A0:=zs 29196367860
def Aa:=zs 107
def O1:=zs 31371130851
def TR:=zs 27076163558
def DB:=zs 110
def De:=zs 509719678253806
def pb:=zs 1652581
def vV:=zs 0xe7e766fe0bb2ecebcbce2e9e32ee
def B3:=zs 255539184
def tS:=zs 105
def mP:=zs 1849332
def FH:=zs 29741626223
def aAt:=zs 31354156147
def aO4:=zs 3947051413734
def rX:=zs 31343606119
def Wc:=zs 29219124979
def Dc:=zs 0x73cbb37e8eebb2ecebcbce2e9e32ee
def awZ:=zs 0x65ddbefe3d3bb7ed
def Cn:=zs 509824676214765
def Hr:=zs 245166834
def aNG:=zs 213694445
def ml:=zs 0x1d39e5e9cb7e8e6bb2ecebcbce2e9e32ee
def vT:=zs 31381287660
def SD:=zs 243055343
def RB:=zs 3982193423476
def aTB:=zs 0xcbaf4ecc2bb2ecebcbce2e9e32ee
def sq:=zs 0x73e597befe0bb2ecebcbce2e9e32ee
def Mo:=zs 242973427
def aG0:=zs 1817583
def sD:=zs 3604769125100
def pF:=zs 0xe797c69dabb2ecebcbce2e9e32ee
def xo:=zs 31379192435
def AE:=zs 236550771
def aw5:=zs 0x32e3c3b385fe5a70f0
def tQ:=zs 0x73cbb3161e8bb2ecebcbce2e9e32ee
def ϵ:=zs 31083705580
def ze:=zs 29749801698
def VC:=zs 3809077835747
def YR:=zs 213464311
def aEd:=zs 31081394920
def aMc:=zs 245166316
def Pn:=zs 14945
def aMR:=zs 27340091636
def aAD:=zs 3463305819383
def Vn:=zs 0x1cf96fe7a7b69c8bb2ecebcbce2e9e32ee
def azZ:=zs 31115244274
def Nu:=zs 0x3961ccbb2ecebcbce2e9e32ee
def aWb:=zs 3501182285030
def aGt:=zs 443304183166948
def yu:=zs 0xe7d37efe4bb2ecebcbce2e9e32ee
def P5:=zs 27057092980
def To:=zs 245102578
def HU:=zs 31115180018
def azx:=zs 0xe9bb2eedfc3c65
def aCE:=zs 513606627883376
def RU:=zs 232569588
def aC3:=zs 243021812
def aLf:=zs 31115227376
def aEa:=zs 240808176
def ayz:=zs 509894165509367
def Pj:=zs 0x73c9bbaefe4bb2ecebcbce2e9e32ee
def aB1:=zs 4118816732407
def aEj:=zs 232354547
def Bs:=zs 0xe7d3c65e8bb2ecebcbce2e9e32ee
def Ul:=zs 211597303
def IU:=zs 245248756
def ck:=zs 31081674743
def aJJ:=zs 1880290
def aNf:=zs 3465723654882
def UC:=zs 31379420275
def T7:=zs 1651297
def QS:=zs 0xf3b3869e9b3aed
def Ui:=zs 228276210
def Vh:=zs 27340075507
def UJ:=zs 1800947
def Uj:=zs 27048637537
def Vx:=zs 14191
def TK:=zs 236714340
def R8:=zs 251393139
def Rx:=zs 245149936
def Q8:=zs 27076163570
def vf:=zs 1434318
def aKx:=zs 177611476
def jr:=zs 65
def vI:=zs 2836160277198
def aWt:=zs 11458
def gF:=zs 0x1af9e5c8bb2ecebcbce2e9e32ee
def aIk:=zs 31081608427
def vj:=zs 245117675
def aBg:=zs 213610734
def aEZ:=zs 211530987
def nC:=zs 211448051
def aT7:=zs 27321202288
def Ec:=zs 0xbf7fa69dda6fdf
def DQ:=zs 1994995
def aLF:=zs 215692019
def sx:=zs 0x5fbfd34eed37efaed7cf2c4
def cq:=zs 0xf3879aed7cf2c4
def fk:=zs 0xbf7fa63d392fdf
def aND:=zs 0x1d3869e58f9dfef8765f
def aT:=zs 3702244537951
def QP:=zs 0x6cd9971dfef8765f
def UH:=zs 0xcbcb2e8bfcb2e2dbd775fef8765f
def aGs:=zs 0x3965d1d37dfef8765f
def ki:=zs 0xcbcb2e8bfe715fef8765f
def aMx:=zs 0x64dda75dfef8765f
def aQy:=zs 0x79dd876dfef8765f
def aNZ:=zs 0x326eebbf35fef8765f
def aHS:=zs 0x6be79725fef8765f
def aCq:=zs 0x65db8775fef8765f
def aQu:=zs 0x64d9bfa5fef8765f
def aPO:=zs 0x3a73e5a735fef8765f
def aFy:=zs 0x39f4e58785fef8765f
def aBb:=zs 3805323753055
def aEz:=zs 0x3661e9bfa5fef8765f
def aTy:=zs 0x74e58785fef8765f
def aII:=zs 0x74dfbf95fef8765f
def ay8:=zs 0x6be5876dfef8765f
def ayH:=zs 0x73e1bfa5fef8765f
def aMO:=zs 0x3965ddbb4dfef8765f
def aLU:=zs 0x197965d17f965efbf85fef8765f
def aHH:=zs 0x64e5bfbdfef8765f
def aRZ:=zs 0x6ee5d7a5fef8765f
noncomputable abbrev t0:String:=PySem.W.SL.s14018661285674007319x4
noncomputable abbrev t1:String:=PySem.W.SL.s7097527257260152453x26
noncomputable abbrev t2:String:=PySem.W.SL.s2766695959194262286x5
noncomputable abbrev t3:String:=PySem.W.SL.s5856160107412720595x4
noncomputable abbrev t4:String:=PySem.W.SL.s658472552662922059x5
noncomputable abbrev t5:String:=PySem.W.SL.s6070975301684473832x10
noncomputable abbrev t6:String:=PySem.W.SL.s11030030927630378310x26
noncomputable abbrev t7:String:=PySem.W.SL.s10062305145149207511x16
noncomputable abbrev t8:String:=PySem.W.SL.s17162191345867700912x4
noncomputable abbrev t9:String:=PySem.W.SL.s4209523147560561109x18
noncomputable abbrev Ϭ:String:=PySem.W.SL.s5946037652744460706x9
noncomputable abbrev ϫ:String:=PySem.W.SL.s4278001404047624695x13
noncomputable abbrev uI:String:=PySem.W.SL.s2742458400755230247x6
noncomputable abbrev ϟ:String:=PySem.W.SL.s14755015743595814543x17
noncomputable abbrev Ϫ:String:=PySem.W.SL.s10220274742760427390x26
noncomputable abbrev wY:String:=PySem.W.SL.s4290257624100764138x5
noncomputable abbrev wM:String:=PySem.W.SL.s4860613602091757760x24
noncomputable abbrev XH:String:=PySem.W.SL.s7174869446012820540x8
noncomputable abbrev t18:String:=PySem.W.SL.s11443829558043349243x14
noncomputable abbrev t19:String:=PySem.W.SL.s6511155373996960695x17
noncomputable abbrev t20:String:=PySem.W.SL.s12411053484034534018x21
def cd(z:Str)(i:Nat):Obj:={.none,.none,.func {z,z,L2.nG (tt i),.stmts (L2.jG (tt i)),L2.aG (tt i),0,[],.none,.none,.none,.none,.none,.none,.none,0},{([])}}
def fo(z:Str)(i:Nat)(y:Str)(t c:Nat):Obj:={.type XH,.none,.func {z,z,L2.nG (tt i),.stmts (L2.jG (tt i)),L2.aG (tt i),3,[],.none,.none,.none,.str y t,.none,.ref c,.none,0},{([])}}
def cf(z:Str)(a:Nat)(l n:Int)(r:Nat)(x y:Ã)(c e:Nat):Obj:={.type t3,.none,.fields {[.str z a,.str z (a+1),.str z9 (a+2),.int l 0,.int n 0,.int 0 0,.int 0 0,.int 3 0,.ref r,.bool true,.int 181 0,.ref (r+1),.none,x,y,.ref c,.int e 0,.int l 0,.str z9 (e+1)]},{([])}}
def cg(z:Str)(a:Nat)(l n:Int)(r c e:Nat):Obj:=cf z a l n r (.ref (r+2)) (.ref (r+3)) c e
def ts(l:List Str)(a:Nat):Obj:={.type t2,.none,.seq {List.rec (motive:=λ_=>Nat->List Ã) (λ_=>[]) (λz _ f a=>.str z a::f (a+1)) l a} 0,{([])}}
def er(P:ċ)(z:Str)(t r:Nat):ý:={kh P z,.str z t,.ref r}
def l3(P:ċ):List ý:=[{kh P z0,.str z0 165,.str z1 1535},{kh P z2,.str z2 166,.none},{kh P z3,.str z3 167,.none},{kh P z4,.str z4 168,.builtin t1},{kh P z5,.str z5 169,.none},er P z6 170 6,er P z7 171 4,{kh P z8,.str z8 173,.str z9 172},{kh P R4,.str R4 174,.none},er P xH 206 24,er P xU 222 37,er P xO 238 49,er P yG 254 61,er P yw 270 73,er P xV 286 85,er P yZ 302 97,er P zE 318 109,er P zR 334 121,{kh P Ϛ,.str Ϛ 338,.int 1000 337},er P Ln 345 130,er P PL 353 137,er P Nq 360 144,er P Oa 368 151,er P Oq 376 158,er P LV 387 165,er P IB 396 172,{kh P XJ,.str XJ 400,.int 12 399},{kh P ϙ,.str ϙ 402,.int 300 401},er P LZ 408 177,er P K8 418 184,er P Ks 426 191,er P MD 433 198,er P Ma 444 205,er P Iw 456 212,er P MS 463 219,er P zV 471 226,er P Mx 481 233,er P Mw 489 240,er P IW 501 247,er P LQ 516 254,er P NS 522 259,er P LK 534 266,er P Jq 540 271,er P Kf 546 276,er P JY 552 281,{kh P Yu,.str Yu 556,.int 1000000 555},er P LD 564 288,er P uM 572 295,er P Jg 578 300,er P Iv 587 307,er P Nh 598 314,er P Im 604 319,er P HZ 613 326,er P Nt 621 331,er P Lp 631 338,er P MJ 640 345,er P Og 654 352,er P Mj 662 357,er P JD 673 364,er P KC 682 371,{kh P Xx,.str Xx 686,.int 100 685},{kh P Ϙ,.str Ϙ 688,.int 10 687},er P Ly 695 378,er P Lq 703 385,er P Nk 709 390,er P Ie 718 397,er P MQ 727 404,er P KH 733 409,er P Kw 739 414,er P Pk 752 421,er P Ny 760 428,er P Ou 768 435,er P OD 774 440,er P Kc 780 445,er P PB 786 450,er P zq 792 455,er P Kd 802 462,er P KY 810 467,er P O5 820 474,er P JL 826 479,er P Ni 832 484,er P Ls 847 491,er P Ol 858 498,er P HY 864 503,er P MX 870 508,er P NW 876 513,er P NQ 882 518,er P Oc 888 523,er P La 899 530,er P JR 907 535,er P J4 916 542,er P Ld 929 549,er P K6 937 556,{kh P ϗ,.str ϗ 941,.int 400 940},er P Jk 949 563,er P M5 961 570,er P MK 967 575,er P Ir 975 582,er P OL 981 587,{kh P sg,.str sg 985,.int 1000000 984},er P Ov 991 592,er P JK 1001 599,er P M6 1007 604,er P Ky 1018 611,er P JB 1029 618,er P Hj 1039 625,er P O7 1045 630,er P Oz 1057 637,er P uV 1063 642,{kh P i9,.str i9 1067,.int 4096 1066},er P Jy 1077 649,er P J3 1085 656,er P Jm 1097 663,er P Ji 1104 670,er P uZ 1110 675,{kh P i8,.str i8 1114,.str aWN 1113},{kh P oi,.str oi 1116,.int 60 1115},er P Mq 1122 682,er P PD 1129 689,er P Jl 1135 694,er P Ku 1141 699,er P Nf 1148 706,er P Nj 1156 713,er P Lr 1162 718,er P N6 1173 725,{kh P yn,.str yn 1177,.str aEs 1176},{kh P Zn,.str Zn 1179,.int 8 1178},{kh P du,.str du 1181,.int 12 1180},er P K0 1272 726,er P Io 1280 755,er P NT 1289 762,er P O3 1295 767,er P Nx 1304 774,er P J5 1313 781,er P Ja 1320 788,er P Ml 1327 795,er P Np 1334 802,er P Iu 1341 809,er P J8 1348 816,er P IY 1355 823,er P Mh 1362 830,er P IZ 1369 837,er P MZ 1375 842,er P KN 1382 849,er P KQ 1389 856,er P J6 1395 861,er P Kg 1402 868,er P Jc 1409 875,er P Ij 1416 882,er P Ob 1424 889,er P Mt 1431 896,er P J2 1437 901,er P JQ 1443 906,er P MN 1450 913,er P Pb 1458 920,er P OQ 1481 921,er P NG 1500 922,er P zU 1534 944,er P IX 1544 955,er P Oj 1552 962,er P Oi 1560 969,er P Ke 1569 976,er P PY 1581 983,er P KW 1587 988,er P Pg 1595 995,er P LY 1601 1000,er P N5 1607 1005,er P K4 1615 1012,er P JN 1621 1017,er P Jz 1627 1022,er P IV 1633 1027,er P JZ 1639 1032,er P PV 1658 1039,er P Jf 1664 1044,er P Uw 1670 1049]
def hv(P:ċ)(z:Str)(t n:Nat):Obj:={.type t0,.none,.dict {{kh P z0,.str z0 165,.str z t}::((l3 P).take n).drop 1} n,{([])}}
def o3(P:ċ):Obj:={.type t0,.none,.dict {l3 P} 175,{([])}}
def aJg(P:ċ):=hv P vV 472 42
def aFr(P:ċ):=hv P gF 1174 128
def ak:Obj:={.type t2,.none,.seq {([])} 0,{([])}}
def fl(l:List (Int×Nat)):List Ã:=l.flatMap λx=>[.int x.1 0,.int 0 0,.ref x.2]
noncomputable def ud:=fl [(2,20),(4,33),(6,45),(8,57),(10,69),(12,81),(14,93),(16,105),(18,117),(22,129),(24,136),(33,143),(37,150),(41,157),(45,164),(55,171),(64,176),(68,183),(77,190),(81,197),(84,204),(89,211),(97,218),(100,225),(104,232),(109,239),(111,246),(117,253),(127,258),(132,265),(140,270),(144,275),(147,280),(151,287),(156,294),(158,299),(160,306),(163,313),(166,318),(184,325),(187,330),(195,337),(200,344),(205,351),(215,356),(218,363),(224,370),(232,377),(235,384),(238,389),(242,396),(244,403),(246,408),(248,413),(253,420),(260,427),(262,434),(264,439),(274,444),(276,449),(284,454),(292,461),(298,466),(300,473),(305,478),(310,483),(318,490),(332,497),(340,502),(349,507),(356,512),(370,517),(372,522),(378,529),(384,534),(388,541),(394,548),(405,555),(410,562),(413,569),(421,574),(427,581),(429,586),(437,591),(440,598),(451,603),(456,610),(465,617),(475,624),(480,629),(485,636),(493,641),(505,648),(511,655),(517,662),(527,669),(529,674),(541,681),(543,688),(547,693),(555,698),(562,705),(566,712),(571,717),(578,724),(595,754),(602,761),(612,766),(616,773),(621,780),(631,787),(633,794),(635,801),(637,808),(639,815),(641,822),(643,829),(645,836),(647,841),(649,848),(651,855),(653,860),(655,867),(657,874),(659,881),(661,888),(664,895),(666,900),(674,905),(681,912),(683,919),(691,928),(708,954),(712,961),(714,968),(717,975),(728,982),(735,987),(743,994),(747,999),(752,1004),(754,1011),(756,1016),(767,1021),(781,1026),(787,1031),(805,1038),(822,1043),(835,1048)]
def cV:Obj:={.none,.none,.fields {(ud)},{([])}}
def Ϣ(a:Nat):Obj:={.none,.none,.fields {ud.take a},{([])}}
def TU:=Ϣ 0
def aXf:=Ϣ 90
def aR5:=Ϣ 315
def Μ(a:Str)(b d:Nat)(c e:Int):Obj:={.type t3,.none,.fields {[.str a b,.str a (b+1),.str z9 (b+2),.int c 0,.int 0 0,.int 0 0,.int 0 0,.int 0 0,.ref d,.bool false,.int 181 0,.ref (d+1),.none,.none,.none,.none,.int e 0,.int c 0,.str z9 (b+4)]},{([])}}
def ϯ:=Μ awM 182 11 1 185
def Λ(c:Str)(a b d:Nat):Obj:={.type t4,.none,.plain,{[.some (.ref a),.some (.ref 3),.some (.ref b),.none,.some (.str c d),.none,.some (.ref 0)]}}
def WH:=Λ aV3 13 3 164
def wL:Obj:={.type t6,.none,.fields {[.builtin t7,.type t8]},{([])}}
def γ(P:ċ)(b:Str)(a d:Nat)(c:Int):Obj:={.type t0,.none,.dict {[{kh P eN,.str eN a,.str iJ 187},{kh P kO,.str kO (a+2),.str b (a+1)},{kh P d8,.str d8 (a+4),.int c (a+3)},{kh P d9,.str d9 (a+5),.ref d}]} 4,{([])}}
def aK:Obj:={.none,.none,.fields {([])},{([])}}
def Υ(a:Nat):Obj:={.type wY,.none,.fields {[.ref a,.ref a,.ref a]},{([])}}
def Τ(a:Nat):Obj:={.type t6,.none,.fields {[.builtin wM,.ref a]},{([])}}
def oG:Obj:={.type t2,.none,.seq {[.ref 24]} 0,{([])}}
def ξ(P:ċ)(a c:Nat)(b:Int):Obj:={.type t0,.none,.dict {[{kh P eN,.str eN a,.str iJ 187},{kh P d8,.str d8 (a+4),.int b (a+3)},{kh P d9,.str d9 (a+5),.ref c},{kh P z2,.str z2 (a+6),.none}]} 2,{([])}}
def θ(a:Str)(b c:Nat):Obj:={.type t8,.none,.cls {a,[.ref 24],[.ref (b+9),.ref 24,.type t5,.type Ϭ,.type ϫ,.type uI],(b+8),a,true,[],[],false,.none,false},{[.some (.ref b),.none,.some (.str a c),.some (.str a (c+8)),.some (.builtin t9),.some (.bool true)]}}
section
local macro_rules | `(#[]) => `([])
local macro_rules | `(#[$i:num,$o]) => `((nat_lit $i,$o)::[])
local macro_rules | `(#[$i:num,$o,$x,*]) => `((nat_lit $i,$o)::#[$x,*])
noncomputable def K(P:ċ):Frag:=#[0,PySem.W.boot_o_0 P,1,PySem.W.boot_o_1 P,2,PySem.W.boot_o_2 P,3,o3 P,4,PySem.W.boot_o_4 P,5,PySem.W.boot_o_5 P,6,PySem.W.boot_o_6 P,7,PySem.W.boot_o_7 P,8,PySem.W.boot_o_8 P,9,PySem.W.boot_o_9 P,10,PySem.W.boot_o_10 P,11,ak,12,cV,13,ϯ,14,WH,15,{.type t2,.none,.seq {[.type t5]} 0,{([])}},22,ak,23,{.type t0,.none,.dict {[{kh P eN,.str eN 196,.str iJ 187},{kh P d8,.str d8 200,.int 2 199},{kh P d9,.str d9 201,.ref 22},{kh P Hw,.str Hw 203,.ref 25},{kh P z2,.str z2 204,.none}]} 3,{([])}},24,{.type t8,.none,.cls {xH,[.type t5],[.ref 24,.type t5,.type Ϭ,.type ϫ,.type uI],23,xH,true,[],[.ref 37,.ref 49,.ref 61,.ref 73,.ref 85,.ref 97,.ref 109,.ref 121],false,.none,false},{[.some (.ref 15),.none,.some (.str xH 189),.some (.str xH 197),.some (.builtin t9),.some (.bool true)]}},25,{.type ϟ,.none,.fields {[.str Hw 202,.ref 24,.builtin Ϫ,.none]},{([])}},28,oG,35,ak,36,ξ P 214 35 4,37,θ xU 28 207,40,oG,47,ak,48,ξ P 230 47 6,49,θ xO 40 223,52,oG,59,ak,60,ξ P 246 59 8,61,θ yG 52 239,64,oG,71,ak,72,ξ P 262 71 10,73,θ yw 64 255,76,oG,83,ak,84,ξ P 278 83 12,85,θ xV 76 271,88,oG,95,ak,96,ξ P 294 95 14,97,θ yZ 88 287,100,oG,107,ak,108,ξ P 310 107 16,109,θ zE 100 303,112,oG,119,ak,120,ξ P 326 119 18,121,θ zR 112 319,129,cg Ln 339 22 1 124 128 343,130,fo Ln 12 Cg 335 129,136,cg PL 346 24 1 131 135 351,137,fo PL 13 Cg 335 136,143,cg Nq 354 33 1 138 142 358,144,fo Nq 14 Cg 335 143,150,cg Oa 361 37 2 145 149 366,151,fo Oa 15 Cg 335 150,157,cg Oq 369 41 2 152 156 374,158,fo Oq 16 Cg 335 157,164,cg LV 377 45 2 159 163 385,165,fo LV 17 Cg 335 164,171,cg IB 388 55 3 166 170 394,172,fo IB 18 Cg 335 171,176,cf LZ 403 64 2 173 .none .none 175 406,177,fo LZ 22 AJ 397 176,183,cg K8 409 68 1 178 182 416,184,fo K8 23 AJ 397 183,190,cg Ks 419 77 2 185 189 424,191,fo Ks 24 AJ 397 190,197,cg MD 427 81 1 192 196 431,198,fo MD 25 AJ 397 197,204,cg Ma 434 84 3 199 203 442,205,fo Ma 26 AJ 397 204,211,cg Iw 445 89 2 206 210 454,212,fo Iw 27 AJ 397 211,218,cg MS 457 97 1 213 217 461,219,fo MS 28 AJ 397 218,225,cg zV 464 100 2 220 224 469,226,fo zV 29 AJ 397 225,232,cg Mx 474 104 1 227 231 479,233,fo Mx 31 vV 472 232,239,cg Mw 482 109 2 234 238 487,240,fo Mw 32 vV 472 239,246,cg IW 490 111 3 241 245 499,247,fo IW 33 vV 472 246,253,cg LQ 502 117 3 248 252 514,254,fo LQ 34 vV 472 253,258,cf NS 517 127 2 255 .none .none 257 520,259,fo NS 35 vV 472 258,265,cg LK 523 132 3 260 264 532,266,fo LK 36 vV 472 265,270,cf Jq 535 140 2 267 .none .none 269 538,271,fo Jq 37 vV 472 270,275,cf Kf 541 144 2 272 .none .none 274 544,276,fo Kf 38 vV 472 275,280,cf JY 547 147 4 277 .none .none 279 550,281,fo JY 39 vV 472 280,287,cg LD 557 151 1 282 286 562,288,fo LD 42 Dc 553 287,294,cg uM 565 156 2 289 293 570,295,fo uM 43 Dc 553 294,299,cf Jg 573 158 2 296 .none .none 298 576,300,fo Jg 44 Dc 553 299,306,cg Iv 579 160 2 301 305 585,307,fo Iv 45 Dc 553 306,313,cg Nh 588 163 4 308 312 596,314,fo Nh 46 Dc 553 313,318,cf Im 599 166 2 315 .none .none 317 602,319,fo Im 47 Dc 553 318,325,cg HZ 605 184 3 320 324 611,326,fo HZ 48 Dc 553 325,330,cf Nt 616 187 2 327 .none .none 329 619,331,fo Nt 50 ml 614 330,337,cg Lp 622 195 1 332 336 629,338,fo Lp 51 ml 614 337,344,cg MJ 632 200 1 339 343 638,345,fo MJ 52 ml 614 344,351,cg Og 643 205 2 346 350 652,352,fo Og 54 aTB 641 351,356,cf Mj 657 215 3 353 .none .none 355 660,357,fo Mj 56 sq 655 356,363,cg JD 663 218 2 358 362 671,364,fo JD 57 sq 655 363,370,cg KC 674 224 1 365 369 680,371,fo KC 58 sq 655 370,377,cg Ly 689 232 1 372 376 693,378,fo Ly 62 pF 683 377,384,cg Lq 696 235 2 379 383 701,385,fo Lq 63 pF 683 384,389,cf Nk 704 238 3 386 .none .none 388 707,390,fo Nk 64 pF 683 389,396,cg Ie 710 242 3 391 395 716,397,fo Ie 65 pF 683 396,403,cg MQ 719 244 3 398 402 725,404,fo MQ 66 pF 683 403,408,cf KH 728 246 3 405 .none .none 407 731,409,fo KH 67 pF 683 408,413,cf Kw 734 248 4 410 .none .none 412 737,414,fo Kw 68 pF 683 413,420,cg Pk 740 253 3 415 419 750,421,fo Pk 69 pF 683 420,427,cg Ny 753 260 2 422 426 758,428,fo Ny 70 pF 683 427,434,cg Ou 761 262 2 429 433 766,435,fo Ou 71 pF 683 434,439,cf OD 769 264 2 436 .none .none 438 772,440,fo OD 72 pF 683 439,444,cf Kc 775 274 2 441 .none .none 443 778,445,fo Kc 73 pF 683 444,449,cf PB 781 276 1 446 .none .none 448 784,450,fo PB 74 pF 683 449,454,cf zq 787 284 3 451 .none .none 453 790,455,fo zq 75 pF 683 454,461,cg Kd 793 292 2 456 460 800,462,fo Kd 76 pF 683 461,466,cf KY 805 298 2 463 .none .none 465 808,467,fo KY 78 tQ 803 466,473,cg O5 811 300 3 468 472 818,474,fo O5 79 tQ 803 473,478,cf JL 821 305 4 475 .none .none 477 824,479,fo JL 80 tQ 803 478,483,cf Ni 827 310 5 480 .none .none 482 830,484,fo Ni 81 tQ 803 483,490,cg Ls 833 318 3 485 489 845,491,fo Ls 82 tQ 803 490,497,cg Ol 848 332 2 492 496 856,498,fo Ol 83 tQ 803 497,502,cf HY 859 340 3 499 .none .none 501 862,503,fo HY 84 tQ 803 502,507,cf MX 865 349 5 504 .none .none 506 868,508,fo MX 85 tQ 803 507,512,cf NW 871 356 4 509 .none .none 511 874,513,fo NW 86 tQ 803 512,517,cf NQ 877 370 2 514 .none .none 516 880,518,fo NQ 87 tQ 803 517,522,cf Oc 883 372 4 519 .none .none 521 886,523,fo Oc 88 tQ 803 522,529,cg La 889 378 4 524 528 897,530,fo La 89 tQ 803 529,534,cf JR 902 384 2 531 .none .none 533 905,535,fo JR 91 Vn 900 534,541,cg J4 908 388 1 536 540 914,542,fo J4 92 Vn 900 541,548,cg Ld 917 394 4 543 547 927,549,fo Ld 93 Vn 900 548,555,cg K6 930 405 2 550 554 935,556,fo K6 94 Vn 900 555,562,cg Jk 942 410 2 557 561 947,563,fo Jk 97 Nu 938 562,569,cg M5 950 413 3 564 568 959,570,fo M5 98 Nu 938 569,574,cf MK 962 421 2 571 .none .none 573 965,575,fo MK 99 Nu 938 574,581,cg Ir 968 427 2 576 580 973,582,fo Ir 100 Nu 938 581,586,cf OL 976 429 2 583 .none .none 585 979,587,fo OL 101 Nu 938 586,591,cf Ov 986 437 1 588 .none .none 590 989,592,fo Ov 104 yu 982 591,598,cg JK 992 440 1 593 597 999,599,fo JK 105 yu 982 598,603,cf M6 1002 451 1 600 .none .none 602 1005,604,fo M6 106 yu 982 603,610,cg Ky 1008 456 2 605 609 1016,611,fo Ky 107 yu 982 610,617,cg JB 1019 465 1 612 616 1027,618,fo JB 108 yu 982 617,624,cg Hj 1030 475 2 619 623 1037,625,fo Hj 109 yu 982 624,629,cf O7 1040 480 2 626 .none .none 628 1043,630,fo O7 110 yu 982 629,636,cg Oz 1046 485 2 631 635 1055,637,fo Oz 111 yu 982 636,641,cf uV 1058 493 1 638 .none .none 640 1061,642,fo uV 112 yu 982 641,648,cg Jy 1068 505 2 643 647 1075,649,fo Jy 115 Pj 1064 648,655,cg J3 1078 511 1 650 654 1083,656,fo J3 116 Pj 1064 655,662,cg Jm 1086 517 1 657 661 1095,663,fo Jm 117 Pj 1064 662,669,cg Ji 1098 527 1 664 668 1102,670,fo Ji 118 Pj 1064 669,674,cf uZ 1105 529 2 671 .none .none 673 1108,675,fo uZ 119 Pj 1064 674,681,cg Mq 1117 541 0 676 680 1120,682,fo Mq 123 Bs 1111 681,688,cg PD 1123 543 1 683 687 1127,689,fo PD 124 Bs 1111 688,693,cf Jl 1130 547 1 690 .none .none 692 1133,694,fo Jl 125 Bs 1111 693,698,cf Ku 1136 555 1 695 .none .none 697 1139,699,fo Ku 126 Bs 1111 698,705,cg Nf 1142 562 1 700 704 1146,706,fo Nf 127 Bs 1111 705,712,cg Nj 1149 566 1 707 711 1154,713,fo Nj 128 Bs 1111 712,717,cf Lr 1157 571 3 714 .none .none 716 1160,718,fo Lr 129 Bs 1111 717,724,cg N6 1163 578 1 719 723 1171,725,fo N6 130 Bs 1111 724,726,{.type t0,.none,.dict {[{kh P nD,.str nD 1182,.ref 727},{kh P UC,.str UC 1186,.ref 728},{kh P T7,.str T7 1190,.ref 729},{kh P QS,.str QS 1195,.ref 730},{kh P Ui,.str Ui 1200,.ref 731},{kh P Vh,.str Vh 1205,.ref 732},{kh P UJ,.str UJ 1210,.ref 733},{kh P zq,.str zq 1214,.ref 734},{kh P Uj,.str Uj 1220,.ref 735},{kh P Vx,.str Vx 1225,.ref 736},{kh P Hr,.str Hr 1230,.ref 737},{kh P TK,.str TK 1235,.ref 738},{kh P R8,.str R8 1238,.ref 739},{kh P zV,.str zV 1241,.ref 740},{kh P Pn,.str Pn 1245,.ref 741},{kh P Rx,.str Rx 1249,.ref 742},{kh P Q8,.str Q8 1253,.ref 743},{kh P uZ,.str uZ 1256,.ref 745},{kh P uV,.str uV 1259,.ref 746},{kh P xP,.str xP 1261,.ref 747},{kh P uM,.str uM 1263,.ref 748}]} 21,{([])}},727,ts [vf,aKx] 1183,728,ts [vf,jr] 1187,729,ts [vf,jr,jr] 1191,730,ts [vf,jr,jr] 1196,731,ts [vf,jr,jr] 1201,732,ts [vf,jr,vI] 1206,733,ts [vf,jr] 1211,734,ts [vf,jr,vI,vI] 1215,735,ts [vf,jr,vI] 1221,736,ts [vf,jr,vI] 1226,737,ts [vf,jr,aWt] 1231,738,ts [jr] 1236,739,ts [jr] 1239,740,ts [jr,vI] 1242,741,ts [jr,vI] 1246,742,ts [jr,jr] 1250,743,ts [jr] 1254,745,ts [jr,vI] 1257,746,ts [jr] 1260,747,ts [jr] 1262,748,ts [jr,vI,vI,vI] 1264,754,cg Io 1273 595 1 749 753 1278,755,fo Io 136 gF 1174 754,761,cg NT 1281 602 1 756 760 1287,762,fo NT 137 gF 1174 761,766,cf O3 1290 612 1 763 .none .none 765 1293,767,fo O3 138 gF 1174 766,773,cg Nx 1296 616 2 768 772 1302,774,fo Nx 139 gF 1174 773,780,cg J5 1305 621 3 775 779 1311,781,fo J5 140 gF 1174 780,787,cg Ja 1314 631 1 782 786 1318,788,fo Ja 141 gF 1174 787,794,cg Ml 1321 633 1 789 793 1325,795,fo Ml 142 gF 1174 794,801,cg Np 1328 635 1 796 800 1332,802,fo Np 143 gF 1174 801,808,cg Iu 1335 637 1 803 807 1339,809,fo Iu 144 gF 1174 808,815,cg J8 1342 639 1 810 814 1346,816,fo J8 145 gF 1174 815,822,cg IY 1349 641 1 817 821 1353,823,fo IY 146 gF 1174 822,829,cg Mh 1356 643 1 824 828 1360,830,fo Mh 147 gF 1174 829,836,cg IZ 1363 645 1 831 835 1367,837,fo IZ 148 gF 1174 836,841,cf MZ 1370 647 1 838 .none .none 840 1373,842,fo MZ 149 gF 1174 841,848,cg KN 1376 649 1 843 847 1380,849,fo KN 150 gF 1174 848,855,cg KQ 1383 651 1 850 854 1387,856,fo KQ 151 gF 1174 855,860,cf J6 1390 653 1 857 .none .none 859 1393,861,fo J6 152 gF 1174 860,867,cg Kg 1396 655 1 862 866 1400,868,fo Kg 153 gF 1174 867,874,cg Jc 1403 657 1 869 873 1407,875,fo Jc 154 gF 1174 874,881,cg Ij 1410 659 1 876 880 1414,882,fo Ij 155 gF 1174 881,888,cg Ob 1417 661 1 883 887 1422,889,fo Ob 156 gF 1174 888,895,cg Mt 1425 664 1 890 894 1429,896,fo Mt 157 gF 1174 895,900,cf J2 1432 666 1 897 .none .none 899 1435,901,fo J2 158 gF 1174 900,905,cf JQ 1438 674 1 902 .none .none 904 1441,906,fo JQ 159 gF 1174 905,912,cg MN 1444 681 1 907 911 1448,913,fo MN 160 gF 1174 912,919,cg Pb 1451 683 1 914 918 1456,920,fo Pb 161 gF 1174 919,921,{.type t0,.none,.dict {[{kh P nD,.str nD 1459,.ref 788},{kh P UC,.str UC 1460,.ref 795},{kh P T7,.str T7 1461,.ref 802},{kh P QS,.str QS 1462,.ref 809},{kh P Ui,.str Ui 1463,.ref 816},{kh P Vh,.str Vh 1464,.ref 823},{kh P UJ,.str UJ 1465,.ref 830},{kh P zq,.str zq 1466,.ref 837},{kh P Uj,.str Uj 1467,.ref 842},{kh P Vx,.str Vx 1468,.ref 849},{kh P Hr,.str Hr 1469,.ref 856}]} 11,{([])}},922,{.type t0,.none,.dict {[{kh P R8,.str R8 1482,.ref 868},{kh P zV,.str zV 1483,.ref 875},{kh P Pn,.str Pn 1484,.ref 882},{kh P Rx,.str Rx 1485,.ref 889},{kh P Q8,.str Q8 1486,.ref 896},{kh P uZ,.str uZ 1487,.ref 901},{kh P uV,.str uV 1488,.ref 906},{kh P xP,.str xP 1489,.ref 913},{kh P uM,.str uM 1490,.ref 920}]} 9,{([])}},934,{.none,.none,.func {Ec,sx,L2.nG (L2.inClass (tt 164) 0),.stmts (L2.jG (L2.inClass (tt 164) 0)),L2.aG (L2.inClass (tt 164) 0),0,[],.none,.none,.none,.none,.none,.none,.none,0},{([])}},935,{.type t3,.none,.fields {[.str Ec 1513,.str sx 1514,.str z9 1515,.int 693 0,.int 1 0,.int 0 0,.int 0 0,.int 3 0,.ref 930,.bool true,.int 181 0,.ref 931,.none,.ref 932,.ref 933,.ref 934,.int 1517 0,.int 693 0,.str z9 1518]},{([])}},936,{.type XH,.none,.func {Ec,sx,L2.nG (L2.inClass (tt 164) 0),.stmts (L2.jG (L2.inClass (tt 164) 0)),L2.aG (L2.inClass (tt 164) 0),3,[],.none,.none,.none,.str gF 1174,.none,.ref 935,.none,0},{([])}},939,{.none,.none,.func {DQ,cq,L2.nG (L2.inClass (tt 164) 1),.stmts (L2.jG (L2.inClass (tt 164) 1)),L2.aG (L2.inClass (tt 164) 1),0,[],.none,.none,.none,.none,.none,.none,.none,0},{([])}},940,{.type t3,.none,.fields {[.str DQ 1520,.str cq 1521,.str z9 1522,.int 696 0,.int 2 0,.int 0 0,.int 0 0,.int 3 0,.ref 937,.bool true,.int 181 0,.ref 938,.none,.none,.none,.ref 939,.int 1523 0,.int 696 0,.str z9 1524]},{([])}},941,{.type XH,.none,.func {DQ,cq,L2.nG (L2.inClass (tt 164) 1),.stmts (L2.jG (L2.inClass (tt 164) 1)),L2.aG (L2.inClass (tt 164) 1),3,[],.none,.none,.none,.str gF 1174,.none,.ref 940,.none,0},{([])}},943,{.type t0,.none,.dict {[{kh P eN,.str eN 1508,.str gF 1174},{kh P d8,.str d8 1512,.int 691 1511},{kh P Ec,.str Ec 1519,.ref 936},{kh P DQ,.str DQ 1525,.ref 941},{kh P d9,.str d9 1527,.ref 942},{kh P fk,.str fk 1529,.ref 945},{kh P Hw,.str Hw 1531,.ref 946},{kh P z2,.str z2 1532,.none}]} 4,{([])}},944,{.type t8,.none,.cls {zU,[.type uI],[.ref 944,.type uI],943,zU,true,[],[],false,.none,false},{[.none,.none,.some (.str zU 1501),.some (.str zU 1509),.some (.builtin t18),.some (.bool true)]}},945,{.type ϟ,.none,.fields {[.str fk 1528,.ref 944,.builtin t19,.builtin t20]},{([])}},946,{.type ϟ,.none,.fields {[.str Hw 1530,.ref 944,.builtin Ϫ,.none]},{([])}},954,cg IX 1537 708 2 949 953 1542,955,fo IX 166 z1 1535 954,961,cg Oj 1545 712 2 956 960 1550,962,fo Oj 167 z1 1535 961,975,cg Ke 1561 717 2 970 974 1567,976,fo Ke 169 z1 1535 975,982,cg PY 1570 728 3 977 981 1579,983,fo PY 170 z1 1535 982,987,cf KW 1582 735 3 984 .none .none 986 1585,988,fo KW 171 z1 1535 987,994,cg Pg 1588 743 2 989 993 1593,995,fo Pg 172 z1 1535 994,999,cf LY 1596 747 1 996 .none .none 998 1599,1000,fo LY 173 z1 1535 999,1004,cf N5 1602 752 1 1001 .none .none 1003 1605,1005,fo N5 174 z1 1535 1004,1011,cg K4 1608 754 2 1006 1010 1613,1012,fo K4 175 z1 1535 1011,1016,cf JN 1616 756 5 1013 .none .none 1015 1619,1017,fo JN 176 z1 1535 1016,1021,cf Jz 1622 767 4 1018 .none .none 1020 1625,1022,fo Jz 177 z1 1535 1021,1026,cf IV 1628 781 3 1023 .none .none 1025 1631,1027,fo IV 178 z1 1535 1026,1031,cf JZ 1634 787 3 1028 .none .none 1030 1637,1032,fo JZ 179 z1 1535 1031,1038,cg PV 1640 805 2 1033 1037 1656,1039,fo PV 180 z1 1535 1038,1043,cf Jf 1659 822 4 1040 .none .none 1042 1662,1044,fo Jf 181 z1 1535 1043,1048,cf Uw 1665 835 1 1045 .none .none 1047 1668,1049,fo Uw 182 z1 1535 1048]
end
def mr(f:Frag):Nat->List Obj->List Obj:=List.rec (motive:=λ_=>Nat->List Obj->List Obj) (λ_ r=>r) (λx _ g n r=>r.take (x.1-n)++x.2::g (x.1+1) (r.drop (x.1-n))) f
noncomputable def HL(P:ċ):List Obj:=mr (K P) 0 [wL,γ P xH 196 22 2,ak,aK,Μ xH 191 18 2 194,Λ iJ 20 17 187,Υ 24,Τ 24,wL,γ P xU 214 35 4,ak,aK,Μ xU 209 31 4 212,Λ iJ 33 30 187,Υ 37,Τ 37,wL,γ P xO 230 47 6,ak,aK,Μ xO 225 43 6 228,Λ iJ 45 42 187,Υ 49,Τ 49,wL,γ P yG 246 59 8,ak,aK,Μ yG 241 55 8 244,Λ iJ 57 54 187,Υ 61,Τ 61,wL,γ P yw 262 71 10,ak,aK,Μ yw 257 67 10 260,Λ iJ 69 66 187,Υ 73,Τ 73,wL,γ P xV 278 83 12,ak,aK,Μ xV 273 79 12 276,Λ iJ 81 78 187,Υ 85,Τ 85,wL,γ P yZ 294 95 14,ak,aK,Μ yZ 289 91 14 292,Λ iJ 93 90 187,Υ 97,Τ 97,wL,γ P zE 310 107 16,ak,aK,Μ zE 305 103 16 308,Λ iJ 105 102 187,Υ 109,Τ 109,wL,γ P zR 326 119 18,ak,aK,Μ zR 321 115 18 324,Λ iJ 117 114 187,Υ 121,Τ 121,ak,aK,ts [Q5] 342,ak,cd Ln 12,ak,aK,ts [yK,xP] 349,ak,cd PL 13,ak,aK,ts [Q5] 357,ak,cd Nq 14,ak,aK,ts [nO,Q5] 364,ak,cd Oa 15,ak,aK,ts [nO,yK] 372,ak,cd Oq 16,ak,aK,ts [Kq,yK,Hj,aUT,Cq] 380,ak,cd LV 17,ak,aK,ts [nO,uR,vJ] 391,ak,cd IB 18,ak,aK,cd LZ 22,ak,aK,ts [Q5,nO,Bf,IA] 412,ak,cd K8 23,ak,aK,ts [uR,vJ] 422,ak,cd Ks 24,ak,aK,ts [nD] 430,ak,cd MD 25,ak,aK,ts [nO,Bf,aVq,A0,Aa] 437,ak,cd Ma 26,ak,aK,ts [nD,O1,nO,Bf,IA,TR] 448,ak,cd Iw 27,ak,aK,ts [DB] 460,ak,cd MS 28,ak,aK,ts [nD,O1] 467,ak,cd zV 29,ak,aK,ts [De,pb] 477,ak,cd Mx 31,ak,aK,ts [B3,Aa] 485,ak,cd Mw 32,ak,aK,ts [nO,uR,vJ,A0,tS,Aa] 493,ak,cd IW 33,ak,aK,ts [nO,uR,vJ,mP,FH,Cq,aAt,aO4,Aa] 505,ak,cd LQ 34,ak,aK,cd NS 35,ak,aK,ts [nO,uR,vJ,rX,Wc,Cq] 526,ak,cd LK 36,ak,aK,cd Jq 37,ak,aK,cd Kf 38,ak,aK,cd JY 39,ak,aK,ts [yK,TR] 560,ak,cd LD 42,ak,aK,ts [awZ,B3] 568,ak,cd uM 43,ak,aK,cd Jg 44,ak,aK,ts [Cn,yK,Hr] 582,ak,cd Iv 45,ak,aK,ts [Cn,yK,Kq,Hr,aNG] 591,ak,cd Nh 46,ak,aK,cd Im 47,ak,aK,ts [nO,uR,vJ] 608,ak,cd HZ 48,ak,aK,cd Nt 50,ak,aK,ts [nD,nO,B3,mP] 625,ak,cd Lp 51,ak,aK,ts [nD,vT,Bf] 635,ak,cd MJ 52,ak,aK,ts [uR,vJ,O1,SD,RB,DB] 646,ak,cd Og 54,ak,aK,cd Mj 56,ak,aK,ts [Bf,O1,Mo,Aa,aG0] 666,ak,cd JD 57,ak,aK,ts [Mo,Bf,Aa] 677,ak,cd KC 58,ak,aK,ts [sD] 692,ak,cd Ly 62,ak,aK,ts [xo,AE] 699,ak,cd Lq 63,ak,aK,cd Nk 64,ak,aK,ts [SD,RB,DB] 713,ak,cd Ie 65,ak,aK,ts [SD,RB,DB] 722,ak,cd MQ 66,ak,aK,cd KH 67,ak,aK,cd Kw 68,ak,aK,ts [uR,vJ,aw5,nO,SD,RB,B3] 743,ak,cd Pk 69,ak,aK,ts [uR,vJ] 756,ak,cd Ny 70,ak,aK,ts [uR,vJ] 764,ak,cd Ou 71,ak,aK,cd OD 72,ak,aK,cd Kc 73,ak,aK,cd PB 74,ak,aK,cd zq 75,ak,aK,ts [nD,De,vT,Bf] 796,ak,cd Kd 76,ak,aK,cd KY 78,ak,aK,ts [ϵ,ze,VC,tS] 814,ak,cd O5 79,ak,aK,cd JL 80,ak,aK,cd Ni 81,ak,aK,ts [nO,YR,ϵ,aEd,aMc,VC,mP,Pn,tS] 836,ak,cd Ls 82,ak,aK,ts [uR,vJ,rX,Wc,Cq] 851,ak,cd Ol 83,ak,aK,cd HY 84,ak,aK,cd MX 85,ak,aK,cd NW 86,ak,aK,cd NQ 87,ak,aK,cd Oc 88,ak,aK,ts [nO,YR,aMR,aAD,TR] 892,ak,cd La 89,ak,aK,cd JR 91,ak,aK,ts [nD,xP,xo] 911,ak,cd J4 92,ak,aK,ts [nD,xP,xo,AE,sD,azZ,Aa] 920,ak,cd Ld 93,ak,aK,ts [nD,Kq] 933,ak,cd K6 94,ak,aK,ts [nO,DB] 945,ak,cd Jk 97,ak,aK,ts [nO,B3,DB,Cq,aWb,aGt] 953,ak,cd M5 98,ak,aK,cd MK 99,ak,aK,ts [nD,DB] 971,ak,cd Ir 100,ak,aK,cd OL 101,ak,aK,cd Ov 104,ak,aK,ts [yK,Wc,rX,P5] 995,ak,cd JK 105,ak,aK,cd M6 106,ak,aK,ts [B3,To,FH,Cq,P5] 1011,ak,cd Ky 107,ak,aK,ts [B3,HU,Cq,To,TR] 1022,ak,cd JB 108,ak,aK,ts [yK,azx,aCE,RU] 1033,ak,cd Hj 109,ak,aK,cd O7 110,ak,aK,ts [HU,aC3,aLf,ze,aEa,pb] 1049,ak,cd Oz 111,ak,aK,cd uV 112,ak,aK,ts [Kq,sD,ayz,RU] 1071,ak,cd Jy 115,ak,aK,ts [nD,vT] 1081,ak,cd J3 116,ak,aK,ts [nD,nO,Bf,aB1,aEj,ze] 1089,ak,cd Jm 117,ak,aK,ts [nD] 1101,ak,cd Ji 118,ak,aK,cd uZ 119,ak,aK,ak,ak,cd Mq 123,ak,aK,ts [yK] 1126,ak,cd PD 124,ak,aK,cd Jl 125,ak,aK,cd Ku 126,ak,aK,ts [Ul] 1145,ak,cd Nf 127,ak,aK,ts [Ul,Kq] 1152,ak,cd Nj 128,ak,aK,cd Lr 129,ak,aK,ts [IU,ck,aJJ,aNf,pb] 1166,ak,cd N6 130,{.type t0,.none,.dict {[{kh P uZ,.str uZ 1256,.ref 745},{kh P uV,.str uV 1259,.ref 746},{kh P xP,.str xP 1261,.ref 747},{kh P uM,.str uM 1263,.ref 748}]} 4,{([])}},ak,aK,ts [IU,ck] 1276,ak,cd Io 136,ak,aK,ts [ck,aIk,O1] 1284,ak,cd NT 137,ak,aK,cd O3 138,ak,aK,ts [vj,Ul,aBg] 1299,ak,cd Nx 139,ak,aK,ts [vj,aEZ,Ul] 1308,ak,cd J5 140,ak,aK,ts [nC] 1317,ak,cd Ja 141,ak,aK,ts [nC] 1324,ak,cd Ml 142,ak,aK,ts [nC] 1331,ak,cd Np 143,ak,aK,ts [nC] 1338,ak,cd Iu 144,ak,aK,ts [nC] 1345,ak,cd J8 145,ak,aK,ts [nC] 1352,ak,cd IY 146,ak,aK,ts [nC] 1359,ak,cd Mh 147,ak,aK,ts [nC] 1366,ak,cd IZ 148,ak,aK,cd MZ 149,ak,aK,ts [nC] 1379,ak,cd KN 150,ak,aK,ts [nC] 1386,ak,cd KQ 151,ak,aK,cd J6 152,ak,aK,ts [nC] 1399,ak,cd Kg 153,ak,aK,ts [nC] 1406,ak,cd Jc 154,ak,aK,ts [nC] 1413,ak,cd Ij 155,ak,aK,ts [nC,aT7] 1420,ak,cd Ob 156,ak,aK,ts [nC] 1428,ak,cd Mt 157,ak,aK,cd J2 158,ak,aK,cd JQ 159,ak,aK,ts [nC] 1447,ak,cd MN 160,ak,aK,ts [nC,Aa] 1454,ak,cd Pb 161,ak,wL,{.type t0,.none,.dict {[{kh P eN,.str eN 1508,.str gF 1174},{kh P kO,.str kO 1510,.str zU 1509},{kh P d8,.str d8 1512,.int 691 1511},{kh P Ec,.str Ec 1519,.ref 936},{kh P DQ,.str DQ 1525,.ref 941},{kh P d9,.str d9 1527,.ref 942}]} 6,{([])}},ak,{.none,.none,.fields {[.int 693 0,.int 4 0,.ref 935,.int 696 0,.int 4 0,.ref 940]},{([])}},Μ zU 1503 926 691 1506,Λ gF 928 925 1174,ak,aK,ts [aLF] 1516,ak,ak,aK,ts [vj] 1526,Υ 944,Τ 944,ak,aK,ts [aND,aT] 1540,ak,cd IX 166,ak,aK,ts [QP,aT] 1548,ak,cd Oj 167,ak,aK,ts [UH,aGs] 1556,ak,cd Oi 168,cg Oi 1553 714 1 963 967 1558,fo Oi 168 z1 1535 968,ak,aK,ts [ki,UH,aMx] 1564,ak,cd Ke 169,ak,aK,ts [ki,QP,aQy,aNZ,UH,aT] 1573,ak,cd PY 170,ak,aK,cd KW 171,ak,aK,ts [ki,UH] 1591,ak,cd Pg 172,ak,aK,cd LY 173,ak,aK,cd N5 174,ak,aK,ts [aHS,aCq] 1611,ak,cd K4 175,ak,aK,cd JN 176,ak,aK,cd Jz 177,ak,aK,cd IV 178,ak,aK,cd JZ 179,ak,aK,ts [aQu,aPO,aFy,aBb,aEz,aTy,aII,ay8,ayH,aMO,aLU,aHH,aRZ] 1643,ak,cd PV 180,ak,aK,cd Jf 181,ak,aK,cd Uw 182]
def ev(l:List Obj):Bool->List Obj:=List.rec (motive:=λ_=>Bool->List Obj) (λ_=>[]) (λo _ f b=>cond b (o::f false) (f true)) l
def bt(n:Nat):List Obj->BT:=Nat.rec (motive:=λ_=>List Obj->BT) (λ_=>.nil) (λ_ f l=>List.casesOn l .nil λo l=>.node o (f (ev l true)) (f (ev l false))) n
def TF(P:ċ):BT:=bt 16 (HL P)
def HF(P:ċ):Û:={{HL P},{}}
noncomputable def as:List Nat:=(K {strHash:=λ_=>0,shareClass:=λ_=>0,mergeTok:=λx=>x,idOf:=λ_=>0,idOfShared:=λ_ _=>0,followText:=λ_=>false,idOfImm:=λ_=>0}).map (·.1)
def cut(n:Nat)(t:BT):Nat->Nat->BT:=BT.rec (motive:=λ_=>Nat->Nat->BT) (λ_ _=>.nil) (λv _ _ l r a b=>cond (Nat.blt b n) (.node v (l (Nat.mul 2 a) (Ua a b)) (r (Nat.mul 2 a) (Ua (Nat.mul 2 a) b))) .nil) t
def HA(P:ċ):Û:={{[PySem.W.boot_o_0 P,PySem.W.boot_o_1 P,PySem.W.boot_o_2 P,PySem.W.boot_o_3 P,PySem.W.boot_o_4 P,PySem.W.boot_o_5 P,PySem.W.boot_o_6 P,PySem.W.boot_o_7 P,PySem.W.boot_o_8 P,PySem.W.boot_o_9 P,PySem.W.boot_o_10 P,ak,TU,ϯ,WH]},{}}
def SA(w:Ý)(os:ù):Ó:={HA w.params,{([])},{},187,os}
def T1(P:ċ):BT:=((cut 15 (TF P) 1 0).set 3 λ_=>PySem.W.boot_o_3 P).set 12 λ_=>TU
def S1(w:Ý)(os:ù):ŧ:={T1 w.params,15,{},{([])},{},187,os}
def T2(P:ċ):BT:=((cut 267 (TF P) 1 0).set 3 λ_=>aJg P).set 12 λ_=>aXf
def S2(w:Ý)(os:ù):ŧ:={T2 w.params,267,{},{([])},{},535,os}
def T3(P:ċ):BT:=((cut 726 (TF P) 1 0).set 3 λ_=>aFr P).set 12 λ_=>aR5
def S3(w:Ý)(os:ù):ŧ:={T3 w.params,726,{},{([])},{},1182,os}
def T4(P:ċ):BT:=cut 1050 (TF P) 1 0
def S4(w:Ý)(os:ù):ŧ:={T4 w.params,1050,{},{([])},{},1671,os}
def SF(w:Ý)(os:ù):Ó:={HF w.params,{([])},{},1671,os}
def ann:Option Ã:=ι (.ref 6)
def env:Env:={scope:=ş.main.scope,locals:=mainNs,globals:=mainNs,cells:=[],code:=.ref 13,frame:=ι 14}
def cE:Code:=.body (Ś ş) env
abbrev BB:List Frame:=[topFrame {0,0,0,(0)}]
noncomputable def LO:List Str:=[xH,xU,xO,yG,yw,xV,yZ,zE,zR,Ϛ,Ln,PL,Nq,Oa,Oq,LV,IB,XJ,ϙ,LZ,K8,Ks,MD,Ma,Iw,MS,zV,Mx,Mw,IW,LQ,NS,LK,Jq,Kf,JY,Yu,LD,uM,Jg,Iv,Nh,Im,HZ,Nt,Lp,MJ,Og,Mj,JD,KC,Xx,Ϙ,Ly,Lq,Nk,Ie,MQ,KH,Kw,Pk,Ny,Ou,OD,Kc,PB,zq,Kd,KY,O5,JL,Ni,Ls,Ol,HY,MX,NW,NQ,Oc,La,JR,J4,Ld,K6,ϗ,Jk,M5,MK,Ir,OL,sg,Ov,JK,M6,Ky,JB,Hj,O7,Oz,uV,i9,Jy,J3,Jm,Ji,uZ,i8,oi,Mq,PD,Jl,Ku,Nf,Nj,Lr,N6,yn,Zn,du,K0,Io,NT,O3,Nx,J5,Ja,Ml,Np,Iu,J8,IY,Mh,IZ,MZ,KN,KQ,J6,Kg,Jc,Ij,Ob,Mt,J2,JQ,MN,Pb,OQ,NG,zU,IX,Oj,Oi,Ke,PY,KW,Pg,LY,N5,K4,JN,Jz,IV,JZ,PV,Jf]
noncomputable def q:Þ:={ş with main:={ş.main with body:=[topF 182]}}
theorem a0:@segRunT=PySem.W.Fast.tw10110043849684766642:=PySem.W.Fast.te10110043849684766642
theorem a1:@Ĭ=PySem.W.Fast.tw14364793385576792824:=PySem.W.Fast.te14364793385576792824
theorem a2:@topGo=PySem.W.Fast.tw15667345088766844465:=PySem.W.Fast.te15667345088766844465
theorem a3:@topRun=PySem.W.Fast.tw14082659384304107361:=PySem.W.Fast.te14082659384304107361
theorem a4:@segRun=PySem.W.Fast.tw14374325043358763698:=PySem.W.Fast.te14374325043358763698
theorem a5:@denote=PySem.W.Fast.tw11892475500146522536:=PySem.W.Fast.te11892475500146522536
theorem B_:@ť=PySem.W.Fast.tw5923862056798008813:=PySem.W.Fast.te5923862056798008813
theorem a12:@openSeen=PySem.W.Fast.tw4187177175401517315:=PySem.W.Fast.te4187177175401517315
theorem a13:@Û.nsMap=PySem.W.Fast.tw8920871248978507458:=PySem.W.Fast.te8920871248978507458
set_option maxHeartbeats 0
theorem pre(w:Ý)(os:ù):topGo Ĭ ş w 11 ann 12 {Į w.params,{([])},boot_drawn,boot_toks,os} (topStub ş)=ι (SA w os,{denote Ĭ cE,cE,{0,0,0,(0)},BB}):=by
 rw[a1,a2,a5,5]
theorem blk(w:Ý)(os:ù):segRun Ĭ ş w 11 ann 1 1 (SA w os) (blockOf (Ś ş) env cE {0,0,0,(0)} BB)=ι (.next,(S1 w os).abs,cE,{0,0,0,(0)}):=by
 rw[a1,a4,5]
noncomputable abbrev c1:List Ö:=[topF 0,topF 1,topF 2,topF 3,topF 4,topF 5,topF 6,topF 7,topF 8,topF 9,topF 10,topF 11,topF 12,topF 13,topF 14,topF 15,topF 16,topF 17,topF 18,topF 19,topF 20,topF 21,topF 22,topF 23,topF 24,topF 25,topF 26,topF 27,topF 28,topF 29,topF 30,topF 31,topF 32,topF 33,topF 34,topF 35,topF 36]
abbrev ϓ(w:Ý)(o:ù)(n:Nat)(s:Ý->ù->ŧ)(c:List Ö)(a:Pos)(t:Ý->ù->ŧ)(b:Pos):Prop:=segRunT Ĭ ş w 11 ann 1 n (s w o) (piecesOf c env cE a BB)=ι (.next,t w o,cE,b)
theorem p1(w:Ý)(os:ù):ϓ w os 2600 S1 c1 {0,0,0,(0)} S2 {132,0,139,(16)}:=by
 unfold ϓ c1;rw[a0,a1,5]
noncomputable abbrev c2:List Ö:=[topF 37,topF 38,topF 39,topF 40,topF 41,topF 42,topF 43,topF 44,topF 45,topF 46,topF 47,topF 48,topF 49,topF 50,topF 51,topF 52,topF 53,topF 54,topF 55,topF 56,topF 57,topF 58,topF 59,topF 60,topF 61,topF 62,topF 63,topF 64,topF 65,topF 66,topF 67,topF 68,topF 69,topF 70,topF 71,topF 72,topF 73,topF 74,topF 75,topF 76,topF 77,topF 78,topF 79,topF 80,topF 81,topF 82,topF 83,topF 84,topF 85,topF 86,topF 87,topF 88,topF 89,topF 90,topF 91,topF 92,topF 93,topF 94,topF 95,topF 96,topF 97,topF 98,topF 99,topF 100,topF 101,topF 102,topF 103,topF 104,topF 105,topF 106,topF 107,topF 108,topF 109,topF 110,topF 111,topF 112,topF 113,topF 114,topF 115,topF 116,topF 117,topF 118,topF 119,topF 120,topF 121,topF 122,topF 123,topF 124,topF 125,topF 126,topF 127,topF 128,topF 129,topF 130,topF 131,topF 132,topF 133,topF 134]
theorem p2(w:Ý)(os:ù):ϓ w os 2393 S2 c2 {132,0,139,(16)} S3 {593,0,593,(10)}:=by
 unfold ϓ c2;rw[a0,a1,5]
noncomputable abbrev c3:List Ö:=[topF 135,topF 136,topF 137,topF 138,topF 139,topF 140,topF 141,topF 142,topF 143,topF 144,topF 145,topF 146,topF 147,topF 148,topF 149,topF 150,topF 151,topF 152,topF 153,topF 154,topF 155,topF 156,topF 157,topF 158,topF 159,topF 160,topF 161,topF 162,topF 163,topF 164,topF 165,topF 166,topF 167,topF 168,topF 169,topF 170,topF 171,topF 172,topF 173,topF 174,topF 175,topF 176,topF 177,topF 178,topF 179,topF 180,topF 181,topF 182]
theorem p3(w:Ý)(os:ù):ϓ w os 2262 S3 c3 {593,0,593,(10)} S4 {835,0,853,(77)}:=by
 revert w;show @PySem.W.byRow2 "special-get-raises" _ ?_ ?_<;>(intro w;unfold ϓ c3;rw[a0,a1,5])
theorem fin(w:Ý)(os:ù):topRun Ĭ ş w 11 ann 2 (S4 w os).abs {doneF .next,cE,{835,0,853,(77)},BB}=ι (SF w os):=by
 rw[a1,a3,5]
theorem body:Ś ş=c1++(c2++(c3++([]))):=by
 kernel_rfl
theorem run(w:Ý)(os:ù):topRun Ĭ ş w 11 ann (12+(1+(2600+(2393+(2262+(2)))))) {Į w.params,{([])},boot_drawn,boot_toks,os} (topStub ş)=ι (SF w os):=
 go_top (pre w os) (piece_block (blk w os) #v[body,!piece_app (segRun_of (p1 w os)) (piece_app (segRun_of (p2 w os)) (piece_app (segRun_of (p3 w os)) (piece_nil (fin w os))))])
theorem size(w:Ý):((Į w.params).isNs Í&&(Array.mk ([]:List GenState)).size==0,(Į w.params).objs.size,(Į w.params).nsMap Í "__annotations__")=(true,11,ann):=by
 rw[a13,5]
abbrev Xt(s:Ó):Bool:=xlAt q [] s&&recOk [] s
theorem lk1(w:Ý)(os:ù):(staticsOk (ť ş.main.body) (Į w.params) (HF w.params)&&namesBound ş (HF w.params)&&gensDone (SF w os)&&laidKept (Į w.params) (HF w.params))=true:=by
 rw[B_,5]
theorem lk2(w:Ý)(os:ù):openSeen q LO (ť ş.main.body) Xt true (SF w os)=openGood q LO:=by
 rw[B_,a12,5]
theorem lk3(w:Ý)(os:ù):LW as (SF w os)=FO K 1050 1671 w:=by
 kernel_rfl
theorem imports:opening ş=plainProg ş.main.scope.names:=(by kernel_rfl)
theorem left:LeftO ş q LO Xt (LW as) (FO K 1050 1671) 14630:=
 LeftO.of_pieces (boot_open imports (by rfl) (λs=>(by kernel_rfl))) size run (by rfl) λw=>funext λos=>looks_pair (lk1 w os) (looks_pair (lk2 w os) (lk3 w os))
end
end H
end K55
namespace L2
open PySem PySem.Spec PyProof.Rows
section
variable {H:Hp}{a b:Æ}{o u:HO}
abbrev Key:=Sum Int Str
def wZ:Key->Ã->Bool
 |.inl k,v=>Ã.isInt k v
 |.inr x,v=>ś x v
def aH8(w:Ý):Key->Int
 |.inl k=>hashInt k
 |.inr x=>hashStr w x
def zm:∀{k:Key} {v:Ã},wZ k v=true->(∃i t,k=DR i/\v=Ĳ i t)∨(∃x t,k=yx x/\v=Ē x t)
 |.inl i,v,h=>by
  let⟨t,e⟩:=Ã.isInt_shape (k:=i) (v:=v) h;show .inl {i,t,rfl,(e)}
 |.inr x,v,h=>by
  let⟨t,e⟩:=Ã.isStrOf_shape (x:=x) (v:=v) h;show .inr {x,t,rfl,(e)}
def aCC(i:Int)(t:Tok):wZ (.inl i) (.int i t)=true:=by simp[wZ,Ã.isInt]
def y_(x:Str)(t:Tok):wZ (.inr x) (.str x t)=true:=by simp[wZ,ś]
def aWu(a b:Int):decide ((DR a:Key)=DR b)=(a==b):=by
 by_cases e:a=b
 .subst e;simp
 .let h:¬(DR a:Key)=DR b:=λq=>e (Sum.inl.inj q);rw[Ì h,!(beq_eq_false_iff_ne.mpr e).symm]
def aRY(a b:Str):decide ((yx a:Key)=yx b)=decide (a=b):=by
 by_cases e:a=b
 .subst e;simp
 .let h:¬(yx a:Key)=yx b:=λq=>e (YA q);rw[Ì h,Ì e]
def aBM(a:Int)(b:Str):decide ((DR a:Key)=yx b)=false:=Ì (λq=>nomatch q)
def aDz(a:Str)(b:Int):decide ((yx a:Key)=DR b)=false:=Ì (λq=>nomatch q)
def mY(prog:Þ)(w:Ý):PySem.KeyKind prog w Key where
 is:=wZ
 hash:=aH8 w
 inj:=λv a b ha hb=>by
  rcases zm ha with⟨i,t,rfl,rfl⟩|⟨x,t,rfl,rfl⟩
  .rcases zm hb with⟨j,u,rfl,e⟩|⟨y,u,rfl,e⟩
   .injection e with e1 _;rw[e1]
   .exact nomatch e
  .rcases zm hb with⟨j,u,rfl,e⟩|⟨y,u,rfl,e⟩
   .exact nomatch e
   .injection e with e1 _;rw[e1]
 byValue:=λk v h=>by
  rcases zm h with⟨i,t,rfl,rfl⟩|⟨x,t,rfl,rfl⟩<;>rfl
 pyHash:=λhv h=>by
  rcases zm hv with⟨i,t,rfl,rfl⟩|⟨x,t,rfl,rfl⟩
  .exact wpAny_pyHash_int h
  .exact wpAny_pyHash_str h
 eqBool:=λhu hv h=>by
  rcases zm hu with⟨i,t,rfl,rfl⟩|⟨x,t,rfl,rfl⟩
  .rcases zm hv with⟨j,u,rfl,rfl⟩|⟨y,u,rfl,rfl⟩
   .rw[aWu]at h;show wpAny_eqBool_int h
   .rw[aBM]at h;show ţ i t y u _ _ _ _ h
  .rcases zm hv with⟨j,u,rfl,rfl⟩|⟨y,u,rfl,rfl⟩
   .rw[aDz]at h;show Ţ x t j u _ _ _ _ h
   .rw[aRY]at h;show wpAny_eqBool_str h
 «strs»:=λk x t v h=>by
  rcases zm h with⟨i,u,rfl,e⟩|⟨y,u,rfl,e⟩
  .exact nomatch e
  .injection e with e1 _;subst e1;cases v<;>rfl
def aHe(prog:Þ)(w:Ý)(i:Int)(t:Tok):(mY prog w).is (.inl i) (.int i t)=true:=aCC i t
def KJ(prog:Þ)(w:Ý)(x:Str)(t:Tok):(mY prog w).is (.inr x) (.str x t)=true:=y_ x t
inductive V where
 |non|bl (b:Bool)|int (i:Int)|str (x:Str)|pZ (b:Array UInt8)|flt (b:UInt64)|ref (a:Æ)|ty (n:String)
 deriving DecidableEq
abbrev τ:=List V
def RelV:V->Ã->Prop
 |.non,u=>u=Ŀ
 |.bl b,u=>u=è b
 |.int i,u=>∃t,u=Ĳ i t
 |.str x,u=>∃t,u=Ē x t
 |.pZ b,u=>∃t,u=Ã.bytes b t
 |.flt b,u=>∃t,u=ů b t
 |.ref a,u=>u=ß a
 |.ty n,u=>u=ŕ n
abbrev Vals:τ->List Ã->Prop:=Paired RelV
theorem Vals.length{xs:τ}{us:List Ã}(r:Vals xs us):xs[_]=us[_]:=Paired.length r
theorem Vals.get:∀{xs:τ} {us:List Ã} {i:Nat} {x:V},Vals xs us->xs[i]?=ι x->∃u,us[i]?=ι u/\RelV x u
 |_,_,_,_,.nil,e=>by simp at e
 |_,_,0,_,.cons r _,e=>by simp at e;subst e;show{(),r}
 |_,_,i+1,x,.cons _ t,e=>by
  let⟨u,h1,h2⟩:=Vals.get (i:=i) (x:=x) t e[7];show{u,h1[7],h2}
theorem Vals.set{x:V}{u:Ã}(r:RelV x u):∀{xs:τ} {us:List Ã} (i:Nat),Vals xs us->Vals (xs.set i x) (us.set i u)
 |_,_,_,.nil=>.nil
 |_,_,0,.cons _ t=>.cons r t
 |_,_,i+1,.cons q t=>.cons q (Vals.set r i t)
theorem Vals.append:∀{xs ys:τ} {us ws:List Ã},Vals xs us->Vals ys ws->Vals (xs++ys) (us++ws)
 |_,_,_,_,.nil,s=>s
 |_,_,_,_,.cons r t,s=>.cons r (Vals.append t s)
theorem Vals.take:∀{xs:τ} {us:List Ã} (n:Nat),Vals xs us->Vals (xs.take n) (us.take n)
 |_,_,0,_=>.nil
 |_,_,_+1,.nil=>.nil
 |_,_,n+1,.cons r t=>.cons r (Vals.take n t)
theorem Vals.drop:∀{xs:τ} {us:List Ã} (n:Nat),Vals xs us->Vals (xs.drop n) (us.drop n)
 |_,_,0,r=>r
 |_,_,_+1,.nil=>.nil
 |_,_,n+1,.cons _ t=>Vals.drop n t
def mO:Option V->Option Ã->Prop
 |some v,ι u=>RelV v u
 |none,ν=>True
 |_,_=>False
def KV{a:Type}:List (a×V)->List (a×Ã)->Prop:=Paired λ(p:a×V)(q:a×Ã)=>p.1=q.1/\RelV p.2 q.2
def kV:Key->V
 |.inl i=>.int i
 |.inr x=>.str x
inductive HO where
 |lst (xs:τ)
 |tup (xs:τ)
 |dK (kvs:List (Key×V))|dT (kvs:List (List Key×V))
 |set (S:Int->Bool) (n:Nat)
 |ins (C dx:Æ) (fs:List (Str×V))
 |own (x:Æ)
 |xd (fs:List (Str×V))
 |met (f x:Æ)
 |rng (lo hi:Int)
 |oE (o:Obj) (u:HO)
 |DY (ps:Array Ã)
 |ext (φ:Û->Prop)
abbrev Hp:=Æ->Option HO
def upd(H:Hp)(a:Æ)(o:HO):Hp:=λb=>if b=a then ι o else H b
def aB:upd H a o a=ι o:=by unfold upd;rw[Á rfl]
def cO(h:b≠a):upd H a o b=H b:=by unfold upd;rw[Â h]
def aFb:upd (upd H a o) a u=upd H a u:=by
 funext b;unfold upd;split<;>rfl
def v9(h:H a=ι o)(h':H b=ι u)(d:o≠u):a≠b:=by
 intro e;subst e;rw[h]at h';show d (nQ h')
def iH(h:H a=ι o)(h':H b=ν):a≠b:=by
 intro e;subst e;rw[h]at h';cases h'
end
section
variable (P:Þ)(w:Ý)
def gG(H:Hp)(h:Û)(a:Æ):HO->Prop
 |.lst xs=>xs[_]<=Ê/\∃(b:List Ã) (n:Nat),Vals xs b/\h.get? a=ι {cls:=.type "list",data:=.seq b.toArray n}
 |.tup xs=>xs[_]<=Ê/\∃b:List Ã,Vals xs b/\Ľ h a b.toArray
 |.dK kvs=>kvs[_]<=Ê/\(a==ã)=false/\∃vs,KV kvs vs/\h.DictOf (mY P w) a vs
 |.dT kvs=>kvs[_]<=Ê/\(a==ã)=false/\∃xs:List (List Key×Æ×Ã),
   Paired (λ(p:List Key×V)(q:List Key×Æ×Ã)=>p.1=q.1/\H q.2.1=(p.1.map kV)[3]/\RelV p.2 q.2.2) kvs xs/\
   ∃o d e,h.get? a=ι o/\o.ExactDict/\o.data=.dict d e/\d.toList=xs.map (entryOfKey (Ř (mY P w)))/\(xs.map (·.1)).Nodup
 |.set S n=>h.SetOf (intKind P w) a S n
 |.ins C dx fs=>H dx=ι (.own a)/\fs[_]<=1000/\dx≠a/\h.get? a=ι (BP C dx)/\
   ∃c,h.Ns1 dx c/\(∀f,mO (fs.lookup f) (c f))/\bc c (fs.map (·.1))
 |.own _=>∃o,h.get? a=ι o
 |.xd fs=>∃c,h.Ns1 a c/\∀f,mO (fs.lookup f) (c f)
 |.rng lo hi=>∃t u v,h.get? a=ι {cls:=.type "range",data:=.fields #[.int lo t,.int hi u,.int 1 v]}
 |.oE o u=>h.get? a=ι o/\gG H h a u
 |.DY ps=>h.get? a=ι {cls:=.none,data:=.fields ps}
 |.met f x=>h.get? a=ι (WT (.ref f) (.ref x))
 |.ext φ=>φ h/\(∃o,h.get? a=ι o)/\∀h1 h2:Û,φ h1->(∀o,h1.get? a=ι o->h2.get? a=ι o)->φ h2
def gO(H:Hp)(h:Û):Prop:=∀a o,H a=ι o->gG P w H h a o
end
theorem gG.lt(x:gG P w H h a o):a<h.objs.size:=by
 cases o with
 |lst xs=>ext _ _ _ _ e x;show dX e
 |tup xs=>ext _ _ _ p x;show p.lt
 |dK kvs=>ext _ _ _ _ o _ _ e _ x;show dX e
 |dT kvs=>ext _ _ _ _ o _ _ e _ x;show dX e
 |set S n=>ext o _ _ _ e _ x;show dX e
 |ins C dx fs=>ext _ _ _ e _ x;show dX e
 |own y=>ext _ e x;show dX e
 |xd fs=>obtain⟨_,⟨_,_,_,e,_⟩,_⟩:=x;show dX e
 |rng lo hi=>ext _ _ _ e x;show dX e
 |oE ob u=>ext e _ x;show dX e
 |DY ps=>show dX (show h.get? a=ι _ from x)
 |met f y=>show dX (show h.get? a=ι _ from x)
 |ext φ=>obtain⟨_,⟨_,e⟩,_⟩:=x;show dX e
theorem Paired.Jj:∀{U:List α} {O:List β},Paired F U O->(∀a b,F a b->G a b)->Paired G U O
 |_,_,.nil,_=>.nil
 |_,_,.cons r t,f=>.cons (f _ _ r) (Paired.Jj t f)
def gG.stay(x:gG P w H h a o)(k:∀b u,(b=a∨H b=ι (.own a))->h.get? b=ι u->h'.get? b=ι u)
  (O:∀b,H b=ι (.own a)->H' b=ι (.own a))(ht:∀b xs,H b=xs[3]->H' b=xs[3]):gG P w H' h' a o:=by
 induction o with
 |lst xs=>ext z j n r e x;show{z,j,n,r,k _ _ (.inl rfl) e}
 |tup xs=>ext z j r ob e c x;show{z,j,r,ob,k _ _ (.inl rfl) e,c}
 |dK kvs=>ext z y vs r ob g i e c x;show{z,y,vs,r,ob,g,i,k _ _ (.inl rfl) e,c}
 |dT kvs=>
  ext z y xs r ob g i e c x;show{z,y,xs,Paired.Jj r λp q z=>{z.1,ht _ _ z.2.1,z.2.2},ob,g,i,k _ _ (.inl rfl) e,c}
 |set S n=>ext ob g i t e c x;show{ob,g,i,t,k _ _ (.inl rfl) e,c}
 |ins C dx fs=>
  obtain⟨d,z,ne,e,m,⟨l,g,i,s,c⟩,r⟩:=x;show{O _ d,z,ne,k _ _ (.inl rfl) e,m,{l,g,i,k _ _ (.inr d) s,c},r}
 |own y=>ext ob e x;show{ob,k _ _ (.inl rfl) e}
 |xd fs=>obtain⟨m,⟨l,g,i,e,c⟩,r⟩:=x;show{m,{l,g,i,k _ _ (.inl rfl) e,c},r}
 |rng lo hi=>ext t u v e x;show{t,u,v,k _ _ (.inl rfl) e}
 |oE ob u ih=>ext e q x;show{k _ _ (.inl rfl) e,ih q}
 |DY ps=>
  let e:h.get? a=ι {cls:=.none,data:=.fields ps}:=x;show h'.get? a=ι {cls:=.none,data:=.fields ps};show k a _ (.inl rfl) e
 |met f y=>
  let e:h.get? a=ι (WT (.ref f) (.ref y)):=x;show h'.get? a=ι (WT (.ref f) (.ref y));show k a _ (.inl rfl) e
 |ext φ=>obtain⟨p,⟨o,e⟩,st⟩:=x;show{st _ _ p λo q=>k _ _ (.inl rfl) q,{o,k _ _ (.inl rfl) e},st}
theorem gO.lt(x:gO P w H h)(e:H a=ι o):a<h.objs.size:=(x a o e).lt
def gO.fresh(x:gO P w H h)(e:h.objs.size<=a):H a=ν:=by
 cases q:H a with
 |none=>rfl
 |some u=>show È (gY (x.lt q) e) (rO _)
def gO.kept(x:gO P w H h)(k:∀b u,h.get? b=ι u->h'.get? b=ι u):gO P w H h':=λa o e=>
 (x a o e).stay (λb u _ q=>k b u q) (λ_ q=>q) λ_ _ q=>q
def gO.laid(x:gO P w H h)(k:∀b u,h.get? b=ι u->h'.get? b=ι u)(hp:h.objs.size<=a)(new:gG P w (upd H a o) h' a o):gO P w (upd H a o) h':=λb u e=>by
 let hn:=x.fresh hp;by_cases hb:b=a
 .subst hb;rw[aB]at e;cases e;show new
 .rw[cO hb]at e;show(x b u e).stay (λc v _ q=>k c v q) (λc q=>#v[cO (iH q hn),!q]) λc xs q=>#v[cO (iH q hn),!q]
def Rd(H:Hp)(a:Æ)(u:HO):Prop:=H a=ι u∨∃o,H a=ι (.oE o u)
def Rd.ok(r:Rd H a u)(x:gO P w H h):gG P w H h a u:=by
 rcases r with r|⟨o,r⟩
 .exact x a u r
 .obtain⟨_,q⟩:=x a _ r;show q
def PJ:Option HO->Prop
 |some (.lst _)=>True
 |some (.dK _)=>True
 |some (.dT _)=>True
 |some (.set _ _)=>True
 |some (.ins _ _ _)=>True
 |some (.ext _)=>True
 |_=>False
def gO.write(ok:gO P w H h)(d:PJ (H x))(Y:e=x∨H e=ι (.own x))(k:∀b u,b≠e->h.get? b=ι u->h'.get? b=ι u)(O:∃u,h'.get? e=ι u)
  (new:gG P w (upd H x U) h' x U):gO P w (upd H x U) h':=λb u q=>by
 let i:∀c y,H c=ι (.own y)->c≠x:=λc y r z=>by subst z;rw[r]at d;show d
 let f:∀c xs,H c=xs[3]->c≠x:=λc xs r z=>by subst z;rw[r]at d;show d
 by_cases hb:b=x
 .subst hb;rw[aB]at q;cases q;show new
 .rw[cO hb]at q;by_cases a:b=e
  .let g:H b=ι (.own x):=by
    rcases Y with z|z
    .exact È (a.trans z) hb
    .rw[a];show z
   rw[q]at g;cases g;ext v hv O;show{v,#v[a,!hv]}
  .refine(ok b u q).stay (λc v hc r=>k c v ?_ r) (λc r=>#v[cO (i c b r),!r]) λc xs r=>#v[cO (f c xs r),!r]
   rcases hc with rfl|hc
   .exact a
   .rintro rfl;rcases Y with z|z
    .exact i c b hc z
    .rw[hc]at z;cases z;show hb rfl
structure Un(fs ex:List Æ)(H H':Hp)(h h':Û):Prop where
 keep:∀b o,h.get? b=ι o->H b=ν->b∉fs->b∉ex->h'.get? b=ι o
 slot:∀b o,h.get? b=ι o->H b=ν->b∈fs->b∉ex->∃sl,h'.get? b=ι {o with slots:=sl}
 free:∀b o,h.get? b=ι o->H b=ν->b∉ex->H' b=ν
 there:∀b o,h.get? b=ι o->b∉ex->∃o',h'.get? b=ι o'
 tups:∀b xs,H b=xs[3]->H' b=xs[3]
 yO:∀b o u,H b=ι (.oE o u)->H' b=ι (.oE o u)
 AK:∀b ps,H b=ι (.DY ps)->∃more,H' b=ι (.DY (ps++more))
def Un.any(u:Un fs ex H H1 h h1)(q:h.get? b=ι ob)(n:H b=ν)(hx:b∉ex):∃sl,h1.get? b=ι {ob with slots:=sl}:=by
 by_cases hb:b∈fs
 .exact u.slot b ob q n hb hx
 .exact{ob.slots,u.keep b ob q n hb hx}
def Un.kept(k:∀b u,h.get? b=ι u->h'.get? b=ι u):Un fs ex H H h h':=
 {λb ob q _ _ _=>k b ob q,λb ob q _ _ _=>{ob.slots,k b ob q},λ_ _ _ n _=>n,λb ob q _=>{ob,k b ob q},λ_ _ q=>q,λ_ _ _ q=>q,λ_ ps q=>{#[],#v[q,2]}}
def Un.refl:Un fs ex H H h h:=Un.kept λ_ _ q=>q
def Un.laid(k:∀b u,h.get? b=ι u->h'.get? b=ι u)(hp:h.objs.size<=a)(hn:H a=ν):Un fs ex H (upd H a o) h h' where
 keep:=λb u q _ _ _=>k b u q
 slot:=λb u q _ _ _=>{u.slots,k b u q}
 free:=λb u q n _=>#v[cO (jP (gY (dX q) hp)),!n]
 there:=λb u q _=>{u,k b u q}
 tups:=λb xs q=>#v[cO (iH q hn),!q]
 yO:=λb u xs q=>#v[cO (iH q hn),!q]
 AK:=λb ps q=>{#[],#v[cO (iH q hn),q,2]}
def Un.write(c:PJ (H x))(U:e=x∨H e=ι (.own x))(k:∀b u,b≠e->h.get? b=ι u->h'.get? b=ι u)(O:∃u,h'.get? e=ι u):Un fs ex H (upd H x o) h h':=by
 let hx:∀b,H b=ν->b≠x:=λb n z=>by subst z;rw[n]at c;show c
 let hb:∀b,H b=ν->b≠e:=λb n z=>by
  subst z;rcases U with r|r
  .exact hx b n r
  .rw[n]at r;cases r
 let d:∀b u,H b=ι u->¬PJ (ι u)->b≠x:=λb u q f z=>by subst z;rw[q]at c;show f c
 show{λb u q n _ _=>k b u (hb b n) q,λb u q n _ _=>{u.slots,k b u (hb b n) q},λb u q n _=>#v[cO (hx b n),!n],λb u q _=>?_,
  λb xs q=>#v[cO (d b _ q λz=>z),!q],λb u xs q=>#v[cO (d b _ q λz=>z),!q],λb ps q=>{#[],#v[cO (d b _ q λz=>z),q,2]}}
 by_cases a:b=e
 .subst a;show O
 .exact{u,k b u a q}
def Ue(h:Û)(H:Hp):List Æ:=(dY h.objs.size).filter λa=>(H a).isSome
def yc(h:Û)(H:Hp):Û:=W.hideAll h (Ue h H)
def aQS(h:Û)(H:Hp):(yc h H).objs.size=h.objs.size:=W.hideAll_size _ _
def aBk(e:h.get? b=ι o)(n:H b=ν):(yc h H).get? b=ι o:=
 W.hideAll_get _ e λa=>by
  let q:(H b).isSome=true:=(pD.mp a).2;rw[n]at q;simp at q
def aQh(e:(yc h H).get? b=ι o):h.get? b=ι o/\H b=ν:=by
 let a:h.get? b=ι o:=W.of_hideAll (Ue h H) e;show{a,?_};cases q:H b with
 |none=>rfl
 |some x=>
  let c:b∈Ue h H:=pD.mpr {fQ.mpr (dX a),by simp[q]};let z:(yc h H).get? b=ν:=W.hideAll_none (Ue h H) c;rw[z]at e;cases e
structure Mod(K:aH)(mg:μ)(base:Û):Prop where
 Fv:K.In base
 glob:base.Ns Í mg
 blt:∃mb,base.Ns ŏ mb/\∀x:Str,x≠ "__name__" -> mb x=Ü x
 nolimit:base.NoLimit
 digits:base.NoDigits
 seer:base.NoSeer
structure Cx where
 prog:Þ
 w:Ý
 K:aH
 mg:μ
 base:Û
 A:î
 N:List Str
 s₀:Ó
 H₀:Hp
 env:Env
 outer:List Env
 stack:List Env
 ex:List Æ
 fn:Str->Bool
 calm:Bool
 pn:List (Æ×Obj)
 xe:χ
def ż(l:List Env):List Æ:=l.filterMap (·.frame)
abbrev Cx.fs(X:Cx):List Æ:=ż X.outer
def QL(sc:ļ)(x:Str):Prop:=sc.names.lookup x=ι .local∨sc.names.lookup x=ι .cell∨sc.names.lookup x=ι .free
def Loc(sc:ļ)(x:Str):Prop:=sc.names.lookup x=ι .local∨sc.names.lookup x=ι .cell
def Look(env:Env)(h:Û)(m:μ)(x:Str)(u:Ã):Prop:=
 (env.kindOf x=ι .local/\m x=ι u)∨((env.kindOf x=ι .cell∨env.kindOf x=ι .free)/\∃c,env.cells.lookup x=ι c/\h.IsCell c (ι u))
structure Cx.Ok(X:Cx):Prop where
 mod:Mod X.K X.mg X.base
 kind:X.env.scope.kind=.function
 glob:X.env.globals=Í
 blt:X.env.builtins=ŏ
 above:X.s₀.heap.objs.size<=X.env.locals
 inj:∀x y c,X.env.cells.lookup x=ι c->X.env.cells.lookup y=ι c->x=y
 has:∀x,(X.env.kindOf x=ι .cell∨X.env.kindOf x=ι .free)->∃c,X.env.cells.lookup x=ι c
 cab:∀x c,X.fn x=true->X.env.cells.lookup x=ι c->X.s₀.heap.objs.size<=c
 hd:X.calm=true->X.A.handled=ν
 frames:X.A.frames=ι X.stack
 stk:X.stack=X.outer∨(X.stack=X.env::X.outer/\X.env.frame=ι X.env.locals)
 exf:∀b∈X.ex,b≠X.env.locals/\∀x c,X.env.cells.lookup x=ι c->c≠b
 bs:∀b o,X.base.get? b=ι o->X.s₀.heap.get? b=ι o/\X.H₀ b=ν
 zJ:X.base.objs.size<=X.s₀.heap.objs.size
 IG:∀b o,X.base.get? b=ι o->b∉X.ex
 Pq:∀b∈X.ex,b∉X.fs
 uy:X.s₀.heap.FunFrames X.base X.outer
 B7:∀b∈X.fs,X.H₀ b=ν
 tree:X.prog.given.tree=ν
 top:∃e l,X.stack=e::l/\e.scope.isGenerator=false/\e.scope.isCoroutine=false/\e.builtins=ŏ/\e.globals=Í
structure Inv(X:Cx)(π:List (Æ×Obj))(σ:List (Option V))(H:Hp)(s:Ó):Prop where
 ok:X.Ok
 os:s.os=X.s₀.os
 bare:ħ s.gens
 base:Un X.fs X.ex X.H₀ H X.s₀.heap s.heap
 loc:∃m,s.heap.Ns X.env.locals m/\∀(i:Nat)(x:Str)(v:V),X.N[i]?=ι x->σ[i]?=ι (ι v)->QL X.env.scope x->∃u,RelV v u/\Look X.env s.heap m x u
 cell:∀x c,X.env.cells.lookup x=ι c->∃v,s.heap.IsCell c v
 free:H X.env.locals=ν
 wO:∀x c,X.env.cells.lookup x=ι c->H c=ν
 pin:∀p∈X.pn++π,s.heap.get? p.1=ι p.2/\H p.1=ν/\p.1≠X.env.locals/\p.1∉X.fs/\∀v,p.2.data≠ .cell v
 hok:gO X.prog X.w H s.heap
 len:σ[_]=X.N[_]
section
variable {X:Cx}{π:List (Æ×Obj)}{σ:List (Option V)}{H H':Hp}{s:Ó}{h':Û}
section
variable {g':Array GenState}{t' i:Nat}{d':Drawn}{ch:List Æ}{x:Str}{v:V}{u:Ã}
def Cx.Ok.aU2(ok:X.Ok)(e:X.base.get? b=ι o):b∉X.fs:=λhb=>by
 let:=(ok.uy.mem hb).1;rw[e]at this;cases this
theorem Inv.bs(I:Inv X π σ H s):∀b o,X.base.get? b=ι o->s.heap.get? b=ι o/\H b=ν:=λb o e=>
 {I.base.keep b o (I.ok.bs b o e).1 (I.ok.bs b o e).2 (I.ok.aU2 e) (I.ok.IG b o e),I.base.free b o (I.ok.bs b o e).1 (I.ok.bs b o e).2 (I.ok.IG b o e)}
def Inv.bk(I:Inv X π σ H s):∀b o,X.base.get? b=ι o->s.heap.get? b=ι o:=λb o e=>(I.bs b o e).1
theorem Inv.mod(I:Inv X π σ H s):Mod X.K X.mg X.base:=I.ok.mod
def Inv.f9(I:Inv X π σ H s):X.K.In s.heap:=I.ok.mod.Fv.keeps I.bk
theorem Inv.lt(I:Inv X π σ H s):X.env.locals<s[1]:=let⟨_,hn,_⟩:=I.loc;hn.lt
def Inv.sz(I:Inv X π σ H s):X.s₀.heap.objs.size<=s[1]:=cD I.ok.above (gQ I.lt)
def Inv.aB3(I:Inv X π σ H s)(h:s[1]<=a):a∉X.fs:=λhb=>by
 let⟨_,o,b,_⟩:=I.ok.uy.mem hb;show È (gY (dX b) (cD I.sz h)) (rO _)
def Inv.C5(I:Inv X π σ H s):∀x c,X.env.cells.lookup x=ι c->c≠X.env.locals:=λx c e z=>by
 let⟨v,o,d,hd⟩:=I.cell x c e;obtain⟨m,⟨f,g,i,a,b,_⟩,_⟩:=I.loc;rw[z,a]at d;cases d;rw[b]at hd;cases hd
theorem Inv.uy(I:Inv X π σ H s):s.heap.FunFrames X.base X.outer:=by
 let all:∀(l:List Env),(∀b∈ż l,b∈X.fs)->X.s₀.heap.FunFrames X.base l->s.heap.FunFrames X.base l:=by
  intro l;induction l with
  |nil=>intro _ _;trivial
  |cons env r ih=>
   intro d g;obtain⟨hk,⟨L,o,a,hn,f,hd⟩,hr⟩:=g;let c:L∈X.fs:=d L (by unfold ż;rw[iL,a,!lH]);let⟨i,e⟩:=I.base.slot L o f (I.ok.B7 L c) c λz=>I.ok.Pq L z c;show{hk,{L,_,a,hn,e,hd},ih (λb hb=>d b (by unfold ż;rw[iL,a,!gW _ hb])) hr}
 show all X.outer (λ_ hb=>hb) I.ok.uy
theorem Inv.stack(I:Inv X π σ H s):s.heap.FunFrames X.base X.stack:=by
 rcases I.ok.stk with e|⟨e,a⟩
 .rw[e];show I.uy
 .rw[e];ext m hn _ I.loc;show .cons #v[I.ok.kind,3] a hn ?_ I.uy;show Û.get?_none_of_le (cD I.ok.zJ I.ok.above)
def Inv.WG(I:Inv X π σ H s):∀b∈ż X.stack,b∈X.env.locals::X.fs:=λb hb=>by
 rcases I.ok.stk with e|⟨e,a⟩
 .rw[e]at hb;show gW _ hb
 .rw[e]at hb;unfold ż at hb;rw[iL,a]at hb;show hb
def Inv.PH(I:Inv X π σ H s):∀b∈ż X.stack,H b=ν:=λb hb=>by
 rcases fj.mp (I.WG b hb)with e|hb
 .rw[e];show I.free
 .obtain⟨_,o,a,_⟩:=I.ok.uy.mem hb;show I.base.free b o a (I.ok.B7 b hb) λz=>I.ok.Pq b z hb
def Inv.step(I:Inv X π σ H s)
  (O:∀b∈ch,(b∈X.ex∨X.s₀.heap.objs.size<=b)/\b≠X.env.locals/\(∀x c,X.env.cells.lookup x=ι c->c≠b)/\∀p∈X.pn++π,p.1≠b)
  (keep:∀b o,b≠X.env.locals->b∉X.fs->b∉ch->s.heap.get? b=ι o->H b=ν->h'.get? b=ι o)
  (slot:∀b o,b≠X.env.locals->b∈X.fs->b∉ch->s.heap.get? b=ι o->H b=ν->∃sl,h'.get? b=ι {o with slots:=sl}) (free:∀b o,b∉ch->s.heap.get? b=ι o->H b=ν->H' b=ν)
  (there:∀b o,b∉ch->s.heap.get? b=ι o->∃U,h'.get? b=ι U)
  (tups:∀b xs,H b=xs[3]->H' b=xs[3]) (yO:∀b o u,H b=ι (.oE o u)->H' b=ι (.oE o u)) (AK:∀b ps,H b=ι (.DY ps)->∃more,H' b=ι (.DY (ps++more)))
  (ns:∀m,s.heap.Ns X.env.locals m->h'.Ns X.env.locals m) (hok:gO X.prog X.w H' h') (hg:ħ g'):
  Inv X π σ H' {s with heap:=h',gens:=g',drawn:=d',toks:=t'}:=by
 let j:∀b o,X.s₀.heap.get? b=ι o->b≠X.env.locals:=λb o e=>jP (gY (dX e) I.ok.above);let Df:∀b o,X.s₀.heap.get? b=ι o->b∉X.ex->b∉ch:=λb o e hx hb=>by
  rcases(O b hb).1 with z|z
  .exact hx z
  .exact È (gY (dX e) z) (rO _)
 let a:∀x c,X.env.cells.lookup x=ι c->∀v,s.heap.IsCell c v->h'.IsCell c v:=λx c e v ⟨o,g,hd⟩=>by
  let y:c∉ch:=λz=>(O c z).2.2.1 x c e rfl;by_cases hc:c∈X.fs
  .obtain⟨sl,q⟩:=slot c o (I.C5 x c e) hc y g (I.wO x c e);show{_,q,hd}
  .exact{o,keep c o (I.C5 x c e) hc y g (I.wO x c e),hd}
 show{I.ok,I.os,hg,{λb o e n hb hx=>?_,λb o e n hb hx=>?_,λb o e n hx=>?_,λb o e hx=>?_,λb xs e=>tups b xs (I.base.tups b xs e),λb o xs e=>yO b o xs (I.base.yO b o xs e),λb ps e=>?_},?_,λx c e=>?_,?_,λx c e=>?_,λp hp=>?_,hok,I.len}
 .exact keep b o (j b o e) hb (Df b o e hx) (I.base.keep b o e n hb hx) (I.base.free b o e n hx)
 .obtain⟨sl,f⟩:=I.base.slot b o e n hb hx;let⟨A,t⟩:=slot b _ (j b o e) hb (Df b o e hx) f (I.base.free b o e n hx);show{A,(t)}
 .obtain⟨U,f⟩:=I.base.there b o e hx;show free b U (Df b o e hx) f (I.base.free b o e n hx)
 .obtain⟨U,f⟩:=I.base.there b o e hx;show there b U (Df b o e hx) f
 .obtain⟨D,f⟩:=I.base.AK b ps e;let⟨C,t⟩:=AK b _ f;show{D++C,#v[t,Array.append_assoc]}
 .ext m hn G I.loc;show{m,ns m hn,λi x v f t J=>?_};let⟨u,r,l⟩:=G i x v f t J;show{u,r,?_};rcases l with l|⟨k,c,e,z⟩
  .exact .inl l
  .exact .inr {k,c,e,a x c e _ z}
 .obtain⟨v,z⟩:=I.cell x c e;show{v,a x c e v z}
 .obtain⟨m,⟨o,_,_,g,_⟩,_⟩:=I.loc;show free _ o (λz=>(O _ z).2.1 rfl) g I.free
 .obtain⟨v,o,g,hd⟩:=I.cell x c e;show free c o (λz=>(O c z).2.2.1 x c e rfl) g (I.wO x c e)
 .obtain⟨e,n,ne,B,d⟩:=I.pin p hp;let y:p.1∉ch:=λz=>(O p.1 z).2.2.2 p hp rfl;show{keep p.1 p.2 ne B y e n,free p.1 p.2 y e n,ne,B,d}
def Inv.un(I:Inv X π σ H s)(u:Un X.fs [] H H' s.heap h')(hok:gO X.prog X.w H' h'):Inv X π σ H' {s with heap:=h',toks:=t'}:=by
 obtain⟨m,⟨o,p,q,f,r⟩,_⟩:=id I.loc;let⟨k,j⟩:=u.any f I.free 0.1;show I.step (g':=s.gens) (d':=s.drawn) (ch:=[]) (λ_ z=>nomatch z) (λb o _ hb _ e n=>u.keep b o e n hb 0.1) (λb o _ hb _ e n=>u.slot b o e n hb 0.1) (λb o _ e n=>u.free b o e n 0.1) (λb o _ e=>u.there b o e 0.1) u.tups u.yO u.AK (λm' i=>by
  ext l c d a g i;rw[f]at a;cases a;show{_,c,d,j,g}) hok I.bare
def Inv.call(I:Inv X π σ H s)(u:Un (ż X.stack) ch H H' s.heap h')(hok:gO X.prog X.w H' h')(hg:ħ g')
  (O:∀b∈ch,(b∈X.ex∨X.s₀.heap.objs.size<=b)/\b≠X.env.locals/\(∀x c,X.env.cells.lookup x=ι c->c≠b)/\∀p∈X.pn++π,p.1≠b):
  Inv X π σ H' {s with heap:=h',gens:=g',drawn:=d',toks:=t'}:=by
 obtain⟨m,⟨o,t,v,i,r⟩,_⟩:=id I.loc;let⟨l,d⟩:=u.any i I.free λz=>(O _ z).2.1 rfl;show I.step (ch:=ch) O (λb o d hb hc e n=>u.keep b o e n (λz=>(fj.mp (I.WG b z)).elim d hb) hc) (λb o _ _ hc e n=>u.any e n hc) (λb o hc e n=>u.free b o e n hc) (λb o hc e=>u.there b o e hc) u.tups u.yO u.AK (λm' k=>by
  ext q f g a j k;rw[i]at a;cases a;show{_,f,g,d,j}) hok hg
def Inv.turned(I:Inv X π σ H s)(k:∀b o,b≠it->s.heap.get? b=ι o->h'.get? b=ι o)(hn:H it=ν)(U:it≠X.env.locals)
  (h1:it∈X.ex∨X.s₀.heap.objs.size<=it)(h2:∀x c,X.env.cells.lookup x=ι c->c≠it)(h3:∀p∈X.pn++π,p.1≠it):Inv X π σ H {s with heap:=h',toks:=t'}:=by
 let a:∀b u,H b=ι u->b≠it:=λb u e z=>by rw[z,hn]at e;cases e
 show I.step (g':=s.gens) (d':=s.drawn) (ch:=[it]) (λb hb=>?_) (λb o _ _ hc e _=>k b o (λz=>hc (by simp[z])) e) (λb o _ _ hc e _=>{o.slots,k b o (λz=>hc (by simp[z])) e}) (λ_ _ _ _ n=>n)
  (λb o hc e=>{o,k b o (λz=>hc (by simp[z])) e}) (λ_ _ e=>e) (λ_ _ _ e=>e) (λb ps e=>{#[],#v[e,2]}) (λm f=>?_) (λb u e=>?_) I.bare
 .let e:b=it:=hb[7]
  subst e;show{h1,U,h2,(h3)}
 .ext o g i d r f;show{o,g,i,k _ o (ux U) d,r}
 .refine(I.hok b u e).stay (λc v hc q=>k c v ?_ q) (λ_ q=>q) λ_ _ q=>q;rcases hc with z|z
  .rw[z];show a b u e
  .exact a c _ z
def Inv.tok(I:Inv X π σ H s)(t:Nat):Inv X π σ H {s with toks:=t}:=I.un (h':=s.heap) (t':=t) Un.refl I.hok
theorem Inv.kept{t':Nat}(I:Inv X π σ H s)(k:∀b u,s.heap.get? b=ι u->h'.get? b=ι u):Inv X π σ H {s with heap:=h',toks:=t'}:=I.un (Un.kept k) (I.hok.kept k)
theorem Inv.laid{t':Nat}(I:Inv X π σ H s)(k:∀b u,s.heap.get? b=ι u->h'.get? b=ι u)(hp:s[1]<=a)(new:gG X.prog X.w (upd H a o) h' a o):
  Inv X π σ (upd H a o) {s with heap:=h',toks:=t'}:=I.un (Un.laid k hp (I.hok.fresh hp)) (I.hok.laid k hp new)
theorem Inv.write{x:Æ}{t':Nat}(I:Inv X π σ H s)(a:PJ (H x))(Y:e=x∨H e=ι (.own x))(k:∀b u,b≠e->s.heap.get? b=ι u->h'.get? b=ι u)(O:∃u,h'.get? e=ι u)
  (new:gG X.prog X.w (upd H x o) h' x o):Inv X π σ (upd H x o) {s with heap:=h',toks:=t'}:=I.un (Un.write a Y k O) (I.hok.write a Y k O new)
def Inv.LB(I:Inv X π σ H s)(h:∀p∈Es,s.heap.get? p.1=ι p.2/\H p.1=ν/\p.1≠X.env.locals/\p.1∉X.fs/\∀v,p.2.data≠ .cell v):Inv X Es σ H s:=
 {I.ok,I.os,I.bare,I.base,I.loc,I.cell,I.free,I.wO,λp hp=>(iz.mp hp).elim (λz=>I.pin p (Q6 _ z)) (h p),I.hok,I.len}
def VU{N:List Str}(hN:N.Nodup){i j:Nat}{x:Str}(a:N[i]?=ι x)(b:N[j]?=ι x):i=j:=by
 let⟨h1,d⟩:=Ú.mp a;let⟨h2,c⟩:=Ú.mp b;show(List.getElem_inj hN).mp (d.trans c.symm)
def aBq(I:Inv X π σ H s)(hN:X.N.Nodup)(hi:X.N[i]?=ι x)(hx:Loc X.env.scope x)(r:RelV v u)
  (h:∀s',Inv X π (σ.set i (ι v)) H s'->(∃a,Jp a s.heap s'.heap/\(a=X.env.locals∨X.env.cells.lookup x=ι a))->Q () s')(hf:X.fn x=true∨X.env.scope.names.lookup x=ι .local:=by first|exact .inl rfl|exact .inr rfl|assumption):Ô M A (storeName X.env x u) Q E s:=by
 let⟨m,hn,hl⟩:=id I.loc;let L:(X.env.scope.kind== .class||(X.env.scope.kind== .module&&X.env.locals != X.env.globals))=false:=#v[I.ok.kind,0]
 let C:i < σ[_]:=#v[I.len,!(Ú.mp hi).1]
 let C5:=I.C5;let g:∀{a:Æ} {h':Û},(∃o,s.heap.get? a=ι o/\H a=ν)->Jp a s.heap h'->gO X.prog X.w H h':=λ{a h'} ha f b ob e=>by
  ext _ _ t ha;show(I.hok b ob e).stay (λc S hc q=>(f.2 c ?_).trans q) (λ_ q=>q) λ_ _ q=>q;rintro rfl;rcases hc with rfl|hc
  .rw[t]at e;cases e
  .rw[t]at hc;cases hc
 rcases hx with hk|hk
 .refine wpAny_storeName_local hk hn (λh' hn' f=>?_) L;let⟨oL,_,_,hoL,_⟩:=id hn;show h _ {I.ok,I.os,I.bare,{λb o e n hb hx=>?_,λb o e n hb hx=>?_,I.base.free,λb o e hx=>?_,I.base.tups,I.base.yO,I.base.AK},{_,hn',λj y W l B e3=>?_},λy c e=>?_,I.free,I.wO,λp hp=>?_,g {oL,hoL,(I.free)} f,I.len[7]} {_,f,.inl rfl}
  .exact(f.2 b (jP (gY (dX e) I.ok.above))).trans (I.base.keep b o e n hb hx)
  .obtain⟨O,l⟩:=I.base.slot b o e n hb hx;show{O,(f.2 b (jP (gY (dX e) I.ok.above))).trans l}
  .obtain⟨Y,l⟩:=I.base.there b o e hx;show{Y,(f.2 b (jP (gY (dX e) I.ok.above))).trans l}
  .by_cases D:j=i
   .subst D;rw[hi]at l;cases l;rw[Ũ C]at B;cases B;show{u,r,.inl {hk,0.1}}
   .rw[Ŵ (ux D)]at B;let⟨Z,U,q⟩:=hl j y W l B e3;show{Z,U,?_};rcases q with⟨k,e⟩|⟨k,c,e,z⟩
    .refine .inl {k,?_};let:y≠x:=λe=>D (VU hN l (e▸hi));simp[this,e]
    .exact .inr {k,c,e,z.sameBut f (C5 y c e)}
  .obtain⟨S,z⟩:=I.cell y c e;show{S,z.sameBut f (C5 y c e)}
  .obtain⟨e,n,ne,nf,d⟩:=I.pin p hp;show{(f.2 p.1 ne).trans e,n,ne,nf,d}
 .let G:X.fn x=true:=by
   rcases hf with z|z
   .exact z
   .rw[z]at hk;cases hk
  let⟨c,hc⟩:=I.ok.has x (.inl hk);let⟨S,z⟩:=I.cell x c hc;show wpAny_storeName_cell I.ok.kind hk hc z (λh' R f=>?_);let⟨oc,J,azR⟩:=id z;show h {s with heap:=h'} {I.ok,I.os,I.bare,{λb o e n hb hx=>?_,λb o e n hb hx=>?_,I.base.free,λb o e hx=>?_,I.base.tups,I.base.yO,I.base.AK},{m,hn.sameBut f (ux (C5 x c hc)),λj y W l B e3=>?_},λy T e=>?_,I.free,I.wO,λp hp=>?_,g {oc,J,I.wO x c hc} f,I.len[7]} {c,f,.inr hc}
  .exact(f.2 b (jP (gY (dX e) (I.ok.cab x c G hc)))).trans (I.base.keep b o e n hb hx)
  .obtain⟨O,l⟩:=I.base.slot b o e n hb hx;show{O,(f.2 b (jP (gY (dX e) (I.ok.cab x c G hc)))).trans l}
  .obtain⟨Y,l⟩:=I.base.there b o e hx;show{Y,(f.2 b (jP (gY (dX e) (I.ok.cab x c G hc)))).trans l}
  .by_cases D:j=i
   .subst D;rw[hi]at l;cases l;rw[Ũ C]at B;cases B;show{u,r,.inr {.inl hk,c,hc,R}}
   .rw[Ŵ (ux D)]at B;let⟨Z,U,q⟩:=hl j y W l B e3;show{Z,U,?_};rcases q with q|⟨k,T,e,z'⟩
    .exact .inl q
    .refine .inr {k,T,e,z'.sameBut f ?_};rintro rfl;show D (VU hN l (I.ok.inj _ _ _ e hc▸hi))
  .by_cases P:T=c
   .subst P;show{_,R}
   .obtain⟨w2,z2⟩:=I.cell y T e;show{w2,z2.sameBut f P}
  .obtain⟨e,n,ne,nf,d⟩:=I.pin p hp;show{(f.2 p.1 ?_).trans e,n,ne,nf,d};intro q;rw[q,J]at e;let q':oc=p.2:=nQ e;show d S #v[-q',!azR]
def M7(I:Inv X π σ H s)(hN:X.N.Nodup)(hi:X.N[i]?=ι x)(hx:Loc X.env.scope x)(r:RelV v u)
  (h:∀s',Inv X π (σ.set i (ι v)) H s'->Q () s')(O:X.fn x=true∨X.env.scope.names.lookup x=ι .local:=by first|exact .inl rfl|exact .inr rfl|assumption):Ô M A (storeName X.env x u) Q E s:=
 aBq I hN hi hx r (λs' a _=>h s' a) O
def Inv.WJ{s':Ó}(I:Inv X π σ H s)(U:s'.os=s.os)(u:Un (ż X.stack) ch H H' s.heap s'.heap)(hok:gO X.prog X.w H' s'.heap)(Y:ħ s'.gens)
  (O:∀b∈ch,(b∈X.ex∨X.s₀.heap.objs.size<=b)/\b≠X.env.locals/\(∀x c,X.env.cells.lookup x=ι c->c≠b)/\∀p∈X.pn++π,p.1≠b):Inv X π σ H' s':=by
 ext h' a d t' f s';let e:f=s.os:=U;subst e;show I.call (g':=a) (t':=t') (d':=d) u hok Y O
end
end
abbrev XK:=Ã->Option Æ->Hp->Prop
abbrev St:=List (Option V)
abbrev VK:=V->Hp->Prop
abbrev TE:=St->Hp->VK->Prop
abbrev TT:=St->Hp->(Bool->Hp->Prop)->Prop
abbrev TA:=St->Hp->(τ->Hp->Prop)->Prop
structure Ends where
 nx:St->Hp->Prop
 rt:VK
 bk:St->Hp->Prop:=λ_ _=>False
 ct:St->Hp->Prop:=λ_ _=>False
abbrev TS:=Ends->St->Hp->Prop
inductive EP(X:Cx)(a:List (Æ×Obj))(σ:St)(Q:VK)(u:Ã)(s':Ó):Prop|mk(v H')(_:Inv X a σ H' s')(_:RelV v u)(_:Q v H')
inductive TP(X:Cx)(a:List (Æ×Obj))(σ:St)(Q:Bool->Hp->Prop)(b:Bool)(s':Ó):Prop|mk(H')(_:Inv X a σ H' s')(_:Q b H')
inductive AP(X:Cx)(a:List (Æ×Obj))(σ:St)(Q:τ->Hp->Prop)(us:List Ã)(s':Ó):Prop|mk(vs H')(_:Inv X a σ H' s')(_:Vals vs us)(_:Q vs H')
inductive NPx(X:Cx)(b:List (Æ×Obj))(g:St->Hp->Prop)(s':Ó):Prop|mk(a H')(_:Inv X b a H' s')(_:g a H')
def SP(X:Cx)(b:List (Æ×Obj))(D:Ends)(f:Flow)(s':Ó):Prop:=
 match f with
 |.next=>NPx X b D.nx s'
 |.brk=>NPx X b D.bk s'
 |.cont=>NPx X b D.ct s'
 |.ret u=>∃v a H',Inv X b a H' s'/\RelV v u/\D.rt v H'
def PE(X:Cx)(e:ü)(t:TE):Prop:=
 ∀a s σ H (Q:VK),Inv X a σ H s->t σ H Q->Ô X[12] X.A (eval e X.env) (EP X a σ Q) X.xe s
def PT(X:Cx)(e:ü)(t:TT):Prop:=
 ∀a s σ H (Q:Bool->Hp->Prop),Inv X a σ H s->t σ H Q->Ô X[12] X.A (isTrue e X.env (eval e X.env)) (TP X a σ Q) X.xe s
def PW(X:Cx)(e:ü)(t:TT):Prop:=
 ∀(a:Sem Ã)(b:List (Æ×Obj))(s:Ó)(σ:St)(H:Hp)(Q:Bool->Hp->Prop),Inv X b σ H s->t σ H Q->Ô X[12] X.A (isTrue e X.env a) (TP X b σ Q) X.xe s
def PW.pt(h:PW X e t):PT X e t:=h _
def PA(X:Cx)(b:List ü)(t:TA):Prop:=
 ∀(pos:Pos)(a:List (Æ×Obj))(s:Ó)(σ:St)(H:Hp)(Q:τ->Hp->Prop),Inv X a σ H s->t σ H Q->Ô X[12] X.A (spliced (ó pos (Ò b X.env))) (AP X a σ Q) X.xe s
def PS(X:Cx)(st:Ö)(t:TS):Prop:=
 ∀a s σ H (D:Ends),Inv X a σ H s->t D σ H->Ô X[12] X.A (exec st X.env) (SP X a D) X.xe s
def m8(X:Cx)(st:List Ö)(t:TS):Prop:=
 ∀a s σ H (D:Ends),Inv X a σ H s->t D σ H->Ô X[12] X.A (execs st X.env) (SP X a D) X.xe s
def aY(h:Ô M A t Q E s)(O:∀a s,Q a s->Q' a s):Ô M A t Q' E s:=ð h O λ_ _ x=>x
section
variable {X:Cx}
section
variable {x:Str}{Q:χ}{σ:St}{H:Hp}{v:V}
def aGq(o:Option (Option V))(H:Hp)(Q:VK):Prop:=@Option.rec _ (λ_=>Prop) False (λp=>@Option.rec _ (λ_=>Prop) False (λz=>Q z H) p) o
def aGq.ex{Q:VK}:∀o,aGq o H Q->∃z,o=ι (ι z)/\Q z H|ι (ι z),h=>⟨z,rfl,h⟩|ι none,h=>h.elim|none,h=>h.elim
def Xg(i:Nat):TE:=λσ H Q=>aGq σ[i]? H Q
def Xg.mk{z:V}{Q:VK}(h:σ[i]?=ι (ι z))(q:Q z H):Xg i σ H Q:=by rw[Xg,h];exact q
def tC(v:V):TE:=λ_ H Q=>Q v H
def aGD(hN:X.N[i]?=ι x)(hv:QL X.env.scope x)(hd:(x==("__debug__":Str))=false:=by decide)(O:(x==("__classdict__":Str))=false:=by decide):PE X (.Name x pos) (Xg i):=by
 intro b s σ H Q I h;obtain⟨v,e,h⟩:=aGq.ex _ h;ext m hn f I.loc;let⟨u,r,l⟩:=f i x v hN e hv;let fin:EP X b σ Q u s:={v,H,I,r,(h)};rcases l with⟨hk,d⟩|⟨hk,c,hc,a⟩
 .exact wpAny_Name (wpAny_loadName_local I.ok.kind hk hn d fin) hd
 .rcases hk with hk|hk
  .exact wpAny_Name (wpAny_loadName_cell I.ok.kind hk hc a fin) hd
  .exact wpAny_Name (wpAny_loadName_free I.ok.kind hk hc a fin O) hd
def aR{i j pos}:PE X (.Constant (.int i) j pos) (tC (.int i)):=λ_ _ _ H _ I h=>wpAny_Constant_int {.int i,H,I.tok _,{()},h}
def iy{b j pos}:PE X (.Constant (.bool b) j pos) (tC (.bl b)):=λ_ _ _ H _ I h=>Constant_bool {.bl b,H,I,rfl,h}
def Pr{j pos}:PE X (.Constant .none j pos) (tC .non):=λ_ _ _ H _ I h=>Ÿ {.non,H,I,rfl,h}
def gj{x j pos}:PE X (.Constant (.str x) j pos) (tC (.str x)):=λ_ _ _ H _ I h=>Calls.Constant_str {.str x,H,I.tok _,{()},h}
def Gl(X:Cx)(x:Str):Prop:=X.env.kindOf x=ι .globalImplicit
def Ax(I:Inv X π σ H s)(U:Gl X x)(O:X.mg x=ι u)(h:Q u s)
  (hd:(x==("__debug__":Str))=false:=by decide):Ô X[12] X.A (eval (.Name x pos) X.env) Q E s:=
 zD I.ok.kind U (Calls.loadGlobal_global #v[I.ok.glob,!I.mod.glob.keeps I.bk] O h) hd
def uz(I:Inv X π σ H s)(U:Gl X x)(O:X.mg x=ν)(hv:Ü x=ι u)(h:Q u s)
  (hn:x≠ "__name__" := by decide)(hd:(x==("__debug__":Str))=false:=by decide):Ô X[12] X.A (eval (.Name x pos) X.env) Q E s:=by
 ext a h1 h2 I.mod.blt;show zD I.ok.kind U (Calls.loadGlobal_builtin #v[I.ok.glob,!I.mod.glob.keeps I.bk] O #v[I.ok.blt,!h1.keeps I.bk] ((h2 x hn).trans hv) h) hd
def Wx(U:Gl X x)(O:X.mg x=ι u)(r:RelV v u)(hd:(x==("__debug__":Str))=false:=by decide):PE X (.Name x pos) (tC v):=
 λ_ _ _ H _ I h=>Ax I U O {v,H,I,r,(h)} hd
def aU9(U:Gl X x)(O:X.mg x=ν)(hv:Ü x=ι u)(r:RelV v u)(hn:x≠ "__name__" := by decide)(hd:(x==("__debug__":Str))=false:=by decide):PE X (.Name x pos) (tC v):=
 λ_ _ _ H _ I h=>uz I U O hv {v,H,I,r,(h)} hn hd
end
variable {a b:ü}{ta tb:TE}{pos:Pos}
def PC(X:Cx)(O:CmpOp)(a b:ü)(t:TE):Prop:=
 ∀d s σ H (Q:VK),Inv X d σ H s->t σ H Q->
  Ô X[12] X.A (eval a X.env) (λv s₁=>Ô X[12] X.A (eval b X.env) (λu c=>Ô X[12] X.A (â O v u) (EP X d σ Q) X.xe c) X.xe s₁) X.xe s
def aVj(b:ü)(h:O≠ .In)(h2:O≠ .NotIn):Ĉ O b=false:=by
 let c:(O==CmpOp.In)=false:=by cases O<;>first|rfl|show È rfl h
 let a:(O==CmpOp.NotIn)=false:=by cases O<;>first|rfl|show È rfl h2
 cases b<;>simp[Ĉ,c,a]
def aHI(a:TE):TE:=λσ H Q=>a σ H λx H1=>Q (.bl (decide (x=.non))) H1
def aD4(a:TE):TE:=λσ H Q=>a σ H λx H1=>Q (.bl (!decide (x=.non))) H1
def RelV.ER(r:RelV x v):(v==Ŀ)=decide (x=.non):=by
 cases x with
 |non=>cases r;rfl
 |bl _=>cases r;rfl
 |int _=>ext t rfl r;rfl
 |str _=>ext t rfl r;rfl
 |pZ _=>ext t rfl r;rfl
 |flt _=>ext t rfl r;rfl
 |ref _=>cases r;rfl
 |ty _=>cases r;rfl
def Vo{j O}(ha:PE X a ta):PC X .Is a (.Constant .none j O) (aHI ta):=by
 show λb s σ H Q I h=>aY (ha b s σ H _ I h) λv f zz=>?_;let⟨x,H1,e,c,d⟩:=zz;show Ÿ (is_none_gen {.bl _,H1,e,#v[c.ER,0],d})
def aU3{j O}(ha:PE X a ta):PC X .IsNot a (.Constant .none j O) (aD4 ta):=by
 show λb s σ H Q I h=>aY (ha b s σ H _ I h) λv f zz=>?_;let⟨x,H1,e,c,d⟩:=zz;show Ÿ (isnot_none_gen {.bl _,H1,e,#v[c.ER,0],d})
def tB(t:TE):TT:=λσ H Q=>t σ H λx H1=>∃c,x=.bl c/\Q c H1
def xg(h:PC X O a b t)(h1:Ĉ O b=false:=by first|show aVj _ 0.3 0.3|rfl):PT X (.Compare a [O] [b] pos) (tB t):=by
 show λe s σ H Q I hw=>Θ (aY (h e s σ H _ I hw) λv k h1=>aY h1 λu j h2=>aY h2 λc s3 zz=>?_) h1;let⟨x,H1,i,f,g⟩:=zz;ext d rfl q g;cases f;show ä {H1,i,(q)}
def ji(h:PE X e t)(U:∀O,isTrue e X.env O=(do let v<-O;standAt e.pos;holding [v] (truthy v)):=by intro _;rfl):PT X e (tB t):=by
 show λa s σ H Q I hw=>isTrue_plain (aY (h a s σ H _ I hw) λv g zz=>?_) (U _);let⟨x,H1,f,b,c⟩:=zz;ext d rfl q c;cases b;show ä {H1,f,(q)}
variable {tA Vl:TT}{rest:List ü}
def aPt(t u:TT):TT:=λσ H Q=>t σ H λc H1=>if c=true then u σ H1 Q else Q false H1
def tOr(t u:TT):TT:=λσ H Q=>t σ H λc H1=>if c=true then Q true H1 else u σ H1 Q
def aBC(t:TT):TT:=λσ H Q=>t σ H λc H1=>Q (!c) H1
def Fg(ha:PT X a tA):PW X (.BoolOp .And [a] pos) tA:=by
 show λd b s σ H Q I h=>isTrue_and (aY (ha b s σ H Q I h) λc f e=>?_);cases c with
 |true=>show isTrue_and_nil e
 |false=>show e
def mD(ha:PT X a tA):PW X (.BoolOp .Or [a] pos) tA:=by
 show λd b s σ H Q I h=>isTrue_or (aY (ha b s σ H Q I h) λc f e=>?_);cases c with
 |false=>show isTrue_or_nil e
 |true=>show e
def FT(ha:PT X a tA)(hb:PW X (.BoolOp .And (b::rest) pos) Vl):PW X (.BoolOp .And (a::b::rest) pos) (aPt tA Vl):=by
 show λg d s σ H Q I h=>isTrue_and (aY (ha d s σ H _ I h) λc i zz=>?_);let⟨H1,f,e⟩:=zz;cases c with
 |true=>show hb g d i σ H1 Q f e
 |false=>show{H1,f,(e)}
def jc(ha:PT X a tA)(hb:PW X (.BoolOp .Or (b::rest) pos) Vl):PW X (.BoolOp .Or (a::b::rest) pos) (tOr tA Vl):=by
 show λg d s σ H Q I h=>isTrue_or (aY (ha d s σ H _ I h) λc i zz=>?_);let⟨H1,f,e⟩:=zz;cases c with
 |true=>show{H1,f,(e)}
 |false=>show hb g d i σ H1 Q f e
def jY(ha:PT X a tA):PT X (.UnaryOp .Not a pos) (aBC tA):=by
 show λb s σ H Q I h=>isTrue_not (aY (ha b s σ H (λc H1=>Q (!c) H1) I h) λ_ _ ⟨x,i,q⟩=>{x,i,(q)})
def ays(b a:TE):TE:=λσ H Q=>b σ H λx H1=>∃c,x=.bl c/\if c=true then a σ H1 Q else Q (.bl false) H1
def aFe(b a:TE):TE:=λσ H Q=>b σ H λx H1=>∃c,x=.bl c/\if c=true then Q (.bl true) H1 else a σ H1 Q
def aHy(a:TE):TE:=λσ H Q=>a σ H λx H1=>∃c,x=.bl c/\Q (.bl (!c)) H1
def NV{O}(h:PE X a t):PE X (.BoolOp O [a] pos) t:=λb s σ H Q I hw=>BoolOp_one (h b s σ H Q I hw)
def aEh(ha:PE X a ta)(hb:PE X (.BoolOp .And (b::rest) pos) tb):PE X (.BoolOp .And (a::b::rest) pos) (ays ta tb):=by
 show λe s σ H Q I h=>BoolOp_and (aY (ha e s σ H _ I h) λv g zz=>?_);let⟨x,H1,f,i,d⟩:=zz;ext c rfl d d;cases i;show ä ?_;cases c with
 |true=>show hb e g σ H1 Q f d
 |false=>show{.bl false,H1,f,rfl,d}
def VJ(ha:PE X a ta)(hb:PE X (.BoolOp .Or (b::rest) pos) tb):PE X (.BoolOp .Or (a::b::rest) pos) (aFe ta tb):=by
 show λe s σ H Q I h=>BoolOp_or (aY (ha e s σ H _ I h) λv g zz=>?_);let⟨x,H1,f,i,d⟩:=zz;ext c rfl d d;cases i;show ä ?_;cases c with
 |false=>show hb e g σ H1 Q f d
 |true=>show{.bl true,H1,f,rfl,d}
def SS(ha:PE X a ta):PE X (.UnaryOp .Not a pos) (aHy ta):=by
 show λd s σ H Q I h=>UnaryOp_ (aY (ha d s σ H _ I h) λv g zz=>?_);let⟨x,H1,f,e,b⟩:=zz;ext c rfl b b;cases e;show not_of (ä {.bl (!c),H1,f,rfl,b})
def tIf(t:TT)(b a:TE):TE:=λσ H Q=>t σ H λc H1=>if c=true then b σ H1 Q else a σ H1 Q
def Cd(hc:PT X c tA)(ha:PE X a ta)(hb:PE X b tb):PE X (.IfExp c a b pos) (tIf tA ta tb):=by
 show λe s σ H Q I h=>wpAny_IfExp (aY (hc e s σ H _ I h) λd f zz=>?_);let⟨H1,i,g⟩:=zz;cases d with
 |true=>show ha e f σ H1 Q i g
 |false=>show hb e f σ H1 Q i g
end
def aj(K:aH)(H:Hp)(a:Æ)(xs:τ):Prop:=
 Rd H a (.lst xs)∨
  ∃(o:Obj) (b:Array Ã) (n:Nat),K.lookup a=ι o/\o.cls=.type "list" /\ o.dict=ν/\o.data=.seq b n/\b.size<=Ê/\Vals xs b.toList
def ao(K:aH)(H:Hp)(a:Æ)(xs:τ):Prop:=
 Rd H a (.tup xs)∨
  ∃(o:Obj) (b:Array Ã) (n:Nat),K.lookup a=ι o/\o.cls=.type "tuple" /\ o.data=.seq b n/\b.size<=Ê/\Vals xs b.toList
def aIM:Ã->Option V
 |.none=>ι .non
 |.bool b=>ι (.bl b)
 |.int i _=>i[5]
 |.str x _=>x[6]
 |.bytes b _=>ι (.pZ b)
 |.float b _=>ι (.flt b)
 |.ref a=>a[4]
 |.type n=>ι (.ty n)
 |_=>ν
def RelV.abs(r:RelV x u):aIM u=ι x:=by
 cases x with
 |non=>cases r;rfl
 |bl _=>cases r;rfl
 |int _=>ext t rfl r;rfl
 |str _=>ext t rfl r;rfl
 |pZ _=>ext t rfl r;rfl
 |flt _=>ext t rfl r;rfl
 |ref _=>cases r;rfl
 |ty _=>cases r;rfl
theorem RelV.inj(r:RelV x u)(q:RelV y u):x=y:=nQ (r.abs.symm.trans q.abs)
theorem Vals.inj(h:Vals xs us)(h':Vals ys us):xs=ys:=by
 induction h generalizing ys with
 |nil=>cases h';rfl
 |cons r t ih=>
  cases h' with
  |cons r' t'=>rw[r.inj r',ih t']
section
variable {H:Hp}{a:Æ}{xs:τ}
def aj.of{K:aH}(h:H a=xs[2]):aj K H a xs:=.inl (.inl h)
def ao.of{K:aH}(h:H a=xs[3]):ao K H a xs:=.inl (.inl h)
def Inv.list(I:Inv X π σ H s)(h:aj X.K H a xs):∃its:List Ã,Vals xs its/\PlainL s.heap a its.toArray/\xs[_]<=Ê:=by
 rcases h with h|⟨o,its,n,hk,hc,hd,b,hz,r⟩
 .obtain⟨z,its,n,r,e⟩:=h.ok I.hok;show{its,r,{_,n,e,rfl,rfl,rfl},z}
 .refine{its.toList,r,{o,n,I.f9 a o hk,hc,hd,b[7]},?_};let e:=r[_];simp only[ag]at e;simp_all
def Inv.tuple(I:Inv X π σ H s)(h:ao X.K H a xs):∃its:List Ã,Vals xs its/\Ľ s.heap a its.toArray/\xs[_]<=Ê:=by
 rcases h with h|⟨o,its,n,hk,hc,b,hz,r⟩
 .obtain⟨z,its,r,p⟩:=h.ok I.hok;show{its,r,p,(z)}
 .refine{its.toList,r,{o,I.f9 a o hk,hc,n,b[7]},?_};let e:=r[_];simp only[ag]at e;lia
def Inv.UG(I:Inv X π σ H s)(h:aj X.K H a xs)(h':aj X.K H a ys):xs=ys:=by
 obtain⟨c,r,⟨o,n,e,_,_,d⟩,_⟩:=I.list h;obtain⟨b,i,⟨j,k,f,_,_,g⟩,_⟩:=I.list h';rw[e]at f;cases f;rw[d]at g;injection g with d1 _;let:c=b:=(Ï zI d1)[7]
 subst this;show r.inj i
def Inv.aBY(I:Inv X π σ H s)(h:ao X.K H a xs)(h':ao X.K H a ys):xs=ys:=by
 obtain⟨c,r,⟨o,e,_,n,d⟩,_⟩:=I.tuple h;obtain⟨b,i,⟨j,f,_,k,g⟩,_⟩:=I.tuple h';rw[e]at f;cases f;rw[d]at g;injection g with d1 _;let:c=b:=(Ï zI d1)[7]
 subst this;show r.inj i
end
abbrev Cx.wish(X:Cx)(E:χ):Cx:={X with xe:=E}
abbrev Cx.CN(X:Cx):Cx:=X.wish λ_ _=>False
theorem Cx.Ok.wish{X:Cx}(ok:X.Ok)(E:χ):(X.wish E).Ok:=
 {ok.mod,ok.kind,ok.glob,ok.blt,ok.above,ok.inj,ok.has,ok.cab,ok.hd,ok.frames,ok.stk,ok.exf,ok.bs,ok.zJ,ok.IG,ok.Pq,ok.uy,ok.B7,ok.tree,(ok.top)}
def Cx.Ok.yS{X:Cx}{E:χ}(ok:(X.wish E).Ok):X.Ok:=
 {ok.mod,ok.kind,ok.glob,ok.blt,ok.above,ok.inj,ok.has,ok.cab,ok.hd,ok.frames,ok.stk,ok.exf,ok.bs,ok.zJ,ok.IG,ok.Pq,ok.uy,ok.B7,ok.tree,(ok.top)}
section
variable {X:Cx}{π:List (Æ×Obj)}{σ:St}{H:Hp}{s:Ó}{E:χ}
theorem Inv.wish(I:Inv X π σ H s)(E:χ):Inv (X.wish E) π σ H s:={I.ok.wish E,I.os,I.bare,I.base,I.loc,I.cell,I.free,I.wO,I.pin,I.hok,I.len}
theorem Inv.yS(I:Inv (X.wish E) π σ H s):Inv X π σ H s:={I.ok.yS,I.os,I.bare,I.base,I.loc,I.cell,I.free,I.wO,I.pin,I.hok,(I.len)}
theorem SP.yS(h:SP (X.wish E) π D f s'):SP X π D f s':=by
 cases f with
 |next=>ext a H' I q h;show{a,H',I.yS,(q)}
 |brk=>ext a H' I q h;show{a,H',I.yS,(q)}
 |cont=>ext a H' I q h;show{a,H',I.yS,(q)}
 |ret u=>ext v a H' I r q h;show{v,a,H',I.yS,r,(q)}
theorem m8.CN{st:List Ö}{t:TS}(h:m8 X.CN st t):m8 X st t:=λa s σ H D I hw=>
 ð (h a s σ H D (I.wish _) hw) (λ_ _ q=>q.yS) λ_ _ z=>ò z
end
section
variable {X:Cx}{st:Ö}{rest:List Ö}{t u:TS}{te:TE}
def aCU:TS:=λD σ H=>D.nx σ H
def Ends.fn(Q:VK):Ends:={nx:=λ_ H'=>Q .non H',rt:=Q}
def Ends.wn(D:Ends)(u:St->Hp->Prop):Ends:={D with nx:=u}
def Ends.lp(D:Ends)(N:St->Hp->Prop):Ends:={D with nx:=N,ct:=N,bk:=D.nx}
def aMQ(t u:TS):TS:=λD σ H=>t (D.wn (u D)) σ H
def bJ:m8 X [] aCU:=λ_ _ σ H _ I h=>ĸ {σ,H,I,(h)}
def AB(h1:PS X st t)(h2:m8 X rest u):m8 X (st::rest) (aMQ t u):=by
 show λb s σ H D I h=>ώ (aY (h1 b s σ H {D with nx:=u D} I h) λf c q=>?_);cases f with
 |next=>
  ext a H' d q q;show h2 b c a H' D d q
 |ret v=>show q
 |brk=>show q
 |cont=>show q
def aJ(h1:PS X st t):m8 X [st] t:=by
 show λa s σ H D I h=>ώ (aY (h1 a s σ H D I h) λf b q=>?_);cases f with
 |next=>show ĸ q
 |ret v=>show q
 |brk=>show q
 |cont=>show q
def Inv.quiet(I:Inv X π σ H s):interactive X.env=false:=by simp[interactive,I.ok.kind]
def aVO(te:TE):TS:=λD σ H=>te σ H λ_ H1=>D.nx σ H1
def eU(U:PE X e te)(O:ĭ e ν pos.line X.env=pure false:=by rfl):PS X (.Expr e pos) (aVO te):=by
 show λa s σ H D I h=>wpAny_Expr_any (aY (U a s σ H _ I h) λv d ⟨x,H1,c,f,b⟩=>{σ,H1,c,(b)}) I.quiet O
def BG(te:TE):TS:=λD σ H=>te σ H D.rt
def aF(O:PE X e te):PS X (.Return (ι e) pos) (BG te):=by
 show λa s σ H D I h=>wpAny_Return_some (aY (O a s σ H _ I h) λv f ⟨x,H1,d,b,c⟩=>{x,σ,H1,d,b,(c)})
def aCT(c:TT)(t u:TS):TS:=λD σ H=>c σ H λb H1=>if b=true then t D σ H1 else u D σ H1
def bI(hc:PT X c tc)(ha:m8 X a t)(hb:m8 X b u):PS X (.If c a b pos) (aCT tc t u):=by
 show λe s σ H D I h=>wpAny_If (aY (hc e s σ H _ I h) λd f zz=>?_);let⟨H1,i,g⟩:=zz;cases d with
 |true=>show ha e f σ H1 D i g
 |false=>show hb e f σ H1 D i g
def aJ3:TS:=λ_ _ _=>False
def gZ:PS X st aJ3:=λ_ _ _ _ _ _ h=>h.elim
end
abbrev TG:=V->St->Hp->(St->Hp->Prop)->Prop
abbrev vH:=τ->St->Hp->(St->Hp->Prop)->Prop
def PG(X:Cx)(O:ü)(t:TG):Prop:=
 ∀b s σ H (v:V) (u:Ã) (Q:St->Hp->Prop),Inv X b σ H s->RelV v u->t v σ H Q->
  Ô X[12] X.A (assign O X.env u) (λ_ s'=>∃a H',Inv X b a H' s'/\Q a H') X.xe s
def B6(X:Cx)(ts:List ü)(t:vH):Prop:=
 ∀b s σ H (vs:τ) (us:List Ã) (Q:St->Hp->Prop),Inv X b σ H s->Vals vs us->t vs σ H Q->
  Ô X[12] X.A (ĩ ((ô ts X.env).map (·.2)) us) (λ_ s'=>∃a H',Inv X b a H' s'/\Q a H') X.xe s
abbrev B?:=V->V->V->Hp->(Hp->Prop)->Prop
def KS(X:Cx)(t:B?):Prop:=
 ∀a s σ H (o i v:V) (b c u:Ã) (Q:Hp->Prop),Inv X a σ H s->RelV o b->RelV i c->RelV v u->t o i v H Q->
  Ô X[12] X.A (setItem b c u) (λ_ s'=>∃H',Inv X a σ H' s'/\Q H') X.xe s
def jq(i:Nat):TG:=λv σ H Q=>Q (σ.set i (ι v)) H
def Tr(hN:X.N.Nodup)(hi:X.N[i]?=ι x)(hx:Loc X.env.scope x)(O:X.fn x=true∨X.env.scope.names.lookup x=ι .local:=by first|exact .inl rfl|exact .inr rfl|assumption):PG X (.Name x pos) (jq i):=by
 show λb s σ H v u Q I r h=>ω (M7 I hN hi hx r (λs' a=>{_,H,a,h}) O)
def aHa:vH:=λvs σ H Q=>vs=[]/\Q σ H
inductive aF2(t:TG)(u:vH)(vs:τ)(σ:St)(H:Hp)(Q:St->Hp->Prop):Prop|mk(v:V)(r:τ)(_:vs=v::r)(_:t v σ H λa H'=>u r a H' Q)
def aSx(t:TG)(u:vH):vH:=λvs σ H Q=>aF2 t u vs σ H Q
def Qa:B6 X [] aHa:=by
 intro a s σ H vs us Q I r h;ext e h h;subst e;cases r;show ϋ {σ,H,I,(h)}
def wz(h1:PG X e t)(h2:B6 X es u)
  (O:(ô (e::es) X.env).map (·.2)=assign e X.env::(ô es X.env).map (·.2):=by rfl):B6 X (e::es) (aSx t u):=by
 intro b s σ H vs us Q I r h;ext v i f h h;subst f;cases r with
 |cons r rr=>
  rw[O,!Ő (aY (h1 b s σ H _ _ _ I r h) λ_ c zz=>?_)];let⟨a,H1,g,d⟩:=zz;show h2 b c a H1 _ _ Q g rr d
def EU(K:aH)(n:Nat)(t:vH):TG:=λv σ H Q=>∃a xs,v=.ref a/\ao K H a xs/\xs[_]=n/\t xs σ H Q
def aIs(hc:X.calm=true)(h:B6 X es t)
  (hn:(ô es X.env)[_]=n:=by rfl)(O:(ô es X.env).findIdx? (·.1)=ν:=by rfl):PG X (.Tuple es k pos) (EU X.K n t):=by
 intro c s σ H v u Q I r hw;ext a xs i hq g hw hw;subst i;cases r;let⟨f,d,ht,hz⟩:=I.tuple hq;show assign_Tuple_tuple (I.ok.hd hc) ht (by simp[hn,<-g,d[_]]) O λh' hx=>?_;let j:Inv X c σ H {s with heap:=h'}:=I.kept (t':=s.toks) λb o e=>hx b o (jP (dX e)) e;show h c _ σ H xs _ Q j d[7] hw
def aRr(to ti:TE)(t:B?):TG:=λv σ H Q=>to σ H λo H1=>ti σ H1 λi H2=>t o i v H2 λH3=>Q σ H3
def Bk(ho:PE X o to)(hi:PE X i ti)(Y:KS X t)
  (ha:∀v,assign (.Subscript o i pos) X.env v=(do
   let O<-holding [v] (eval o X.env)
   let U<-holding [v,O] (eval i X.env)
   standAt pos
   holding [v,O,U] (setItem O U v)
   release [v,O,U] []):=by intro _;rfl):PG X (.Subscript o i pos) (aRr to ti t):=by
 intro a s σ H v u Q I r h;rw[ha,!Å (é (aY (ho a s σ H _ I h) λO c zz=>?_))];let⟨x,H1,l,e,j⟩:=zz;show Å (é (aY (hi a c σ H1 _ l j) λU b zz=>?_));let⟨y,H2,I2,d,g⟩:=zz;show Å (Ĩ (Å (é (aY (Y a b σ H2 x y v O U u _ I2 e d r g) λ_ s3 zz=>?_))));let⟨H3,k,f⟩:=zz;show wpAny_release {σ,H3,k,(f)}
def Lg(te:TE)(g:TG):TS:=λD σ H=>te σ H λx H1=>g x σ H1 D.nx
def uU(Y:PE X e te)(U:PG X tg g)(O:swapsWithSole [tg] e pos.line X.env=pure false:=by rfl)(hw:swappedStores [tg] e X.env=pure ν:=by rfl)
  (h1:(ô [tg] X.env).map (·.2)=[assign tg X.env]:=by rfl):PS X (.Assign [tg] e pos) (Lg te g):=by
 show λa s σ H D I h=>wpAny_Assign_stores (aY (Y a s σ H _ I h) λv b zz=>?_) O hw;let⟨x,H1,f,c,d⟩:=zz;rw[h1,!aY (U a b σ H1 x v _ f c d) λ_ i ⟨x,y,z,q⟩=>{x,y,z,(q)}]
def fu(hN:X.N.Nodup)(hi:X.N[i]?=ι x)(hx:Loc X.env.scope x)(he:PE X e te)(U:ĭ e (ι (.Name x O)) pos.line X.env=pure false:=by rfl)(Y:X.fn x=true∨X.env.scope.names.lookup x=ι .local:=by first|exact .inl rfl|exact .inr rfl|assumption):
  PS X (.Assign [.Name x O] e pos) (Lg te (jq i)):=by
 show λa s σ H D I h=>wpAny_Assign_Name (aY (he a s σ H _ I h) λv g zz=>?_) U;let⟨y,H1,d,b,c⟩:=zz;show M7 d hN hi hx b (λf I2=>{_,H1,I2,c}) Y
def aH3(i j:Nat)(a:TA):TS:=λD σ H=>a σ H λvs H1=>∃v w,vs=[v,w]/\D.nx ((σ.set i (ι v)).set j (ι w)) H1
def awT{O k2 Xo}(hc:X.calm=true)(hN:X.N.Nodup)(hi:X.N[i]?=ι x)(hj:X.N[j]?=ι y)(U:i≠j)
  (hx:X.env.scope.names.lookup x=ι .local)(hy:X.env.scope.names.lookup y=ι .local)(ha:PA X [a,b] ta)
  (hw:swappedStores [.Tuple [.Name x Y,.Name y py] O pt] (.Tuple [a,b] k2 Xo) X.env=pure (ι [x,y]))
  (hs:swapsWithSole [.Tuple [.Name x Y,.Name y py] O pt] (.Tuple [a,b] k2 Xo) pos.line X.env=pure false:=by rfl):
  PS X (.Assign [.Tuple [.Name x Y,.Name y py] O pt] (.Tuple [a,b] k2 Xo) pos) (aH3 i j ta):=by
 intro l s σ H D I h;rw[exec_Assign_arm,!Å (Ĩ ?_)];rw[hs,!Å (Ñ ?_)];rw[Â 0.3,!Å (Tuple_ (aY (ha _ l s σ H _ I h) λus f zz=>?_))];let⟨vs,H1,C,t,g⟩:=zz;ext v w u g g;subst u;obtain⟨d,c,rfl,r,n⟩:∃d c,us=[d,c]/\RelV v d/\RelV w c:=by
  cases t with
  |cons p q=>
   cases q with
   |cons p' q'=>
    cases q';show{_,(),p,p'}
 show ĉ ?_ (0.3:2<=Ê);let I2:Inv X l σ H1 {f with heap:=f.heap.push {cls:=.type "tuple",data:=.seq [d,c].toArray}}:=C.kept (t':=f.toks) λb o e=>Ç _ e;rw[hw,!Å (Ñ ?_)];show Ô X[12] X.A (do rule "assign.swapped-stores";let items<-Ο (.ref f[1]) 2 ν;ĩ [λv=>bindName X.env y v,λv=>bindName X.env x v] items.reverse;pure Flow.next) _ _ _
 show Å (wpAny_rule (Å (unpackItems_tuple (items:=#[d,c]) (I.ok.hd hc) (ĳ f.heap _) λh' k=>?_)));let B:=I2.kept (h':=h') (t':=f.toks) λb o e=>k b o (jP (dX e)) e;show Ô _ _ (ĩ [λv=>bindName X.env y v,λv=>bindName X.env x v] [c,d]>>=λ_=>pure Flow.next) _ _ _;show Å (Ő (wpAny_bindName (M7 B hN hj (.inl hy) n (λG z=>?_) (.inr hy))));show Ő (wpAny_bindName (M7 z hN hi (.inl hx) r (λs3 m=>ϋ (Ñ ?_)) (.inr hx)));rw[List.set_comm _ _ (ux U)]at m;show{_,H1,m,g}
def aGx(c:TT)(d:TS):TS:=λD σ H=>∃W:Nat->St->Hp->Prop,(∃m,W m σ H)/\∀m σ H,W m σ H->
 c σ H λb H1=>if b=true then ∃N:St->Hp->Prop,(∀a H',N a H'->∃m',m'<m/\W m' a H')/\d (D.lp N) σ H1 else D.nx σ H1
def ug(hp:Ø X[12] X.A X.env X.xe)(hc:PT X c tc)(hb:m8 X body tb):PS X (.While c body [] pos) (aGx tc tb):=by
 intro k s σ H D I h;obtain⟨W,⟨w,r⟩,g⟩:=h;show wpAny_While (codeAny_whileLoop (λn s'=>∃e H',Inv X k e H' s'/\W n e H') ?_ w {σ,H,I,(r)});rintro n u ⟨d,H1,x,w1⟩;show ą hp (aY (hc k u d H1 _ x (g n d H1 w1)) λb t zz=>?_);let⟨H2,I2,j⟩:=zz;cases b with
 |true=>
  ext N q j j;rw[Á rfl,!ą hp (aY (hb k t d H2 _ I2 j) λf s3 i=>?_)];cases f with
  |next=>
   ext a H3 p m i;let⟨m',o,l⟩:=q a H3 m;show{m',o,a,H3,p,(l)}
  |cont=>
   ext a H3 p m i;let⟨m',o,l⟩:=q a H3 m;show{m',o,a,H3,p,(l)}
  |brk=>show i
  |ret v=>show i
 |false=>
  rw[Â iU,!ĸ {d,H2,I2,(j)}]
section
variable {s:Ó}{tg:ü}{P:Þ}{w:Ý}{K:aH}
structure It where
 go:Nat->Hp->Prop
 nM:Nat->Hp->V->Hp->Prop
 stop:Nat->Hp->Prop
def qI(X:Cx)(a:List (Æ×Obj))(H:Hp)(b:Æ):Prop:=
 H b=ν/\b≠X.env.locals/\b∉X.fs/\(b∈X.ex∨X.s₀.heap.objs.size<=b)/\(∀x c,X.env.cells.lookup x=ι c->c≠b)/\∀p∈X.pn++a,p.1≠b
def Inv.tW(I:Inv X π σ H s)(hb:s[1]<=b)(hn:H' b=ν):qI X π H' b:=by
 show{hn,Nat.ne_of_gt (gY I.lt hb),I.aB3 hb,.inr (cD I.sz hb),λx c e z=>?_,λp hp z=>?_}
 .obtain⟨v,q⟩:=I.cell x c e;show È (gY q.lt #v[z,!hb]) (rO _)
 .exact È (gY (dX (I.pin p hp).1) #v[z,!hb]) (rO _)
structure Turn(P:Þ)(w:Ý)(K:aH)(tg:ü)(J:It)(fp:List Æ)(it:Æ)(tn:Nat->Û->Prop)(cm:Cx->Prop:=λX=>X.calm=true):Prop where
 mem:it∈fp
 obj:∀i h,tn i h->∀b∈fp,∃o,h.get? b=ι o/\∀v,o.data≠ .cell v
 keep:∀i h h',tn i h->(∀b∈fp,∀o,h.get? b=ι o->h'.get? b=ι o)->tn i h'
 item:∀(X:Cx),X.prog=P->X.w=w->X.K=K->cm X->∀(i:Nat)(π:List (Æ×Obj))(s:Ó)(σ:St)(H:Hp)(E:χ),Inv X π σ H s->(∀b∈fp,qI X π H b)->tn i s.heap->J.go i H->
  Ô (model P w) X.A (pyNext (.ref it)) (λr s1=>∃u,r=ι u/\
   Ô (model P w) X.A (ĺ tg (.ref it) u) (λ_ s2=>∃x H',Inv X π σ H' s2/\RelV x u/\J.nM i H x H'/\tn (i+1) s2.heap/\∀b∈fp,H' b=ν) E s1) E s
 done:∀(X:Cx),X.prog=P->X.w=w->X.K=K->cm X->∀(i:Nat)(π:List (Æ×Obj))(s:Ó)(σ:St)(H:Hp)(E:χ),Inv X π σ H s->(∀b∈fp,qI X π H b)->tn i s.heap->J.stop i H->
  Ô (model P w) X.A (pyNext (.ref it)) (λr s1=>r=ν/\Inv X π σ H s1) E s
 self:∀(A:î)(i:Nat)(s:Ó)(Q:χ)(E:χ),tn i s.heap->Q (.ref it) s->Ô (model P w) A (pyIter (.ref it)) Q E s
abbrev TI:=St->Hp->(It->Hp->Prop)->Prop
def Fm(cm:Cx->Prop)(X:Cx)(a:List (Æ×Obj))(σ:St)(e:ü)(R:It->Hp->Prop)(O:Ã)(U:Ó):Prop:=
 ∃(c:Æ)(d:List Æ)(tn:Nat->Û->Prop)(J:It)(H':Hp),O=.ref c/\Inv X a σ H' U/\Turn X.prog X.w X.K e J d c tn cm/\tn 0 U.heap/\(∀b∈d,qI X a H' b)/\R J H'
abbrev D?:=Fm λX=>X.calm=true
def ϥ(cm:Cx->Prop)(X:Cx)(c a:ü)(wi:TI):Prop:=
 ∀b s σ H (R:It->Hp->Prop),Inv X b σ H s->wi σ H R->
  Ô X[12] X.A (eval a X.env) (λv d=>Ô X[12] X.A (pyIter v) (Fm cm X b σ c R) X.xe d) X.xe s
def PI(X:Cx)(b a:ü)(wi:TI):Prop:=ϥ (λX=>X.calm=true) X b a wi
def Ck(U:s.heap.get? it=ι o)(hc:o.cls=.type n)(hd:o.data=.fields vs)
  (hn:["enumerate","zip","dict_itemiterator","dict_reverseitemiterator","odict_iterator","itertools.zip_longest","itertools.pairwise"].contains n=false)(O:Q () s):Ô M A (ĺ tg (.ref it) u) Q E s:=by
 unfold ĺ;cases tg<;>first
  |show Ñ O
  |(cases u<;>first
    |show Ñ O
    |(show Å (wpAny_load U ?_);rw[hc,hd,!Ô M A (if(["enumerate","zip","dict_itemiterator","dict_reverseitemiterator","odict_iterator","itertools.zip_longest","itertools.pairwise"].contains n&&vs[0]?==ι (rawInt _))=true then _ else _) Q E s];rw[Â (by intro h;rw[hn,FG]at h;cases h),!Ñ O]))
def sS(K:aH)(a:Æ):It:=
 {λi H=>∃xs x,aj K H a xs/\xs[i]?=ι x,λi H x H'=>H'=H/\∀xs,aj K H a xs->xs[i]?=ι x,λi H=>∃xs,aj K H a xs/\xs[_]<=i}
def KZ(K:aH)(a:Æ):It:=
 {λi H=>∃xs x,ao K H a xs/\xs[i]?=ι x,λi H x H'=>H'=H/\∀xs,ao K H a xs->xs[i]?=ι x,λi H=>∃xs,ao K H a xs/\xs[_]<=i}
def tG(lo:Int)(n:Nat):It:={λi _=>i<n,λi H x H'=>H'=H/\x=.int (lo+i),λi _=>n<=i}
def ay3(a it:Æ):Turn P w K tg (sS K a) [it] it (λi h=>h.IsListIter it a i) where
 mem:=0.1
 obj:=λi h st b hb=>by
  let e:b=it:=hb[7]
  subst e;ext o e c d st;show{o,e,λv z=>by rw[d]at z;cases z}
 keep:=λi h h' st k=>st.at λo e=>k it 0.1 o e
 item:=by
  intro X hP hw hK hc i π s σ H E I hf st hg;subst hP hw hK;ext xs x hq hx hg;let⟨its,rv,p,hz⟩:=I.list hq;let⟨u,hu,ru⟩:=rv.get hx;let⟨f0,f1,f2,f3,f4,f5⟩:=hf it 0.1;show Α st p.isList (x:=u) hu[7] λh' st' sb=>?_;let I1:Inv X π σ H {s with heap:=h'}:=I.turned (t':=s.toks) (λb o hb e=>(sb.2 b hb).trans e) f0 f1 f3 f4 f5;let⟨o,e,c,d⟩:=id st';show{u,rfl,Ck (s:={s with heap:=h'}) e c d 0.3 {x,H,I1,ru,{rfl,λys hy=>#v[I.UG hy hq,!hx]},st',λb hb=>(hf b hb).1}}
 done:=by
  intro X hP hw hK hc i π s σ H E I hf st hg;subst hP hw hK;ext xs hq hx hg;let⟨its,rv,p,hz⟩:=I.list hq;let⟨f0,f1,f2,f3,f4,f5⟩:=hf it 0.1;let hl:=rv[_];show Η (I.ok.hd hc) st p.isList 0.4 λh' eb=>{rfl,I.turned (t':=s.toks) (λb o hb e=>eb b o hb e) f0 f1 f3 f4 f5}
 self:=λ_ _ _ _ _ st h=>wpAny_pyIter_listiter st h
def azF(a it:Æ):Turn P w K tg (KZ K a) [it] it (λi h=>h.IsTupleIter it a i) where
 mem:=0.1
 obj:=λi h st b hb=>by
  let e:b=it:=hb[7]
  subst e;ext o e c d st;show{o,e,λv z=>by rw[d]at z;cases z}
 keep:=λi h h' st k=>st.at λo e=>k it 0.1 o e
 item:=by
  intro X hP hw hK hc i π s σ H E I hf st hg;subst hP hw hK;ext xs x hq hx hg;let⟨its,rv,p,hz⟩:=I.tuple hq;let⟨u,hu,ru⟩:=rv.get hx;let⟨f0,f1,f2,f3,f4,f5⟩:=hf it 0.1;show wpAny_pyNext_tuple_item st (show s.heap.IsTuple a its.toArray from p) (x:=u) hu[7] λh' st' sb=>?_;let I1:Inv X π σ H {s with heap:=h'}:=I.turned (t':=s.toks) (λb o hb e=>(sb.2 b hb).trans e) f0 f1 f3 f4 f5;let⟨o,e,c,d⟩:=id st';show{u,rfl,Ck (s:={s with heap:=h'}) e c d 0.3 {x,H,I1,ru,{rfl,λys hy=>#v[I.aBY hy hq,!hx]},st',λb hb=>(hf b hb).1}}
 done:=by
  intro X hP hw hK hc i π s σ H E I hf st hg;subst hP hw hK;ext xs hq hx hg;let⟨its,rv,p,hz⟩:=I.tuple hq;let⟨f0,f1,f2,f3,f4,f5⟩:=hf it 0.1;let hl:=rv[_];show wpAny_pyNext_tuple_end (I.ok.hd hc) st (show s.heap.IsTuple a its.toArray from p) 0.4 λh' eb=>{rfl,I.turned (t':=s.toks) (λb o hb e=>eb b o hb e) f0 f1 f3 f4 f5}
 self:=λ_ _ _ _ _ st h=>wpAny_pyIter_tupleiter st h
def awX(it:Æ)(lo:Int)(n:Nat):Turn P w K tg (tG lo n) [it] it (λi h=>Ť h it (lo+(i:Nat)*1) (n[0]-(i:Nat)) 1) where
 mem:=0.1
 obj:=λi h st b hb=>by
  let e:b=it:=hb[7]
  subst e;show{_,st,λv z=>by
   let z':ŵ _=Data.cell v:=z;cases z'}
 keep:=λi h h' st k=>k it 0.1 _ st
 item:=by
  intro X hP hw hK hc i π s σ H E I hf st hg;subst hP hw hK;let⟨f0,f1,f2,f3,f4,f5⟩:=hf it 0.1;let W:=Walks.range (prog:=X.prog) (w:=X.w) (I.ok.hd hc) it lo 1 n;show W.item i s _ _ hg st λv h' tk hv st' kk=>?_;ext t rfl hv;let I1:Inv X π σ H {s with heap:=h',toks:=tk}:=I.turned (λb o hb e=>kk b o hb[7] e) f0 f1 f3 f4 f5;show{(),Ck (s:={s with heap:=h',toks:=tk}) (n:="range_iterator") st' rfl rfl 0.3 {.int (lo+i),H,I1,{t,?_},{rfl,(rfl)},st',λb hb=>(hf b hb).1}};rw[m7]
 done:=by
  intro X hP hw hK hc i π s σ H E I hf st hg;subst hP hw hK;let⟨f0,f1,f2,f3,f4,f5⟩:=hf it 0.1;show ž (I.ok.hd hc) st (by let:n<=i:=hg;lia) λh' eb=>{rfl,I.turned (t':=s.toks) (λb o hb e=>eb b o hb e) f0 f1 f3 f4 f5}
 self:=λ_ _ _ _ _ st h=>Β st h
end
section
variable {X:Cx}
section
variable {σ:St}{H:Hp}{s:Ó}{a:ü}{ta:TA}{fp:List Æ}{h:Û}
def aWK(K:aH)(tl:TE):TI:=λσ H R=>tl σ H λx H1=>∃a,x=.ref a/\(∃xs,aj K H1 a xs)/\R (sS K a) H1
def JJ{R:It->Hp->Prop}{E:χ}{lo hi:Int}{tk:Nat}(I:Inv X π σ H s)(h1:-(2^62)<=lo)(h2:lo<2^62)(h3:-(2^62)<=hi)(h4:hi<2^62)
  (q:R (tG lo (hi-lo).toNat) H):Ô X[12] X.A (pyIter (.ref s[1])) (D? X π σ tg R) E {s with heap:=s.heap.push {cls:=.type "range",data:=.fields #[.int lo t,.int hi u,.int 1 v]},toks:=tk}:=by
 show δ (Ŧ ..) (small_one h1 h2 h3 h4) ?_;let a:Inv X π σ H {s with heap:=s.heap.push {cls:=.type "range",data:=.fields #[.int lo t,.int hi u,.int 1 v]},toks:=tk}:=I.kept λb o e=>Ç _ e;show{(s.heap.push {cls:=.type "range",data:=.fields #[.int lo t,.int hi u,.int 1 v]}).objs.size,[(s.heap.push {cls:=.type "range",data:=.fields #[.int lo t,.int hi u,.int 1 v]}).objs.size],_,_,H,rfl,
  a.kept (t':=tk) λb o e=>Ç _ e,awX _ lo (hi-lo).toNat,?_,λb hb=>?_,q}
 .let d:lo+(0:Nat)[0]*1=lo:=0.1
  let c:(((hi-lo).toNat:Nat):Int)-(0:Nat)[0]=æ lo hi 1:=by rw[rangeSize_one];split<;>lia
  show Ť _ _ (lo+(0:Nat)[0]*1) (((hi-lo).toNat:Nat)[0]-(0:Nat)[0]) 1;rw[d,c,!Ù _ rfl]
 .let e:b=(s.heap.push {cls:=.type "range",data:=.fields #[.int lo t,.int hi u,.int 1 v]}).objs.size:=hb[7]
  subst e;show a.tW (aZ _) (a.hok.fresh (aZ _))
inductive aWc(vs:τ)(H:Hp)(R:It->Hp->Prop):Prop|mk(j:Int)(_:vs=[.int j])(h1:-(2^62)<=j)(h2:j<2^62)(_:R (tG 0 j.toNat) H)
def aQE(a:TA):TI:=λσ H R=>a σ H λvs H1=>aWc vs H1 R
inductive Srg(vs:τ)(H:Hp)(R:It->Hp->Prop):Prop|mk(i j:Int)(_:vs=[.int i,.int j])(_:-(2^62)<=i/\i<2^62/\-(2^62)<=j/\j<2^62)(_:R (tG i (j-i).toNat) H)
def aN2(a:TA):TI:=λσ H R=>a σ H λvs H1=>Srg vs H1 R
def dU(Y:Gl X "range")(U:X.mg "range"=ν)(ha:PA X [a] ta)(O:Ò [a] X.env=[(false,eval a X.env)]:=by rfl):PI X tg (.Call (.Name "range" p) [a] [] pos) (aQE ta):=by
 show λc s σ H R I h=>Call_ (uz I Y U Ŭ (xr (aY (ha pos c s σ H _ I h) λus i zz=>?_) O rfl));let⟨vs,H1,g,d,b⟩:=zz;ext j e b f q b;subst e;cases d with
 |cons r rr=>
  cases rr;ext t rfl r;show call_range_1 (JJ g 0.6 0.6 b f q[7])
def Ce(hg:Gl X "range")(Y:X.mg "range"=ν)(ha:PA X [a,b] ta)(U:Ò [a,b] X.env=[(false,eval a X.env),(false,eval b X.env)]:=by rfl)(O:Ò [b] X.env=[(false,eval b X.env)]:=by rfl):
  PI X tg (.Call (.Name "range" p) [a,b] [] pos) (aN2 ta):=by
 show λd s σ H R I h=>Call_ (uz I hg Y Ŭ (xr (aY (ha pos d s σ H _ I h) λus o zz=>?_) #v[U,O] #v[O,0]));let⟨vs,H1,n,f,c⟩:=zz;obtain⟨i,j,e,⟨c,m,l,k⟩,q⟩:=c;subst e;cases f with
 |cons r rr=>
  cases rr with
  |cons g rr=>
   cases rr;ext t rfl r;ext t' rfl g;show call_range_2 (JJ n c m l k q)
def aEW(wi:TI)(g:TG)(c:TS):TS:=λD σ H=>wi σ H λJ H1=>∃W:Nat->Nat->St->Hp->Prop,(∃m,W 0 m σ H1)/\∀i m σ H,W i m σ H->
 (J.stop i H/\D.nx σ H)∨(J.go i H/\∃N:St->Hp->Prop,(∀a H',N a H'->∃m',m'<m/\W (i+1) m' a H')/\∀x H',J.nM i H x H'->g x σ H' λb H2=>c (D.lp N) b H2)
def Kv(fp:List Æ)(h:Û):List (Æ×Obj):=fp.filterMap λb=>(h.get? b).map λo=>(b,o)
def LR(hb:b∈fp)(e:h.get? b=ι o):(b,o)∈Kv fp h:=B2.mpr {b,hb,#v[e,0]}
def aMS(hp:p∈Kv fp h):p.1∈fp/\h.get? p.1=ι p.2:=by
 let⟨b,hb,e⟩:=B2.mp hp;cases q:h.get? b with
 |none=>rw[q]at e;cases e
 |some o=>
  rw[q]at e;let a:(b,o)=p:=nQ e;subst a;show{hb,(q)}
def Inv.pinned(I:Inv X π σ H s)(U:∀b∈fp,qI X π H b)(O:∀b∈fp,∃o,s.heap.get? b=ι o/\∀v,o.data≠ .cell v):Inv X (π++Kv fp s.heap) σ H s:=
 I.LB λp hp=>(iz.mp hp).elim (λz=>I.pin p (rW _ z)) λz=>by
  let⟨hb,e⟩:=aMS z;let⟨c,f1,f2,_⟩:=U p.1 hb;let⟨o,a,d⟩:=O p.1 hb;rw[e]at a;cases a;show{e,c,f1,f2,(d)}
def Inv.Ia(I:Inv X (π++pl) σ H s):Inv X π σ H s:=I.LB λp hp=>I.pin p (rW _ (Q6 _ hp))
def gq(hp:Ø X[12] X.A X.env X.xe)(hc:X.calm=true)(hi:PI X tg iter wi)(hg:PG X tg g)(hb:m8 X body tb)
  (hs:∀x,ē iter X.env x=pure x:=by intro _;rfl):PS X (.For tg iter body [] pos) (aEW wi g tb):=by
 show λq s σ H D I h=>wpAny_For (aY (hi q s σ H _ I h) λv s1 h1=>aY h1 λitv s2 h2=>?_) hs;obtain⟨it,B,tn,J,H2,e,I2,T,G,f2,W,⟨m0,w0⟩,t⟩:=h2;subst e;let k:∀{H':Hp},(∀b∈B,H' b=ν)->∀b∈B,qI X q H' b:=λhn b hb=>{hn b hb,(f2 b hb).2};show codeAny_forLoop_any (λn s'=>∃i j H',Inv X q j H' s'/\tn i s'.heap/\(∀b∈B,H' b=ν)/\W i n j H') ?_ m0 {0,σ,H2,I2,G,λb hb=>(f2 b hb).1,w0};rintro n s3 ⟨i,c,H3,S,w,z,w3⟩;rcases t i n c H3 w3 with⟨stop,qn⟩|⟨go,N,hN,step⟩
 .refine ą hp (aY (T.done X rfl rfl rfl hc i q s3 c H3 X.xe S (k z) w stop) λr s4 zz=>?_);let⟨hr,I4⟩:=zz;subst hr;show ĸ {c,H3,I4,(qn)}
 .refine ą hp (aY (T.item X rfl rfl rfl hc i q s3 c H3 X.xe S (k z) w go) λr s4 zz=>?_);let⟨u,hr,h4⟩:=zz;subst hr;show ą hp (aY h4 λ_ R zz=>?_);let⟨x,Z,I5,r5,O,P,Ri⟩:=zz;let M:=I5.pinned (k Ri) (T.obj _ _ P);show ą hp (aY (hg _ R c Z x u _ M r5 (step x Z O)) λ_ s6 zz=>?_);let⟨C,H6,I6,q6⟩:=zz;show ą hp (aY (hb _ s6 C H6 _ I6 q6) λf L p=>?_);let again:∀{a:St} {H7:Hp},Inv X (q++Kv B R.heap) a H7 L->N a H7->∃m,m<n/\∃i j H',Inv X q j H' L/\tn i L.heap/\(∀b∈B,H' b=ν)/\W i m j H':=λ{a H7} l y=>by
   let⟨m',hm,Y⟩:=hN a H7 y;show{m',hm,i+1,a,H7,l.Ia,T.keep _ _ _ P λb hb o e=>(l.pin (b,o) (rW _ (rW _ (LR hb e)))).1,λb hb=>?_,Y};let⟨o,e,d⟩:=T.obj _ _ P b hb;show(l.pin (b,o) (rW _ (rW _ (LR hb e)))).2.1
  cases f with
  |next=>ext a H7 l y p;show again l y
  |cont=>ext a H7 l y p;show again l y
  |brk=>ext a H7 l p p;show{a,H7,l.Ia,(p)}
  |ret v=>ext U a H7 l r7 p p;show{U,a,H7,l.Ia,r7,(p)}
end
end
def aNT{K:aH}{a:Æ}{xs:τ}{g:TG}{c:TS}{D:Ends}{σ:St}{H:Hp}(Pv:Nat->St->Hp->Prop)(h0:Pv 0 σ H)(hl:∀i σ H,i<=xs[_]->Pv i σ H->aj K H a xs)
  (Y:∀i x σ H,xs[i]?=ι x->Pv i σ H->g x σ H λO H2=>c (D.lp (Pv (i+1))) O H2) (hd:∀σ H,Pv xs[_] σ H->D.nx σ H):
  ∃W:Nat->Nat->St->Hp->Prop,(∃m,W 0 m σ H)/\∀i m σ H,W i m σ H->
   ((sS K a).stop i H/\D.nx σ H)∨((sS K a).go i H/\∃N:St->Hp->Prop,(∀U H',N U H'->∃m',m'<m/\W (i+1) m' U H')/\∀x H',(sS K a).nM i H x H'->g x σ H' λO H2=>c (D.lp N) O H2):=by
 show{λi m σ H=>m=xs[_]-i/\i<=xs[_]/\Pv i σ H,{xs[_],0.1,dz _,h0},?_};rintro i m σ H ⟨rfl,hi,p⟩;let q:=hl i σ H hi p;by_cases b:i<xs[_]
 .refine .inr {{xs,xs[i],q,by simp[b]},Pv (i+1),λU H' d=>{xs[_]-(i+1),0.7,rfl,b,d},λx H' y=>?_};ext e y y;subst e;show Y i x σ _ (y xs q) p
 .let e:i=xs[_]:=⋯;subst e;show .inl {{xs,q,aZ _},hd σ H p}
def kI{lo:Int}{n:Nat}{g:TG}{b:TS}{D:Ends}{σ:St}{H:Hp}(Pv:Nat->St->Hp->Prop)(h0:Pv 0 σ H)
  (Y:∀i σ H,i<n->Pv i σ H->g (.int (lo+i)) σ H λO H2=>b (D.lp (Pv (i+1))) O H2) (hd:∀σ H,Pv n σ H->D.nx σ H):
  ∃W:Nat->Nat->St->Hp->Prop,(∃m,W 0 m σ H)/\∀i m σ H,W i m σ H->
   ((tG lo n).stop i H/\D.nx σ H)∨((tG lo n).go i H/\∃N:St->Hp->Prop,(∀U H',N U H'->∃m',m'<m/\W (i+1) m' U H')/\∀x H',(tG lo n).nM i H x H'->g x σ H' λO H2=>b (D.lp N) O H2):=by
 show{λi m σ H=>m=n-i/\i<=n/\Pv i σ H,{n,0.1,dz _,h0},?_};rintro i m σ H ⟨rfl,hi,p⟩;by_cases a:i<n
 .refine .inr {a,Pv (i+1),λU H' c=>{n-(i+1),0.7,rfl,a,c},λx H' y=>?_};ext e y y;subst e y;show Y i σ _ a p
 .let e:i=n:=⋯;subst e;show .inl {aZ _,hd σ H p}
abbrev R2:=V->V->Hp->VK->Prop
def dj(X:Cx)(f:Ã->Ã->Sem Ã)(r:R2):Prop:=
 ∀a s σ H (x y:V) (v u:Ã) (Q:VK),Inv X a σ H s->RelV x v->RelV y u->r x y H Q->
  Ô X[12] X.A (f v u) (EP X a σ Q) X.xe s
def Ϥ(X:Cx)(f:Ã->Sem Ã)(r:V->Hp->VK->Prop):Prop:=
 ∀a s σ H (x:V) (v:Ã) (Q:VK),Inv X a σ H s->RelV x v->r x H Q->
  Ô X[12] X.A (f v) (EP X a σ Q) X.xe s
def jt(X:Cx)(f:Ã)(r:τ->Hp->VK->Prop):Prop:=
 ∀a s σ H (xs:τ) (us:List Ã) (Q:VK),Inv X a σ H s->Vals xs us->r xs H Q->
  Ô X[12] X.A (call f us) (EP X a σ Q) X.xe s
def C9(r:R2)(b a:TE):TE:=λσ H Q=>b σ H λx H1=>a σ H1 λy H2=>r x y H2 Q
def tUn(r:V->Hp->VK->Prop)(a:TE):TE:=λσ H Q=>a σ H λx H1=>r x H1 Q
inductive SII(C:Int->Int->Prop)(g:Int->Int->V)(x y:V)(H:Hp)(Q:VK):Prop|mk(i j:Int)(_:x=.int i)(_:y=.int j)(_:C i j)(_:Q (g i j) H)
def rI(C:Int->Int->Prop)(g:Int->Int->V):R2:=λx y H Q=>SII C g x y H Q
inductive SI0(g:Int->Int->V)(x y:V)(H:Hp)(Q:VK):Prop|mk(i j:Int)(_:x=.int i)(_:y=.int j)(_:Q (g i j) H)
def Ar(g:Int->Int->V):R2:=λx y H Q=>SI0 g x y H Q
inductive SU(g:Int->V)(x:V)(H:Hp)(Q:VK):Prop|mk(i:Int)(_:x=.int i)(_:Q (g i) H)
def rU(g:Int->V):V->Hp->VK->Prop:=λx H Q=>SU g x H Q
section
variable {X:Cx}
section
variable {f:Ã->Ã->Sem Ã}{g:Int->Int->Int}
def bj(ha:PE X a ta)(hb:PE X b tb){R:V->V->Hp->Prop}(I:Inv X π σ H s)
  (h:ta σ H λx H1=>tb σ H1 λy H2=>R x y H2){Q:χ}{f:Ã->Ã->Sem Ã}
  (Y:∀v u U x y H2,Inv X π σ H2 U->RelV x v->RelV y u->R x y H2->Ô X[12] X.A (f v u) Q X.xe U):
  Ô X[12] X.A (eval a X.env) (λv s₁=>Ô X[12] X.A (eval b X.env) (λu O=>Ô X[12] X.A (f v u) Q X.xe O) X.xe s₁) X.xe s:=by
 show aY (ha π s σ H _ I h) λv c zz=>?_;let⟨x,H1,j,e,i⟩:=zz;show aY (hb π c σ H1 _ j i) λu U zz=>?_;let⟨y,H2,I2,d,g⟩:=zz;show Y v u U x y H2 I2 e d g
def oX(U:dj X (ç O) r)(ha:PE X a ta)(hb:PE X b tb):PE X (.BinOp a O b pos) (C9 r ta tb):=by
 show λc s σ H Q I h=>wpAny_BinOp (bj ha hb I h λv u d x y H2 I2 e ry q=>U c d σ H2 x y v u Q I2 e ry q)
def Kr(U:Ϥ X (unaryOp O) r)(ha:PE X a ta):PE X (.UnaryOp O a pos) (tUn r ta):=by
 show λb s σ H Q I h=>UnaryOp_ (aY (ha b s σ H _ I h) λv c ⟨x,H1,f,d,e⟩=>U b c σ H1 x v Q f d e)
def Ao{C:Int->Int->Prop}
  (ρ:∀(i j:Int)(t u:Tok)(s:Ó)(Q:χ)(E:χ),C i j->Q (.int (g i j) s.toks) {s with toks:=s.toks+1}->Ô X[12] X.A (f (.int i t) (.int j u)) Q E s):
  dj X f (rI C λi j=>.int (g i j)):=by
 intro b s σ H x y v u Q I a ry h;ext i j rfl rfl hc q h;ext t rfl a;ext t' rfl ry;show ρ i j t t' s _ _ hc {.int (g i j),H,I.tok _,{()},q}
def Ap
  (ρ:∀(i j:Int)(t u:Tok)(s:Ó)(Q:χ)(E:χ),Q (.int (g i j) s.toks) {s with toks:=s.toks+1}->Ô X[12] X.A (f (.int i t) (.int j u)) Q E s):
  dj X f (Ar λi j=>.int (g i j)):=by
 intro b s σ H x y v u Q I a ry h;ext i j rfl rfl q h;ext t rfl a;ext t' rfl ry;show ρ i j t t' s _ _ {.int (g i j),H,I.tok _,{()},q}
def PZ{g:Int->Int->Bool}
  (ρ:∀(i j:Int)(t u:Tok)(s:Ó)(Q:χ)(E:χ),Q (.bool (g i j)) s->Ô X[12] X.A (f (.int i t) (.int j u)) Q E s):
  dj X f (Ar λi j=>.bl (g i j)):=by
 intro b s σ H x y v u Q I a ry h;ext i j rfl rfl q h;ext t rfl a;ext t' rfl ry;show ρ i j t t' s _ _ {.bl (g i j),H,I,rfl,q}
def aHf(i j:Int):Prop:=0<j/\j<1073741824
def aFu(i j:Int):Prop:=0<=j/\j<=1000000/\i.natAbs<2^64
def aLS(k:Nat):(0:Int)<=2^k:=by
 rw[two_pow_cast,!Int.natCast_nonneg _]
def aAn:dj X (ç .Add) (Ar λi j=>.int (i+j)):=Ap λ_ _ _ _ _ _ _ q=>add_int q
def aQk:dj X (ç .Sub) (Ar λi j=>.int (i-j)):=Ap λ_ _ _ _ _ _ _ q=>sub_int q
def aUD:dj X (ç .FloorDiv) (rI aHf λi j=>.int (i/j)):=Ao λi j _ _ _ _ _ hc q=>by
 let h1:(0:Int)<j:=hc.1;let h2:j<1073741824:=hc.2;show floordiv_int ⋯ #v[X1 i ⋯,!q] (.inl (W2 0.7))
def aO2:dj X (ç .Mod) (rI (λ_ j=>0<j) λi j=>.int (i%j)):=Ao λi j _ _ _ _ _ hc q=>by
 let h1:(0:Int)<j:=hc;show mod_int' ⋯ #v[Int.fmod_eq_emod_of_nonneg i ⋯,!q]
def aNM:dj X (ç .Mod) (rI (λ_ j=>j≠0) λi j=>.int (i.fmod j)):=Ao λ_ _ _ _ _ _ _ hc q=>mod_int' hc q
def JI:dj X (ç .Pow) (rI aFu λi j=>.int (i^j.toNat)):=Ao λ_ _ _ _ _ _ _ hc q=>pow_int_small hc.1 hc.2.1 hc.2.2 q
def azD:dj X (ç .RShift) (rI (λ_ j=>0<=j) λi j=>.int (i/2^j.toNat)):=Ao λi j _ _ _ _ _ hc q=>
 rshift_int hc #v[X1 i (aLS _),!q]
def unI{f:Ã->Sem Ã}{g:Int->Int}
  (ρ:∀(i:Int)(t:Tok)(s:Ó)(Q:χ)(E:χ),Q (.int (g i) s.toks) {s with toks:=s.toks+1}->Ô X[12] X.A (f (.int i t)) Q E s):
  Ϥ X f (rU λi=>.int (g i)):=by
 intro b s σ H x v Q I a h;ext i rfl q h;ext t rfl a;show ρ i t s _ _ {.int (g i),H,I.tok _,{()},q}
def Mi:Ϥ X (unaryOp .USub) (rU λi=>.int (-i)):=unI λ_ _ _ _ _ q=>neg_int q
end
end
def Wq:V->V->Bool
 |.non,.non=>true|.non,.int _=>true|.int _,.non=>true|.non,.bl _=>true|.bl _,.non=>true|.non,.str _=>true|.str _,.non=>true
 |.int _,.int _=>true|.bl _,.bl _=>true|.str _,.str _=>true|.pZ _,.pZ _=>true
 |.int _,.str _=>true|.str _,.int _=>true|.bl _,.str _=>true|.str _,.bl _=>true
 |_,_=>false
def rEq:R2:=λx y H Q=>Wq x y=true/\Q (.bl (decide (x=y))) H
def rNe:R2:=λx y H Q=>Wq x y=true/\Q (.bl (!decide (x=y))) H
def TL:decide (V.int i=V.int j)=(i==j):=by
 rw[Gq,2]
def EM:decide (V.bl i=V.bl j)=(i==j):=by
 rw[Gq,2]
def Q3:decide (V.str i=V.str j)=(i==j):=by
 rw[Gq,2]
def ZO:decide (V.pZ i=V.pZ j)=(i.toList==j.toList):=by
 rw[Gq];cases i;cases j;simp
section
variable {ta tb tc:TE}
section
variable {r r':R2}{x:V}
def gJ(I:Inv X π σ H s)(q:Q (.bl k) H)(e:k=k'):EP X π σ Q (.bool k') s:=by
 subst e;show{.bl k,H,I,rfl,q}
def aAs:dj X (â .Eq) rEq:=by
 intro c s σ H x y v u Q I b ry h;ext a q h;cases x with
 |non=>
  cases b;cases y with
  |non=>cases ry;show aD6 (gJ I q 0.1)
  |bl j=>cases ry;show aHX (gJ I q 0.1)
  |int j=>ext t' rfl ry;show aCW (gJ I q 0.1)
  |str j=>ext t' rfl ry;show aw8 (gJ I q 0.1)
  |_=>show È (show false=true from a) iU
 |bl i=>
  cases b;cases y with
  |non=>cases ry;show aQ6 (gJ I q 0.1)
  |bl j=>cases ry;show eq_bool (gJ I q EM)
  |str j=>ext t' rfl ry;show aRm (gJ I q 0.1)
  |_=>show È (show false=true from a) iU
 |int i=>
  ext t rfl b;cases y with
  |non=>cases ry;show aBs (gJ I q 0.1)
  |int j=>ext t' rfl ry;show eq_int (gJ I q TL)
  |str j=>ext t' rfl ry;show aAc (gJ I q 0.1)
  |_=>show È (show false=true from a) iU
 |str i=>
  ext t rfl b;cases y with
  |non=>cases ry;show aMq (gJ I q 0.1)
  |bl j=>cases ry;show aQ5 (gJ I q 0.1)
  |int j=>ext t' rfl ry;show aUz (gJ I q 0.1)
  |str j=>ext t' rfl ry;show eq_str (gJ I q Q3)
  |_=>show È (show false=true from a) iU
 |pZ i=>
  ext t rfl b;cases y with
  |pZ j=>ext t' rfl ry;show W.eq_bytes (gJ I q ZO)
  |_=>show È (show false=true from a) iU
 |_=>cases y<;>show È (show false=true from a) iU
def aIW:dj X (â .NotEq) rNe:=by
 intro c s σ H x y v u Q I b ry h;ext a q h;cases x with
 |non=>
  cases b;cases y with
  |non=>cases ry;show azb (gJ I q 0.1)
  |bl j=>cases ry;show aLs (gJ I q 0.1)
  |int j=>ext t' rfl ry;show aMf (gJ I q 0.1)
  |str j=>ext t' rfl ry;show aA4 (gJ I q 0.1)
  |_=>show È (show false=true from a) iU
 |bl i=>
  cases b;cases y with
  |non=>cases ry;show azk (gJ I q 0.1)
  |bl j=>cases ry;show ne_bool (gJ I q (Ï not EM))
  |str j=>ext t' rfl ry;show aMZ (gJ I q 0.1)
  |_=>show È (show false=true from a) iU
 |int i=>
  ext t rfl b;cases y with
  |non=>cases ry;show aAo (gJ I q 0.1)
  |int j=>ext t' rfl ry;show ne_int (gJ I q (Ï not TL))
  |str j=>ext t' rfl ry;show aQf (gJ I q 0.1)
  |_=>show È (show false=true from a) iU
 |str i=>
  ext t rfl b;cases y with
  |non=>cases ry;show aBu (gJ I q 0.1)
  |bl j=>cases ry;show aAf (gJ I q 0.1)
  |int j=>ext t' rfl ry;show aKB (gJ I q 0.1)
  |str j=>ext t' rfl ry;show ne_str (gJ I q (Ï not Q3))
  |_=>show È (show false=true from a) iU
 |pZ i=>
  ext t rfl b;cases y with
  |pZ j=>ext t' rfl ry;show W.ne_bytes (gJ I q (Ï not ZO))
  |_=>show È (show false=true from a) iU
 |_=>cases y<;>show È (show false=true from a) iU
def Rp:dj X (â .Lt) (Ar λi j=>.bl (decide (i<j))):=PZ λ_ _ _ _ _ _ _ q=>lt_int q
def NB:dj X (â .LtE) (Ar λi j=>.bl (decide (i<=j))):=PZ λ_ _ _ _ _ _ _ q=>le_int q
def om:dj X (â .Gt) (Ar λi j=>.bl (decide (j<i))):=PZ λ_ _ _ _ _ _ _ q=>gt_int q
def SO:dj X (â .GtE) (Ar λi j=>.bl (decide (j<=i))):=PZ λ_ _ _ _ _ _ _ q=>ge_int q
def Th:dj X (â .In) (λx y H Q=>∃i j,x=.str i/\y=.str j/\Q (.bl (!(ì j i 0 j[_] 1).isEmpty)) H):=by
 intro b s σ H x y v u Q I a ry h;ext i j rfl rfl q h;ext t rfl a;ext t' rfl ry;show in_str (gJ I q rfl)
def dj.or(h:dj X f r)(h':dj X f r'):dj X f (λx y H Q=>r x y H Q∨r' x y H Q):=by
 intro a s σ H x y v u Q I b ry q;rcases q with q|q
 .exact h a s σ H x y v u Q I b ry q
 .exact h' a s σ H x y v u Q I b ry q
def mq(b:ü)(h:O≠ .In:=by decide)(h2:O≠ .NotIn:=by decide):Ĉ O b=false:=by
 let c:(O==CmpOp.In)=false:=by cases O<;>first|rfl|show È rfl h
 let a:(O==CmpOp.NotIn)=false:=by cases O<;>first|rfl|show È rfl h2
 cases b<;>simp[Ĉ,c,a]
def kJ(U:dj X (â O) r)(ha:PE X a ta)(hb:PE X b tb)(Y:Ĉ O b=false):PE X (.Compare a [O] [b] pos) (C9 r ta tb):=by
 show λc s σ H Q I h=>wpAny_Compare1 (bj ha hb I h λv u d x y H2 I2 e ry q=>U c d σ H2 x y v u Q I2 e ry q) Y
inductive aLW(x:V)(H:Hp)(Q:Bool->Hp->Prop):Prop|mk(k:Bool)(_:x=.bl k)(_:Q k H)
def eM(t:TE):TT:=λσ H Q=>t σ H λx H'=>aLW x H' Q
def aSn(U:dj X (â O) r)(ha:PE X a ta)(hb:PE X b tb)(Y:Ĉ O b=false):PT X (.Compare a [O] [b] pos) (eM (C9 r ta tb)):=by
 intro d s σ H Q I h;show Θ (aY (ha d s σ H _ I h) λv g ⟨x,H1,q,l,o⟩=>aY (hb d g σ H1 _ q o) λu f ⟨y,H2,I2,j,n⟩=>
  aY (U d f σ H2 x y v u _ I2 l j n) λc s3 ⟨z,H3,p,i,k,e,m⟩=>?_) Y
 subst e;cases i;show ä {H3,p,(m)}
def b_(r d:R2)(c b tc:TE):TE:=λσ H Q=>c σ H λx H1=>b σ H1 λy H2=>r x y H2 λz H3=>∃k,z=.bl k/\
 (if k=true then tc σ H3 λa e=>d y a e Q else Q (.bl false) H3)
def azC(ho:dj X (â Y) r)(U:dj X (â O) r')(ha:PE X a ta)(hb:PE X b tb)(hc:PE X c tc)
  (hm:lastMarks [Y,O] [b,c]=false:=by with_unfolding_all rfl):PE X (.Compare a [Y,O] [b,c] pos) (b_ r r' ta tb tc):=by
 intro f s σ H Q I h;show Compare_chain (aY (ha f s σ H _ I h) λv p ⟨x,H1,G,w,C⟩=>chain_link (aY (hb f p σ H1 _ G C) λu o ⟨y,H2,I2,g,B⟩=>
  aY (ho f o σ H2 x y v u _ I2 w g B) λd s3 ⟨z,H3,j,t,k,e,i⟩=>?_)) hm
 subst e;cases t;show ä ?_;cases k with
 |false=>show ite_ff {.bl false,H3,j,rfl,i}
 |true=>show ite_tt (chain_last (aY (hc f s3 σ H3 _ j i) λm n ⟨l,J,D,q,A⟩=>U f n σ J y l u m Q D g q A))
def aH0(ho:dj X (â Y) r)(U:dj X (â O) r')(ha:PE X a ta)(hb:PE X b tb)(hc:PE X c tc)
  (hm:lastMarks [Y,O] [b,c]=false:=by with_unfolding_all rfl):PT X (.Compare a [Y,O] [b,c] pos) (eM (b_ r r' ta tb tc)):=by
 intro f s σ H Q I h;show isTrue_chain (aY (ha f s σ H _ I h) λv p ⟨x,H1,R,A,G⟩=>test_link (aY (hb f p σ H1 _ R G) λu o ⟨y,H2,I2,g,D⟩=>
  aY (ho f o σ H2 x y v u _ I2 A g D) λd s3 ⟨z,H3,j,w,k,e,i⟩=>?_)) hm
 subst e;cases w;show ä ?_;cases k with
 |false=>
  ext k' M J i;cases M;show ite_ff {H3,j,(J)}
 |true=>
  show ite_tt (test_last (aY (hc f s3 σ H3 _ j i) λm n ⟨l,T,P,t,C⟩=>aY (U f n σ T y l u m _ P g t C) λZ W zz=>?_));let⟨z2,S,N,q,k2,L,B⟩:=zz;subst L;cases q;show ä {S,N,(B)}
def aXP(r:KV kvs vs):(!vs.isEmpty)=!kvs.isEmpty:=by
 cases r<;>rfl
def aXZ(r:Vals xs its):(!its.toArray.isEmpty)=!xs.isEmpty:=by
 cases r<;>simp
def Jr:(Ê:Nat)<2^63:=#v[ģ,3]
def aBV:dj X (ç .Add) (λx y H Q=>∃i j,x=.str i/\y=.str j/\i[_]+j[_]<=Ê/\Q (.str (i++j)) H):=by
 intro b s σ H x y v u Q I a ry h;ext i j rfl rfl hz q h;ext t rfl a;ext t' rfl ry;show add_str (λt' tk=>{.str (i++j),H,I.tok _,{()},q}) hz
def vals1(r:Vals [x] us):∃u,us=[u]/\RelV x u:=by
 cases r with
 |cons r1 r2=>cases r2;show{(),r1}
def vals2(r:Vals [x,y] us):∃u O,us=[u,O]/\RelV x u/\RelV y O:=by
 cases r with
 |cons r1 r2=>
  cases r2 with
  |cons r3 r4=>cases r4;show{_,(),r1,r3}
def DP:jt X (.builtin "abs") (λxs H Q=>∃i,xs=[.int i]/\Q (.int (if i<0 then -i else i)) H):=by
 intro a s σ H xs us Q I r h;ext i rfl q h;let⟨u,rfl,t,rfl⟩:=vals1 r;show call_abs_int λu tk=>{.int (if i<0 then -i else i),H,I.tok _,{()},q}
def EX(hc:X.calm=true):jt X (.builtin "max") (λxs H Q=>∃i j,xs=[.int i,.int j]/\Q (.int (if j>i then j else i)) H):=by
 intro b s σ H xs us Q I r h;ext i j rfl q h;obtain⟨u,c,rfl,⟨t,rfl⟩,⟨t',rfl⟩⟩:=vals2 r;show max_two_ints (I.ok.hd hc) λh' tk k=>{_,H,I.kept k,?_,q};by_cases a:j>i
 .rw[Á a,Á a];show{()}
 .rw[Â a,Â a];show{()}
def aLa(hc:X.calm=true):jt X (.builtin "min") (λxs H Q=>∃i j,xs=[.int i,.int j]/\Q (.int (if j<i then j else i)) H):=by
 intro b s σ H xs us Q I r h;ext i j rfl q h;obtain⟨u,c,rfl,⟨t,rfl⟩,⟨t',rfl⟩⟩:=vals2 r;show min_two_ints (I.ok.hd hc) λh' tk k=>{_,H,I.kept k,?_,q};by_cases a:j<i
 .rw[Á a,Á a];show{()}
 .rw[Â a,Â a];show{()}
def A6:jt X (.type "int") (λxs H Q=>(∃i,xs=[.int i]/\Q (.int i) H)∨∃k,xs=[.bl k]/\Q (.int (if k then 1 else 0)) H):=by
 intro b s σ H xs us Q I r h;rcases h with⟨i,rfl,q⟩|⟨k,rfl,q⟩
 .obtain⟨u,rfl,t,rfl⟩:=vals1 r;show call_int_int {.int i,H,I,{()},q}
 .obtain⟨u,rfl,a⟩:=vals1 r;cases a;show call_int_bool {.int (if k then 1 else 0),H,I.tok _,{()},q}
inductive Sst(xs:τ)(H:Hp)(Q:VK):Prop|mk(i:Int)(_:xs=[.int i])(_:i.natAbs.log2<1920)(_:Q (.str (toString i)) H)
def qP:jt X (.type "str") Sst:=by
 intro a s σ H xs us Q I r h;ext i rfl hz q h;let⟨u,rfl,t,rfl⟩:=vals1 r;show PySem.P.str_of_int hz {.str _,H,I.tok _,{()},q}
def aBN(K:aH)(x:V)(H:Hp)(n:Nat):Prop:=
 match x with
 |.str y=>y[_]<=Ê/\n=y[_]
 |.pZ y=>y.size<=Ê/\n=y.size
 |.ref p=>(∃xs,aj K H p xs/\n=xs[_])∨∃xs,ao K H p xs/\n=xs[_]
 |_=>False
inductive X5(K:aH)(xs:τ)(H:Hp)(Q:VK):Prop|mk(x:V)(n:Nat)(_:xs=[x])(_:aBN K x H n)(_:Q (.int n) H)
def aUB:jt X (.builtin "len") (X5 X.K):=by
 intro i s σ H xs us Q I r h;ext x n rfl e q h;let⟨u,rfl,c⟩:=vals1 r;let k:=Jr;let j:Ê=16777216:=ģ;cases x with
 |str y=>
  ext t rfl c;obtain⟨hy,b⟩:y[_]<=Ê/\n=y[_]:=e;subst b;show len_str ⋯ {.int _,H,I.tok _,{()},q}
 |pZ y=>
  ext t rfl c;obtain⟨hy,b⟩:y.size<=Ê/\n=y.size:=e;subst b;show W.len_bytes ⋯ {.int _,H,I.tok _,{()},q}
 |ref p=>
  cases c;let b:(∃xs,aj X.K H p xs/\n=xs[_])∨∃xs,ao X.K H p xs/\n=xs[_]:=e;rcases b with⟨xs,hx,b⟩|⟨xs,hx,b⟩
  .subst b;let⟨g,d,f,hz⟩:=I.list hx;let a:=d[_];show Calls.call_len_list f.isList (by simp only[gC];lia) {.int xs[_],H,I.tok _,{_,by simp only[gC];rw[a]},q}
  .subst b;let⟨g,d,f,hz⟩:=I.tuple hx;let a:=d[_];show len_tuple f (by simp only[gC];lia) {.int xs[_],H,I.tok _,{_,by simp only[gC];rw[a]},q}
 |_=>show(show False from e).elim
end
end
structure CT(h:Û)(x dx C:Æ)(mA:μ):Prop where
 obj:h.get? x=ι (BP C dx)
 ns:h.Ns1 dx mA
 ne:dx≠x
def aUU{h:Û}{c:μ}(n:h.Ns1 dx c):∃O,h.get? dx=ι O/\∀name,Uo name O=ι (c name):=by
 ext o d j f hd hk _ g n;show{o,f,λname=>?_};let e:=g name;unfold nsFind findBy at e;rw[<-Array.find?_toList]at e;unfold Uo;rw[hd];dsimp only;split
 .rename_i y q
  rw[q]at e;show Ï ι e
 .rename_i q
  rw[q]at e;let a:d.toList.any (·.refKey)=false:=by
   rw[List.any_eq_false];intro y hy;let⟨z,t,b⟩:=hk y (OR.mp hy);simp[ý.refKey,b]
  let i:¬d.toList.any (·.refKey)=true:=#v[a,!iU]
  rw[Â i,!Ï ι e]
def CT.look(I:CT h x dx C mA):∃O,W.InstAt h x (BP C dx) C (ι O)/\∀name,Uo name O=ι (mA name):=
 let⟨O,a,b⟩:=aUU I.ns
 {O,{I.obj,rfl,rfl,(a)},b}
section
variable {A:î}{E:χ}{s:Ó}{K:aH}{mA:μ}
def get_map{O:Bool}{Q:χ}(X:K.In s.heap)(I:CT s.heap x dx C mA)(hg:KP K C name=true)(hh:U0 K C=true)
  (ha:qZ K (.ref C) name=ι ν)(hv:mA name=ι v)(U:W.handedIn v=true)(h:Q v {s with toks:=s.toks+1}):
  Ô (model prog w) A (getAttr (.ref x) name O) Q E s:=by
 ext b J a I.look;show W.get_value X J (Xl hg).1 (W.findObj_own hh ha rfl #v[a,hv]) U h
def aJ8{Q:Ã×List Ã->Ó->Prop}(X:K.In s.heap)(I:CT s.heap x dx C mA)(O:KP K C name=true)
  (U:qZ K (.ref C) name=ι f[4])(ht:W.isFn K (.ref f)=true)(hv:mA name=ν)(h:Q (.ref f,[.ref x]) s):
  Ô (model prog w) A (getMethod (.ref x) name pl) Q E s:=by
 ext a J b I.look;show W.method_fn X J (Xl O).1 (Xl O).2 U (beq_iff_eq.mp ht) (by show(Uo name a).map (·.isSome)=ι false;rw[b,hv,0]) h
def aQ9{ns:List Str}{Q:Unit->Ó->Prop}(X:K.In s.heap)(I:CT s.heap x dx C mA)
  (U:qZ K (.ref C) "__setattr__"=ι (ι (.builtin "object.__setattr__")))(hp:nV K C=true)(ht:n9 K C name=ι ν)(Y:U0 K C=true)
  (hw:bc mA ns)(hsz:ns[_]<=Ê)
  (h:∀h',CT h' x dx C (λy=>if y=name then ι v else mA y)->Jp dx s.heap h'->Q () {s with heap:=h',toks:=s.toks+2}):
  Ô (model prog w) A (setAttr (.ref x) name v) Q E s:=by
 ext l J n I.look;show W.set_plain X J U (W.osa_open (s:={s with toks:=s.toks+1}) (r:=ν) X J hp ht λb=>?_);let⟨cd,hc,g⟩:=W.any_some Y;let hx:s.heap.get? x=ι {.ref C,ι dx,.plain,#[]}:=I.obj;show Å (Ñ (Å (Å (wpAny_loadPart hx (Å (W.Looks.here (s:={s with toks:=s.toks+1}) (W.looks_clsIn X hc) ?_))))));rw[g,!Ñ (a:=ι dx) (Å (Ñ (Å ?_)))];show wpAny_nsSet1 (s:={s with toks:=s.toks+1}) I.ns λh' d c=>?_;let⟨m,j,k,e,f,i⟩:=d.count (axW name v hw);show Å (wpAny_lookBehind e #v[f,!pastItsLine_dict (cD i #v[gh])] ?_);show Ñ (h _ {(c.2 _ (ux I.ne)).trans I.obj,d,I.ne} c)
def aAY{R:Result->Ó->Prop}(X:K.In s.heap)(O:Tn K C=true)
  (hi:qZ K (.ref C) "__init__"=ι f[4])(U:W.typeIn K (.ref f)=ι (.type "function"))
  (h:Ĝ (model prog w) (A.under (.builtin "type.__call__" {.ref C::vs,kw})) (.call (.ref f) {.ref (s[1]+1)::vs,kw}) (W.InitBack (s[1]+1) R)
   {s with heap:=(s.heap.push zY).push (BP C s[1])}):
  Ĝ (model prog w) A (.call (.ref C) {vs,(kw)}) R s:=by
 ext a g d t os s;show W.make_core (W.makes_of X O) (W.looks_findIn X hi) (λself=>W.bind_fn X self U) (.inl rfl) h
end
def lW(f:Str)(v:V):List (Str×V)->List (Str×V)
 |[]=>[(f,v)]
 |(g,x)::r=>if g=f then(g,v)::r else(g,x)::lW f v r
theorem Ro(f g:Str)(v:V):∀fs:List (Str×V),(lW f v fs).lookup g=if g=f then ι v else fs.lookup g
 |[]=>by
  show CQ g [(f,v)]=_;by_cases h:g=f
  .let hb:(g==f)=true:=beq_iff_eq.mpr h;simp only[CQ,hb,Á h]
  .let hb:(g==f)=false:=beq_eq_false_iff_ne.mpr h;simp only[CQ,hb,Â h]
 |(k,x)::r=>by
  let a:=Ro f g v r;rw[show lW f v ((k,x)::r)=(if k=f then(k,v)::r else(k,x)::lW f v r)from rfl];by_cases hk:k=f
  .rw[Á hk];by_cases h:g=k
   .let hb:(g==k)=true:=beq_iff_eq.mpr h;simp only[CQ,hb,Á (h.trans hk)]
   .let hb:(g==k)=false:=beq_eq_false_iff_ne.mpr h;simp only[CQ,hb,Â (λe:g=f=>h (e.trans hk.symm))]
  .rw[Â hk];by_cases h:g=k
   .let hb:(g==k)=true:=beq_iff_eq.mpr h;simp only[CQ,hb,Â (λe:g=f=>hk (h.symm.trans e))]
   .let hb:(g==k)=false:=beq_eq_false_iff_ne.mpr h;simp only[CQ,hb];show a
theorem nk(f:Str)(v:V):∀fs:List (Str×V),f∈(lW f v fs).map (·.1)/\∀g,g∈fs.map (·.1)->g∈(lW f v fs).map (·.1)
 |[]=>{by simp[lW],λg h=>by simp at h}
 |(k,x)::r=>by
  let⟨b,a⟩:=nk f v r;rw[show lW f v ((k,x)::r)=(if k=f then(k,v)::r else(k,x)::lW f v r)from rfl];by_cases hk:k=f
  .rw[Á hk];subst hk;show{0.1,λg h=>h[7]}
  .rw[Â hk];show{?_,λg h=>?_}
   .rw[jK];show gW _ b
   .rw[jK]at h⊢;rcases fj.mp h with e|e
    .exact fj.mpr (.inl e)
    .exact gW _ (a g e)
theorem NO(f:Str)(v:V):∀fs:List (Str×V),(lW f v fs)[_]<=fs[_]+1
 |[]=>by simp[lW]
 |(k,x)::r=>by
  let a:=NO f v r;rw[show lW f v ((k,x)::r)=(if k=f then(k,v)::r else(k,x)::lW f v r)from rfl];by_cases hk:k=f
  .rw[Á hk,gh,gh];simp_all
  .rw[Â hk,gh,gh];simp_all
def mO.some_of(r:mO (ι v) o):∃u,o=ι u/\RelV v u:=by
 cases o with
 |none=>show(show False from r).elim
 |some u=>show{u,rfl,(r)}
def mO.none_of(r:mO ν o):o=ν:=by
 cases o with
 |none=>rfl
 |some u=>show(show False from r).elim
def aQN(r:RelV v u):W.handedIn u=true:=by
 cases v with
 |non=>cases (show u=Ŀ from r);rfl
 |bl b=>cases (show u=è b from r);rfl
 |int i=>let⟨t,e⟩:=(show ∃t,u=Ĳ i t from r);cases e;rfl
 |str x=>let⟨t,e⟩:=(show ∃t,u=Ē x t from r);cases e;rfl
 |pZ b=>let⟨t,e⟩:=(show ∃t,u=Ã.bytes b t from r);cases e;rfl
 |flt b=>let⟨t,e⟩:=(show ∃t,u=ů b t from r);cases e;rfl
 |ref a=>cases (show u=ß a from r);rfl
 |ty n=>cases (show u=ŕ n from r);rfl
def Q0(hok:gO P w H h)(e:H a=ι (.ins C dx fs)):∃mA,CT h a dx C mA/\(∀f,mO (fs.lookup f) (mA f))/\bc mA (fs.map (·.1))/\fs[_]<=1000/\H dx=ι (.own a):=by
 let⟨d,z,ne,ob,mA,n,r,q⟩:=(show gG P w H h a (.ins C dx fs)from hok a _ e);show{mA,{ob,n,(ne)},r,q,z,d}
structure Φ(K:aH)(C:Æ):Prop where
 pg:KP K C Str.empty=true
 hd:U0 K C=true
 po:nV K C=true
 sa:qZ K (.ref C) "__setattr__"=ι (ι (.builtin "object.__setattr__"))
def Φ.get{K:aH}{C:Æ}(c:Φ K C)(f:Str):KP K C f=true:=c.pg
def DW(K:aH)(C:Æ)(f:Str):Prop:=qZ K (.ref C) f=ι ν
def DW.aP3{K:aH}{C:Æ}{f:Str}(n:DW K C f):n9 K C f=ι ν:=by
 unfold n9;rw[show qZ K (.ref C) f=ι ν from n,0]
structure Meth(K:aH)(C:Æ)(m:Str)(f:Æ):Prop where
 at_:qZ K (.ref C) m=ι f[4]
 fn:W.isFn K (.ref f)=true
 kp:su K (.ref f)=true
def azH(I:Inv X π σ H s)(e:H a=ι (.ins C dx fs))(c:Φ X.K C)(n:DW X.K C f)(l:fs.lookup f=ι v)
  (h:∀u s',Inv X π σ H s'->RelV v u->Q u s'):Ô X[12] A (getAttr (.ref a) f b) Q E s:=by
 let⟨g,O,r,_,_,_⟩:=Q0 I.hok e;let⟨u,hu,d⟩:=mO.some_of (v:=v) (o:=g f) #v[-l,!r f];show get_map I.f9 O (c.get f) c.hd n hu (aQN d) (h u _ (I.tok _) d)
def aFK(I:Inv X π σ H s)(e:H a=ι (.ins C dx fs))(c:Φ X.K C)(k:Meth X.K C m g)(l:fs.lookup m=ν)
  (h:Q (.ref g,[.ref a]) s):Ô X[12] A (getMethod (.ref a) m pl) Q E s:=by
 let⟨b,O,r,_,_,_⟩:=Q0 I.hok e;let hn:b m=ν:=mO.none_of #v[-l,!r m];show aJ8 I.f9 O (c.get m) k.at_ k.fn hn h
def aQV(I:Inv X π σ H s)(e:H a=ι (.ins C dx fs))(c:Φ X.K C)(n:DW X.K C f)(U:fs[_]<1000)(ry:RelV y u)
  (h:∀s',Inv X π σ (upd H a (.ins C dx (lW f y fs))) s'->Q () s'):Ô X[12] A (setAttr (.ref a) f u) Q E s:=by
 let⟨i,O,r,wi,_,j⟩:=Q0 I.hok e;let hz:(fs.map (·.1))[_]<=Ê:=#v[aA,ģ]
 show aQ9 I.f9 O c.sa c.po n.aP3 c.hd wi hz λh' d k=>h _ ?_;let hd:∃o,h'.get? dx=ι o:=let⟨o,_,_,m,_⟩:=d.ns;{o,(m)};show I.write (x:=a) (e:=dx) #v[e,!ö] (.inr j) (λb q hb z=>(k.2 b hb).trans z) hd ?_;show{#v[cO O.ne,!j],?_,O.ne,d.obj,_,d.ns,λg=>?_,λg l=>?_}
 .let:=NO f y fs;lia
 .show mO ((lW f y fs).lookup g) (if g=f then ι u else i g);rw[Ro];by_cases q:g=f
  .rw[Á q,Á q];show ry
  .rw[Â q,Â q];show r g
 .by_cases q:g=f
  .rw[q];show(nk f y fs).1
  .refine(nk f y fs).2 g (wi g λz=>l ?_);show(if g=f then ι u else i g)=ν;rw[Â q,!z]
def Inv.made(I:Inv X π σ H s):Inv X π σ (upd (upd H s[1] (.own (s[1]+1))) (s[1]+1) (.ins C s[1] []))
  {s with heap:=(s.heap.push zY).push (BP C s[1])}:=by
 let c:(s.heap.push zY).get? s[1]=ι zY:=Ù s.heap rfl;let g:((s.heap.push zY).push (BP C s[1])).get? (s[1]+1)=ι (BP C s[1]):=by
  let:=Ù (s.heap.push zY) (o:=BP C s[1]) rfl
  rwa [Zl]at this
 let f:(s.heap.push zY).Ns s[1] (λ_=>ν):={zY,#[],_,c,rfl,(λe d=>È d 0.1),λ_=>rfl};let i:=I.laid (a:=s[1]) (o:=.own (s[1]+1)) (h':=s.heap.push zY) (t':=s.toks) (λb u q=>Ç _ q) (aZ _) {_,c};show i.laid (a:=s[1]+1) (o:=.ins C s[1] []) (t':=s.toks) (λb u q=>Ç _ q) (Lz (Zl _ _)) ?_;let ne:s[1]≠s[1]+1:=jP (YK _);show{#v[cO ne,aB],dz _,ne,g,λ_=>ν,(Û.Ns1.of_empty f).at λo q=>Ç _ q,λ_=>ö,λy hy=>È rfl hy}
def ayy(hb:û e f env (eval e env)=eval e env)
  (h:Ô (model prog w) A (eval e env) (λo s₁=>Ô (model prog w) A (getAttr o f true) Q E s₁) E s):Ô (model prog w) A (eval (.Attribute e f pos) env) Q E s:=
 Attribute_any_ h #v[arm_eval_Attribute,hb]
inductive Sfl(K:aH)(f:Str)(x:V)(H:Hp)(Q:VK):Prop|mk(a C dx fs v)(_:x=.ref a)(_:H a=ι (.ins C dx fs))(_:Φ K C)(_:DW K C f)(_:fs.lookup f=ι v)(_:Q v H)
def XW(K:aH)(b:TE)(f:Str):TE:=λσ H Q=>b σ H λx H1=>Sfl K f x H1 Q
def aVc(K:aH)(b O:TE)(f:Str):TS:=λD σ H=>O σ H λy H1=>b σ H1 λx H2=>∃a C dx fs,x=.ref a/\H2 a=ι (.ins C dx fs)/\Φ K C/\DW K C f/\fs[_]<1000/\
 D.nx σ (upd H2 a (.ins C dx (lW f y fs)))
def aRu(O:PE X e ta)(hb:û e f X.env (eval e X.env)=eval e X.env):PE X (.Attribute e f pos) (XW X.K ta f):=by
 show λb s σ H Q I h=>ayy hb (aY (O b s σ H _ I h) λu o zz=>?_);let⟨x,H1,j,d,a,C,dx,fs,v,ex,i,c,n,l,q⟩:=zz;subst ex;obtain rfl:u=ß a:=d;show azH j i c n l λk m I2 g=>{v,H1,I2,g,(q)}
def ax2(ha:PE X o ta)(hv:PE X O Y)(hs:ĭ O (ι (.Attribute o f U)) pos.line X.env=pure false):PS X (.Assign [.Attribute o f U] O pos) (aVc X.K ta Y f):=by
 show λb s σ H D I h=>plainObj_wpAny_Assign_Attribute (aY (hv b s σ H _ I h) λu d ⟨y,H1,m,ry,q⟩=>aY (ha b d σ H1 _ m q) λi p zz=>?_) hs;let⟨x,H2,I2,e,a,C,dx,fs,ex,j,c,n,l,g⟩:=zz;subst ex;obtain rfl:i=ß a:=e;show aQV I2 j c n l ry λs3 k=>{σ,_,k,g}
section
variable {H:Hp}
inductive rP(K:aH)(H:Hp):V->Ã->Prop where
 |non:rP K H .non (.type "NoneType")
 |bl (x:Bool):rP K H (.bl x) (.type "bool")
 |int (i:Int):rP K H (.int i) (.type "int")
 |str (x:Str):rP K H (.str x) (.type "str")
 |flt (x:UInt64):rP K H (.flt x) (.type "float")
 |lst {a:Æ} {xs:τ} (e:H a=xs[2]):rP K H (.ref a) (.type "list")
 |oE {a:Æ} {o:Obj} {xs:τ} (e:H a=ι (.oE o (.lst xs))):rP K H (.ref a) (.type "list")
 |tup {a:Æ} {xs:τ} (e:H a=xs[3]):rP K H (.ref a) (.type "tuple")
 |dK {a:Æ} {kvs:List (Key×V)} (e:H a=ι (.dK kvs)):rP K H (.ref a) (.type "dict")
 |dT {a:Æ} {kvs:List (List Key×V)} (e:H a=ι (.dT kvs)):rP K H (.ref a) (.type "dict")
 |ins {a C dx:Æ} {fs:List (Str×V)} (e:H a=ι (.ins C dx fs)) (cl:Φ K C) (ha:qZ K (.ref C) "__class__"=ι (ι (.builtin "object.__class__")))
   (hn:W.specialIn K (.builtin "object.__class__") "__get__"=ι (ι (.builtin "getset_descriptor.__get__"))) (htk:W.takesIn K (.builtin "object.__class__")=ι true)
   (hm:W.mroIn K C (.type "object")=ι true):rP K H (.ref a) (.ref C)
def aHO(I:Inv X π σ H s)(U:RelV x u)(ty:rP X.K H x t)(e:W.kitOne X.K t c=ι b)(h:∀tk,Q (.bool b) {s with toks:=tk}):
  Ô X[12] A (call (.builtin "isinstance") [u,c]) Q E s:=by
 cases ty with
 |non=>cases (show u=Ŀ from U);show u6 W.kitx_none I.f9 ö e (λz=>nomatch z) h
 |bl y=>cases (show u=è y from U);show u6 W.kitx_bool I.f9 ö e (λz=>nomatch z) h
 |int i=>let⟨t,q⟩:=(show ∃t,u=Ĳ i t from U);cases q;show u6 W.kitx_int I.f9 ö e (λz=>nomatch z) h
 |str y=>let⟨t,q⟩:=(show ∃t,u=Ē y t from U);cases q;show u6 W.kitx_str I.f9 ö e (λz=>nomatch z) h
 |flt y=>let⟨t,q⟩:=(show ∃t,u=ů y t from U);cases q;show u6 W.kitx_float I.f9 ö e (λz=>nomatch z) h
 |@lst a xs ea=>
  cases (show u=ß a from U);let⟨_,_,n,_,h1⟩:=(show gG X.prog X.w H s.heap a (.lst xs)from I.hok a _ ea);show u6 W.kitx_list I.f9 {_,h1,rfl} e (λz=>nomatch z) h
 |@oE a ob xs ea=>
  cases (show u=ß a from U);let⟨_,_,_,n,_,h1⟩:=(show gG X.prog X.w H s.heap a (.oE ob (.lst xs))from I.hok a _ ea);show u6 W.kitx_list I.f9 {_,h1,rfl} e (λz=>nomatch z) h
 |@tup a xs ea=>
  cases (show u=ß a from U);let⟨_,_,_,p⟩:=(show gG X.prog X.w H s.heap a (.tup xs)from I.hok a _ ea);ext o h1 h2 _ p;show u6 W.kitx_tuple I.f9 {o,h1,(h2)} e (λz=>nomatch z) h
 |@dK a kvs ea=>
  cases (show u=ß a from U);let⟨_,_,vs,_,p⟩:=(show gG X.prog X.w H s.heap a (.dK kvs)from I.hok a _ ea);ext o d f h1 h2 _ p;show u6 W.kitx_dict I.f9 {o,h1,(h2.1)} e (λz=>nomatch z) h
 |@dT a kvs ea=>
  cases (show u=ß a from U);let⟨_,_,xs,_,o,d,f,h1,h2,_⟩:=(show gG X.prog X.w H s.heap a (.dT kvs)from I.hok a _ ea);show u6 W.kitx_dict I.f9 {o,h1,(h2.1)} e (λz=>nomatch z) h
 |@ins a C dx fs ea cl ha hn htk hm=>
  cases (show u=ß a from U);let⟨j,O,_⟩:=Q0 I.hok ea;ext g J _ O.look;show u6 (W.kitx_own (cl.get _) cl.hd ha hn htk hm) I.f9 J e (λz=>nomatch z) h
end
section
variable {k:Nat}{A:î}{C:Æ}{us:List Ã}{kw:List (Str×Ã)}
structure dM(k:Nat)(A:î):Prop where
 hd:A.handled=ν
 dp:A.depth+3*k+105<recursionLimit
 un:A.units+16*k+200<š
def dM.mono(r:dM k A)(h:j<=k):dM j A:={r.hd,let:=r.dp;⋯,let:=r.un;⋯}
theorem dM.deeper{k:Nat}{A:î}(r:dM (k+1) A)(env:Env):dM k (A.deeper env):=
 {r.hd,by let:=r.dp;show A.depth+1+3*k+105<_;lia,by let:=r.un;show A.units+3+16*k+200<_;lia}
def aQx:(A.under (.builtin "type.__call__" {.ref C::us,kw})).depth=A.depth+1:=by
 first|rfl|simp[V2,Code.weight,Code.isCreation,Code.isGuard,Code.isCaller,Code.frames,ũ,guardIds]
def aOX:(A.under (.builtin "type.__call__" {.ref C::us,kw})).units=A.units+1:=by
 first|rfl|simp[V2,Code.cUnits,Code.frames,ũ]
def dM.make{k:Nat}{A:î}(r:dM (k+1) A)(C:Æ)(us:List Ã)(a:List (Str×Ã)):dM k (A.under (.builtin "type.__call__" {.ref C::us,a})):=
 {r.hd,by let:=r.dp;rw[aQx,1],by let:=r.un;rw[aOX,1]}
theorem dM.depth{k:Nat}{A:î}(r:dM k A):A.depth<recursionLimit:=let:=r.dp;⋯
theorem dM.units{k:Nat}{A:î}(r:dM k A):A.units+64<š:=let:=r.un;⋯
def dM.aj9(r:dM k A):A.units<š:=let:=r.un;⋯
def zu:TA:=λ_ H Q=>Q [] H
def DN(a:TE)(tr:TA):TA:=λσ H Q=>a σ H λx H1=>tr σ H1 λxs H2=>Q (x::xs) H2
end
section
variable {t:TA}
def jF:PA X [] zu:=λ_ _ _ _ H Q I h=>YD {[],H,I,.nil,h}
def xW(ha:PE X e te)(hr:PA X es t)(O:Ò (e::es) X.env=(false,eval e X.env)::Ò es X.env:=by rfl):PA X (e::es) (DN te t):=by
 intro pos a s σ H Q I h;rw[O,!Ô _ _ (spliced ((false,eval e X.env)::ó pos (Ò es X.env))) _ _ s];show Yz (aY (ha a s σ H _ I h) λu b zz=>?_);let⟨x,H1,i,d,g⟩:=zz;show aY (hr pos a b σ H1 _ i g) λus j ⟨xs,H2,I2,c,f⟩=>{x::xs,H2,I2,.cons d c,f}
inductive a_(xs:τ)(o:HO)(H:Hp)(Q:VK):Prop|mk(_:xs[_]<=Ê)(_:∀p,H p=ν->Q (.ref p) (upd H p o))
def aGI(t:TA):TE:=λσ H Q=>t σ H λxs H1=>a_ xs (.tup xs) H1 Q
def aGv(t:TA):TE:=λσ H Q=>t σ H λxs H1=>a_ xs (.lst xs) H1 Q
def iu{O}(h:PA X es t):PE X (.Tuple es O pos) (aGI t):=by
 show λd s σ H Q I hq=>wpAny_Tuple_spliced (aY (h pos d s σ H _ I hq) λus a ⟨xs,H1,c,r,z,q⟩=>{#v[-r[_],!z],?_});let f:H1 a[1]=ν:=c.hok.fresh (aZ _);show{.ref a[1],upd H1 a[1] (.tup xs),c.laid (t':=a.toks) (λb u e=>Ç _ e) (aZ _) ?_,rfl,q _ f};show{z,us,r,{_,Ù _ rfl,rfl,()}}
def fX(h:PA X es t):PE X (.List es pos) (aGv t):=by
 show λd s σ H Q I hq=>wpAny_List_spliced (aY (h pos d s σ H _ I hq) λus a ⟨xs,H1,c,r,z,q⟩=>{#v[-r[_],!z],?_});let f:H1 a[1]=ν:=c.hok.fresh (aZ _);show{.ref a[1],upd H1 a[1] (.lst xs),c.laid (t':=a.toks) (λb u e=>Ç _ e) (aZ _) ?_,rfl,q _ f};show{z,us,0,r,Ù _ rfl}
end
abbrev Sp:=τ->Hp->VK->XK->Prop
abbrev uT:=List Env->Hp->Ó->XK->Ã->Ó->Prop
structure Dt(P:Þ)(w:Ý)(K:aH)(mg:μ)(base:Û)(A:î)(outer:List Env)(s:Ó)(H:Hp):Prop where
 frames:A.frames=ι outer
 mod:Mod K mg base
 bs:∀b o,base.get? b=ι o->s.heap.get? b=ι o/\H b=ν
 zJ:base.objs.size<=s[1]
 uy:s.heap.FunFrames base outer
 B7:∀b∈ż outer,H b=ν
 hok:gO P w H s.heap
 bare:ħ s.gens
 tree:P.given.tree=ν
def CE(outer:List Env)(P:Þ)(w:Ý)(H:Hp)(s:Ó)(Q:VK)(u:Ã)(s':Ó):Prop:=
 ∃v H',s'.os=s.os/\ħ s'.gens/\Un (ż outer) [] H H' s.heap s'.heap/\gO P w H' s'.heap/\RelV v u/\Q v H'
def CR(CX:uT)(outer:List Env)(P:Þ)(w:Ý)(H:Hp)(s:Ó)(Q:VK)(E:XK)(r:Result)(s':Ó):Prop:=
 match r with
 |.ok (.ret u)=>CE outer P w H s Q u s'
 |.ok _=>False
 |.error e=>CX outer H s E e s'
structure mQ(P:Þ)(w:Ý)(K:aH)(mg:μ)(base:Û)(CX:uT)(k:Nat)(f:Æ)(fd:Ć)(ps:List Str)(sp:Sp):Prop where
 len:∀vs H Q E,sp vs H Q E->vs[_]=ps[_]
 run:∀(A:î)(outer:List Env)(s:Ó)(H:Hp)(args:Args)(us:List Ã)(vs:τ)(Q:VK)(E:XK),dM k A->Dt P w K mg base A outer s H->Ζ s fd args (ps.zip us)->Vals vs us->sp vs H Q E->
  Ĝ (model P w) A (.call (.ref f) args) (CR CX outer P w H s Q E) s
theorem mQ.mono{P:Þ}{w:Ý}{K:aH}{mg:μ}{base:Û}{CX:uT}{j k:Nat}{f:Æ}{b:Ć}{ps:List Str}{sp:Sp}(F:mQ P w K mg base CX j f b ps sp)(h:j<=k):
  mQ P w K mg base CX k f b ps sp:={F.len,λA outer s H a us vs Q E hr=>F.run A outer s H a us vs Q E (hr.mono h)}
def Dt.make{P:Þ}{w:Ý}{K:aH}{mg:μ}{base:Û}{A:î}{outer:List Env}{s:Ó}{H:Hp}(e:Dt P w K mg base A outer s H)(C:Æ)(us:List Ã)(a:List (Str×Ã)):
  Dt P w K mg base (A.under (.builtin "type.__call__" {.ref C::us,a})) outer s H:={by first|show e.frames|(simpa[V2,Code.envs,ũ,pushEnvs]using e.frames),e.mod,e.bs,e.zJ,e.uy,e.B7,e.hok,e.bare,e.tree}
section
variable {X:Cx}{π:List (Æ×Obj)}{σ:St}{H:Hp}{s s':Ó}
def Inv.env0(I:Inv X π σ H s):Dt X.prog X.w X.K X.mg X.base X.A X.stack s H:=
 {I.ok.frames,I.ok.mod,I.bs,cD I.ok.zJ I.sz,I.stack,I.PH,I.hok,I.bare,I.ok.tree}
def Inv.after{Q:VK}{u:Ã}(I:Inv X π σ H s)(h:CE X.stack X.prog X.w H s Q u s'):EP X π σ Q u s':=by
 ext v H' os bare un hok r q h;ext c g d t a s';obtain rfl:a=s.os:=os;show{v,H',I.call (h':=c) (g':=g) (d':=d) (t':=t) (ch:=[]) un hok bare (λb z=>È z 0.1),r,q}
end
def Il(sp:Sp)(iW:τ)(E:XK)(t:TA):TE:=λσ H Q=>t σ H λvs H1=>sp (vs++iW) H1 Q E
def TH(C:Æ)(sp:Sp)(iW:τ)(E:XK)(t:TA):TE:=λσ H Q=>t σ H λvs H1=>∀x dx,H1 x=ν->H1 dx=ν->dx≠x->
 sp (.ref x::(vs++iW)) (upd (upd H1 dx (.own x)) x (.ins C dx [])) (λv H2=>v=.non/\Q (.ref x) H2) E
def Binds(K:aH)(a:Ć)(ps:List Str)(O:List Ã):Prop:=
 ∀(s:Ó)(us:List Ã),K.In s.heap->(us++O)[_]=ps[_]->Ζ s a {us,([])} (ps.zip (us++O))
def Binds.all{K:aH}{b:Ć}{ps:List Str}(h:∀us:List Ã,us[_]=ps[_]->ŭ b {us,([])}=pure (ps.zip us)):Binds K b ps []:=λs us _ a=>by
 rw[sU]at a⊢;show .of_eq (h us a)
def Passes(CX:uT)(X:Cx)(E:XK):Prop:=∀(a:List (Æ×Obj))(σ:St)(H:Hp)(s:Ó)(e:Ã)(s':Ó),Inv X a σ H s->CX X.stack H s E e s'->X.xe e s'
section
variable {f C:Æ}
def IL(F:mQ X.prog X.w X.K X.mg X.base CX k f fd ps sp)(hr:dM k X.A)(hb:Binds X.K fd ps O)(hd:Vals iW O)(hx:Passes CX X E)
  (I:Inv X π σ H s)(r:Vals vs us)(h:sp (vs++iW) H Q E):Ô X[12] X.A (call (.ref f) us) (EP X π σ Q) X.xe s:=by
 let a:Vals (vs++iW) (us++O):=r.append hd;let b:(us++O)[_]=ps[_]:=#v[-a[_],!F.len _ _ _ _ h]
 show wpAny_call (œ (F.run X.A X.stack s H {us,([])} (us++O) (vs++iW) Q E hr I.env0 (hb s us I.f9 b) a h) λr s' hq=>?_);cases r with
 |error e=>show hx π σ H s e s' I hq
 |ok fl=>
  cases fl with
  |ret u=>show I.after hq
  |next=>show ò hq
  |brk=>show ò hq
  |cont=>show ò hq
def aG6(F:mQ X.prog X.w X.K X.mg X.base CX k f fd ps sp)(hr:dM k X.A)(hg:Gl X x)(Y:X.mg x=f[4])(hk:su X.K (.ref f)=true)(hb:Binds X.K fd ps ds)(hd:Vals iW ds)(hx:Passes CX X E)
  (ha:PA X (e::es) t)(U:(x==("__debug__":Str))=false:=by decide)(he:Ò (e::es) X.env=(false,eval e X.env)::Ò es X.env:=by rfl)(O:(ó pos (Ò es X.env)).any (·.1)=false:=by rfl):
  PE X (.Call (.Name x p) (e::es) [] pos) (Il sp iW E t):=by
 show λb s σ H Q I h=>í (Ax I hg Y ?_ U);show Uu (h₀:=X.base) I.ok.mod.Fv hk (aY (ha pos b s σ H _ I h) λus c ⟨vs,H1,a,r,q⟩=>{a.f9,?_}) he O;show IL F hr hb hd hx a r q
def aLl(F:mQ X.prog X.w X.K X.mg X.base CX k f fd ps sp)(hr:dM k X.A)(Y:Gl X x)(U:X.mg x=f[4])(hk:su X.K (.ref f)=true)(hb:Binds X.K fd ps ds)(hd:Vals iW ds)(hx:Passes CX X E)
  (O:(x==("__debug__":Str))=false:=by decide):PE X (.Call (.Name x p) [] [] pos) (Il sp iW E zu):=by
 show λa s σ H Q I h=>í (Ax I Y U ?_ O);show W.callWith_K0 I.f9 hk (IL (us:=[]) F hr hb hd hx I .nil h)
structure Mk(K:aH)(C f:Æ):Prop where
 makes:Tn K C=true
 init:qZ K (.ref C) "__init__"=ι f[4]
 fn:W.isFn K (.ref f)=true
 kp:su K (.ref C)=true
def ayB(M:Mk X.K C f)(F:mQ X.prog X.w X.K X.mg X.base CX k f fd ps sp)(hr:dM (k+1) X.A)(hb:Binds X.K fd ps O)(hd:Vals iW O)
  (hx:Passes CX X E)(I:Inv X π σ H s)(r:Vals vs us)
  (h:∀x dx,H x=ν->H dx=ν->dx≠x->sp (.ref x::(vs++iW)) (upd (upd H dx (.own x)) x (.ins C dx [])) (λv H2=>v=.non/\Q (.ref x) H2) E):
  Ô X[12] X.A (call (.ref C) us) (EP X π σ Q) X.xe s:=by
 let hq:=h (s[1]+1) s[1] (I.hok.fresh (vt _)) (I.hok.fresh (aZ _)) (jP (YK _));let I2:=Inv.made (C:=C) I;let a:Vals (V.ref (s[1]+1)::(vs++iW)) (ß (s[1]+1)::(us++O)):=.cons rfl (r.append hd);let d:(ß (s[1]+1)::us++O)[_]=ps[_]:=by
  let e:=a[_];rw[F.len _ _ _ _ hq]at e;show e.symm
 show wpAny_call (aAY (f:=f) I.f9 M.makes M.init (beq_iff_eq.mp M.fn) (œ (F.run _ X.stack _ _ {ß (s[1]+1)::us,[]} (ß (s[1]+1)::(us++O)) _ _ E (hr.make C us [])
  (I2.env0.make C us []) (hb _ (ß (s[1]+1)::us) I2.f9 d) a hq) λr s' hq'=>?_))
 cases r with
 |error e=>show hx π σ _ _ e s' I2 hq'
 |ok fl=>
  cases fl with
  |ret u=>
   let⟨v,H',g,b,ev,c⟩:=I2.after hq';subst ev;show{b,{V.ref (s[1]+1),H',g,rfl,c}}
  |next=>show ò hq'
  |brk=>show ò hq'
  |cont=>show ò hq'
def aSe(M:Mk X.K C f)(F:mQ X.prog X.w X.K X.mg X.base CX k f fd ps sp)(hr:dM (k+1) X.A)(Y:Gl X x)(U:X.mg x=C[4])(hb:Binds X.K fd ps ds)(hd:Vals iW ds)(hx:Passes CX X E)
  (O:(x==("__debug__":Str))=false:=by decide):PE X (.Call (.Name x p) [] [] pos) (TH C sp iW E zu):=by
 show λa s σ H Q I h=>í (Ax I Y U ?_ O);show W.callWith_K0 I.f9 M.kp (ayB (us:=[]) M F hr hb hd hx I .nil h)
end
section
variable {CX:uT}{P:Þ}{w:Ý}{K:aH}{mg:μ}{base:Û}{qual:Str}{scope:ļ}{f:Æ}
structure aM(N P:List Str)(sc:ļ):Prop where
 kind:sc.kind=.function
 co:sc.isCoroutine=false
 gen:sc.isGenerator=false
 nd:N.Nodup
 pre:N.take P[_]=P
 par:∀x∈P,sc.names.lookup x=ι .local∨sc.names.lookup x=ι .cell
 Yl:∀y∈sc.names,y.2≠ .free
theorem JO{kindOf:Str->Option ĕ}:∀{binds:List (Str×Ã)} {m:μ},(∀v,(x,v)∉binds)->bindL kindOf binds m x=m x
 |[],_,_=>rfl
 |(n,v)::r,m,h=>by
  unfold bindL;rw[JO λw hw=>h w (gW _ hw)];split
  .let:x≠n:=by rintro rfl;show h v lH
   simp[this]
  .rfl
theorem Pt{kindOf:Str->Option ĕ}:∀{binds:List (Str×Ã)} {m:μ},(∀v,(x,v)∉binds)->bindC kindOf binds m x=m x
 |[],_,_=>rfl
 |(n,v)::r,m,h=>by
  unfold bindC;rw[Pt λw hw=>h w (gW _ hw)];split
  .rfl
  .let:x≠n:=by rintro rfl;show h v lH
   simp[this]
theorem OC{kindOf:Str->Option ĕ}:∀{P:List Str} {vs:List Ã} {i:Nat} {m:μ},P.Nodup->P[i]?=ι x->vs[i]?=ι v->kindOf x=ι .local->
  bindL kindOf (P.zip vs) m x=ι v
 |[],_,_,_,_,h,_,_=>by simp at h
 |_::_,[],_,_,_,_,h,_=>by simp at h
 |p::P,w::vs,0,m,nd,h1,h2,hk=>by
  simp at h1 h2;subst h1;subst h2;show bindL kindOf ((p,w)::P.zip vs) m p=_;unfold bindL;rw[JO λv hv=>(yF.mp nd).1 (Wd hv).1,Á hk,2]
 |p::P,w::vs,i+1,m,nd,h1,h2,hk=>by
  show bindL kindOf ((p,w)::P.zip vs) m x=_;unfold bindL;show OC (i:=i) (yF.mp nd).2 h1[7] h2[7] hk
theorem Ff{kindOf:Str->Option ĕ}:∀{P:List Str} {vs:List Ã} {i:Nat} {m:μ},P.Nodup->P[i]?=ι x->vs[i]?=ι v->kindOf x≠ι .local->
  bindC kindOf (P.zip vs) m x=ι v
 |[],_,_,_,_,h,_,_=>by simp at h
 |_::_,[],_,_,_,_,h,_=>by simp at h
 |p::P,w::vs,0,m,nd,h1,h2,hk=>by
  simp at h1 h2;subst h1;subst h2;show bindC kindOf ((p,w)::P.zip vs) m p=_;unfold bindC;rw[Pt λv hv=>(yF.mp nd).1 (Wd hv).1,Â hk,2]
 |p::P,w::vs,i+1,m,nd,h1,h2,hk=>by
  show bindC kindOf ((p,w)::P.zip vs) m x=_;unfold bindC;show Ff (i:=i) (yF.mp nd).2 h1[7] h2[7] hk
def start(N:List Str)(vs:τ):St:=vs.map ι++dN (N[_]-vs[_]) ν
def Gi(CX:uT)(P:Þ)(w:Ý)(K:aH)(mg:μ)(base:Û)(N:List Str)(qual:Str)(scope:ļ)(f:Æ)(cd:Ã)(A:î)(outer:List Env)(s:Ó)(H:Hp)(E:XK):Cx where
 prog:=P
 w:=w
 K:=K
 mg:=mg
 base:=base
 A:=A.deeper (Ġ qual scope s[1] f cd)
 N:=N
 s₀:=s
 H₀:=H
 env:=Ġ qual scope s[1] f cd
 outer:=outer
 stack:=Ġ qual scope s[1] f cd::outer
 ex:=[]
 calm:=true
 fn:=λ_=>true
 pn:=[]
 xe:=λe s'=>Ô (model P w) (A.deeper (Ġ qual scope s[1] f cd)) (leaving (Ġ qual scope s[1] f cd) e) (λ_ s''=>CX outer H s E e s'') (λe' s''=>CX outer H s E e' s'') s'
def LM{sc:ļ}{n:Nat}(h:sc.names.lookup x=ι .cell):∃c,(cellsFrom n sc.names []).lookup x=ι c:=by
 let q:=Ct sc.names n [] (.inl h);show Lu.mp q
def aJw{N ps:List Str}{cd:Ã}{A:î}{outer:List Env}{s U:Ó}{H:Hp}{E:XK}{us:List Ã}{vs:τ}{cb:Bool}
  (S:aM N ps scope) (hd:cb=true->A.handled=ν) (O:Dt P w K mg base A outer s H) (Y:vs[_]=ps[_]) (r:Vals vs us)
  (x:InCallC s s[1] (bindL (Ġ qual scope s[1] f cd).kindOf (ps.zip us) λ_=>ν) (cellsFrom (s[1]+1) scope.names []) (bindC (Ġ qual scope s[1] f cd).kindOf (ps.zip us) λ_=>ν) U):
  Inv {Gi CX P w K mg base N qual scope f cd A outer s H E with calm:=cb} [] (start N vs) H U:=by
 let l:ps[_]<=N[_]:=by let:=Ï GB S.pre;rw[jg]at this;lia
 ext h1 tk rfl hk x.done;let g:∀b:Æ,b∉(Gi CX P w K mg base N qual scope f cd A outer s H E).ex:=λb z=>È (show b∈([]:List Æ)from z) 0.1;show{{O.mod,S.kind,rfl,rfl,aZ _,λy z c h1 h2=>?_,λy hy=>?_,λy c _ h=>?_,hd,î.frames_deeper O.frames,.inr {rfl,(rfl)},λb z=>È z (g b),O.bs,O.zJ,λb _ _=>g b,λb z=>È z (g b),O.uy,O.B7,O.tree,{_,(),S.gen,S.co,rfl,rfl}},
  rfl,O.bare,Un.kept hk,{_,x.toInCall.ns,λi y v h1 h2 h3=>?_},λy c h=>{_,x.cell y c h},O.hok.fresh (aZ _),λy c h=>?_,λp hp=>È (show p∈([]:List (Æ×Obj))from hp) 0.1,O.hok.kept hk,?_}
 .exact name_of_addr x.apart (Ad h1) (Ad h2)
 .let hy:scope.names.lookup y=ι .cell∨scope.names.lookup y=ι .free:=hy;rcases hy with hy|hy
  .exact LM hy
  .exact È rfl (S.Yl _ (Ad hy))
 .exact gQ (x.above y c (Ad h))
 .let hi:i<vs[_]:=by
   unfold start at h2;by_cases hi:i<vs[_]
   .exact hi
   .rw[á hi[7]]at h2;rw[List.getElem?_replicate]at h2;split at h2<;>cases h2
  let ha:vs[i]?=ι v:=by
   unfold start at h2;rw[ê hi[7],Î]at h2;cases e:vs[i]? with
   |none=>rw[e]at h2;cases h2
   |some a=>rw[e]at h2;cases h2;rfl
  let⟨u,hu,j⟩:=r.get ha;let hp:ps[i]?=ι y:=by
   rw[<-S.pre,ø 0.6,!h1]
  let d:ps.Nodup:=#v[-S.pre,!S.nd.sublist (List.take_sublist _ _)]
  show{u,j,?_};rcases S.par y (Ð hp)with k|k
  .exact .inl {k,OC d hp hu k}
  .obtain⟨c,e⟩:=LM (n:=s[1]+1) k;show .inr {.inl k,c,e,?_};let q:=x.cell y c e;rw[Ff d hp hu (by show scope.names.lookup y≠_;rw[k,3])]at q;show q
 .exact O.hok.fresh (gQ (x.above y c (Ad h)))
 .unfold start;show _=N[_];rw[fJ,aA,Gk,1]
def aHg{k:Nat}{name:Str}{U:Arguments}{body:List Ö}{dV kV doc pm O ct oc:Ã}{an od:Option Æ}
  {osl:Array (Option Ã)} {N ps:List Str} {sp:Sp} (lk:K.lookup f=ι {oc,od,.func (rY name qual U body scope dV kV doc pm an O ct),osl}) (hcd:Ho K O qual=true) (S:aM N ps scope)
  (len:∀vs H Q E,sp vs H Q E->vs[_]=ps[_])
  (Y:∀(A:î)(outer:List Env)(s:Ó)(H:Hp)(vs:τ)(Q:VK)(E:XK),dM k (A.deeper (Ġ qual scope s[1] f O))->sp vs H Q E->
   ∃t,m8 (Gi CX P w K mg base N qual scope f O A outer s H E) body t/\t (.fn Q) (start N vs) H):
  mQ P w K mg base CX (k+1) f (rY name qual U body scope dV kV doc pm an O ct) ps sp:=by
 show{len,λA outer s H p us vs Q E hr i hb r g=>?_};let B:=len _ _ _ _ g;let z:K.In s.heap:=i.mod.Fv.keeps λb o e=>(i.bs b o e).1;let l:s.heap.NoLimit:=i.mod.nolimit.keeps λb o e=>(i.bs b o e).1;let c:∀y∈ps.zip us,scope.names.lookup y.1=ι .local∨(scope.names.lookup y.1=ι .cell/\((cellsFrom (s[1]+1) scope.names []).lookup y.1).isSome=true):=λ⟨n,v⟩ hy=>by
  rcases S.par n (Wd hy).1 with q|q
  .exact .inl q
  .exact .inr {q,Ct _ _ _ (.inl q)}
 show codeAny_call_function hr.depth (z _ _ lk) rfl S.co S.gen rfl (W.codeRec_of z hcd) (hb _ _ _ _ ?_);show wpAny_newFunctionEnv_cells S.kind c λenv C m x=>?_;subst C;show{l.keeps x.toInCall.keep,codeAny_func ?_};let⟨t,ht,hq⟩:=Y A outer s H vs Q E (hr.deeper _) g;let I:Inv (Gi CX P w K mg base N qual scope f O A outer s H E) [] (start N vs) H m:=aJw (cb:=true) S (λ_=>hr.hd) i B r x;show ð (ht [] m (start N vs) H _ I hq) (λfl s' d=>?_) λe s' d=>d;let fin:∀{a:St} {H':Hp} {v:V} {u:Ã},Inv (Gi CX P w K mg base N qual scope f O A outer s H E) [] a H' s'->RelV v u->Q v H'->CE outer P w H s Q u s':=
  λ{a H' v u} J j q=>{v,H',J.os,J.bare,J.base,J.hok,j,(q)}
 cases fl with
 |ret u=>
  ext v a H' J j q d;show fin J j q
 |next=>
  ext a H' J q d;show fin (v:=V.non) (u:=Ŀ) J rfl q
 |brk=>
  ext _ _ _ q d;show ò q
 |cont=>
  ext _ _ _ q d;show ò q
end
section
variable {X:Cx}{x:Str}{p pos:Pos}{e:ü}{es:List ü}{t:TA}{id:String}{r:τ->Hp->VK->Prop}
def Ϟ(r:τ->Hp->VK->Prop)(t:TA):TE:=λσ H Q=>t σ H λvs H1=>r vs H1 Q
def fW(hc:jt X (.builtin id) r)(hg:Gl X x)(Y:X.mg x=ν)(hv:Ü x=ι (.builtin id))(ha:PA X (e::es) t)(hn:x≠ "__name__" := by decide)(U:(x==("__debug__":Str))=false:=by decide)
  (he:Ò (e::es) X.env=(false,eval e X.env)::Ò es X.env:=by rfl) (O:(ó pos (Ò es X.env)).any (·.1)=false:=by rfl):PE X (.Call (.Name x p) (e::es) [] pos) (Ϟ r t):=by
 show λa s σ H Q I h=>í (uz I hg Y hv ?_ hn U);show aHF (aY (ha pos a s σ H _ I h) λus b ⟨vs,H1,f,c,d⟩=>hc a b σ H1 vs us Q f c d) he O
def dI(hc:jt X (.type T) r)(hg:Gl X x)(Y:X.mg x=ν)(hv:Ü x=ι (.type T))(ha:PA X (e::es) t)(hn:x≠ "__name__" := by decide)(U:(x==("__debug__":Str))=false:=by decide)
  (he:Ò (e::es) X.env=(false,eval e X.env)::Ò es X.env:=by rfl)(O:(ó pos (Ò es X.env)).any (·.1)=false:=by rfl):PE X (.Call (.Name x p) (e::es) [] pos) (Ϟ r t):=by
 show λa s σ H Q I h=>í (uz I hg Y hv ?_ hn U);show xr (aY (ha pos a s σ H _ I h) λus b ⟨vs,H1,f,c,d⟩=>hc a b σ H1 vs us Q f c d) he O
end
end L2
namespace HT
open PySem PyProof.Rows
section
open PySem.SeqAt
open PySem.AutoSeq1 (wpAny_loadPart')
open PySem.MeetsSeq PySem.MeetsSeq2 PySem.MeetsSeq3
end
section
variable {prog:Þ}{w:Ý}{A:î}{E:χ}{s:Ó}
section
variable {t sl:Æ}{Q:χ}{vl vu:Ã}{lo hi:Option Int}
def azO(ht:Ľ s.heap t vs.toArray)(hb:Ľ s.heap b ws.toArray)(hv:vs≠[])
  (h1:ws=[]->Q (.ref t) s)(h2:ws≠[]->Q (.ref s[1]) {s with heap:=s.heap.push {cls:=.type "tuple",data:=.seq (vs++ws).toArray}})
  (hsz:vs[_]+ws[_]<=Ê):Ô (model prog w) A (ç .Add (.ref t) (.ref b)) Q E s:=by
 obtain⟨⟨cls,m,O,k⟩,i,hc,n,hd⟩:=id ht;obtain⟨⟨o,g,j,c⟩,a,f,l,d⟩:=id hb;simp only at hc hd f d;subst hc hd f d;let e:vs.toArray++ws.toArray=(vs++ws).toArray:=0.1
 by_cases hw:ws=[]
 .exact Ε {_,i,rfl} {_,a,rfl} ř ŷ ZG Xk (Yg _ _)
   (tuple_addW1 t b vs.toArray ws.toArray n l m g k c hv[7] (by simp[hw])) {i,a,h1 hw}
 .refine Ε {_,i,rfl} {_,a,rfl} ř ŷ ZG Xk (Yg _ _)
   (tuple_addW2 t b vs.toArray ws.toArray n l m g k c hv[7] hw[7] #v[gC,gC,!hsz]) {i,a,?_}
  rw[e,!h2 hw]
def cM(n d:Nat):Option Int->Nat
 |none=>d
 |some v=>if v<0 then(v+n[0]).toNat else min v.toNat n
def wR(n d:Nat):cM n d ν=d:=rfl
def qR(n d k:Nat):cM n d (ι (k:Int))=min k n:=by
 show(if(k:Int)<0 then(k[0]+n[0]).toNat else min (k:Int).toNat n)=min k n;rw[Â 0.6,dg]
def azU(n d:Nat)(hd:d<=n)(o:Option Int):cM n d o<=n:=by
 cases o with
 |none=>show hd
 |some v=>
  show(if v<0 then(v+n[0]).toNat else min v.toNat n)<=n;by_cases hv:v<0
  .rw[Á hv];lia
  .rw[Â hv];show Ds _ _
def s?(v:Int)(n d:Nat):(if v<0 then max (v+n[0]) 0 else min v (n:Int))=(cM n d (ι v):Nat)[0]:=by
 show(if v<0 then max (v+n[0]) 0 else min v (n:Int))=((if v<0 then(v+n[0]).toNat else min v.toNat n):Nat)[0];by_cases hv:v<0
 .simp only[Á hv];simp_all
 .simp only[Â hv];grind -ring
def aKd(lo hi:Option Int)(n:Nat):Ė lo hi 1 (n:Int)=((cM n 0 lo:Nat)[0],(cM n n hi:Nat)[0]):=by
 let h1:¬((1:Int)<0):=0.3;unfold Ė;simp only[h1,if_false];show Prod.ext ?_ ?_
 .cases lo with
  |none=>rfl
  |some v=>show s? v n 0
 .cases hi with
  |none=>rfl
  |some v=>show s? v n n
def aHA(i j:Nat):þ (i:Int) (j:Int) 1=j-i:=by
 unfold þ;let h1:(1:Int)>0:=0.3;simp only[h1,if_true,Qw];split<;>simp_all
def We{Q:Option Int->Ó->Prop}(p:ń v o)(h:Q o s):Ô (model prog w) A (ϒ v) Q E s:=by
 cases p with
 |none=>show slicePart_none h
 |int i t=>show slicePart_int h
def Su{n:Nat}{Q:Int×Int×Nat->Ó->Prop}(O:s.heap.IsSliceOf sl vl vu .none)(pl:ń vl lo)(pu:ń vu hi)
  (h:Q ((cM n 0 lo:Nat)[0],1,cM n n hi-cM n 0 lo) s):Ô (model prog w) A (Ł (.ref sl) (pure (n:Int))) Q E s:=by
 let⟨os,a,c,b⟩:=id O;unfold Ł Builtin.Slice.sliceFields;show Å (Å (Ξ a b (x:=vl) rfl (Å (Ξ a b (x:=vu) rfl (Å (Ξ a b (x:=.none) rfl (Ñ ?_)))))));show Å (slicePart_none ?_);show Ô _ _ (if((1:Int)==0)=true then _ else _) _ _ s;rw[Â 0.3,!Å (We pl (Å (We pu (Å (Ñ ?_)))))];show Ô _ _ (match Ė lo hi 1 (n:Int)with|(lo,hi)=>pure (lo,(1:Int),þ lo hi 1)) _ _ s
 rw[aKd lo hi n,!Ô _ _ (pure ((cM n 0 lo:Nat)[0],(1:Int),þ (cM n 0 lo:Nat)[0] (cM n n hi:Nat)[0] 1)) _ _ s];rw[aHA,!Ñ h]
def aW6(xs:Array Ã)(i k:Nat):((dY k).filterMap λ(m:Nat)=>xs[(i[0]+m[0]*1).toNat]?).toArray=((xs.toList.drop i).take k).toArray:=by
 let e:(λ(m:Nat)=>xs[(i[0]+m[0]*1).toNat]?)=λm=>xs[i+m]?:=by
  funext m
  let:(i[0]+m[0]*1).toNat=i+m:=⋯;rw[this]
 rw[e];let:=pick_run xs i k;rw[List.filterMap_map]at this;let a:((λx=>xs[x]?)∘λx=>i+x)=λm=>xs[i+m]?:=rfl;rw[a]at this;rw[this]
def aJp{items:Array Ã}(ht:Ľ s.heap t items)(O:s.heap.IsSliceOf sl vl vu .none)(pl:ń vl lo)(pu:ń vu hi)
  (hw:¬(cM items.size 0 lo=0/\cM items.size items.size hi=items.size))
  (h:Q (.ref s[1]) {s with heap:=s.heap.push {cls:=.type "tuple",data:=.seq ((items.toList.drop (cM items.size 0 lo)).take (cM items.size items.size hi-cM items.size 0 lo)).toArray}})
  (hsz:items.size<=Ê):Ô (model prog w) A (Ĥ (.ref t) (.ref sl)) Q E s:=by
 let a:sizeOk (.seq ((items.toList.drop (cM items.size 0 lo)).take (cM items.size items.size hi-cM items.size 0 lo)).toArray):=by
  show((items.toList.drop (cM items.size 0 lo)).take (cM items.size items.size hi-cM items.size 0 lo)).toArray.size<=Ê;rw[gC,jg,vB,ag,1]
 let j:cM items.size items.size hi<=items.size:=azU _ _ (aZ _) hi;let⟨os,b,d,f⟩:=id O;let e:s.TypeIs (.ref sl) "slice" := {os,b,(d)};unfold Ĥ;try with_reducible show é ?_
 first|show Å (Ñ ?_)|skip
 show Å (υ ht.typeIs 0.3 ?_);show Å (ī (name:=õ "__getitem__") ht.typeIs Hs
  (Ϗ Hs ht.typeIs Χ ?_ (η _ _)))
 show Ô _ _ (ŀ (.ref t)>>=_) _ _ s;show Å (tupleItemsOf_ ht ?_);show Å (Œ e ?_);rw[Á 0.3,!Å (Su O pl pu ?_)];let c:¬(((cM items.size 0 lo:Nat)[0]==0&&(1:Int)==1&&(cM items.size items.size hi-cM items.size 0 lo)==items.size)=true):=by
  intro q;rw[tH,tH]at q;let i:((cM items.size 0 lo:Nat):Int)=0:=eq_of_beq q.1.1;let g:cM items.size items.size hi-cM items.size 0 lo=items.size:=eq_of_beq q.2;show hw {0.6,0.6}
 show Ô _ _ (if((cM items.size 0 lo:Nat)[0]==0&&(1:Int)==1&&(cM items.size items.size hi-cM items.size 0 lo)==items.size)=true then _ else _) _ _ s;rw[Â c,aW6];first
  |show Å (m:=ā _) (ĉ (Ñ {(),Ñ h}) a)
  |show Å (m:=ā _) (ĉ (Å (Ñ (Ñ {(),Ñ h}))) a)
  |show Å (Å (m:=ā _) (ĉ (Ñ (Ñ {(),Ñ h})) a))
  |show Å (Å (m:=ā _) (ĉ (Ñ {(),Ñ h}) a))
end
end
end HT
namespace L2
open PySem PySem.Spec PyProof.Rows
abbrev TO:=St->Hp->(Option Int->Hp->Prop)->Prop
def PO(X:Cx)(e:Option ü)(t:TO):Prop:=
 ∀a s σ H (Q:Option Int->Hp->Prop),Inv X a σ H s->t σ H Q->
  Ô X[12] X.A (evalPart e X.env) (λu s'=>∃o H',Inv X a σ H' s'/\ń u o/\Q o H') X.xe s
def aHj:TO:=λ_ H Q=>Q ν H
inductive aJY(x:V)(H:Hp)(Q:Option Int->Hp->Prop):Prop|mk(i:Int)(_:x=.int i)(_:Q (ι i) H)
def aLM(t:TE):TO:=λσ H Q=>t σ H λx H1=>aJY x H1 Q
def intsAre_of:∀{us:List Ã},Vals ns[11] us->Ŋ us ns:=by
 induction ns with
 |nil=>intro us r;rw[ub]at r;cases r;show .nil
 |cons n ns ih=>
  intro us r;rw[jK]at r;cases r with
  |cons a r2=>
   ext t e a;subst e;show .cons n t (ih r2)
section
variable {X:Cx}{e:ü}{te:TE}{lo hi:Option ü}{tl th:TO}{pos p2:Pos}
def lF:PO X ν aHj:=by
 intro a s σ H Q I h;rw[evalPart_none,!Ñ {ν,H,I,.none,h}]
def jz(h:PE X e te):PO X (ι e) (aLM te):=by
 intro a s σ H Q I hw;rw[evalPart_some,!aY (h a s σ H _ I hw) λu f zz=>?_];let⟨x,H1,d,b,c⟩:=zz;ext i rfl q c;ext t rfl b;show{ι i,H1,d,.int i t,q}
def rA(X:Cx)(r:V->Option Int->Option Int->Hp->VK->Prop):Prop:=
 ∀a s σ H (x:V) (v c b:Ã) (lo hi:Option Int) (d:Æ) (Q:VK),Inv X a σ H s->RelV x v->s.heap.IsSliceOf d c b .none->ń c lo->ń b hi->r x lo hi H Q->
  ∃T e,Ū (.type T) "__getitem__" = pure (ι (.builtin e))/\s.TypeIs v T/\Ô X[12] X.A (Ĥ v (.ref d)) (EP X a σ Q) X.xe s
def rA.or(h:rA X r)(h':rA X r'):rA X (λx lo hi H Q=>r x lo hi H Q∨r' x lo hi H Q):=by
 intro a s σ H x v c b lo hi d Q I e g f pu q;rcases q with q|q
 .exact h a s σ H x v c b lo hi d Q I e g f pu q
 .exact h' a s σ H x v c b lo hi d Q I e g f pu q
def tSl(r:V->Option Int->Option Int->Hp->VK->Prop)(te:TE)(tl a:TO):TE:=λσ H Q=>te σ H λx H1=>tl σ H1 λl H2=>a σ H2 λu H3=>r x l u H3 Q
def jJ{r:V->Option Int->Option Int->Hp->VK->Prop}(hr:rA X r)(U:PE X e te)(O:PO X lo tl)(hu:PO X hi th):PE X (.Subscript e (.Slice lo hi ν p2) pos) (tSl r te tl th):=by
 show λa s σ H Q I h=>Subscript_ (aY (U a s σ H _ I h) λv g zz=>?_);let⟨x,H1,y,i,m⟩:=zz;show wpAny_Slice (aY (O a g σ H1 _ y m) λd f ⟨l,H2,I2,n,k⟩=>aY (hu a f σ H2 _ I2 k) λc s3 zz=>?_);let⟨u,H3,w,pu,j⟩:=zz;rw[evalPart_none,!Ñ ?_];let t:Inv X a σ H3 {s3 with heap:=s3.heap.push {cls:=.type "slice",data:=.fields #[d,c,.none]}}:=w.kept (t':=s3.toks) λb ob q=>Ç _ q;let⟨T,z,p,ht,o⟩:=hr a {s3 with heap:=s3.heap.push {cls:=.type "slice",data:=.fields #[d,c,.none]}} σ H3 x v d c l u s3[1] Q t i (aXm ..) n pu j;show Ô X[12] X.A (Ŷ e (.Slice lo hi ν p2) v (.ref s3[1])) (EP X a σ Q) X.xe {s3 with heap:=s3.heap.push {cls:=.type "slice",data:=.fields #[d,c,.none]}};show tail_any (ops:=[.ref s3[1],v]) ht p o (by with_unfolding_all rfl)
def fP(xs:τ)(lo hi:Option Int):τ:=(xs.drop (HT.cM xs[_] 0 lo)).take (HT.cM xs[_] xs[_] hi-HT.cM xs[_] 0 lo)
def ϸ(xs:τ)(lo hi:Option Int):(fP xs lo hi)[_]<=xs[_]:=by
 unfold fP;rw[jg,vB,1]
def azW(K:aH):V->Option Int->Option Int->Hp->VK->Prop:=λx lo hi H Q=>∃a xs,x=.ref a/\ao K H a xs/\
 ¬(HT.cM xs[_] 0 lo=0/\HT.cM xs[_] xs[_] hi=xs[_])/\∀p,H p=ν->Q (.ref p) (upd H p (.tup (fP xs lo hi)))
def aJs:rA X (azW X.K):=by
 intro i s σ H x v k j lo hi l Q I e g f pu h;ext a xs rfl hx hw q h;cases e;let⟨d,r,ht,hz⟩:=I.tuple hx;let c:d.toArray.size=xs[_]:=#v[gC,!r[_].symm]
 show{"tuple",_,Hs.lookup,ht.typeIs,HT.aJp ht g f pu #v[c,!hw] ?_ #v[c,!hz]};rw[c,!{.ref s[1],_,I.laid (t':=s.toks) (o:=.tup (fP xs lo hi)) (λb ob q=>Ç _ q) (aZ _) ?_,rfl,q _ (I.hok.fresh (aZ _))}];show{cD (ϸ xs lo hi) hz,_,(r.drop (HT.cM xs[_] 0 lo)).take (HT.cM xs[_] xs[_] hi-HT.cM xs[_] 0 lo),ĳ _ _}
def az5(K:aH):R2:=λx y H Q=>∃a b xs ys,x=.ref a/\y=.ref b/\ao K H a xs/\ao K H b ys/\xs≠[]/\xs[_]+ys[_]<=Ê/\
 (ys=[]->Q (.ref a) H)/\(ys≠[]->∀p,H p=ν->Q (.ref p) (upd H p (.tup (xs++ys))))
def Vals.Dw(r:Vals xs us):us=[]↔xs=[]:=by
 cases r with
 |nil=>simp
 |cons _ _=>simp
def aGW:dj X (ç .Add) (az5 X.K):=by
 intro k s σ H x y v u Q I f ry h;ext a b xs ys rfl rfl ha hb hx hz i g h;cases f;cases ry;let⟨j,d,p1,_⟩:=I.tuple ha;let⟨e,c,p2,_⟩:=I.tuple hb;show HT.azO p1 p2 (λz=>hx (d.Dw.mp z)) (λz=>{.ref a,H,I,rfl,i (c.Dw.mp z)}) (λz=>?_) #v[-d[_],-c[_],!hz];show{.ref s[1],_,I.laid (t':=s.toks) (o:=.tup (xs++ys)) (λb ob q=>Ç _ q) (aZ _) ?_,rfl,g (λw=>z (c.Dw.mpr w)) _ (I.hok.fresh (aZ _))};show{#v[fJ,!hz],_,d.append c,ĳ _ _}
end
def xJ(n:Nat)(i:Int):Option Nat:=if 0<=i then(if i<n then ι i.toNat else ν)else if -n[0]<=i then ι (i+n).toNat else ν
def jE{α:Type}(xs:List α)(i:Int):Option α:=(xJ xs[_] i).bind λj=>xs[j]?
def d_(h:xJ n i=ι j):seqIndex? i n=ι j/\j<n/\-n[0]<=i/\i<n:=by
 unfold xJ at h;by_cases h0:0<=i
 .rw[Á h0]at h;by_cases h1:i<n
  .rw[Á h1]at h;let e:i.toNat=j:=nQ h;show{#v[Ρ h0 h1,e],⋯,⋯,h1}
  .rw[Â h1]at h;cases h
 .rw[Â h0]at h;by_cases h1:-n[0]<=i
  .rw[Á h1]at h;let e:(i+n).toNat=j:=nQ h;show{#v[Δ 0.6 h1,e],⋯,h1,⋯}
  .rw[Â h1]at h;cases h
def sR(h:jE xs i=ι v):∃j,seqIndex? i xs[_]=ι j/\xs[j]?=ι v/\j<xs[_]/\-(xs[_]:Int)<=i/\i<xs[_]:=by
 unfold jE at h;cases e:xJ xs[_] i with
 |none=>rw[e]at h;cases h
 |some j=>
  rw[e]at h;let⟨h1,h2,h3,h4⟩:=d_ e;show{j,h1,h,h2,h3,(h4)}
def yE{j:Nat}(h:xs[j]?=ι v):jE xs (j:Int)=ι v:=by
 let a:j<xs[_]:=(Ú.mp h).1;let e:xJ xs[_] (j:Int)=ι j:=by
  unfold xJ;rw[Á 0.6,Á 0.8,2]
 unfold jE;rw[e,!h]
def Ki(b:ü):Prop:=∀o i,Š b false o i=operate [o,i] (Ĥ o i)
def qD(X:Cx)(r:R2):Prop:=
 ∀(b a:ü)(c:List (Æ×Obj))(s:Ó)(σ:St)(H:Hp)(x y:V)(v u:Ã)(Q:VK),Inv X c σ H s->RelV x v->RelV y u->r x y H Q->
  Š a false v u=operate [v,u] (Ĥ v u)->Ô X[12] X.A (Ŷ b a v u) (EP X c σ Q) X.xe s
def wD(X:Cx)(id:String)(r:V->τ->Hp->VK->Prop):Prop:=
 ∀a s σ H (x:V) (xs:τ) (v:Ã) (us:List Ã) (Q:VK),Inv X a σ H s->RelV x v->Vals xs us->r x xs H Q->
  Ô X[12] X.A (call (.builtin id) (v::us)) (EP X a σ Q) X.xe s
section
variable {X:Cx}{a b:ü}
section
variable {r:R2}{π:List (Æ×Obj)}{σ:St}{H:Hp}{s:Ó}{x:V}{v:Ã}
def qD.or(h:qD X r)(h':qD X r'):qD X (λx y H Q=>r x y H Q∨r' x y H Q):=by
 intro a b c s σ H x y v u Q I d ry q e;rcases q with q|q
 .exact h a b c s σ H x y v u Q I d ry q e
 .exact h' a b c s σ H x y v u Q I d ry q e
def aI4(hr:qD X r)(ha:PE X a ta)(hb:PE X b tb)(O:Ki b):PE X (.Subscript a b pos) (C9 r ta tb):=by
 show λc s σ H Q I h=>Subscript_ (bj ha hb I h λv u d x y H2 I2 e ry q=>hr a b c d σ H2 x y v u Q I2 e ry q (O _ _))
def A3(K:aH):R2:=λx y H Q=>∃p xs i v,x=.ref p/\y=.int i/\aj K H p xs/\jE xs i=ι v/\Q v H
def AV(K:aH):R2:=λx y H Q=>∃p xs i v,x=.ref p/\y=.int i/\ao K H p xs/\jE xs i=ι v/\Q v H
def Qr:R2:=λx y H Q=>∃z i c,x=.str z/\y=.int i/\z[_]<=Ê/\jE z[8] i=ι c/\Q (.str {(#[c])}) H
def aAb:qD X (A3 X.K):=by
 intro a b f s σ H x y v u Q I m ry h g;ext p xs i z rfl rfl hq o q h;cases m;ext t rfl ry;let⟨d,r,c,hz⟩:=I.list hq;let⟨j,h1,h2,h3,h4,A⟩:=sR o;let⟨w,k,l⟩:=r.get h2;let n:=r[_];let hn:=Jr;let fin:EP X f σ Q w s:={z,H,I,l,(q)};by_cases h0:0<=i
 .let e:i.toNat=j:=by
   rw[Ρ h0 A]at h1;show nQ h1
  show item_listR c.isList h0 ⋯ (by rw[e];simpa using k) fin g
 .let e:(i+(d.toArray.size:Int)).toNat=j:=by
   rw[Δ ⋯ h4]at h1;rw[gC,<-n,!nQ h1]
  show Γ (x:=w) c.isList.typeIs ϊ.lookup
   (wpAny_getItem_list_neg (Q:=λr s'=>r=w/\EP X f σ Q r s') c.isList ⋯ (by rw[gC]<;>simp_all) ⋯ (by rw[e];simpa using k) {rfl,(fin)}) g
def axY:qD X (AV X.K):=by
 intro a b c s σ H x y v u Q I f ry h k;ext p xs i z rfl rfl hq m q h;cases f;ext t rfl ry;let⟨g,r,d,hz⟩:=I.tuple hq;let⟨j,h1,h2,h3,h4,o⟩:=sR m;let⟨w,n,e⟩:=r.get h2;let l:=r[_];let hn:=Jr;let fin:EP X c σ Q w s:={z,H,I,e,(q)};show Γ (x:=w) d.typeIs slot_tuple_getitem.lookup
  (getItem_tuple (j:=j) (Q:=λr s'=>r=w/\EP X c σ Q r s') d ⋯ ⋯ #v[gC,-l,!h1] n[7] {rfl,(fin)}) k
def aMT:qD X Qr:=by
 intro a b n s σ H x y v u Q I d ry h e;ext z i c rfl rfl hz g q h;ext t rfl d;ext t' rfl ry;let⟨j,h1,h2,h3,h4,k⟩:=sR g;let f:z[8][_]=z[_]:=by simp[Ĕ]
 rw[f]at h1 h4 k;let hn:=Jr;show tail_any (Ğ s z t) slot_str_getitem.lookup (getItem_str (c:=c) (by
  let m:decide (i < -(2^63:Int))=false:=Ì ⋯;let l:decide (i≥2^63)=false:=Ì ⋯;rw[m,l,Bool.or_false]) (by rw[h1];simpa using h2) {.str {(#[c])},H,I.tok _,{()},q}) e
def rIx(K:aH):R2:=λx y H Q=>A3 K x y H Q∨AV K x y H Q∨Qr x y H Q
def aSZ:qD X (rIx X.K):=aAb.or (axY.or aMT)
def aBx(its:List Ã)(n j:Nat)(u:Ã):C4 (·.setIfInBounds j u) {cls:=.type "list",data:=.seq its.toArray n}={cls:=.type "list",data:=.seq (its.set j u).toArray n}:=by
 simp[C4]
theorem Inv.lst{a:List (Æ×Obj)}{σ:St}{H:Hp}{s:Ó}{p:Æ}{xs:τ}(I:Inv X a σ H s)(h:H p=xs[2]):
  ∃(its:List Ã) (n:Nat),Vals xs its/\s.heap.get? p=ι {cls:=.type "list",data:=.seq its.toArray n}/\xs[_]<=Ê:=by
 let⟨z,its,n,r,e⟩:=I.hok p _ h;show{its,n,r,e,(z)}
def Inv.ayn{p:Æ}{xs ys:τ}{its its':List Ã}{n U:Nat}{f:Obj->Obj}(I:Inv X π σ H s)(h:H p=xs[2])
  (ho:s.heap.get? p=ι {cls:=.type "list",data:=.seq its.toArray n}) (hf:f {cls:=.type "list",data:=.seq its.toArray n}={cls:=.type "list",data:=.seq its'.toArray U}) (r:Vals ys its') (hz:ys[_]<=Ê) (t:Nat):
  Inv X π σ (upd H p (.lst ys)) {s with heap:=s.heap.update p f,toks:=t}:=by
 let e:(s.heap.update p f).get? p=ι {cls:=.type "list",data:=.seq its'.toArray U}:=by
  rw[ű f ho (by rw[hf]<;>rfl),hf]
 show I.write (x:=p) (e:=p) (by rw[h];trivial) (.inl rfl) (λb u hb q=>(ĥ _ _ (ux hb)).trans q) {_,e} ?_;show{hz,its',U,r,(e)}
inductive SSet(o i z:V)(H:Hp)(Q:Hp->Prop):Prop|mk(p:Æ)(xs:τ)(k:Int)(j:Nat)(_:o=.ref p)(_:i=.int k)(_:H p=xs[2])(_:xJ xs[_] k=ι j)(_:Q (upd H p (.lst (xs.set j z))))
def aRe:V->V->V->Hp->(Hp->Prop)->Prop:=λo i v H Q=>SSet o i v H Q
def set_list:KS X aRe:=by
 intro e s σ H o i v w x u Q I g l f h;ext p xs k j rfl rfl hp m q h;cases g;ext t rfl l;let⟨a,n,r,b,hz⟩:=I.lst hp;let⟨h1,h2,h3,h4⟩:=d_ m;let c:=r[_];let hn:=Jr;let d:Inv X e σ (upd H p (.lst (xs.set j v))) {s with heap:=s.heap.update p (C4 (·.setIfInBounds j u))}:=
  I.ayn hp b (aBx a n j u) (r.set f j) #v[qt,!hz] s.toks
 by_cases h0:0<=k
 .let hk:k.toNat=j:=by
   rw[Ρ h0 h4]at h1;show nQ h1
  show W.ki_setAt b h0 ⋯ #v[gC,-c,!h4] #v[hk,!{_,d,q}]
 .let hk:(k+(a.toArray.size:Int)).toNat=j:=by
   rw[Δ ⋯ h3]at h1;rw[gC,<-c,!nQ h1]
  show W.ki_setBack b ⋯ #v[gC,-c,!h3] ⋯ #v[hk,!{_,d,q}]
def aAg(lo hi:Option Int)(n:Nat):(ę lo hi ν n).1=(HT.cM n 0 lo:Nat)[0]/\(ę lo hi ν n).2.1=(HT.cM n n hi:Nat)[0]/\(ę lo hi ν n).2.2=1:=by
 show{?_,?_,rfl}
 .cases lo with
  |none=>simp[ę,HT.cM]
  |some i=>
   simp only[ę,HT.cM,b9,(0.3:(1:Int)>0),if_true];by_cases h:i<0
   .simp only[h,if_true]<;>grind -ring
   .simp only[h,if_false]<;>grind -ring
 .cases hi with
  |none=>simp[ę,HT.cM]
  |some i=>
   simp only[ę,HT.cM,b9,(0.3:(1:Int)>0),if_true];by_cases h:i<0
   .simp only[h,if_true]<;>lia
   .simp only[h,if_false]<;>lia
def aUf(its:List Ã)(lo hi:Option Int):slicePick its.toArray lo hi ν=((its.drop (HT.cM its[_] 0 lo)).take (HT.cM its[_] its[_] hi-HT.cM its[_] 0 lo)).toArray:=by
 let⟨h1,h2,h3⟩:=aAg lo hi its.toArray.size;unfold slicePick;rw[h1,h2,h3];simp only[sliceRange_one,pick_run,gC]<;>rfl
def aOt(K:aH):V->Option Int->Option Int->Hp->VK->Prop:=λx lo hi H Q=>∃a xs,x=.ref a/\aj K H a xs/\∀p,H p=ν->Q (.ref p) (upd H p (.lst (fP xs lo hi)))
def aCg:rA X (aOt X.K):=by
 intro i s σ H x v k j lo hi l Q I d g e pu h;ext a xs rfl hx q h;cases d;let⟨f,r,ht,hz⟩:=I.list hx;let c:=r[_];show{"list",_,ϊ.lookup,ht.isList.typeIs,wpAny_getItem_list_slice ht.isList g e pu .none 0.1 ?_ (by rw[gC]<;>simp_all)};rw[aUf,<-c,!{.ref s[1],_,I.laid (t':=s.toks) (o:=.lst (fP xs lo hi)) (λb ob q=>Ç _ q) (aZ _) ?_,rfl,q _ (I.hok.fresh (aZ _))}];show{cD (ϸ xs lo hi) hz,_,0,(r.drop (HT.cM xs[_] 0 lo)).take (HT.cM xs[_] xs[_] hi-HT.cM xs[_] 0 lo),Ù _ rfl}
def uO:V->Bool
 |.non=>true
 |.bl _=>true
 |.int _=>true
 |.str _=>true
 |_=>false
def ϣ:V->V->Bool
 |.non,.non=>true
 |.bl a,.bl b=>a==b
 |.bl a,.int b=>(if a then 1 else 0)==b
 |.int a,.bl b=>a==(if b then 1 else 0)
 |.int a,.int b=>a==b
 |.str a,.str b=>a==b
 |_,_=>false
def aJa(ry:RelV y u)(O:RelV x v)(Y:uO y=true)(U:uO x=true):å A s u v (ϣ y x):=by
 cases y with
 |non=>
  cases ry;cases x with
  |non=>cases O;show å.same _
  |bl b=>cases O;show å.none_bool b
  |int b=>ext t rfl O;show å.none_int b t
  |str b=>ext t rfl O;show å.none_str b t
  |_=>show È (show false=true from U) iU
 |bl a=>
  cases ry;cases x with
  |non=>cases O;show å.bool_none a
  |bl b=>cases O;show å.bool_bool a b
  |int b=>ext t rfl O;show å.bool_int a b t
  |str b=>ext t rfl O;show å.bool_str a b t
  |_=>show È (show false=true from U) iU
 |int a=>
  ext t' rfl ry;cases x with
  |non=>cases O;show å.int_none a t'
  |bl b=>cases O;show å.int_bool a t' b
  |int b=>ext t rfl O;show å.int_int a t' b t
  |str b=>ext t rfl O;show ţ a t' b t
  |_=>show È (show false=true from U) iU
 |str a=>
  ext t' rfl ry;cases x with
  |non=>cases O;show å.str_none a t'
  |bl b=>cases O;show å.str_bool a t' b
  |int b=>ext t rfl O;show Ţ a t' b t
  |str b=>ext t rfl O;show å.str_str a t' b t
  |_=>show È (show false=true from U) iU
 |_=>show È (show false=true from Y) iU
inductive Sli(K:aH)(xs:τ)(H:Hp)(Q:VK):Prop|mk(p ys)(_:xs=[.ref p])(_:aj K H p ys∨ao K H p ys)(_:∀l,H l=ν->Q (.ref l) (upd H l (.lst ys)))
inductive Sto(K:aH)(H:Hp)(p:Æ)(ys:τ)(Q:VK):Prop|inl(_:aj K H p ys/\∀l,H l=ν->Q (.ref l) (upd H l (.tup ys)))|inr(_:ao K H p ys/\Q (.ref p) H)
inductive Stu(K:aH)(xs:τ)(H:Hp)(Q:VK):Prop|mk(p ys)(_:xs=[.ref p])(_:Sto K H p ys Q)
def aRa:jt X (.type "list") (Sli X.K):=by
 intro k s σ H xs us Q I r h;ext p ys rfl hq q h;let⟨u,rfl,m⟩:=vals1 r;cases m;let fin:∀(a:List Ã),Vals ys a->ys[_]<=Ê->∀(h':Û)(d:Nat),(∀b j,s.heap.get? b=ι j->h'.get? b=ι j)->
   h'.get? s[1]=ι {cls:=.type "list",dict:=ν,data:=.seq a.toArray d,slots:=#[]}->EP X k σ Q (.ref s[1]) {s with heap:=h'}:=λa c hz h' d kp e=>
  {.ref s[1],_,I.laid (t':=s.toks) kp (aZ _) (show gG X.prog X.w _ h' _ (.lst ys)from{hz,a,d,c,(e)}),rfl,q _ (I.hok.fresh (aZ _))}
 rcases hq with hq|hq
 .obtain⟨a,c,g,hz⟩:=I.list hq;let f:=c[_];ext o i hc n hd g.isList;show call_list_seq p (.inl rfl) i hc hd (λh' d kp e=>fin a c hz h' d kp e) (by simp only[gC]<;>lia)
 .obtain⟨a,c,g,hz⟩:=I.tuple hq;let f:=c[_];ext o i hc n hd g;show call_list_seq p (.inr rfl) i hc hd (λh' d kp e=>fin a c hz h' d kp e) (by simp only[gC]<;>lia)
def aNB:jt X (.type "tuple") (Stu X.K):=by
 intro f s σ H xs us Q I r h;ext p ys rfl h h;let⟨u,rfl,j⟩:=vals1 r;cases j;rcases h with⟨hq,q⟩|⟨hq,q⟩
 .obtain⟨a,c,d,hz⟩:=I.list hq;let g:=c[_];show call_tuple_list d.isList (λh' kp=>?_) (by simp only[gC]<;>lia);let i:Inv X f σ H {s with heap:=h'}:=I.kept (t':=s.toks) kp;let I2:Inv X f σ (upd H h'.objs.size (.tup ys)) {s with heap:=h'.push {cls:=.type "tuple",data:=.seq a.toArray}}:=
   i.laid (t':=s.toks) (λb o e=>Ç _ e) (aZ _) (show gG X.prog X.w _ _ _ (.tup ys)from{hz,a,c,ĳ _ _})
  show{.ref h'.objs.size,_,I2,rfl,q _ (i.hok.fresh (aZ _))}
 .obtain⟨a,c,d,hz⟩:=I.tuple hq;show call_tuple_same d {.ref p,H,I,rfl,q}
def Ϝ(K:aH)(T:String)(x:V)(H:Hp):Prop:=match x with
 |.str _=>T = "str"
 |.int _=>T = "int"
 |.ref p=>(T = "list" /\ ∃xs,aj K H p xs)∨(T = "tuple" /\ ∃o,K.lookup p=ι o/\o.cls=.type "tuple" /\ o.dict=ν)∨
   (T = "dict" /\ ((∃a,H p=ι (.dK a))∨∃a,H p=ι (.dT a)))∨(T = "set" /\ ∃S n,H p=ι (.set S n))
 |_=>False
def I0{T:String}(I:Inv X π σ H s)(r:RelV x v)(ty:Ϝ X.K T x H):
  s.TypeIs v T/\∀a,v=.ref a->∃ob,s.heap.get? a=ι ob/\ob.dict=ν:=by
 cases x with
 |str z=>
  ext t rfl r;cases (show T = "str" from ty);show{Ğ s z t,λ_ e=>nomatch e}
 |int i=>
  ext t rfl r;cases (show T = "int" from ty);show{Ĵ s i t,λ_ e=>nomatch e}
 |ref p=>
  cases r;rcases ty with⟨rfl,xs,hq⟩|⟨rfl,o,hk,hc,hd⟩|⟨rfl,hk⟩|⟨rfl,S,n,hk⟩
  .obtain⟨g,_,f,_⟩:=I.list hq;show{f.isList.typeIs,λa e=>?_};cases e;ext o n e c hd _ f;show{o,e,(hd)}
  .refine{{o,I.f9 p o hk,hc},λa e=>?_};cases e;show{o,I.f9 _ o hk,hd}
  .let z:∃o,s.heap.get? p=ι o/\o.ExactDict:=by
    rcases hk with⟨b,hk⟩|⟨b,hk⟩
    .obtain⟨_,_,_,_,o,_,_,e,ex,_⟩:=I.hok p _ hk;show{o,e,(ex)}
    .obtain⟨_,_,_,_,o,_,_,e,ex,_⟩:=I.hok p _ hk;show{o,e,(ex)}
   ext o e ex z;show{{o,e,(ex.1)},λa d=>?_};cases d;show{o,e,(ex.2.1)}
  .obtain⟨o,_,_,_,e,ex,_⟩:=I.hok p _ hk;show{{o,e,(ex.1)},λa d=>?_};cases d;show{o,e,(ex.2.1)}
 |_=>show ò ty
inductive aPk(K:aH)(T:String)(r:V->τ->Hp->VK->Prop)(x:V)(H:Hp)(Q:VK):Prop|mk(_:Ϝ K T x H)(_:r x [] H Q)
def Pp(K:aH)(T:String)(r:V->τ->Hp->VK->Prop)(to:TE):TE:=λσ H Q=>to σ H λx H1=>aPk K T r x H1 Q
inductive SBM(K:aH)(T:String)(r:V->τ->Hp->VK->Prop)(t:TA)(x:V)(σ:St)(H:Hp)(Q:VK):Prop|mk(_:Ϝ K T x H)(_:t σ H λxs H2=>r x xs H2 Q)
def MR(K:aH)(T:String)(r:V->τ->Hp->VK->Prop)(to:TE)(t:TA):TE:=λσ H Q=>to σ H λx H1=>SBM K T r t x σ H1 Q
end
variable {o e:ü}{es:List ü}{to:TE}{t:TA}{name:Str}{apos cpos:Pos}{T id:String}{r:V->τ->Hp->VK->Prop}
def aF5(pa:PlainAttrs T)(slot:Slot T name id)(Y:typeOf (.builtin id)=pure (.type "method_descriptor"))(hm:wD X id r)(ho:PE X o to)
  (U:û o name X.env (eval o X.env)=eval o X.env:=by rfl) (O:(apos.endLine==cpos.line)=true:=by rfl):PE X (.Call (.Attribute o name apos) [] [] cpos) (Pp X.K T r to):=by
 show λa s σ H Q I h=>wpAny_Call_method0_late U O (aY (ho a s σ H _ I h) λv d zz=>?_);let⟨x,H1,c,b,ty,e⟩:=zz;let⟨h1,h2⟩:=I0 c b ty;show{T,id,pa,slot,Y,h1,h2,DU rfl (PySem.evalArgs_none (hm a d σ H1 x [] v [] Q c b .nil e))}
def xF(pa:PlainAttrs T)(slot:Slot T name id)(hty:typeOf (.builtin id)=pure (.type "method_descriptor"))(hm:wD X id r)(ho:PE X o to)(ha:PA X (e::es) t)
  (Y:û o name X.env (eval o X.env)=eval o X.env:=by rfl)
  (hfew:((ó cpos (Ò (e::es) X.env)).all (λx=>!x.1)&&(Ń cpos (Ě [] X.env)).all (λx=>x.1.isSome)
   && decide ((e::es)[_]+([]:List ň)[_]+(if([]:List ň).isEmpty then 0 else 1)<30))=true:=by rfl)
  (U:(apos.endLine==cpos.line)=true:=by rfl) (hs:Ò (e::es) X.env=(false,eval e X.env)::Ò es X.env:=by rfl) (O:(ó cpos (Ò es X.env)).any (·.1)=false:=by rfl):
  PE X (.Call (.Attribute o name apos) (e::es) [] cpos) (MR X.K T r to t):=by
 show λa s σ H Q I h=>wpAny_Call_method_late Y hfew U rfl (aY (ho a s σ H _ I h) λv g zz=>?_);let⟨x,H1,d,b,ty,k⟩:=zz;let⟨h1,h2⟩:=I0 d b ty;show{T,id,pa,slot,hty,h1,h2,?_};let c:=ha cpos a g σ H1 _ d k;rw[hs]at c⊢;show DU (by show(false||(ó cpos (Ò es X.env)).any (·.1))=false;rw[O]<;>rfl) (Calls.evalArgs_plain ?_);show aY c λus f ⟨vs,H2,I2,i,j⟩=>hm a f σ H2 x vs v us Q I2 b i j
end
def D_(X:Cx)(id:String)(r:V->τ->Hp->VK->Prop):Prop:=
 ∀a s σ H (x:V) (xs:τ) (v:Ã) (us:List Ã) (Q:VK),Inv X a σ H s->RelV x v->Vals xs us->r x xs H Q->
  Ô X[12] X.A (call (.builtin id) (v::us)) (EP X a σ Q) X.xe s
def Vals.one{x:V}{us:List Ã}(h:Vals [x] us):∃u,us=[u]/\RelV x u:=by
 cases h with
 |cons r h=>cases h;show{(),r}
def Vals.two(h:Vals [x,y] us):∃u v,us=[u,v]/\RelV x u/\RelV y v:=by
 cases h with
 |cons r h=>
  let⟨v,rfl,q⟩:=Vals.one h;show{_,(),r,q}
theorem Vals.reverse{xs:τ}{us:List Ã}(h:Vals xs us):Vals xs.reverse us.reverse:=by
 induction h with
 |nil=>show .nil
 |cons r t ih=>rw[RS,RS,!Vals.append ih (.cons r .nil)]
theorem Vals.rep(h:Vals xs us):∀k:Nat,Vals (dN k xs).flatten (dN k us).flatten
 |0=>.nil
 |k+1=>by
  rw[K5,K5,QD,QD,!Vals.append h (Vals.rep h k)]
theorem foldl_rep(its:List Ã):∀(k:Nat)(O:List Ã),
  Rn (λY U=>Y++U) O.toArray (dN k its.toArray)=(O++(dN k its).flatten).toArray
 |0,O=>0.1
 |k+1,O=>by
  let e:O.toArray++its.toArray=(O++its).toArray:=0.1
  let a:(O++its)++(dN k its).flatten=O++(dN (k+1) its).flatten:=by
   rw[K5,QD,yX]
  rw[<-a,<-foldl_rep its k (O++its),<-e,K5,List.foldl_cons]
section
variable {X:Cx}{π:List (Æ×Obj)}{σ:St}{H:Hp}{s:Ó}{l:Æ}{xs ys:τ}
def Inv.RF{its its':List Ã}{n:Nat}{f:Array Ã->Array Ã}{t':Nat}(I:Inv X π σ H s)(hH:H l=xs[2])
  (e:s.heap.get? l=ι {cls:=.type "list",data:=.seq its.toArray n}) (Y:f its.toArray=its'.toArray) (hv:Vals ys its') (hz:ys[_]<=Ê):
  Inv X π σ (upd H l (.lst ys)) {s with heap:=s.heap.update l (C4 f),toks:=t'}:=by
 let q:=PySem.IsL.update e f;rw[Y]at q;show I.write (x:=l) (e:=l) #v[hH,!trivial] (.inl rfl) (λa u hb hu=>(ĥ s.heap (C4 f) (ux hb)).trans hu) {_,q} ?_;show{hz,its',_,hv,q}
def Inv.Tv{its:List Ã}{t':Nat}(I:Inv X π σ H s)(hv:Vals ys its)(hz:ys[_]<=Ê):
  Inv X π σ (upd H s[1] (.lst ys)) {s with heap:=s.heap.push {cls:=.type "list",data:=.seq its.toArray},toks:=t'}:=
 I.laid (λ_ _ q=>Ç _ q) (aZ _) {hz,its,0,hv,Ù _ rfl}
theorem Inv.fresh(I:Inv X π σ H s):H s[1]=ν:=I.hok.fresh (aZ _)
def Inv.uK(I:Inv X π σ H s)(U:H l=xs[2]):xs[_]<=Ê/\∃(its:List Ã) (n:Nat),Vals xs its/\xs[_]=its[_]/\s.heap.get? l=ι {cls:=.type "list",data:=.seq its.toArray n}:=by
 let⟨z,its,n,r,e⟩:=I.hok l _ U;show{z,its,n,r,r[_],(e)}
def VO(h:n<=Ê):Ą n=false:=by
 unfold Ą;show Ì 0.6
end
inductive ay7(x:V)(vs:τ)(H:Hp)(Q:VK):Prop|mk(l:Æ)(xs:τ)(y:V)(_:x=.ref l)(_:vs=[y])(_:H l=xs[2])(_:xs[_]<Ê)(_:Q .non (upd H l (.lst (xs++[y]))))
def Zp:V->τ->Hp->VK->Prop:=λx vs H Q=>ay7 x vs H Q
def Iq:D_ X "list.append" Zp:=by
 intro g s σ H x vs v us Q I c d h;ext l xs y rfl rfl b hz q h;cases c;ext u rfl f d.one;let⟨z,a,n,r,i,e⟩:=I.uK b;show ñ F.slot_list_append {_,e,rfl} F.entry_list_append (F.args_list_append_2 _ _) (PySem.list_append l a.toArray n u #v[gC]) {e,?_};show{.non,_,I.RF (its':=a++[u]) b e 0.1 (r.append (.cons f .nil)) ?_,rfl,q};rw[fJ,qq,1]
def Tu:V->τ->Hp->VK->Prop:=λx vs H Q=>∃l b xs zs,x=.ref l/\vs=[.ref b]/\H l=xs[2]/\H b=zs[2]/\xs[_]+zs[_]<=Ê/\Q .non (upd H l (.lst (xs++zs)))
def aJV:D_ X "list.extend" Tu:=by
 intro w s σ H x vs v us Q I g i h;ext l b xs zs rfl rfl f hB hz q h;cases g;ext u rfl j i.one;cases j;let⟨z,c,n,r,y,e⟩:=I.uK f;let⟨z2,a,m,k,o,p⟩:=I.uK hB;let d:c.toArray.size+a.toArray.size<=Ê:=#v[gC,gC]
 let t:¬(!c.toArray.isEmpty&&Ą (c.toArray.size+a.toArray.size))=true:=by
  rw[VO d,Bool.and_false,!iU]
 show ñ F.slot_list_extend {_,e,rfl} F.entry_list_extend (F.args_list_extend_2 _ _)
  (AutoSeq1.list_extend_list_list_0 l c.toArray n b a.toArray m t #v[gC] ⋯) {e,p,?_}
 show{.non,_,I.RF (its':=c++a) f e 0.1 (r.append k) ?_,rfl,q};rw[fJ,1]
def aAm:R2:=λx y H Q=>∃l b xs zs,x=.ref l/\y=.ref b/\H l=xs[2]/\H b=zs[2]/\xs[_]+zs[_]<=Ê/\∀p,H p=ν->Q (.ref p) (upd H p (.lst (xs++zs)))
def aT5:dj X (ç .Add) aAm:=by
 intro m s σ H x y v u Q I d ry h;ext l b xs zs rfl rfl i hB hz q h;cases d;cases ry;let⟨z,c,n,r,p,e⟩:=I.uK i;let⟨z2,a,o,f,g,k⟩:=I.uK hB;show PySem.P.add_list e k ?_ #v[gC,gC];let j:c.toArray++a.toArray=(c++a).toArray:=0.1
 rw[j,!{.ref _,_,I.Tv (t':=s.toks) (r.append f) #v[fJ],rfl,q _ I.fresh}]
def aC9:R2:=λx y H Q=>∃l k xs,x=.ref l/\y=.int k/\H l=xs[2]/\-(2^63)<=k/\k<2^63/\xs[_]*k.toNat<=Ê/\
 ∀p,H p=ν->Q (.ref p) (upd H p (.lst (dN k.toNat xs).flatten))
def len_rep{α:Type}(xs:List α)(k:Nat):(dN k xs).flatten[_]=k*xs[_]:=by
 induction k with
 |zero=>simp
 |succ k ih=>rw[K5,QD,fJ,ih,rm,qz]
def aJn:dj X (ç .Mult) aC9:=by
 intro C s σ H x y v u Q I o ry h;ext l k xs rfl rfl w h1 h2 hz q h;cases o;ext t rfl ry;let⟨z,b,n,r,p,e⟩:=I.uK w;let d:b.toArray.size*k.toNat<=Ê:=#v[gC,-p,!hz]
 let g:¬b.toArray.size*k.toNat>(2^63-1)/8:=by
  let:(Ê:Nat)<=(2^63-1)/8:=0.3;lia
 let f:¬(!Builtin.List.listFitsIndex k)=true:=by
  rw[fitsIndex_both h1 h2,!iU]
 let B:¬Ą (b.toArray.size*k.toNat)=true:=by
  rw[VO d,!iU]
 let c:Rn (λj i=>j++i) #[] (dN (if b.toArray.isEmpty=true then 0 else k.toNat) b.toArray)=(dN k.toNat b).flatten.toArray:=by
  let A:∀m:Nat,Rn (λj i=>j++i) #[] (dN m b.toArray)=(dN m b).flatten.toArray:=λm=>by
   let:=foldl_rep b m [];rw[uf]at this;show this
  rw[A];cases b with
  |nil=>simp
  |cons a r'=>rw[Â 0.1]
 show ų (T:="list") (U:="int") 0.3 {_,e,rfl} (λs'=>Ĵ s' k t) noFill_list_mul WO R5 repeat_list zi.lookup
  (ñ R5 (Ĵ s k t) N3 (ahs _ _) (int___rmul___int_list k t l b.toArray n)
   {e,rfl,{_,e,rfl},ñ F.slot_list_mul {_,e,rfl} F.entry_list_mul (F.args_list_mul_2 _ _) (Ϩ l b.toArray n k t f g B) {e,?_}})
 rw[c,!{.ref _,_,I.Tv (t':=s.toks) (r.rep k.toNat) #v[len_rep,qW,!hz],rfl,q _ I.fresh}]
section
variable {κ:Type}[DecidableEq κ]
section
variable {p:κ×V}{r kvs:List (κ×V)}{k:κ}{vs:List (κ×Ã)}
def fB(a:List (κ×V))(k:κ):Option V:=(a.find? λb=>decide (b.1=k)).map (·.2)
def putK(a:List (κ×V))(k:κ)(v:V):List (κ×V):=
 if(a.any λb=>decide (b.1=k))=true then a.map (λb=>if b.1=k then(b.1,v)else b)else a++[(k,v)]
def uE(e:p.1=k):fB (p::r) k=ι p.2:=by simp[fB,Č,e]
def uJ(e:¬p.1=k):fB (p::r) k=fB r k:=by simp[fB,Č,e]
theorem Mg(k:κ):∀kvs:List (κ×V),(kvs.any λO=>decide (O.1=k))=(fB kvs k).isSome
 |[]=>rfl
 |p::r=>by
  rw[qr];by_cases e:p.1=k
  .simp only[uE e,É e,Bool.true_or,Option.isSome_some]
  .rw[uJ e,Ì e,Bool.false_or];show Mg k r
theorem EK(k j:κ)(y:V):∀kvs:List (κ×V),fB (kvs.map λO=>if O.1=k then(O.1,y)else O) j=(fB kvs j).map λx=>if j=k then y else x
 |[]=>rfl
 |p::r=>by
  let a:=EK k j y r;rw[jK];by_cases h:p.1=k
  .rw[Á h];by_cases e:p.1=j
   .rw[uE (p:=(p.1,y)) e,uE e,Jt,Á (e.symm.trans h)]
   .rw[uJ (p:=(p.1,y)) e,uJ e,a]
  .rw[Â h];by_cases e:p.1=j
   .rw[uE (p:=p) e,uE e,Jt,Â (λz=>h (e.trans z))]
   .rw[uJ (p:=p) e,uJ e,a]
theorem SE(k j:κ)(y:V):∀kvs:List (κ×V),fB kvs k=ν->fB (kvs++[(k,y)]) j=if j=k then ι y else fB kvs j
 |[],_=>by
  by_cases e:k=j
  .rw[Á e.symm];show uE (p:=(k,y)) e
  .rw[Â (λz=>e z.symm)];show uJ (p:=(k,y)) e
 |p::r,hn=>by
  rw[CJ];let hk:¬p.1=k:=λz=>by rw[uE z]at hn;cases hn
  rw[uJ hk]at hn;let a:=SE k j y r hn;by_cases e:p.1=j
  .rw[uE e,uE e,Â (λz=>hk (e.trans z))]
  .rw[uJ e,uJ e,a]
def cS(b:List (κ×V))(k j:κ)(y:V):fB (putK b k y) j=if j=k then ι y else fB b j:=by
 unfold putK;by_cases a:(b.any λc=>decide (c.1=k))=true
 .rw[Á a,EK];rw[Mg]at a;by_cases e:j=k
  .obtain⟨x,hx⟩:=Lu.mp a;rw[Á e,e,hx,Jt,Á rfl]
  .rw[Â e];cases fB b j with
   |none=>rfl
   |some x=>rw[Jt,Â e]
 .rw[Â a];show SE k j y b ?_;rw[Mg]at a;cases q:fB b k with
  |none=>rfl
  |some x=>rw[q]at a;show(a rfl).elim
def X8(a:List (κ×V))(k:κ)(v:V):(putK a k v)[_]<=a[_]+1:=by
 unfold putK;split
 .rw[aA];simp_all
 .rw[fJ,gh,Wl];simp_all
def aCA(v:V)(h:fB kvs k=ν):putK kvs k v=kvs++[(k,v)]:=by
 unfold putK;rw[Mg,h,!Â 0.3]
def mO.az(r:mO o u):o.isSome=u.isSome:=by
 cases o with
 |none=>cases u with
  |none=>rfl
  |some _=>show(show False from r).elim
 |some _=>cases u with
  |none=>show(show False from r).elim
  |some _=>rfl
def KV.val(r:KV kvs vs)(k:κ):mO (fB kvs k) (ņ vs k):=by
 unfold KV at r;induction r with
 |nil=>show ö
 |@cons p q ps qs h t ih=>
  ext h1 h2 h;by_cases e:p.1=k
  .let a:q.1=k:=h1.symm.trans e;let b:ņ (q::qs) k=ι q.2:=by simp[ņ,Č,a]
   rw[uE e,b,!h2]
  .let a:¬q.1=k:=λz=>e (h1.trans z);let b:ņ (q::qs) k=ņ qs k:=by simp[ņ,Č,a]
   rw[uJ e,b,!ih]
theorem KV.any{a:List (κ×V)}{vs:List (κ×Ã)}(r:KV a vs)(k:κ):(a.any λO=>decide (O.1=k))=vs.any λO=>decide (O.1=k):=by
 unfold KV at r;induction r with
 |nil=>rfl
 |cons h t ih=>rw[qr,qr,ih,h.1]
def KV.repl(r:KV kvs vs)(k:κ){y:V}{u:Ã}(ry:RelV y u):
  KV (kvs.map λO=>if O.1=k then(O.1,y)else O) (vs.map λO=>if O.1=k then(O.1,u)else O):=by
 unfold KV at r⊢;induction r with
 |nil=>show .nil
 |@cons p q ps qs h t ih=>
  rw[jK,jK,!.cons ?_ ih];ext h1 h2 h;by_cases e:p.1=k
  .rw[Á e,Á (h1.symm.trans e)];show{h1,(ry)}
  .rw[Â e,Â (λz=>e (h1.trans z))];show{h1,(h2)}
def KV.put(r:KV kvs vs)(k:κ){y:V}{u:Ã}(ry:RelV y u):KV (putK kvs k y) (stored vs k u):=by
 unfold putK stored;rw[r.any k];by_cases e:(vs.any λa=>decide (a.1=k))=true
 .rw[Á e,Á e];show r.repl k ry
 .rw[Â e,Â e];show Paired.snoc r {rfl,(ry)}
theorem KV.length{a:List (κ×V)}{vs:List (κ×Ã)}(r:KV a vs):a[_]=vs[_]:=Paired.length r
end
end
section
variable {H:Hp}
def TJ(r:RelV (kV k) u):(mY P w).is k u=true:=by
 cases k with
 |inl i=>let⟨t,e⟩:=(show ∃t,u=Ĳ i t from r);subst e;show aHe P w i t
 |inr x=>let⟨t,e⟩:=(show ∃t,u=Ē x t from r);subst e;show KJ P w x t
theorem VV:∀{ks:List Key} {us:List Ã},Vals (ks.map kV) us->ItemsAre (mY P w) ks us
 |[],_,r=>by rw[ub]at r;cases r;show .nil
 |k::ks,_,r=>by
  rw[jK]at r;cases r with
  |cons h t=>show .cons (TJ h) (VV t)
abbrev KT(H:Hp):List (List Key×V)->List (List Key×Æ×Ã)->Prop:=Paired λp q=>p.1=q.1/\H q.2.1=(p.1.map kV)[3]/\RelV p.2 q.2.2
def KT.val(r:KT H kvs xs)(k:List Key):mO (fB kvs k) ((Ů xs k).map (·.2)):=by
 induction r with
 |nil=>show ö
 |@cons p q ps qs h t ih=>
  ext h1 _ h2 h;by_cases e:p.1=k
  .let a:q.1=k:=h1.symm.trans e;let b:Ů (q::qs) k=ι q.2:=by simp[Ů,Č,a]
   rw[uE e,b,!h2]
  .let a:¬q.1=k:=λz=>e (h1.trans z);let b:Ů (q::qs) k=Ů qs k:=by simp[Ů,Č,a]
   rw[uJ e,b,!ih]
def KT.repl(r:KT H kvs xs)(k:List Key)(ry:RelV y u):
  KT H (kvs.map λO=>if O.1=k then(O.1,y)else O) (xs.map (putAt k u)):=by
 induction r with
 |nil=>show .nil
 |@cons p q ps qs h t ih=>
  rw[jK,jK,!.cons ?_ ih];ext h1 h2 h3 h;unfold putAt;by_cases e:p.1=k
  .rw[Á e,Á (h1.symm.trans e)];show{h1,h2,(ry)}
  .rw[Â e,Â (λz=>e (h1.trans z))];show{h1,h2,(h3)}
def KT.put(r:KT H kvs xs)(k:List Key)(hb:H b=(k.map kV)[3])(ry:RelV y u):
  KT H (putK kvs k y) (storedH xs k b u):=by
 let e:(kvs.any λa=>decide (a.1=k))=(Ů xs k).isSome:=by
  rw[Mg,(r.val k).az,Y3]
 unfold putK storedH;rw[e];by_cases q:(Ů xs k).isSome=true
 .rw[Á q,Á q];show r.repl k ry
 .rw[Â q,Â q];show Paired.snoc r {rfl,hb,(ry)}
def KT.keeps(r:KT H kvs xs)(ht:∀b ys,H b=ys[3]->H' b=ys[3]):KT H' kvs xs:=
 Paired.Jj r λ_ _ z=>{z.1,ht _ _ z.2.1,z.2.2}
end
def Kn(ok:gO P w H h)(e:Rd H a u):gG P w H h a u:=e.ok ok
def Rz(ok:gO P w H h)(e:Rd H a (.dK kvs)):kvs[_]<=Ê/\(a==ã)=false/\∃vs,KV kvs vs/\h.DictOf (mY P w) a vs:=
 show gG P w H h a (.dK kvs)from Kn ok e
def aRD(ok:gO P w H h)(e:H a=ι (.dK kvs)):kvs[_]<=Ê/\(a==ã)=false/\∃vs,KV kvs vs/\h.DictOf (mY P w) a vs:=Rz ok (.inl e)
def Tt(ok:gO P w H h)(e:H a=(ks.map kV)[3]):(Ř (mY P w)).is h ks a:=by
 let⟨_,b,r,o,h1,h2,n,h3⟩:=(show gG P w H h a (.tup (ks.map kV))from ok a _ e);show{o,b.toArray,n,h1,h2,h3,(VV r)[7]}
def Rt(ok:gO P w H h)(e:Rd H a (.dT kvs)):kvs[_]<=Ê/\(a==ã)=false/\
  ∃xs,KT H kvs xs/\h.DictOfH (Ř (mY P w)) a xs:=by
 let⟨z,y,xs,r,o,c,d,h1,h2,h3,h4,b⟩:=(show gG P w H h a (.dT kvs)from Kn ok e);show{z,y,xs,r,o,c,d,h1,h2,h3,h4,λx hx=>?_,b};let all:∀{l:List (List Key×V)} {m:List (List Key×Æ×Ã)},KT H l m->∀x∈m,(Ř (mY P w)).is h x.1 x.2.1:=by
  intro l m q;induction q with
  |nil=>show λx hx=>nomatch hx
  |@cons p q ps qs hq t ih=>
   intro x hx;rcases fj.mp hx with e|hx
   .subst e;show Tt ok #v[-hq.1,!hq.2.1]
   .exact ih x hx
 show all r x hx
def Co(ok:gO P w H h)(e:H a=ι (.dT kvs)):kvs[_]<=Ê/\(a==ã)=false/\
  ∃xs,KT H kvs xs/\h.DictOfH (Ř (mY P w)) a xs:=Rt ok (.inl e)
def qN(H:Hp)(a:Æ)(y:V)(r:Option V):Prop:=
 (∃c k,Rd H a (.dK c)/\y=kV k/\r=fB c k)∨∃c k b,Rd H a (.dT c)/\y=.ref b/\H b=(k.map kV)[3]/\r=fB c k
def w6(H:Hp)(a:Æ)(y v:V)(H':Hp):Prop:=
 (∃c k,H a=ι (.dK c)/\y=kV k/\c[_]<Ê/\H'=upd H a (.dK (putK c k v)))∨
 ∃c k b,H a=ι (.dT c)/\y=.ref b/\H b=(k.map kV)[3]/\c[_]<Ê/\H'=upd H a (.dT (putK c k v))
theorem qN.k{H:Hp}{a:Æ}{b:List (Key×V)}{k:Key}(e:H a=ι (.dK b)):qN H a (kV k) (fB b k):=.inl {b,k,.inl e,rfl,rfl}
def qN.t{H:Hp}{a b:Æ}{c:List (List Key×V)}{k:List Key}(e:H a=ι (.dT c))(O:H b=(k.map kV)[3]):qN H a (.ref b) (fB c k):=.inr {c,k,b,.inl e,rfl,O,rfl}
theorem w6.k{H:Hp}{a:Æ}{b:List (Key×V)}{k:Key}{v:V}(e:H a=ι (.dK b))(O:b[_]<Ê):w6 H a (kV k) v (upd H a (.dK (putK b k v))):=.inl {b,k,e,rfl,O,(rfl)}
def w6.t{H:Hp}{a b:Æ}{c:List (List Key×V)}{k:List Key}{v:V}(e:H a=ι (.dT c))(U:H b=(k.map kV)[3])(O:c[_]<Ê):
  w6 H a (.ref b) v (upd H a (.dT (putK c k v))):=.inr {c,k,b,e,rfl,U,O,(rfl)}
def Inv.big(I:Inv X π σ H s):ã<s[1]:=by
 let h:Í<s[1]:=(I.mod.glob.keeps I.bk).lt;show Ik 0.3 h
def aRN(hu:A.units+1<š)(I:Inv X π σ H s)(g:qN H a y (ι v))(ry:RelV y u)(h:∀O s',Inv X π σ H s'->RelV v O->Q O s'):
  Ô X[12] A (Ĥ (.ref a) u) Q E s:=by
 rcases g with⟨d,k,e,i,l⟩|⟨d,k,b,e,i,m,l⟩
 .subst i;let⟨z,hd,vs,rel,j⟩:=Rz I.hok e;let⟨O,hw,c⟩:=mO.some_of (v:=v) (o:=ņ vs k) #v[l,!rel.val k];show ŗ (TJ ry) j.mapOf hw (h O _ (I.tok _) c)
 .subst i;cases (show u=ß b from ry);let⟨z,hd,xs,rel,j⟩:=Rt I.hok e;let⟨O,hw,c⟩:=mO.some_of (v:=v) (o:=(Ů xs k).map (·.2)) #v[l,!rel.val k];let⟨p,hp,f⟩:=SX.mp hw;show wpAny_getItem_heap (Ŏ hu) (Tt I.hok m) j hp ?_;rw[f,!h O _ (I.tok _) c]
def aVz(hu:A.units+1<š)(I:Inv X π σ H s)(g:qN H a y o)(ry:RelV y u)(h:∀s',Inv X π σ H s'->Q (.bool (!o.isSome)) s'):
  Ô X[12] A (â .NotIn u (.ref a)) Q E s:=by
 rcases g with⟨c,k,e,d,l⟩|⟨c,k,b,e,d,i,l⟩
 .subst d;let⟨z,hd,vs,rel,f⟩:=Rz I.hok e;show wpAny_notIn_of (TJ ry) hd f.mapOf ?_;rw[<-(rel.val k).az,<-l,!h _ (I.tok _)]
 .subst d;cases (show u=ß b from ry);let⟨z,hd,xs,rel,f⟩:=Rt I.hok e;show wpAny_notIn_heap (Ŏ hu) (Tt I.hok i) hd f ?_;let q:=(rel.val k).az;rw[Y3]at q;rw[<-q,<-l,!h _ (I.tok _)]
def Sl(I:Inv X π σ H s)(c:PJ (H a))(U:Jp a s.heap h')(Y:∃q,h'.get? a=ι q)(new:gG X.prog X.w (upd H a ob) h' a ob):
  Inv X π σ (upd H a ob) {s with heap:=h',toks:=t'}:=
 I.write (x:=a) (e:=a) c (.inl rfl) (λb q hb z=>(U.2 b hb).trans z) Y new
def aXc(z:kvs[_]<=Ê)(hd:(a==ã)=false)(rel:KV kvs vs)(O:h'.DictOf (mY P w) a vs):
  gG P w H' h' a (.dK kvs):={z,hd,vs,rel,(O)}
def aLK(hu:A.units+1<š)(I:Inv X π σ H s)(g:w6 H a y v H')(ry:RelV y u)(O:RelV v r)(h:∀s',Inv X π σ H' s'->Q () s'):
  Ô X[12] A (setItem (.ref a) u r) Q E s:=by
 rcases g with⟨d,k,e,m,l,n⟩|⟨d,k,b,e,m,t,l,n⟩
 .subst m n;let⟨z,hd,vs,rel,o⟩:=aRD I.hok e;let hz:vs[_]<=Ê:=#v[-rel[_],!z]
  let j:(putK d k v)[_]<=Ê:=let:=X8 d k v;⋯
  show wpAny_setItem_pairs (hsz:=hz) (TJ ry) o λh' f i=>h _ ?_;let w:∃q,h'.get? a=ι q:=let⟨q,_,_,hq,_⟩:=f;{q,(hq)};show Sl I #v[e,!ö] i w (aXc j hd (rel.put k O) f)
 .subst m n;cases (show u=ß b from ry);let⟨z,hd,xs,rel,o⟩:=Co I.hok e;let hz:xs[_]<=Ê:=#v[-Paired.length rel,!z]
  let j:(putK d k v)[_]<=Ê:=let:=X8 d k v;⋯
  show wpAny_setItem_heap (hsz:=hz) (Ŏ hu) (Tt I.hok t) o λh' f i=>h _ ?_;ext q B C hq h2 h3 h4 _ x f;show Sl I #v[e,!ö] i {q,(hq)} {j,hd,_,(rel.put k t O).keeps λc ys p=>?_,q,B,C,hq,h2,h3,h4,x};rw[cO (v9 p e (λz=>nomatch z)),!p]
def Ng(i:ü):Prop:=∀a b,Š i false a b=operate [a,b] (Ĥ a b)
def i0{prog:Þ}{w:Ý}{A:î}{E:χ}{s:Ó}{env:Env}{U O:ü}{pos:Pos}{T id:String}{Q:χ}
  (hl:Ū (.type T) "__getitem__" = pure (ι (.builtin id))) (hs:Ng O)
  (h:Ô (model prog w) A (eval U env) (λo s₁=>Ô (model prog w) A (eval O env) (λi Y=>Y.TypeIs o T/\Ô (model prog w) A (Ĥ o i) Q E Y) E s₁) E s):
  Ô (model prog w) A (eval (.Subscript U O pos) env) Q E s:=by
 show Subscript_ (ð h (λo s₁ d=>ð d (λi Y a=>?_) λ_ _ x=>x) λ_ _ x=>x);ext e a a;unfold Ŷ;show Å ?_;rw[getitemInPython_of_ne e.not_modules,!Å (ķ e hl ?_)];let fin:Ô (model prog w) A (Š O false o i) (λr b=>Ô (model prog w) A (letTemporaryGo U o r>>=λ_=>pure r) Q E b) E Y:=by
  rw[hs o i,!wpAny_operating (ð a (λr b c=>Å (wpAny_letTemporaryGo (Ñ c))) λ_ _ x=>x)]
 first
  |show Ñ (Å fin)
  |show Å (Ñ (Å fin))
  |show Å fin
def axI(I:Inv X π σ H s)(g:qN H a y o):s.TypeIs (.ref a) "dict" := by
 rcases g with⟨c,k,e,_,_⟩|⟨c,k,b,e,_,_,_⟩
 .obtain⟨_,_,vs,_,d⟩:=Rz I.hok e;show d.typeIs
 .obtain⟨_,_,xs,_,d⟩:=Rt I.hok e;show d.typeIs
inductive aPK(x y:V)(H:Hp)(Q:VK):Prop|mk(a:Æ)(v:V)(_:x=.ref a)(_:qN H a y (ι v))(_:Q v H)
def aCe(O ty:TE):TE:=λσ H Q=>O σ H λx H1=>ty σ H1 λy H2=>aPK x y H2 Q
def aDI(ty O:TE):TE:=λσ H Q=>ty σ H λy H1=>O σ H1 λx H2=>∃a o,x=.ref a/\qN H2 a y o/\Q (.bl (!o.isSome)) H2
inductive aLJ(x y v:V)(σ:St)(H:Hp)(Q:St->Hp->Prop):Prop|mk(a:Æ)(b:Hp)(_:x=.ref a)(_:w6 H a y v b)(_:Q σ b)
def aWJ(U ty O:TE):TS:=λD σ H=>O σ H λv H1=>U σ H1 λx H2=>ty σ H2 λy H3=>aLJ x y v σ H3 D.nx
def OE(hu:X.A.units+1<š)(Y:PE X o O)(hi:PE X i ty)(U:Ng i):PE X (.Subscript o i pos) (aCe O ty):=by
 show λb s σ H Q I h=>i0 fw.lookup U (aY (Y b s σ H _ I h) λu d ⟨x,H1,l,e,j⟩=>aY (hi b d σ H1 _ l j) λp n zz=>?_);let⟨y,H2,I2,ry,a,v,ex,g,f⟩:=zz;subst ex;obtain rfl:u=ß a:=e;show{axI I2 g,aRN hu I2 g ry λm s3 k c=>{v,H2,k,c,(f)}}
def g?(hu:X.A.units+1<š)(hi:PE X i ty)(U:PE X o O):PC X .NotIn i o (aDI ty O):=by
 show λb s σ H Q I h=>aY (hi b s σ H _ I h) λn c ⟨y,H1,l,ry,f⟩=>aY (U b c σ H1 _ l f) λu m zz=>?_;let⟨x,H2,I2,d,a,j,ex,g,e⟩:=zz;subst ex;obtain rfl:u=ß a:=d;show aVz hu I2 g ry λs3 k=>{.bl (!j.isSome),H2,k,rfl,e}
def HK(hu:X.A.units+1<š)(ho:PE X o td)(hi:PE X i ty)(hv:PE X O Y)(hs:ĭ O (ι (.Subscript o i U)) pos.line X.env=pure false):
  PS X (.Assign [.Subscript o i U] O pos) (aWJ td ty Y):=by
 show λb s σ H D I h=>wpAny_Assign_Subscript (aY (hv b s σ H _ I h) λr d ⟨v,H1,p,f,l⟩=>aY (ho b d σ H1 _ p l) λu c ⟨x,H2,I2,e,k⟩=>aY (hi b c σ H2 _ I2 k) λw s3 zz=>?_) hs;let⟨y,H3,n,ry,a,q,ex,g,j⟩:=zz;subst ex;obtain rfl:u=ß a:=e;show aLK hu n g ry f λt m=>{σ,q,m,(j)}
def az7(h:Û)(hb:ã<h.objs.size):gG P w H (h.push {cls:=.type "dict",data:=.dict #[]}) h.objs.size (.dK []):=
 {dz _,beq_eq_false_iff_ne.mpr (ux (jP hb)),[],.nil,Û.DictOf.new h}
def aVL(h:Û)(hb:ã<h.objs.size):gG P w H (h.push {cls:=.type "dict",data:=.dict #[]}) h.objs.size (.dT []):=
 {dz _,beq_eq_false_iff_ne.mpr (ux (jP hb)),[],.nil,_,#[],0,Ù _ rfl,{rfl,rfl,(rfl)},rfl,rfl,List.nodup_nil}
def aNv:TE:=λ_ H Q=>∀p,H p=ν->Q (.ref p) (upd H p (.dK []))
def aCn:TE:=λ_ H Q=>∀p,H p=ν->Q (.ref p) (upd H p (.dT []))
def aRA:PE X (.Dict [] [] pos) aNv:=λb s σ H Q I h=>
 ϐ {.ref s[1],_,I.laid (a:=s[1]) (o:=.dK []) (t':=s.toks) (λ_ _ q=>Ç _ q) (aZ _) (az7 s.heap I.big),rfl,h _ (I.hok.fresh (aZ _))}
def azj:PE X (.Dict [] [] pos) aCn:=λb s σ H Q I h=>
 ϐ {.ref s[1],_,I.laid (a:=s[1]) (o:=.dT []) (t':=s.toks) (λ_ _ q=>Ç _ q) (aZ _) (aVL s.heap I.big),rfl,h _ (I.hok.fresh (aZ _))}
end L2
namespace QM
open PySem PySem.W PySem.Calls PyProof.Rows
def aKP:∀(ns:ζ)(vs:List Ã),WellAll P h vs (ns.map İ)->Ŋ vs ns:=by
 intro ns;induction ns with
 |nil=>
  intro vs w;rw[ub]at w;cases w;show .nil
 |cons n ns ih=>
  intro vs w;rw[jK]at w;cases w with
  |cons a b=>
   cases a;show .cons _ _ (ih _ b)
def axR{l:OpenLaw}{n:Nat}(hn:l.most=ι n){h:Û}
  (O:l.row.toRowW.claim.pre args=true)(Y:WellAll P h U args):
  ∃a vs ns,U=[ß a]/\args=[Ļ.list (ns.map İ)]/\h.get? a=ι {cls:=.type "list",data:=.seq vs.toArray}/\Ŋ vs ns/\ns[_]<=n:=by
 let e:WShape.hasAll [] args [.list .int]=true:=(pre_splitW O).1;let hc:l.pre.holds [] {args:=args}=true:=(pre_splitW O).2;let⟨d,r,rfl,h1,h2⟩:=hasAllW_cons e;obtain rfl:=hasAllW_nil h2;let⟨xs,rfl,h3⟩:=hasW_list h1;let⟨ns,rfl⟩:=items_int h3;let b:ns[_]<=n:=by
  unfold OpenLaw.pre at hc;let h4:(WTm.not (.lt (.lit (.int (n:Int))) (.len (.arg 0)))).holds [] {args:=[.list (ns.map .int)]}=true:=by
   let h4:=(holds_andW hc).1;rw[hn]at h4;show h4
  let c:=condW_of h4 (w_not (w_lt w_lit (w_len_list (w_arg rfl))));rw[aA]at c;show HS λq=>?_;let f:(n:Int)<(ns[_]:Nat)[0]:=0.8;first
   |(rw[É f]at c;show È c 0.3)
   |(simp at c;lia)
 cases Y with
 |cons w1 w2=>
  cases w2;cases w1 with
  |list ho hall=>show{_,_,ns,rfl,rfl,ho,aKP ns _ hall,b}
def aLN(l:OpenLaw)(args:List Ļ):l.row.toRowW.claim.post args (.bool true) args=true:=
 postW_of (r:=l.row.toRowW) (X:=(true==true))
  (show WShape.has [] (.bool true) .bool=true by first|rfl|decide|simp[WShape.has,WShape.arms,WShape.armsAll])
  (show(WTm.eq .res (.lit (.bool true))).value [] {args:=args,res:=ι (.bool true),after:=args}=ι (.bool (true==true))from w_eq_bool (w_res rfl) w_lit) rfl
end QM
namespace L2
open PySem PySem.Spec PyProof.Rows
def aFp(h:Ŋ vs ns):Vals ns[11] vs:=by
 induction h with
 |nil=>show .nil
 |cons n t h ih=>show .cons {t,(rfl)} ih
def Only(H:Hp):Prop:=∀b,H b=ν∨∃o xs,H b=ι (.oE o (.lst xs))
def aRo{P:Þ}{K:aH}{mg Y:μ}{k:Nat}{s₁:Ó}{vs:List Ã}{ns:ζ}
  (N:K.In s₁.heap)(hns:s₁.heap.Ns Í mg)(hb:s₁.heap.Ns ŏ Y)(hbb:∀x:Str,x≠ "__name__" -> Y x=Ü x)(hlim:s₁.heap.NoLimit)(hdig:s₁.heap.NoDigits)(hse:s₁.heap.NoSeer)(htr:P.given.tree=ν)(hg:s₁.gens=#[])
  (ha:s₁.heap.get? a=ι {cls:=.type "list",data:=.seq vs.toArray})(hi:Ŋ vs ns)(hl:ns[_]<=Ê)(hr:dM k Ŕ)
  (F:∀base:Û,K.In base->base.Ns Í mg->mQ P w K mg base CX k fa fd [x] sp)(U:∀(s:Ó)(u:Ã),Ζ s fd {[u],([])} [(x,u)])
  (hsp:∀H:Hp,Only H->aj K H a ns[11]->sp [.ref a] H (λv _=>v=.bl true) λ_ _ _=>False)
  (XF:∀H e s',CX [] H s₁ (λ_ _ _=>False) e s'->False):
  Ĝ (model P w) Ŕ (.call (.ref fa) {[.ref a],[]}) (λr s'=>r=.ok (.ret (.bool true))/\OldK s₁.heap s'.heap/\s'.os=s₁.os/\ħ s'.gens) s₁:=by
 let G:=aFp hi;let j:=hi[_];let f:∀H:Hp,Only H->aj K H a ns[11]->gO P w H s₁.heap->(∀b,H b≠ν->b=a)->(H a≠ν->K.lookup a=ν)->
   Ĝ (model P w) Ŕ (.call (.ref fa) {[.ref a],[]}) (λr s'=>r=.ok (.ret (.bool true))/\OldK s₁.heap s'.heap/\s'.os=s₁.os/\ħ s'.gens) s₁:=by
  intro H I W hok D Z;let C:∀{b:Æ} {o:Obj},s₁.heap.get? b=ι o->H b=ν->(yc s₁.heap H).get? b=ι o:=λe n=>aBk e n;let Lb:∀{b:Æ} {o:Obj} {t:Array ý} {y:Nat},s₁.heap.get? b=ι o->o.data=.dict t y->H b=ν:=λ{b o t y} e d=>by
   cases q:H b with
   |none=>rfl
   |some u=>
    let A:b=a:=D b #v[q,2];subst A;rw[ha]at e;cases e;let d':Data.seq vs.toArray _=Data.dict t y:=d;cases d'
  let B:∀{b:Æ} {o:Obj},s₁.heap.get? b=ι o->o.cls=.type "module" -> H b=ν:=λ{b o} e d=>by
   cases q:H b with
   |none=>rfl
   |some u=>
    let A:b=a:=D b #v[q,2];subst A;rw[ha]at e;cases e;show È (show ŕ "list" = ŕ "module" from d) 0.3
  let c:∀{b:Æ} {m:μ},s₁.heap.Ns b m->(yc s₁.heap H).Ns b m:=λ{b m} ⟨o,t,y,e,d,r⟩=>{o,t,y,C e (Lb e d),d,r};let p:K.In (yc s₁.heap H):=λb o e=>C (N b o e) (by
   cases q:H b with
   |none=>rfl
   |some u=>
    let A:b=a:=D b #v[q,2];subst A;rw[Z #v[q,2]]at e;cases e)
  let X:Mod K mg (yc s₁.heap H):={p,c hns,{Y,c hb,hbb},let⟨i,h1,h2⟩:=hlim;{i,c h1,h2},let⟨i,h1,h2⟩:=hdig;{i,c h1,h2},let⟨⟨i,a1,a2⟩,⟨T,b1,b2⟩,⟨Y,c1,c2⟩,m,bm,ob,d1,d2,M,L,d5⟩:=hse;{{i,c a1,a2},{T,c b1,b2},{Y,c c1,c2},m,bm,ob,c d1,d2,C M (B M L),L,d5}};let e0:Dt P w K mg (yc s₁.heap H) Ŕ [] s₁ H:={rfl,X,λb o e=>aQh e,Lz (aQS _ _),trivial,λb hb=>È (show b∈([]:List Æ)from hb) 0.1,hok,.of_eq hg,htr};show œ ((F _ p (c hns)).run Ŕ [] s₁ H {[.ref a],[]} [.ref a] [.ref a] _ _ hr e0 (U s₁ (.ref a)) (.cons rfl .nil) (hsp H I W)) λr s' h=>?_;cases r with
  |error e=>show(XF H e s' h).elim
  |ok fl=>
   cases fl with
   |next=>show ò h
   |brk=>show ò h
   |cont=>show ò h
   |ret u=>
    ext v H' os bare un l R q h;let S:v=.bl true:=q;subst S;obtain rfl:u=è true:=R;show{rfl,OldK.of_keep λb o e=>?_,os,bare};cases q:H b with
    |none=>show un.keep b o e q (by show λz=>È (show b∈([]:List Æ)from z) 0.1) 0.1
    |some u=>
     rcases I b with z|⟨ob,xs,z⟩
     .rw[q]at z;cases z
     .let z2:=un.yO b ob _ z;let⟨J,_⟩:=hok b _ z;let⟨e2,_⟩:=l b _ z2;rw[e]at J;cases J;show e2
 cases hk:K.lookup a with
 |some o=>
  let e:=N a o hk;rw[ha]at e;cases e;show f (λ_=>ν) (λ_=>.inl rfl) (.inr {_,vs.toArray,_,hk,rfl,rfl,rfl,#v[gC,j,!hl],G[7]}) (λb u z=>by let g:(ν:Option HO)=ι u:=z;cases g) (λb z=>È rfl z) λz=>È rfl z
 |none=>
  show f (λb=>if b=a then ι (.oE {cls:=.type "list",data:=.seq vs.toArray} (.lst ns[11]))else ν) (λb=>?_) (.inl (.inr {{cls:=.type "list",data:=.seq vs.toArray},Á rfl})) (λb u z=>?_) (λb z=>?_) λ_=>hk
  .by_cases hb:b=a
   .exact .inr {_,_,Á hb}
   .exact .inl (Â hb)
  .by_cases hb:b=a
   .let g:=(Á hb).symm.trans z;cases g;subst hb;show{ha,#v[aA,!hl],vs,_,G,ha}
   .let g:=(Â hb).symm.trans z;cases g
  .by_cases hb:b=a
   .exact hb
   .exact È (Â hb) z
abbrev E0:XK:=λ_ _ _=>False
structure wI(K:aH)(x qual:Str)(st:Ö)(f:Æ)(fd:Ć):Prop where
 ex:∃(oc:Ã)(od:Option Æ)(kV doc pm:Ã)(an:Option Æ)(cdv ct:Ã)(osl:Array (Option Ã)),
  fd=rY x qual (nG st) (jG st) (aG st) .none kV doc pm an cdv ct/\K.lookup f=ι {oc,od,.func fd,osl}/\Ho K cdv qual=true
 kp:su K (.ref f)=true
section
variable {K:aH}
def wI.binds{x a:Str}{st:Ö}{f:Æ}{b:Ć}{ps:List Str}(F:wI K x a st f b)
  (h:∀(kV O Y:Ã)(an:Option Æ)(U ct:Ã)(us:List Ã),us[_]=ps[_]->ŭ (rY x a (nG st) (jG st) (aG st) .none kV O Y an U ct) {us,([])}=pure (ps.zip us)):Binds K b ps []:=by
 ext g e kV O Y an U ct c rfl i d F.ex;show .all (h kV O Y an U ct)
def WD{x a:Str}{st:Ö}{f:Æ}{oc:Ã}{od an:Option Æ}{Y:Array (Option Ã)}{kV U pm O ct:Ã}(l:K.lookup f=ι {oc,od,.func (rY x a (nG st) (jG st) (aG st) .none kV U pm an O ct),Y})
  (c:Ho K O a=true) (k:su K (.ref f)=true):wI K x a st f (rY x a (nG st) (jG st) (aG st) .none kV U pm an O ct):={{oc,od,kV,U,pm,an,O,ct,Y,rfl,l,(c)},k}
end
def eX(h:n<=1000):n<Ê:=jD h 0.3
def pv(i:Nat)(hN:X.N[i]?=ι x:=by rfl)(hv:QL X.env.scope x:=by first|show ju rfl|show dR (ju rfl)|show dR (dR rfl))(hd:(x==("__debug__":Str))=false:=by decide)
  (O:(x==("__classdict__":Str))=false:=by decide):PE X (.Name x pos) (Xg i):=aGD hN hv hd O
def bO{A B:Prop}(h:B):if false=true then A else B:=by
 rw[Â iU,!h]
def gk{A B:Prop}(h:A):if true=true then A else B:=by
 rw[Á rfl,!h]
def cT{c A B:Prop}[Decidable c](h1:c->A)(h2:¬c->B):if c then A else B:=by
 by_cases h:c
 .rw[Á h];show h1 h
 .rw[Â h];show h2 h
def vE{c A B:Prop}[Decidable c](hc:c)(h:B):if(!decide c)=true then A else B:=by
 rw[É hc,!bO h]
def Same(H H':Hp):Prop:=∀b o,H b=ι o->H' b=ι o
def Same.refl(H:Hp):Same H H:=λ_ _ h=>h
def Same.trans(a:Same H H1)(b:Same H1 H2):Same H H2:=λc o h=>b c o (a c o h)
def Same.free(e:Same H H')(h:H' l=Se):H l=Se:=by
 cases q:H l with
 |none=>rfl
 |some o=>
  rw[e l o q]at h;cases h
def Same.seq{K:aH}{H H':Hp}{a:Æ}{xs:τ}(e:Same H H')(h:aj K H a xs):aj K H' a xs:=by
 rcases h with(h|⟨o,h⟩)|h
 .exact .inl (.inl (e _ _ h))
 .exact .inl (.inr {o,e _ _ h})
 .exact .inr h
section
variable {κ:Type}[DecidableEq κ]
end
section
variable {us:List Ã}
def us0(h:us[_]=0):us=[]:=zH h
def MP{n:Nat}(h:us[_]=n+1):∃a r,us=a::r/\r[_]=n:=by
 cases us with
 |nil=>cases h
 |cons a r=>show{a,r,rfl,Nat.succ.inj h}
def Yn(h:us[_]=1):∃a,us=[a]:=by
 let⟨a,r,rfl,k⟩:=MP h;obtain rfl:=us0 k;show{a,(rfl)}
def Ym(h:us[_]=2):∃a b,us=[a,b]:=by
 let⟨a,r,rfl,k⟩:=MP h;let⟨b,rfl⟩:=Yn k;show{a,b,(rfl)}
def us3(h:us[_]=3):∃a b c,us=[a,b,c]:=by
 let⟨a,r,rfl,k⟩:=MP h;let⟨b,c,rfl⟩:=Ym k;show{a,b,c,(rfl)}
def us4(h:us[_]=4):∃a b c d,us=[a,b,c,d]:=by
 let⟨a,r,rfl,k⟩:=MP h;let⟨b,c,d,rfl⟩:=us3 k;show{a,b,c,d,(rfl)}
def us5(h:us[_]=5):∃a b c d e,us=[a,b,c,d,e]:=by
 let⟨a,r,rfl,k⟩:=MP h;let⟨b,c,d,e,rfl⟩:=us4 k;show{a,b,c,d,e,(rfl)}
def K2(h:Û)(e:Æ):Prop:=∃a vs,h.get? e=ι a/\a.data=.fields vs/\vs[2]?=ι .none
end
structure vm(P:Þ)(w:Ý)(outer:List Env)(H:Hp)(s:Ó)(E:XK)(e:Ã)(s':Ó):Prop where
 ex:∃(ea C:Æ)(a0:Ã)(B:Û)(H':Hp),e=.ref ea/\s'.os=s.os/\ħ s'.gens/\Û.FlyingW B outer ea (.ref C) a0 s'.heap/\gO P w H' B/\Un (ż outer) [] H H' s.heap s'.heap/\
  (∀b o,s.heap.get? b=ι o->b∈ż outer∨∃o',B.get? b=ι o')/\E (.ref C) ν H'
 k2:∃ea,e=.ref ea/\K2 s'.heap ea
def Fi(h:vm P w outer H s E0 e s'):False:=by
 ext _ _ _ _ _ _ _ _ _ _ _ _ q h.ex;show q
def Gf:Passes (vm X.prog X.w) X E0:=λ_ _ _ _ _ _ _ h=>(Fi h).elim
abbrev J7(P:Þ)(w:Ý)(K:aH)(mg:μ)(base:Û)(N:List Str)(a:Str)(scope:ļ)(f:Æ)(O:Ã)(A:î)(outer:List Env)(s:Ó)(H:Hp)(E:XK):Cx:=
 Gi (vm P w) P w K mg base N a scope f O A outer s H E
inductive Okt(X:Cx)(b:List Ö)(D:Ends)(σ:St)(H:Hp):Prop|mk(t:TS)(_:m8 X b t)(_:t D σ H)
section
variable {P:Þ}{w:Ý}{K:aH}{mg:μ}{base:Û}{x qual:Str}{st:Ö}{f:Æ}{fd:Ć}{N ps:List Str}{k:Nat}{sp:Sp}
def wI.okF(F:wI K x qual st f fd)(S:aM N ps (aG st))(len:∀vs H Q E,sp vs H Q E->vs[_]=ps[_])
  (U:∀(O:Ã)(A:î)(outer:List Env)(s:Ó)(H:Hp)(vs:τ)(Q:VK)(E:XK),dM k (A.deeper (Ġ qual (aG st) s[1] f O))->sp vs H Q E->
   ∃t,m8 (J7 P w K mg base N qual (aG st) f O A outer s H E) (jG st) t/\t (.fn Q) (start N vs) H):mQ P w K mg base (vm P w) (k+1) f fd ps sp:=by
 ext j i kV e g l O ct c rfl d b F.ex;show aHg d b S len λA outer s H vs Q E hr a=>U O A outer s H vs Q E hr a
def wI.okN(F:wI K x qual st f fd)(S:aM N ps (aG st))(len:∀vs H Q E,sp vs H Q E->vs[_]=ps[_])
  (U:∀(O:Ã)(A:î)(outer:List Env)(s:Ó)(H:Hp)(vs:τ)(Q:VK)(E:XK),dM k (A.deeper (Ġ qual (aG st) s[1] f O))->sp vs H Q E->
   Okt (J7 P w K mg base N qual (aG st) f O A outer s H E).CN (jG st) (.fn Q) (start N vs) H):mQ P w K mg base (vm P w) (k+1) f fd ps sp:=
 F.okF S len λO A outer s H vs Q E hr h=>let⟨t,a,b⟩:=U O A outer s H vs Q E hr h;{t,a.CN,(b)}
end
section
variable {r:R2}{x:Str}{p:Pos}{k:Nat}{sp:Sp}{t:String}{s:Ó}{K:aH}
def dj.imp(h:dj X f r)(i:∀x y H Q,r' x y H Q->r x y H Q):dj X f r':=λa s σ H x y v u Q I b ry q=>h a s σ H x y v u Q I b ry (i _ _ _ _ q)
def qD.imp(h:qD X r)(i:∀x y H Q,r' x y H Q->r x y H Q):qD X r':=λa b c s σ H x y v u Q I d ry q e=>h a b c s σ H x y v u Q I d ry (i _ _ _ _ q) e
def rB(U:Gl X x)(O:∃t,X.mg x=ι (.int i t))(hd:(x==("__debug__":Str))=false:=by decide):PE X (.Name x pos) (tC (.int i)):=by
 ext t e O;show Wx U e {t,(rfl)} hd
def E3(U:Gl X x)(O:X.mg x=ν)(hv:Ü x=ι (.type n))(hn:x≠ "__name__" := by decide)(hd:(x==("__debug__":Str))=false:=by decide):PE X (.Name x pos) (tC (.ty n)):=
 aU9 U O hv (v:=.ty n) rfl hn hd
structure mW(P:Þ)(w:Ý)(K:aH)(mg:μ)(base:Û)(x:Str)(k:Nat)(ps:List Str)(sp:Sp):Prop where
 ex:∃(g:Æ)(gd:Ć),mg x=g[4]/\su K (.ref g)=true/\Binds K gd ps []/\mQ P w K mg base (vm P w) k g gd ps sp
def aMs{t:TA}(C:mW X.prog X.w X.K X.mg X.base x k ps sp)(hr:dM k' X.A)(U:Gl X x)(ha:PA X (e::es) t)
  (hk:k<=k':=by decide)(hd:(x==("__debug__":Str))=false:=by decide)
  (Y:Ò (e::es) X.env=(false,eval e X.env)::Ò es X.env:=by rfl)(O:(ó pos (Ò es X.env)).any (·.1)=false:=by rfl):PE X (.Call (.Name x p) (e::es) [] pos) (Il sp [] E0 t):=by
 ext g c b a hb F C.ex;show aG6 F (hr.mono hk) U b a hb .nil Gf ha hd Y O
def aDA(C:mW X.prog X.w X.K X.mg X.base x k [] sp)(hr:dM k' X.A)(O:Gl X x)
  (hk:k<=k':=by decide)(hd:(x==("__debug__":Str))=false:=by decide):PE X (.Call (.Name x p) [] [] pos) (Il sp [] E0 zu):=by
 ext g c b a hb F C.ex;show aLl F (hr.mono hk) O b a hb .nil Gf hd
def aMA{E:χ}{t:Æ}{vs ws:List Ã}{Q:χ}(ht:Ľ s.heap t vs.toArray)(hb:Ľ s.heap b ws.toArray)(hv:vs=[])
  (h1:Q (.ref b) s):Ô (model prog w) A (ç .Add (.ref t) (.ref b)) Q E s:=by
 obtain⟨⟨p,o,j,l⟩,i,hc,n,hd⟩:=id ht;obtain⟨⟨k,f,g,e⟩,a,d,m,c⟩:=id hb;simp only at hc hd d c;subst hc hd d c;show Ε {_,i,rfl} {_,a,rfl} ř ŷ ZG Xk (Yg _ _)
   (tuple_addW0 t b vs.toArray ws.toArray n m o f l e (by simp[hv])) {i,a,(h1)}
def aVM(K:aH):R2:=λx y H Q=>∃a b ys,x=.ref a/\y=.ref b/\ao K H a []/\ao K H b ys/\Q (.ref b) H
def aGc:dj X (ç .Add) (aVM X.K):=by
 intro g s σ H x y v u Q I d ry h;ext a b ys rfl rfl ha hb q h;cases d;cases ry;let⟨f,e,p1,_⟩:=I.tuple ha;let⟨c,i,p2,_⟩:=I.tuple hb;show aMA p1 p2 (e.Dw.mpr rfl) {.ref b,H,I,rfl,q}
inductive aEU(a b:Æ)(H:Hp)(Q:VK):Prop|mk(xs ys:τ)(h1:H a=xs[2])(h2:H b=ys[2])(_:xs[_]+ys[_]<=Ê)(_:∀z,H z=ν->Q (.ref z) (upd H z (.lst (xs++ys))))
def Cr(K:aH):R2:=λx y H Q=>match x,y with
 |.int i,.int j=>Q (.int (i+j)) H
 |.str i,.str j=>i[_]+j[_]<=Ê/\Q (.str (i++j)) H
 |.ref a,.ref b=>aEU a b H Q∨
   (∃xs ys,ao K H a xs/\ao K H b ys/\xs[_]+ys[_]<=Ê/\(xs=[]->Q (.ref b) H)/\(xs≠[]->ys=[]->Q (.ref a) H)/\(xs≠[]->ys≠[]->∀p,H p=ν->Q (.ref p) (upd H p (.tup (xs++ys)))))
 |_,_=>False
def v_add:dj X (ç .Add) (Cr X.K):=by
 show((aAn.or aBV).or (aT5.or (aGW.or aGc))).imp λx y H Q h=>?_;unfold Cr at h;split at h
 .exact .inl (.inl {"",h})
 .exact .inl (.inr {"",h})
 .rcases h with⟨xs,ys,h1,h2,h3,h4⟩|⟨xs,ys,h1,h2,h3,h4,b,a⟩
  .exact .inr (.inl {_,_,xs,ys,rfl,rfl,h1,h2,h3,h4})
  .by_cases hx:xs=[]
   .subst hx;show .inr (.inr (.inr {_,_,ys,rfl,rfl,h1,h2,h4 rfl}))
   .exact .inr (.inr (.inl {_,_,xs,ys,rfl,rfl,h1,h2,hx,h3,b hx,a hx}))
 .exact h.elim
inductive aFN(i j:Int)(H:Hp)(Q:VK):Prop|mk(_:Ņ i j)(_:Q (.int (i*j)) H)
inductive aPR(l:Æ)(k:Int)(H:Hp)(Q:VK):Prop|mk(xs:τ)(_:H l=xs[2])(h1:-(2^63)<=k)(h2:k<2^63)(_:xs[_]*k.toNat<=Ê)(_:∀z,H z=ν->Q (.ref z) (upd H z (.lst (dN k.toNat xs).flatten)))
def CI:R2:=λx y H Q=>match x,y with
 |.int i,.int j=>aFN i j H Q
 |.ref l,.int k=>aPR l k H Q
 |_,_=>False
def Dx:dj X (ç .Mult) (rI Ņ λi j=>.int (i*j)):=Ao λ_ _ _ _ _ _ _ hc q=>mul_int q hc
def v_mul:dj X (ç .Mult) CI:=by
 show(Dx.or aJn).imp λx y H Q h=>?_;unfold CI at h;split at h
 .ext h1 h2 h;show .inl {"",h1,h2}
 .ext xs h1 h2 h3 h4 a h;show .inr {_,_,xs,rfl,rfl,h1,h2,h3,h4,a}
 .exact h.elim
inductive SIx(K:aH)(p:Æ)(i:Int)(H:Hp)(Q:VK):Prop|mk(xs:τ)(v:V)(_:aj K H p xs∨ao K H p xs)(_:jE xs i=ι v)(_:Q v H)
def TN(K:aH):R2:=λx y H Q=>match x,y with
 |.ref p,.int i=>SIx K p i H Q
 |.str z,.int i=>∃c,z[_]<=Ê/\jE z[8] i=ι c/\Q (.str {(#[c])}) H
 |_,_=>False
def aHC:qD X (TN X.K):=by
 show aSZ.imp λx y H Q h=>?_;unfold TN at h;split at h
 .obtain⟨xs,v,h1|h1,h2,h3⟩:=h
  .exact .inl {_,xs,_,v,rfl,rfl,h1,h2,h3}
  .exact .inr (.inl {_,xs,_,v,rfl,rfl,h1,h2,h3})
 .ext c h1 h2 h3 h;show .inr (.inr {_,_,c,rfl,rfl,h1,h2,h3})
 .exact h.elim
def OJ(H:Hp):V->Option String
 |.non=>ι "NoneType"
 |.bl _=>ι "bool"
 |.int _=>ι "int"
 |.str _=>ι "str"
 |.ref a=>match H a with
  |some (.lst _)=>ι "list"
  |some (.oE _ (.lst _))=>ι "list"
  |some (.tup _)=>ι "tuple"
  |some (.dK _)=>ι "dict"
  |_=>ν
 |_=>ν
def subB(t c:String):Bool:=t==c||(t== "bool" && c== "int")
def aIf{c:String}(ht:t∈["NoneType","bool","int","str","list","tuple","dict"])(hc:c∈["int","bool","tuple","list","str","dict"]):W.kitOne K (.type t) (.type c)=ι (subB t c):=by
 simp only[fj,En,or_false]at ht hc;rcases ht with rfl|rfl|rfl|rfl|rfl|rfl|rfl<;>rcases hc with rfl|rfl|rfl|rfl|rfl|rfl<;>kernel_rfl
def aPE{H:Hp}{x:V}(h:OJ H x=ι t):rP K H x (.type t)/\t∈["NoneType","bool","int","str","list","tuple","dict"]:=by
 unfold OJ at h;split at h
 .cases h;show{.non,0.1}
 .cases h;show{.bl _,0.1}
 .cases h;show{.int _,0.1}
 .cases h;show{.str _,0.1}
 .split at h
  .rename_i e;cases h;show{.lst e,0.1}
  .rename_i e;cases h;show{.oE e,0.1}
  .rename_i e;cases h;show{.tup e,0.1}
  .rename_i e;cases h;show{.dK e,0.1}
  .cases h
 .cases h
inductive Sis(xs:τ)(H:Hp)(Q:VK):Prop|mk(x c t)(_:xs=[x,.ty c])(_:OJ H x=ι t)(_:c∈["int","bool","tuple","list","str","dict"])(_:Q (.bl (subB t c)) H)
def Eo:jt X (.builtin "isinstance") Sis:=by
 intro e s σ H xs us Q I r h;ext x c t rfl ht hc q h;ext u v rfl b a r.two;cases a;let⟨ty,d⟩:=aPE (K:=X.K) ht;show aHO I b ty (aIf d hc) λtk=>{.bl _,H,I.tok tk,rfl,q}
theorem Xh:∀{bs:List Bool} {us:List Ã},Vals (bs.map V.bl) us->us=bs.map è
 |[],_,.nil=>rfl
 |b::bs,_,.cons r t=>by
  let e:=Xh (bs:=bs) t;cases (show _=è b from r);rw[e,0]
def k_{h':Û}(hk:∀b x,b∉[s[1]]->(s.heap.push o).get? b=ι x->h'.get? b=ι x):∀b x,s.heap.get? b=ι x->h'.get? b=ι x:=
 λb x e=>hk b x (λa=>by rw[iI.mp a]at e;show rO _ (dX e)) (Ç _ e)
def v_all(hc:X.calm=true):jt X (.builtin "all") (λxs H Q=>∃(l:Æ) (bs:List Bool),xs=[.ref l]/\aj X.K H l (bs.map V.bl)/\Q (.bl (bs.all id)) H):=by
 intro m s σ H xs us Q I r h;ext l bs rfl w q h;ext u rfl o r.one;cases o;let⟨t,n,p,hz⟩:=I.list w;let z:=Xh n;subst z;let c:=p.isList;let f:l<s[1]:=by ext _ e _ c;show dX e
 show call_all_walk (Ģ c ?_);show{s[1],[s[1],l],[s[1]],(bs.map è).toArray.size,_,_,λi=>(bs[i]?).getD true,rfl,Walks.list (A:=X.A.in1) (I.ok.hd hc) _ l (jP f) (bs.map è).toArray,
  {{_,Ù _ rfl,rfl,rfl},c.push _},λi v s' Q' B y j=>?_,λh' tk hk=>?_}
 .let a:(bs.map è)[i]?=ι v:=y[7]
  rw[Î]at a;cases e:bs[i]? with
  |none=>rw[e]at a;cases a
  |some b=>
   rw[e]at a;cases a;dsimp only at j;rw[e]at j;show ä j
 .let k:((dY (bs.map è).toArray.size).all λi=>(bs[i]?).getD true)=bs.all id:=by
   rw[gC,aA];rw[Gq,jU,jU];constructor
   .intro g x hx;let⟨i,hi,e⟩:=pH.mp hx;let:=g i (fQ.mpr hi);rw[Ä hi,e]at this;show this
   .intro g i hi;let d:=fQ.mp hi;rw[Ä d,!g _ (rD d)]
  let fin:EP X m σ Q (.bool (bs.all id)) {s with heap:=h',toks:=tk}:={.bl _,H,I.kept (k_ hk),rfl,q};first|(rw[k,!fin])|(simpa[k]using fin)
def v_sum(hc:X.calm=true):jt X (.builtin "sum") (λxs H Q=>∃(l:Æ) (ns:ζ),xs=[.ref l]/\aj X.K H l ns[11]/\Q (.int ns.sum) H):=by
 intro j s σ H xs us Q I r h;ext l ns rfl f q h;ext u rfl d r.one;cases d;let⟨a,c,e,hz⟩:=I.list f;let hi:=intsAre_of c;ext xs hx hi.allInts.items;let b:s.heap.IsList l (intItems xs):=hx▸e.isList;show sum_intListG (I.ok.hd hc) b λh' tk t' hk=>?_;let i:ns=xs.toList.map (·.1):=by
  rw[<-nums_intItems,<-hx,!(show numsOf a.toArray.toList=ns from hi.numsOf).symm]
 let g:preSum (numAt xs) xs.size=ns.sum:=by
  rw[preSum_eq,sG 0.1,i]
 rw[g,!{.int _,H,I.kept hk,{()},q}]
inductive z_(P:Prop)(R:It->Hp->Prop)(J:It)(H:Hp):Prop|mk(_:P)(_:R J H)
inductive SSq(z:aH)(a:Æ)(H:Hp)(R:It->Hp->Prop):Prop
 |inl (h:z_ (∃xs,aj z H a xs) R (sS z a) H)
 |inr (h:z_ (∃xs,ao z H a xs) R (KZ z a) H)
inductive Wy(K:aH)(x:V)(H:Hp)(R:It->Hp->Prop):Prop|mk(a:Æ)(_:x=.ref a)(_:SSq K a H R)
def p_(K:aH)(tl:TE):TI:=λσ H R=>tl σ H λx H1=>Wy K x H1 R
def aW8(O:PE X l tl):PI X tg l (p_ X.K tl):=by
 show λi s σ H R I h=>aY (O i s σ H _ I h) λv c zz=>?_;let⟨x,H1,d,k,a,e,q⟩:=zz;subst e;cases k;rcases q with⟨⟨xs,hq⟩,q⟩|⟨⟨xs,hq⟩,q⟩
 .let m:PI X tg l (aWK X.K λg H' Q=>Q (.ref a) H')->True:=λ_=>trivial;let⟨f,j,p,hz⟩:=d.list hq;show Ģ p.isList ?_;show{c[1],[c[1]],_,_,H1,rfl,d.kept (t':=c.toks) λb o e=>Ç _ e,ay3 a _,{_,Ù _ rfl,rfl,rfl},λb hb=>?_,q};let e:b=c[1]:=hb[7]
  subst e;show d.tW (aZ _) (d.hok.fresh (aZ _))
 .obtain⟨f,j,p,hz⟩:=d.tuple hq;show wpAny_pyIter_tuple (show c.heap.IsTuple a f.toArray from p) ?_;show{c[1],[c[1]],_,_,H1,rfl,d.kept (t':=c.toks) λb o e=>Ç _ e,azF a _,{_,Ù _ rfl,rfl,rfl},λb hb=>?_,q};let e:b=c[1]:=hb[7]
  subst e;show d.tW (aZ _) (d.hok.fresh (aZ _))
end
section
variable {env:Env}{scope sc:ļ}{X:Cx}{elt iter tg:ü}{ifs:List ü}{pos py spos:Pos}{cm:Cx->Prop}{wx:List (Str×Æ)->Æ->Ó->Hp->List Æ->Ã->Ó->Prop}{wi:TI}{g:TG}{tc:TT}{te:TE}{N:List Str}{ix:List (Option Nat)}{i:Nat}{y:Str}
theorem Xa{env:Env}:∀(names:List (Str×ĕ))(O:List (Str×Æ)),(∀y∈names,y.2=.free->∃c,env.cells.lookup y.1=ι c)->(∀p∈O,env.cells.lookup p.1=ι p.2)->
 ∃cl,(forIn names O λ(y:Str×ĕ)(cs:List (Str×Æ))=>match y with|(name,kind)=>if(kind== .free)=true then do let a<-cellOf env name;pure (Ċ ((name,a)::cs))else pure (Ċ cs))=(pure cl:Sem _)/\(∀p∈cl,env.cells.lookup p.1=ι p.2)/\(∀p∈O,p∈cl)/\∀y∈names,y.2=.free->∃c,(y.1,c)∈cl
 |[],O,_,ha=>{O,rfl,ha,λ_ h=>h,λ_ h=>nomatch h}
 |(n,k)::r,O,hf,ha=>by
  let hr:∀y∈r,y.2=.free->∃c,env.cells.lookup y.1=ι c:=λy hy=>hf y (gW _ hy);by_cases hk:k=.free
  .subst hk;let⟨c,hc⟩:=hf (n,.free) lH rfl;let⟨cl,e,h1,h2,h3⟩:=Xa r ((n,c)::O) hr (λp hp=>by
    rcases fj.mp hp with rfl|hp
    .exact hc
    .exact ha p hp)
   show{cl,?_,h1,λp hp=>h2 p (gW _ hp),λy hy b=>?_}
   .rw[rg];simp only[beq_self_eq_true,if_true,cellOf,hc,pure_bind];show e
   .rcases fj.mp hy with rfl|hy
    .exact{c,h2 _ lH}
    .exact h3 y hy b
  .let hb:(k==į)=false:=hk[7]
   let⟨cl,e,h1,h2,h3⟩:=Xa r O hr ha;show{cl,?_,h1,h2,λy hy b=>?_}
   .rw[rg];simp only[hb,b8,if_false,pure_bind];show e
   .rcases fj.mp hy with rfl|hy
    .exact È b hk
    .exact h3 y hy b
def aOZ(O:∀y∈scope.names,y.2=.free->∃c,env.cells.lookup y.1=ι c):
  ∃cl,closureFor scope env=pure cl/\(∀x c,cl.lookup x=ι c->env.cells.lookup x=ι c)/\∀y∈scope.names,y.2=.free->∃c,cl.lookup y.1=ι c:=by
 let⟨cl,e,h1,_,h3⟩:=Xa (env:=env) scope.names [] O (λ_ h=>nomatch h);show{cl,?_,λx c h=>h1 (x,c) (Ad h),λy hy a=>?_}
 .unfold closureFor;simp only[bind_pure_comp]at e⊢;rw[e,0]
 .obtain⟨c,hc⟩:=h3 y hy a;cases q:cl.lookup y.1 with
  |some d=>show{d,(rfl)}
  |none=>
   let z:=List.lookup_eq_none_iff.mp q (y.1,c) hc;simp at z
def K3(sc:ļ)(cl:List (Str×Æ))(C:Æ)(env:Env):Env:=
 {scope:=sc,locals:=C,globals:=env.globals,cells:=cl,qual:=env.qual,func:=ν,code:=env.code,frame:=env.frame,builtins:=env.builtins}
def iG(X:Cx)(sc:ļ)(N:List Str)(cl:List (Str×Æ))(C:Æ)(s₀:Ó)(H₀:Hp)(ex:List Æ):Cx:=
 {X with env:=K3 sc cl C X.env,N:=N,s₀:=s₀,H₀:=H₀,outer:=X.stack,ex:=ex,fn:=λ_=>false,pn:=[],xe:=λ_ _=>False}
def cst(ix:List (Option Nat))(σ:St):St:=ix.map λo=>match o with
 |none=>ν
 |some i=>match σ[i]? with
  |some v=>v
  |none=>ν
def Cv(X:Cx)(a:List ü)(t:TT):Prop:=
 ∀b s σ H (Q:Bool->Hp->Prop),Inv X b σ H s->t σ H Q->
  Ô X[12] X.A (forIn a true λc r=>if r=true then do let ok<-isTrue c X.env (eval c X.env);pure (Ċ ok)else pure (Ċ r)) (TP X b σ Q) X.xe s
def nj:TT:=λ_ H Q=>Q true H
def cP:Cv X [] nj:=λ_ _ _ H _ I h=>wpAny_tests_nil {H,I,(h)}
def BH(h:PT X c t):Cv X [c] t:=λa s σ H Q I q=>wpAny_tests_one (h a s σ H Q I q)
def aCZ(I:Nat->Ó->Prop)
  (turn:∀n s,I n s->Ô (model prog w) A (pyNext it) (λr s₁=>match r with
   |none=>R (.ok .next) s₁
   |some v=>Ô (model prog w) A (ĺ O it v) (λ_ s₀=>Ô (model prog w) A (assign O env v) (λ_ s₂=>
     Ô (model prog w) A (forIn ifs true λc r=>if r=true then do let ok<-isTrue c env (eval c env);pure (Ċ ok)else pure (Ċ r)) (λok U=>
      if ok=true then Ô (model prog w) A (eval elt env) (λx s₄=>
       Ô (model prog w) A (call (.builtin "list.append") [acc,x]) (λ_ Y=>∃m,m<n/\I m Y) (λ_ _=>False) s₄) (notedBy (model prog w) A env λx s'=>R (.error x) s') U
      else ∃m,m<n/\I m U) (λ_ _=>False) s₂) (λ_ _=>False) s₀) (λ_ _=>False) s₁) (λ_ _=>False) s)
  (n:Nat)(h:I n s):
  Ĝ (model prog w) A (.compLoop (.ListComp elt [{O,iter,ifs,(0)}] scope pos) 0 it acc env) R s:=by
 show codeAny_loop rfl I (λn s i=>?_) n h;show Ô _ A ((compTurn (.ListComp elt [{O,iter,ifs,(0)}] scope pos) 0 it acc env).onRaise (λx=>do noteFrame x env;theTreesLotGoes x)) _ _ s
 show wpAny_noted ?_;rw[compTurn_list,!Å (Ĩ (Å (ð (turn n s i) (λr s₁ b=>?_) λ_ _ h'=>h'.elim)))];cases r with
 |none=>show Ñ b
 |some v=>
  show Å (ð b (λ_ s₀ g=>?_) λ_ _ h'=>h'.elim);show Å (ð g (λ_ s₂ f=>Å (ð f (λok U a=>?_) λ_ _ h'=>h'.elim)) λ_ _ h'=>h'.elim);cases ok with
  |false=>show Ñ {rfl,(a)}
  |true=>
   show Å (Å (ð a (λx s₄ e=>Å (ð e (λ_ Y d=>Ñ (Ñ {rfl,(d)})) λ_ _ h'=>h'.elim)) λ_ _ h'=>h'))
structure mK(ix:List (Option Nat))(g:TG)(tc:TT)(te:TE)(σ:St)(Q:VK)(J:It)(H1:Hp):Prop where
 go:∀D,H1 D=ν->∃W:Nat->Nat->St->Hp->Prop,(∃m,W 0 m (cst ix σ) (upd H1 D (.lst [])))/\
  ∀i m σ' H',W i m σ' H'->(J.stop i H'/\Q (.ref D) H')∨(J.go i H'/\∀x H2,J.nM i H' x H2->g x σ' H2 λσ3 H3=>tc σ3 H3 λb H4=>
   if b=true then te σ3 H4 λy H5=>∃ys,H5 D=ys[2]/\ys[_]<Ê/\∃m',m'<m/\W (i+1) m' σ3 (upd H5 D (.lst (ys++[y])))
   else ∃m',m'<m/\W (i+1) m' σ3 H4)
def Tc(ix:List (Option Nat))(wi:TI)(g:TG)(tc:TT)(te:TE):TE:=λσ H Q=>wi σ H λJ H1=>mK ix g tc te σ Q J H1
structure KR(X:Cx)(scope sc:ļ)(N:List Str)(ix:List (Option Nat)):Prop where
 rel:relabel scope X.env=sc
 kind:scope.kind=.function
 cell:∀y∈scope.names,y.2≠ .cell
 names:∀x∈scope.names,x.2=.local->scope.names.lookup x.1=ι .local
 free:∀y∈scope.names,y.2=.free->X.env.kindOf y.1=ι .cell∨X.env.kindOf y.1=ι .free
 len:N[_]=ix[_]
 ix:∀(j:Nat)(x:Str)(i:Nat),N[j]?=ι x->ix[j]?=ι (ι i)->X.N[i]?=ι x/\(x,į)∈scope.names/\(sc.names.lookup x=ι .cell∨sc.names.lookup x=ι .free)
 has:∀x,(sc.names.lookup x=ι .cell∨sc.names.lookup x=ι .free)->(x,į)∈scope.names
def FE(O:KR X scope sc N ix)(hc:cm X)(hcm:∀{π:List (Æ×Obj)} {σ:St} {H:Hp} {s:Ó} (cl:List (Str×Æ)) (C:Æ) (fp:List Æ),Inv X π σ H s->cm (iG X sc N cl C s H fp))(hi:ϥ cm X tg iter wi)
  (hb:∀cl C s₀ H₀ ex,cm (iG X sc N cl C s₀ H₀ ex)->PG (iG X sc N cl C s₀ H₀ ex) tg g/\Cv (iG X sc N cl C s₀ H₀ ex) ifs tc/\PE ((iG X sc N cl C s₀ H₀ ex).wish (wx cl C s₀ H₀ ex)) elt te)(hs:∀x,ē iter X.env x=pure x){use:Option (Ã->Sem Unit)}{QQ:χ}(I:Inv X π σ H s)(h:Tc ix wi g tc te σ H Q)
  (sv:∀cl D C s₀ H₀ ex x s',wx cl C s₀ H₀ ex x s'->(∀{Es U H' s1},Inv (iG X sc N cl C s₀ H₀ ex) Es U H' s1->Inv X π σ H' s1/\qI X π H' C)->notedBy X[12] X.A (K3 sc cl C X.env) (λx s'=>ū X[12] X.A X.xe use QQ (.ref D) C (.error x) s') x s')
  (fin:∀(D C:Æ)(s6:Ó)(Y:Hp)(m:μ),Inv X π σ Y s6->s6.heap.Ns C m->qI X π Y C->Q (.ref D) Y->ū X[12] X.A X.xe use QQ (.ref D) C (.ok .next) s6):
  Ô X[12] X.A (comprehension (.ListComp elt [{tg,iter,ifs,(0)}] scope pos) scope X.env ip (newList []) false (eval iter X.env) use) QQ X.xe s:=by
 let hcl:∃cl,closureFor scope X.env=pure cl/\(∀x c,cl.lookup x=ι c->X.env.cells.lookup x=ι c)/\∀y∈scope.names,y.2=.free->∃c,cl.lookup y.1=ι c:=
  aOZ λy hy hf=>I.ok.has y.1 (O.free y hy hf)
 ext cl ecl DV LS hcl;show wpAny_comprehension_free (use:=use) rfl hs ecl O.kind O.names (aY (hi π s σ H _ I h) λv s1 h1=>aY h1 λitv t h2=>?_);ext it fp tn J H2 e I2 T st2 f2 q2 h2;subst e;obtain⟨W,⟨m0,w0⟩,turn⟩:=q2.go t[1] I2.fresh;show ĉ ?_;let a:=I2.Tv (its:=[]) (t':=t.toks) (ys:=[]) .nil (dz _);generalize eH3:upd H2 t[1] (.lst [])=H3 at a w0;let eD:H3 t[1]=[][2]:=#v[-eH3,!aB]
 let aES:∀b∈fp,b≠t[1]:=λb hb z=>by
  let⟨o,ho,_⟩:=T.obj _ _ st2 b hb;show È (dX ho) #v[z,!rO _]
 let st3:tn 0 (t.heap.push {cls:=.type "list",dict:=ν,data:=.seq ([]:List Ã).toArray}):=T.keep _ _ _ st2 λb _ o e=>Ç _ e;let w:∀b∈fp,qI X π H3 b:=λb hb=>{#v[-eH3,cO (aES b hb),!(f2 b hb).1],(f2 b hb).2};generalize es3:({t with heap:=t.heap.push {cls:=.type "list",dict:=ν,data:=.seq ([]:List Ã).toArray},toks:=t.toks}:Ó)=s3 at a;let Hb:tn 0 s3.heap:=#v[-es3,!st3]
 show wpAny_newFunctionEnv O.cell (λy hy=>nomatch hy) (λh4 aCJ aTx=>?_) O.kind;let uA:∀b o,s3.heap.get? b=ι o->h4.get? b=ι o:=λb o e=>(aTx.2 b (jP (dX e))).trans (Ç _ e);let I4:Inv X π σ H3 {s3 with heap:=h4,toks:=s3.toks+([]:List (Str×Ã))[_]}:=a.kept uA;let aHt:({newEnv scope s3[1] X.env.globals cl X.env.qual ν .none (ι X.env) ŏ with scope:=relabel scope X.env}:Env)=K3 sc cl s3[1] X.env:=#v[O.rel,0]
 rw[aHt,!Ĝ _ _ _ (ū X[12] X.A X.xe use QQ (.ref t[1]) s3[1]) _];generalize eC:s3[1]=C;generalize es4:({s3 with heap:=h4,toks:=s3.toks+([]:List (Str×Ã))[_]}:Ó)=s4 at I4;let h4s:s4.heap=h4:=#v[-es4]
 let o4s:s4.os=s3.os:=#v[-es4]
 let fC:∀b∈fp,b≠C:=λb hb z=>by
  let⟨o,ho,_⟩:=T.obj _ _ Hb b hb;show È (dX ho) #v[z,eC,!rO _]
 let HM:(iG X sc N cl C s3 H3 fp).Ok:=by
  show{a.ok.mod,?_,a.ok.glob,a.ok.blt,Lz eC,λx y c h1 h2=>a.ok.inj x y c (DV x c h1) (DV y c h2),λx hx=>?_,λx c z _=>(nomatch z),a.ok.hd,a.ok.frames,.inl rfl,λb hb=>{fC b hb,λx c e=>(w b hb).2.2.2.2.1 x c (DV x c e)},
   a.bs,cD a.ok.zJ a.sz,λb o e hb=>?_,λb hb z=>?_,a.stack,a.PH,a.ok.tree,a.ok.top}
  .show sc.kind=.function;rw[<-O.rel,!O.kind]
  .exact LS (x,.free) (O.has x hx) rfl
  .rcases(w b hb).2.2.2.1 with z|z
   .exact a.ok.IG b o e z
   .exact È (gY (dX e) (cD a.ok.zJ z)) (rO _)
  .rcases fj.mp (a.WG b z)with z|z
   .exact(w b hb).2.1 z
   .exact(w b hb).2.2.1 z
 let IC:Inv (iG X sc N cl C s3 H3 fp) [] (cst ix σ) H3 s4:=by
  show{HM,o4s,I4.bare,?_,?_,λx c e=>I4.cell x c (DV x c e),?_,λx c e=>I4.wO x c (DV x c e),λp hp=>(nomatch hp),I4.hok,?_}
  .rw[h4s];show Un.kept uA
  .refine{_,#v[h4s,-eC,!aCJ],λj x v e1 e2 e3=>?_};let f:(cst ix σ)[j]?=ι (ι v):=e2;unfold cst at f;rw[Î]at f;cases q:ix[j]? with
   |none=>rw[q]at f;cases f
   |some o=>
    rw[q]at f;cases o with
    |none=>cases f
    |some i=>
     let⟨hx,S,hsc⟩:=O.ix j x i e1 q;cases q2:σ[i]? with
     |none=>simp[q2]at f
     |some w'=>
      simp[q2]at f;subst f;ext m hn hl I4.loc;let kf:=O.free (x,.free) S rfl;let vis:QL X.env.scope x:=by
       rcases kf with k|k
       .exact .inr (.inl k)
       .exact .inr (.inr k)
      let⟨u,r,l⟩:=hl i x v hx q2 vis;show{u,r,?_};rcases l with⟨k,_⟩|⟨_,c,e,z⟩
      .rcases kf with k'|k'
       .rw[k]at k';cases k'
       .rw[k]at k';cases k'
      .obtain⟨c',e'⟩:=LS (x,.free) S rfl;let:=DV x c' e';rw[e]at this;cases this;show .inr {hsc,c,e',(z)}
  .rw[<-eC];show a.fresh
  .show(cst ix σ)[_]=N[_];rw[O.len];simp[cst]
 let st4:tn 0 s4.heap:=T.keep _ _ _ Hb λb _ o e=>#v[h4s,!uA b o e]
 let G:∀{H':Hp},(∀b∈fp,H' b=ν)->∀b∈fp,qI (iG X sc N cl C s3 H3 fp) [] H' b:=λhn b hb=>
  {hn b hb,fC b hb,HM.Pq b hb,.inl hb,λx c e=>(w b hb).2.2.2.2.1 x c (DV x c e),λp hp=>(nomatch hp)}
 let hc':cm (iG X sc N cl C s3 H3 fp):=hcm cl C fp a;let⟨hg,ht,he⟩:=hb cl C s3 H3 fp hc';let R:Ĝ X[12] X.A (.compLoop (.ListComp elt [{tg,iter,ifs,(0)}] scope pos) 0 (.ref it) (.ref t[1]) (K3 sc cl C X.env))
   (ū X[12] X.A X.xe use QQ (.ref t[1]) C) s4:=by
  show aCZ (λn s'=>∃i U H',Inv (iG X sc N cl C s3 H3 fp) [] U H' s'/\tn i s'.heap/\(∀b∈fp,H' b=ν)/\W i n U H') ?_ m0 {0,cst ix σ,H3,IC,st4,λb hb=>(w b hb).1,w0};rintro n s5 ⟨i,P,Y,I5,GP,Ri,w5⟩;rcases turn i n P Y w5 with⟨stop,qn⟩|⟨go,step⟩
  .refine aY (T.done (iG X sc N cl C s3 H3 fp) rfl rfl rfl hc' i [] s5 P Y (λ_ _=>False) I5 (G Ri) GP stop) λr s6 zz=>?_;let⟨hr,B⟩:=zz;subst hr;let⟨m,hn,_⟩:=id B.loc;let I7:Inv X π σ Y s6:=a.WJ (ch:=fp) B.os B.base B.hok B.bare λb hb=>{(w b hb).2.2.2.1,(w b hb).2.1,(w b hb).2.2.2.2.1,(w b hb).2.2.2.2.2};show fin _ C s6 Y m I7 hn (a.tW (Lz eC) B.free) qn
  .refine aY (T.item (iG X sc N cl C s3 H3 fp) rfl rfl rfl hc' i [] s5 P Y (λ_ _=>False) I5 (G Ri) GP go) λr s6 zz=>?_;let⟨u,hr,h6⟩:=zz;subst hr;show aY h6 λ_ s7 zz=>?_;let⟨x,H7,I7,r7,y7,Z,fr7⟩:=zz;let I7':=I7.pinned (G fr7) (T.obj _ _ Z);let again:∀{L:St} {H9:Hp} {s9:Ó} {m':Nat},Inv (iG X sc N cl C s3 H3 fp) ([]++Kv fp s7.heap) L H9 s9->m'<n->W (i+1) m' L H9->
     ∃m,m<n/\∃i U H',Inv (iG X sc N cl C s3 H3 fp) [] U H' s9/\tn i s9.heap/\(∀b∈fp,H' b=ν)/\W i m U H':=λ{L H9 s9 m'} I9 S w9=>by
    show{m',S,i+1,L,H9,I9.Ia,T.keep _ _ _ Z λb hb o e=>(I9.pin (b,o) (rW _ (rW _ (LR hb e)))).1,λb hb=>?_,w9};let⟨o,e,d⟩:=T.obj _ _ Z b hb;show(I9.pin (b,o) (rW _ (rW _ (LR hb e)))).2.1
   show aY (hg _ s7 P H7 x u _ I7' r7 (step x H7 y7)) λ_ s8 zz=>?_;let⟨M,H8,I8,q8⟩:=zz;show aY (ht _ s8 M H8 _ I8 q8) λb s9 zz=>?_;let⟨H9,I9,q9⟩:=zz;cases b with
   |false=>
    rw[Â iU]at q9;ext m' S w9 q9;rw[Â iU,!again I9 S w9]
   |true=>
    rw[Á rfl]at q9;rw[Á rfl,!ð (he _ s9 M H9 _ (I9.wish _) q9) (λy Wi zz=>?_) (λx Wi hx=>sv cl _ C s3 H3 fp x Wi hx λB=>{a.WJ (ch:=fp) B.os B.base B.hok B.bare λb hb=>{(w b hb).2.2.2.1,(w b hb).2.1,(w b hb).2.2.2.2.1,(w b hb).2.2.2.2.2},a.tW (Lz eC) B.free})];let⟨yv,kj,ay2,r10,ys,e10,R4,m',S,w10⟩:=zz;let I10:=Inv.yS ay2;show aY (Iq _ Wi M kj (.ref t[1]) [yv] (.ref t[1]) [y] (λ_ H'=>W (i+1) m' M H') I10 rfl (.cons r10 .nil) {_,ys,yv,rfl,rfl,e10,R4,w10}) λ_ s11 zz=>?_;let⟨_,H11,I11,_,w11⟩:=zz;show again I11 S w11
 show codeAny_compStart_list R (T.self _ _ _ _ _ st4 R)
def c7(O:KR X scope sc N ix)(hc:X.calm=true)(hi:PI X tg iter wi)
  (hb:∀cl C s₀ H₀ ex,PG (iG X sc N cl C s₀ H₀ ex) tg g/\Cv (iG X sc N cl C s₀ H₀ ex) ifs tc/\PE (iG X sc N cl C s₀ H₀ ex) elt te)
  (U:∀x,ē iter X.env x=pure x:=by intro _;rfl):PE X (.ListComp elt [{tg,iter,ifs,(0)}] scope pos) (Tc ix wi g tc te):=by
 intro c s σ H Q I h;rw[eval_ListComp,!FE (cm:=λX=>X.calm=true) (wx:=λ_ _ _ _ _ _ _=>False) (use:=ν) (QQ:=EP X c σ Q) O hc (λ_ _ _ _=>hc) hi (λcl C s₀ H₀ ex _=>hb cl C s₀ H₀ ex) U I h (λ_ _ _ _ _ _ _ _ z=>z.elim) λD C s6 i m d hn f q=>{m,hn,λh' a=>{.ref D,i,d.turned (it:=C) (t':=s6.toks) (λb o hb e=>(a.2 b hb).trans e) f.1 f.2.1 f.2.2.2.1 f.2.2.2.2.1 f.2.2.2.2.2,rfl,q}}]
def aNw(hN:X.N.Nodup)(hi':X.N[i]?=ι y)(hx:Loc X.env.scope y)
  (O:KR X scope sc N ix)(hc:cm X)(hcm:∀{π:List (Æ×Obj)} {σ:St} {H:Hp} {s:Ó} (cl:List (Str×Æ)) (C:Æ) (fp:List Æ),Inv X π σ H s->cm (iG X sc N cl C s H fp))(hi:ϥ cm X tg iter wi)
  (hb:∀cl C s₀ H₀ ex,cm (iG X sc N cl C s₀ H₀ ex)->PG (iG X sc N cl C s₀ H₀ ex) tg g/\Cv (iG X sc N cl C s₀ H₀ ex) ifs tc/\PE ((iG X sc N cl C s₀ H₀ ex).wish (wx cl C s₀ H₀ ex)) elt te)
  (sv:∀{π:List (Æ×Obj)} {σ:St} {use:Option (Ã->Sem Unit)} {QQ:χ} cl D C s₀ H₀ ex x s',wx cl C s₀ H₀ ex x s'->(∀{Es U H' s1},Inv (iG X sc N cl C s₀ H₀ ex) Es U H' s1->Inv X π σ H' s1/\qI X π H' C)->notedBy X[12] X.A (K3 sc cl C X.env) (λx s'=>ū X[12] X.A X.xe use QQ (.ref D) C (.error x) s') x s')
  (hs:∀x,ē iter X.env x=pure x:=by intro _;rfl)(Y:ĭ (.ListComp elt [{tg,iter,ifs,(0)}] scope pos) (ι (.Name y py)) spos.line X.env=pure true:=by rfl)
  (hf:X.fn y=true∨X.env.scope.names.lookup y=ι .local:=by first|exact .inl rfl|exact .inr rfl|assumption):
  PS X (.Assign [.Name y py] (.ListComp elt [{tg,iter,ifs,(0)}] scope pos) spos) (Lg (Tc ix wi g tc te) (jq i)):=by
 intro π s σ H D I h;rw[exec_Assign_Name_used _ _ _ _ Y,!Å (Ĩ (Å ?_))];show Ô _ X.A (do let _<-comprehension (.ListComp elt [{tg,iter,ifs,(0)}] scope pos) scope X.env _ (newList []) false (eval iter X.env) (ι (assign (.Name y py) X.env))) _ _ s
 show Å (ð (FE (use:=ι (assign (.Name y py) X.env)) (QQ:=λ_ s'=>∃U H',Inv X π U H' s'/\D.nx U H') O hc hcm hi hb hs I h sv λl C s6 J m B hn f q=>?_) (λ_ s' ⟨U,H',G,p⟩=>Ñ (Ñ {U,H',G,(p)})) λ_ _ e=>e);let⟨o,t,u,j,a,c⟩:=id hn;let w:=B.pinned (fp:=[C]) (λb hb=>by
  let e:b=C:=hb[7]
  subst e;show f) (λb hb=>by
  let e:b=C:=hb[7]
  subst e;show{o,j,λv z=>by first|(rw[a.2]at z;cases z)|(rw[c.1]at z;cases z)|(rw[a]at z;cases z)|(simp_all)})
 show Ô _ X.A (assign (.Name y py) X.env (.ref l)) _ _ _;show ω (M7 w hN hi' hx (v:=.ref l) rfl (λn k=>?_) hf);let r:=(k.pin (C,o) (rW _ (rW _ (LR 0.1 j)))).1;show{m,{o,t,u,r,a,(c)},λh' d=>{_,J,k.Ia.turned (it:=C) (t':=n.toks) (λb o hb e=>(d.2 b hb).trans e) f.1 f.2.1 f.2.2.2.1 f.2.2.2.2.1 f.2.2.2.2.2,q}}
def lK(hN:X.N.Nodup)(hi':X.N[i]?=ι y)(hx:Loc X.env.scope y)
  (O:KR X scope sc N ix) (hc:X.calm=true) (hi:PI X tg iter wi)
  (hb:∀cl C s₀ H₀ ex,PG (iG X sc N cl C s₀ H₀ ex) tg g/\Cv (iG X sc N cl C s₀ H₀ ex) ifs tc/\PE (iG X sc N cl C s₀ H₀ ex) elt te)
  (Y:∀x,ē iter X.env x=pure x:=by intro _;rfl) (U:ĭ (.ListComp elt [{tg,iter,ifs,(0)}] scope pos) (ι (.Name y py)) spos.line X.env=pure true:=by rfl)
  (hf:X.fn y=true∨X.env.scope.names.lookup y=ι .local:=by first|exact .inl rfl|exact .inr rfl|assumption):
  PS X (.Assign [.Name y py] (.ListComp elt [{tg,iter,ifs,(0)}] scope pos) spos) (Lg (Tc ix wi g tc te) (jq i)):=
 aNw (cm:=λX=>X.calm=true) (wx:=λ_ _ _ _ _ _ _=>False) hN hi' hx O hc (λ_ _ _ _=>hc) hi (λcl C s₀ H₀ ex _=>hb cl C s₀ H₀ ex) (λ_ _ _ _ _ _ _ _ z=>z.elim) Y U hf
end
mutual
inductive qx(K:aH)(H:Hp):V->Ş->Prop
 |non:qx K H .non .none
 |bl (b:Bool):qx K H (.bl b) (.bool b)
 |int (i:Int):qx K H (.int i) (.int i)
 |str (x:Str):qx K H (.str x) (.str x)
 |lst {a:Æ} {xs:τ} {ds:List Ş}:aj K H a xs->qC K H xs ds->qx K H (.ref a) (.list ds)
 |tup {a:Æ} {xs:τ} {ds:List Ş}:ao K H a xs->qC K H xs ds->qx K H (.ref a) (.tuple ds)
inductive qC(K:aH)(H:Hp):τ->List Ş->Prop
 |nil:qC K H [] []
 |cons {x:V} {d:Ş} {xs:τ} {ds:List Ş}:qx K H x d->qC K H xs ds->qC K H (x::xs) (d::ds)
end
section
variable {X:Cx}{π:List (Æ×Obj)}{σ:St}{H:Hp}{s:Ó}
mutual
theorem Inv.reads(I:Inv X π σ H s):∀{x:V} {d:Ş} {u:Ã},qx X.K H x d->RelV x u->∃as,Reads s.heap u d as
 |_,_,_,.non,r=>by cases r;show{_,.none}
 |_,_,_,.bl b,r=>by cases r;show{_,.bool b}
 |_,_,_,.int i,r=>by ext t rfl r;show{_,.int i t}
 |_,_,_,.str x,r=>by ext t rfl r;show{_,.str x t}
 |_,_,_,.lst hq hs,r=>by
  cases r;let⟨e,a,c,_⟩:=I.list hq;let⟨as,ra⟩:=Inv.readsAll I hs a;ext o f hc n hd c.isList;show{_,.list f hc hd ra[7]}
 |_,_,_,.tup hq hs,r=>by
  cases r;let⟨e,a,c,_⟩:=I.tuple hq;let⟨as,ra⟩:=Inv.readsAll I hs a;ext o f hc n hd c;show{_,.tuple f hc hd ra[7]}
theorem Inv.readsAll(I:Inv X π σ H s):∀{xs:τ} {O:List Ş} {us:List Ã},qC X.K H xs O->Vals xs us->∃as,ReadsAll s.heap us O as
 |_,_,_,.nil,.nil=>{_,.nil}
 |_,_,_,.cons h1 h2,.cons r1 r2=>by
  let⟨as,a⟩:=Inv.reads I h1 r1;let⟨bs,b⟩:=Inv.readsAll I h2 r2;show{_,.cons a b}
end
theorem qC.ints{K:aH}{H:Hp}:∀ns:ζ,qC K H ns[11] (ns.map cw)
 |[]=>.nil
 |n::r=>.cons (.int n) (qC.ints r)
def vY(O:List (Key×V)):List (Key×V)->Bool
 |[]=>true
 |(k,v)::r=>match fB O k with
  |none=>false
  |some y=>ϣ v y&&vY O r
theorem Wt{A:î}{O:List (Key×V)}{U:List (Key×Ã)}(hb:KV O U)(fb:O.all (λp=>uO p.2)=true):∀{ka:List (Key×V)} {Y:List (Key×Ã)},KV ka Y->ka.all (λp=>uO p.2)=true->
  W.KeqHits A s U Y (vY O ka)
 |[],_,.nil,_=>.nil
 |(k,v)::r,(k',v')::r',.cons {e,(rv)} t,f=>by
  cases (show k=k' from e);rw[List.all_cons,tH]at f;let hv:=KV.val hb k;cases q:fB O k with
  |none=>
   let hn:ņ U k=ν:=mO.none_of (by rw[q]at hv;show hv);let b:vY O ((k,v)::r)=false:=by simp[vY,q]
   rw[b,!.miss hn]
  |some y=>
   rw[q]at hv;let⟨u,hu,c⟩:=mO.some_of hv;let g:uO y=true:=by
    unfold fB at q;cases a:O.find? (λd=>decide (d.1=k))with
    |none=>rw[a]at q;cases q
    |some p=>
     rw[a]at q;cases q;show jU.mp fb p (ě a)
   let b:vY O ((k,v)::r)=(ϣ v y&&vY O r):=by simp[vY,q]
   rw[b,!.hit hu (aJa rv c f.1 g) (Wt hb fb t f.2)]
end
def rM(K:aH)(g:Bool->Bool):R2:=λx y H Q=>match x,y with
 |.int i,.int j=>Q (.bl (g (decide (i=j)))) H
 |.bl i,.bl j=>Q (.bl (g (decide (i=j)))) H
 |.str i,.str j=>Q (.bl (g (decide (i=j)))) H
 |.non,.non=>Q (.bl (g true)) H
 |.ref a,.ref b=>(∃d e,qx K H (.ref a) d/\qx K H (.ref b) e/\ï d=true/\ï e=true/\Q (.bl (g (Ba d e))) H)∨
   (∃ka c,H a=ι (.dK ka)/\H b=ι (.dK c)/\ka.all (λp=>uO p.2)=true/\c.all (λp=>uO p.2)=true/\Q (.bl (g (ka[_]==c[_]&&vY c ka))) H)
 |.non,.ref _=>False
 |.ref _,.non=>False
 |x,y=>Wq x y=true/\Q (.bl (g (decide (x=y)))) H
def aOh(hr:dM k X.A):dj X (â .Eq) (λx y H Q=>∃d e,qx X.K H x d/\qx X.K H y e/\ï d=true/\ï e=true/\Q (.bl (Ba d e)) H):=by
 intro b s σ H x y v u Q I a ry h;ext d e h1 h2 h3 h4 q h;let⟨as,ra⟩:=I.reads h1 a;let⟨bs,rb⟩:=I.reads h2 ry;show eq_dataH ra rb h3 h4 hr.units {.bl _,H,I,rfl,q}
def aIB(hr:dM k X.A):dj X (â .NotEq) (λx y H Q=>∃d e,qx X.K H x d/\qx X.K H y e/\ï d=true/\ï e=true/\Q (.bl (!Ba d e)) H):=by
 intro b s σ H x y v u Q I a ry h;ext d e h1 h2 h3 h4 q h;let⟨as,ra⟩:=I.reads h1 a;let⟨bs,rb⟩:=I.reads h2 ry;show ne_dataH ra rb h3 h4 hr.units {.bl _,H,I,rfl,q}
def aAQ(hr:dM k X.A):dj X (â .Eq) (λx y H Q=>∃a b ka O,x=.ref a/\y=.ref b/\H a=ι (.dK ka)/\H b=ι (.dK O)/\ka.all (λp=>uO p.2)=true/\O.all (λp=>uO p.2)=true/\Q (.bl (ka[_]==O[_]&&vY O ka)) H):=by
 intro i s σ H x y v u Q I c ry h;ext a b ka O rfl rfl h1 h2 h3 h4 q h;cases c;cases ry;obtain⟨_,e,l,ra,g⟩:ka[_]<=Ê/\(a==ã)=false/\∃vs,KV ka vs/\s.heap.DictOf (mY X.prog X.w) a vs:=I.hok a _ h1;obtain⟨_,d,j,rb,f⟩:O[_]<=Ê/\(b==ã)=false/\∃vs,KV O vs/\s.heap.DictOf (mY X.prog X.w) b vs:=I.hok b _ h2;show W.keq_eq e d g f hr.aj9 (λ_=>Wt rb h4 ra h3) {.bl _,H,I,?_,q};show _=è _;rw[Paired.length ra,Paired.length rb]
def aL3(hr:dM k X.A):dj X (â .NotEq) (λx y H Q=>∃a b ka O,x=.ref a/\y=.ref b/\H a=ι (.dK ka)/\H b=ι (.dK O)/\ka.all (λp=>uO p.2)=true/\O.all (λp=>uO p.2)=true/\Q (.bl (!(ka[_]==O[_]&&vY O ka))) H):=by
 intro i s σ H x y v u Q I c ry h;ext a b ka O rfl rfl h1 h2 h3 h4 q h;cases c;cases ry;obtain⟨_,e,l,ra,g⟩:ka[_]<=Ê/\(a==ã)=false/\∃vs,KV ka vs/\s.heap.DictOf (mY X.prog X.w) a vs:=I.hok a _ h1;obtain⟨_,d,j,rb,f⟩:O[_]<=Ê/\(b==ã)=false/\∃vs,KV O vs/\s.heap.DictOf (mY X.prog X.w) b vs:=I.hok b _ h2;show W.keq_ne e d g f hr.aj9 (λ_=>Wt rb h4 ra h3) {.bl _,H,I,?_,q};show _=è _;rw[Paired.length ra,Paired.length rb]
def JE:decide (V.int i=V.int j)=decide (i=j):=0.1
def s_:decide (V.bl i=V.bl j)=decide (i=j):=0.1
def U2:decide (V.str i=V.str j)=decide (i=j):=0.1
def v_eq(hr:dM k X.A):dj X (â .Eq) (rM X.K id):=by
 show(aAs.or ((aOh hr).or (aAQ hr))).imp λx y H Q h=>?_;unfold rM at h;split at h
 .exact .inl {rfl,#v[JE,!h]}
 .exact .inl {rfl,#v[s_,!h]}
 .exact .inl {rfl,#v[U2,!h]}
 .exact .inl {rfl,#v[É rfl,!h]}
 .rcases h with⟨d,e,h⟩|⟨ka,a,h⟩
  .exact .inr (.inl {d,e,(h)})
  .exact .inr (.inr {_,_,ka,a,rfl,rfl,h})
 .exact h.elim
 .exact h.elim
 .exact .inl h
def aQ7(hr:dM k X.A):dj X (â .NotEq) (rM X.K not):=by
 show(aIW.or ((aIB hr).or (aL3 hr))).imp λx y H Q h=>?_;unfold rM at h;split at h
 .exact .inl {rfl,#v[JE,!h]}
 .exact .inl {rfl,#v[s_,!h]}
 .exact .inl {rfl,#v[U2,!h]}
 .exact .inl {rfl,#v[É rfl,!h]}
 .rcases h with⟨d,e,h⟩|⟨ka,a,h⟩
  .exact .inr (.inl {d,e,(h)})
  .exact .inr (.inr {_,_,ka,a,rfl,rfl,h})
 .exact h.elim
 .exact h.elim
 .exact .inl h
end L2
namespace PySem.SeqAt
open AutoSeq1 (wpAny_loadPart')
open MeetsSeq MeetsSeq2 MeetsSeq3 SeqRoads2
end PySem.SeqAt
namespace L2
open PySem PySem.Spec PyProof.Rows
section
variable {K:aH}{mg:μ}{x:Str}{st:Ö}{N ps:List Str}{H H1:Hp}{a:Æ}{xs:τ}{i:Int}{X:Cx}{ix:List (Option Nat)}{h:Û}{J:It}{σ:St}{Q:VK}{t:TE}
def boot_isinstance:Ü "isinstance"=ι (.builtin "isinstance"):=0.0
def boot_abs:Ü "abs"=ι (.builtin "abs"):=0.0
def boot_sum:Ü "sum"=ι (.builtin "sum"):=0.0
def boot_max:Ü "max"=ι (.builtin "max"):=0.0
def boot_int:Ü "int"=ι (.type "int"):=0.0
def boot_bool:Ü "bool"=ι (.type "bool"):=0.0
def boot_tuple:Ü "tuple"=ι (.type "tuple"):=0.0
def boot_list:Ü "list"=ι (.type "list"):=0.0
structure Fn(K:aH)(mg:μ)(x:Str)(st:Ö)(ps:List Str):Prop where
 ex:∃(f:Æ)(fd:Ć),wI K x x st f fd/\mg x=f[4]/\Binds K fd ps []
def Fn.cal{P:Þ}{w:Ý}{base:Û}{k:Nat}{sp:Sp}(F:Fn K mg x st ps)(S:aM N ps (aG st))
  (O:∀{f:Æ} {U:Ã} {A:î} {outer:List Env} {s:Ó} {vs:τ} (H:Hp) (Q:VK) (E:XK),dM k (A.deeper (Ġ x (aG st) s[1] f U))->sp vs H Q E->
   Okt (J7 P w K mg base N x (aG st) f U A outer s H E).CN (jG st) (.fn Q) (start N vs) H) (len:∀vs H Q E,sp vs H Q E->vs[_]=ps[_]:=by intro _ _ _ _ h;cases h;subst_vars;rfl):mW P w K mg base x (k+1) ps sp:=by
 ext f a F m b F.ex;show{f,a,m,F.kp,b,F.okN S len λU A outer s H vs Q E hr h=>O H Q E hr h}
def Same.new{p:Æ}(h:H p=ν)(o:HO):Same H (upd H p o):=λb u q=>#v[cO (iH q h),!q]
theorem Same.upd{H H':Hp}{p:Æ}(g:Same H H')(h:H p=ν)(o:HO):Same H (L2.upd H' p o):=λb u q=>#v[cO (iH q h),!g b u q]
def Same.Vw{H':Hp}(e:Same H H')(h:ao K H a xs):ao K H' a xs:=by
 rcases h with(h|⟨o,h⟩)|h
 .exact .inl (.inl (e _ _ h))
 .exact .inl (.inr {o,e _ _ h})
 .exact .inr h
def mulL(h1:-(2^64)<i)(h2:i<2^64):Ņ i j:=.of_left (intBits_le_64 h1 h2)
def mulR(h1:-(2^64)<j)(h2:j<2^64):Ņ i j:=.of_right (intBits_le_64 h1 h2)
def cG(h:decide N.Nodup=true:=by kernel_rfl):N.Nodup:=of_decide_eq_true h
abbrev cH(l:List (Str×ĕ)):ļ:={kind:=.function,names:=l,isGenerator:=false,isCoroutine:=false}
abbrev ψ(x:Str)(g c:List Str):ļ:=cH ((".0",.local)::(x,.local)::(g.map (·,.globalImplicit)++c.map (·,.cell)))
def cF(O:relabel scope X.env=sc:=by kernel_rfl)(kind:scope.kind=.function:=by kernel_rfl)(cell:scope.names.all (λy=>y.2 != .cell)=true:=by kernel_rfl)
  (names:scope.names.all (λx=>x.2 != .local||scope.names.lookup x.1==ι .local)=true:=by kernel_rfl)
  (free:scope.names.all (λy=>y.2 != .free||(X.env.scope.names.lookup y.1==ι .cell||X.env.scope.names.lookup y.1==ι .free))=true:=by kernel_rfl)
  (len:N[_]=ix[_]:=by kernel_rfl)
  (U:(N.zip ix).all (λp=>match p.2 with
   |none=>true
   |some i=>X.N[i]?==ι p.1&&scope.names.any (λy=>y.1==p.1&&y.2== .free)&&(sc.names.lookup p.1==ι .cell||sc.names.lookup p.1==ι .free))=true:=by kernel_rfl)
  (has:sc.names.all (λy=>(y.2 != .cell&&y.2 != .free)||scope.names.any (λz=>z.1==y.1&&z.2== .free))=true:=by kernel_rfl):KR X scope sc N ix:=by
 let mem:∀x:Str,scope.names.any (λy=>y.1==x&&y.2== .free)=true->(x,į)∈scope.names:=λx h=>by
  let⟨y,hy,e⟩:=Ip.mp h;rw[tH]at e;ext a b y;let f:a=x:=eq_of_beq e.1;let d:b=.free:=eq_of_beq e.2;subst f;subst d;show hy
 show{O,kind,λy hy e=>?_,λx hx e=>?_,λy hy e=>?_,len,λj x i h1 h2=>?_,λx hx=>?_}
 .let:=jU.mp cell y hy;rw[e]at this;cases this
 .let:=jU.mp names x hx;rw[e]at this;simpa using this
 .let:=jU.mp free y hy;rw[e]at this;simpa[Env.kindOf]using this
 .let c:(x,ι i)∈N.zip ix:=by
   let:(N.zip ix)[j]?=ι (x,ι i):=by
    rw[List.getElem?_zip_eq_some,!{h1,(h2)}]
   show Ð this
  let:=jU.mp U _ c;simp only[tH]at this;obtain⟨⟨a1,a2⟩,a3⟩:=this;show{eq_of_beq a1,mem x a2,?_};rw[Am]at a3;rcases a3 with z|z
  .exact .inl (eq_of_beq z)
  .exact .inr (eq_of_beq z)
 .let c:∃k,(x,k)∈sc.names/\(k=.cell∨k=.free):=by
   rcases hx with z|z
   .exact{_,Ad z,.inl rfl}
   .exact{_,Ad z,.inr rfl}
  ext k hk e c;let:=jU.mp has _ hk;rw[Am]at this;rcases this with z|z
  .rcases e with e|e<;>(subst e;simp at z)
  .exact mem x z
structure aN(K:aH)(x:Str)(st:Ö):Prop where
 ex:∃(f:Æ)(oc:Ã)(od:Option Æ)(kV doc pm:Ã)(an:Option Æ)(cdv ct:Ã)(sl:Array (Option Ã)),cQ K Í x=ι f[4]/\
  K.lookup f=ι {oc,od,.func (rY x x (nG st) (jG st) (aG st) .none kV doc pm an cdv ct),sl}/\Ho K cdv x=true/\su K (.ref f)=true
def aDE{f:Æ}{oc:Ã}{od:Option Æ}{kV U Y:Ã}{an:Option Æ}{O ct:Ã}{b:Array (Option Ã)}(a:cQ K Í x=ι f[4])
  (l:K.lookup f=ι {oc,od,.func (rY x x (nG st) (jG st) (aG st) .none kV U Y an O ct),b}) (c:Ho K O x=true) (k:su K (.ref f)=true):aN K x st:=
 {f,oc,od,kV,U,Y,an,O,ct,b,a,l,c,(k)}
def aN.fn(F:aN K x st)(X:K.In h)(G:h.Ns Í mg)
  (hb:∀(kV O Y:Ã)(an:Option Æ)(U ct:Ã)(us:List Ã),us[_]=ps[_]->ŭ (rY x x (nG st) (jG st) (aG st) .none kV O Y an U ct) {us,([])}=pure (ps.zip us)):Fn K mg x st ps:=by
 ext f g e kV O Y an U ct d a l c k F.ex;let b:=WD (st:=st) l c k;show{f,_,b,j5 X G a,b.binds hb}
def aN.aP(F:aN K x st)(X:K.In h)(G:h.Ns Í mg)
  (hb:∀(kV U pm:Ã)(an:Option Æ)(Y ct:Ã)(us:List Ã),us[_]=ps[_]->ŭ (rY x x (nG st) (jG st) (aG st) .none kV U pm an Y ct) {us,([])}=pure (ps.zip us):=by
   intro _ _ _ _ _ _ us O;first
    |(let⟨_,rfl⟩:=L2.Yn O;rfl)
    |(let⟨_,_,rfl⟩:=L2.Ym O;rfl)
    |(let⟨_,_,_,rfl⟩:=L2.us3 O;rfl)
    |(let⟨_,_,_,_,rfl⟩:=L2.us4 O;rfl)
    |(obtain rfl:=L2.us0 O;rfl)
    |(let⟨_,_,_,_,_,rfl⟩:=L2.us5 O;rfl)
    |(let⟨_,_,_,_,_,_,rfl⟩:=L2.us6 O;rfl)):Fn K mg x st ps:=F.fn X G hb
def aO(kind:sc.kind=.function:=by rfl)(co:sc.isCoroutine=false:=by rfl)(gen:sc.isGenerator=false:=by rfl)(nd:N.Nodup:=by decide +kernel)(pre:N.take P[_]=P:=by rfl)
  (par:∀x∈P,sc.names.lookup x=ι .local∨sc.names.lookup x=ι .cell:=by decide +kernel)(Yl:∀y∈sc.names,y.2≠ .free:=by decide +kernel):aM N P sc:={kind,co,gen,nd,pre,par,(Yl)}
structure sI(J:It)(xs:τ)(H1:Hp):Prop where
 go:∀i H',Same H1 H'->i<xs[_]->J.go i H'
 nM:∀i H' x H2,Same H1 H'->J.nM i H' x H2->H2=H'/\(i<xs[_]->xs[i]?=ι x)
 stop:∀i H',Same H1 H'->xs[_]<=i->J.stop i H'
def jB(hq:aj K H1 a xs):sI (sS K a) xs H1:=
 {λi H' g h=>{xs,xs[i],g.seq hq,by simp[h]},λi H' x H2 g y=>{y.1,λ_=>y.2 xs (g.seq hq)},λi H' g h=>{xs,g.seq hq,h}}
def xQ(hq:ao K H1 a xs):sI (KZ K a) xs H1:=
 {λi H' g h=>{xs,xs[i],g.Vw hq,by simp[h]},λi H' x H2 g y=>{y.1,λ_=>y.2 xs (g.Vw hq)},λi H' g h=>{xs,g.Vw hq,h}}
def A9{lo:Int}{n:Nat}:sI (tG lo n) ((dY n).map λi=>V.int (lo+(i:Nat))) H1:=
 {λi H' g h=>show i<n by simpa using h,λi H' x H2 g y=>{y.1,λh=>by
  let h':i<n:=h[7]
  rw[Î,ú h',y.2,0]},λi H' g h=>show n<=i by simpa using h}
def oZ{tc:TT}{te:TE}(I:sI J xs H1)(hz:xs[_]<=Ê){rest:St}(O:cst ix σ=ν::rest)(p:V->Bool)(F:V->V)
  (ht:∀H' x,Same H1 H'->x∈xs->∀k:Bool->Hp->Prop,k (p x) H'->tc (ι x::rest) H' k)
  (U:∀H' x,Same H1 H'->x∈xs->p x=true->∀k:VK,k (F x) H'->te (ι x::rest) H' k)
  (Y:∀D,H1 D=ν->Q (.ref D) (upd H1 D (.lst ((xs.filter p).map F)))):
  mK ix (jq 0) tc te σ Q J H1:=by
 constructor;show λD d=>{λi m b H'=>m=xs[_]-i/\i<=xs[_]/\(∃o,b=o::rest)/\H'=upd H1 D (.lst (((xs.take i).filter p).map F)),{xs[_],0.1,dz _,{ν,(O)},0.1},?_};rintro i m b H' ⟨rfl,hi,⟨o,rfl⟩,rfl⟩;let g:Same H1 (upd H1 D (.lst (((xs.take i).filter p).map F))):=Same.new d _;by_cases a:i<xs[_]
 .refine .inr {I.go i _ g a,λx H2 y=>?_};let⟨rfl,hx⟩:=I.nM i _ x H2 g y;let hx:=hx a;let c:x∈xs:=Ð hx;let f:xs.take (i+1)=xs.take i++[x]:=by
   rw[zp,hx,0]
  show tc (ι x::rest) _ _;show ht _ x g c _ ?_;cases hp:p x with
  |true=>
   rw[Á rfl,!U _ x g c hp _ {_,aB,?_,xs[_]-(i+1),0.7,rfl,a,{()},?_}]
   .let h1:(((xs.take i).filter p).map F)[_]<=i:=by
     rw[aA,!cD (OZ _ _) #v[jg]]
    lia
   .rw[aFb,f,WK,eG];simp[hp]
  |false=>
   rw[Â iU];show{xs[_]-(i+1),⋯,rfl,a,{()},?_};rw[f,WK];simp[hp]
 .let e:i=xs[_]:=⋯;subst e;show .inl {I.stop _ _ g (aZ _),?_};rw[qw,!Y D d]
def Lw{g:TG}{c:TS}{D:Ends}(I:sI J xs H)(Pv:Nat->St->Hp->Prop)(h0:Pv 0 σ H)(Y:∀i O H',Pv i O H'->Same H H')
  (hs:∀i x O H',xs[i]?=ι x->Pv i O H'->g x O H' λU H2=>c (D.lp (Pv (i+1))) U H2) (hd:∀O H',Pv xs[_] O H'->D.nx O H'):
  ∃W:Nat->Nat->St->Hp->Prop,(∃m,W 0 m σ H)/\∀i m σ H,W i m σ H->
   (J.stop i H/\D.nx σ H)∨(J.go i H/\∃N:St->Hp->Prop,(∀O H',N O H'->∃m',m'<m/\W (i+1) m' O H')/\∀x H',J.nM i H x H'->g x σ H' λU H2=>c (D.lp N) U H2):=by
 show{λi m O H'=>m=xs[_]-i/\i<=xs[_]/\Pv i O H',{xs[_],0.1,dz _,h0},?_};rintro i m O H' ⟨rfl,hi,p⟩;let b:=Y i O H' p;by_cases a:i<xs[_]
 .refine .inr {I.go i _ b a,Pv (i+1),λU H2 d=>{xs[_]-(i+1),⋯,rfl,a,d},λx H2 y=>?_};let⟨rfl,hx⟩:=I.nM i _ x H2 b y;show hs i x O _ (hx a) p
 .let e:i=xs[_]:=⋯;subst e;show .inl {I.stop _ _ b (aZ _),hd O H' p}
structure ο(t:TE)(σ:St)(H:Hp)(Q:VK):Prop where
 go:t σ H Q
def aXg(t:TE):TE:=λσ H Q=>ο t σ H Q
def ο.by(R:V->Hp->Prop)(h:∀k:VK,(∀v H1,R v H1->k v H1)->t σ H k)(q:∀v H1,R v H1->Q v H1):ο t σ H Q:={h Q q}
def Lx(h:PE X e t):PE X e (aXg t):=λa s σ H Q I q=>h a s σ H Q I q.go
structure ur(t:TS)(D:Ends)(σ:St)(H:Hp):Prop where
 go:t D σ H
def aKs(t:TS):TS:=λD σ H=>ur t D σ H
def vM{t:TS}(h:PS X st t):PS X st (aKs t):=λa s σ H D I q=>h a s σ H D I q.go
theorem ur.by{t:TS}{σ:St}{H:Hp}(R:St->Hp->Prop)(h:∀N:St->Hp->Prop,(∀O H',R O H'->N O H')->t {D with nx:=N} σ H)(q:∀O H',R O H'->D.nx O H'):ur t D σ H:=by
 constructor;show h D.nx q
end
end L2
namespace HT
open PySem PyProof.Rows
section
variable {prog:Þ}{w:Ý}{A:î}{E:χ}{s:Ó}
def axe{t b:Æ}{items:Array Ã}{g f:Ã}{lo hi:Option Int}{Q:χ}(ht:Ľ s.heap t items)(O:s.heap.IsSliceOf b g f .none)(pl:ń g lo)(pu:ń f hi)
  (hw:cM items.size 0 lo=0/\cM items.size items.size hi=items.size) (h:Q (.ref t) s):Ô (model prog w) A (Ĥ (.ref t) (.ref b)) Q E s:=by
 let⟨os,c,d,i⟩:=id O;let e:s.TypeIs (.ref b) "slice" := {os,c,(d)};unfold Ĥ;try with_reducible show é ?_
 first|show Å (Ñ ?_)|skip
 show Å (υ ht.typeIs 0.3 ?_);show Å (ī (name:=õ "__getitem__") ht.typeIs Hs
  (Ϗ Hs ht.typeIs Χ ?_ (η _ _)))
 show Ô _ _ (ŀ (.ref t)>>=_) _ _ s;show Å (tupleItemsOf_ ht ?_);show Å (Œ e ?_);rw[Á 0.3,!Å (Su O pl pu ?_)];let a:((cM items.size 0 lo:Nat)[0]==0&&(1:Int)==1&&(cM items.size items.size hi-cM items.size 0 lo)==items.size)=true:=by
  rw[hw.1,hw.2,2]
 show Ô _ _ (if((cM items.size 0 lo:Nat)[0]==0&&(1:Int)==1&&(cM items.size items.size hi-cM items.size 0 lo)==items.size)=true then _ else _) _ _ s;rw[Á a];unfold Builtin.Tuple.tupleIsExact;show Å (Å (Œ ht.typeIs (Ñ ?_)));rw[Á 0.3,!Å (wpAny_rule (Ñ {(),Ñ h}))]
end
end HT
namespace L2
open PySem PySem.Spec PyProof.Rows
def aL7:rA X (λx lo hi H Q=>∃a xs,x=.ref a/\ao X.K H a xs/\(HT.cM xs[_] 0 lo=0/\HT.cM xs[_] xs[_] hi=xs[_])/\Q (.ref a) H):=by
 intro g s σ H x v j i lo hi k Q I d f e pu h;ext a xs rfl hx hw q h;cases d;let⟨c,r,ht,hz⟩:=I.tuple hx;let b:c.toArray.size=xs[_]:=#v[gC,!r[_].symm]
 show{"tuple",_,Hs.lookup,ht.typeIs,HT.axe ht f e pu #v[b,!hw] {.ref a,H,I,rfl,q}}
def boot_all:Ü "all"=ι (.builtin "all"):=0.0
def boot_zip:Ü "zip"=ι (.type "zip"):=0.0
def boot_min:Ü "min"=ι (.builtin "min"):=0.0
def boot_str:Ü "str"=ι (.type "str"):=0.0
section
variable {X:Cx}(K:aH)
def rA.imp(h:rA X r)(i:∀x lo hi H Q,r' x lo hi H Q->r x lo hi H Q):rA X r':=λa s σ H x v c b lo hi d Q I e g f pu q=>h a s σ H x v c b lo hi d Q I e g f pu (i _ _ _ _ _ q)
def aIH(O:X.K=K:=by rfl):dj X (ç .Add) (Cr K):=by subst O;show v_add
def xix(O:X.K=K:=by rfl):qD X (TN K):=by subst O;show aHC
def pQ{k:Nat}(hr:dM k X.A)(O:X.K=K:=by rfl):dj X (â .Eq) (rM K id):=by subst O;show v_eq hr
def xne{k:Nat}(hr:dM k X.A)(O:X.K=K:=by rfl):dj X (â .NotEq) (rM K not):=by subst O;show aQ7 hr
def aDp(O:X.K=K:=by rfl):jt X (.builtin "len") (X5 K):=by subst O;show aUB
def js(hc:X.calm=true)(O:X.K=K:=by rfl):jt X (.builtin "all") (λxs H Q=>∃(l:Æ) (bs:List Bool),xs=[.ref l]/\aj K H l (bs.map V.bl)/\Q (.bl (bs.all id)) H):=by subst O;show v_all hc
def Av(hc:X.calm=true)(O:X.K=K:=by rfl):jt X (.builtin "sum") (λxs H Q=>∃(l:Æ) (ns:ζ),xs=[.ref l]/\aj K H l ns[11]/\Q (.int ns.sum) H):=by subst O;show v_sum hc
def xlist(O:X.K=K:=by rfl):jt X (.type "list") (Sli K):=by subst O;show aRa
def nR(O:X.K=K:=by rfl):jt X (.type "tuple") (Stu K):=by subst O;show aNB
def Hd(K:aH):V->Option Int->Option Int->Hp->VK->Prop:=λx lo hi H Q=>match x with
 |.ref a=>(∃xs,aj K H a xs/\∀p,H p=ν->Q (.ref p) (upd H p (.lst (fP xs lo hi))))∨
   (∃xs,ao K H a xs/\¬(HT.cM xs[_] 0 lo=0/\HT.cM xs[_] xs[_] hi=xs[_])/\∀p,H p=ν->Q (.ref p) (upd H p (.tup (fP xs lo hi))))∨
   (∃xs,ao K H a xs/\(HT.cM xs[_] 0 lo=0/\HT.cM xs[_] xs[_] hi=xs[_])/\Q (.ref a) H)
 |_=>False
def jX(O:X.K=K:=by rfl):rA X (Hd K):=by
 subst O;show(aCg.or (aJs.or aL7)).imp λx lo hi H Q h=>?_;unfold Hd at h;split at h
 .rcases h with⟨xs,h⟩|⟨xs,h⟩|⟨xs,h⟩
  .exact .inl {_,xs,rfl,h}
  .exact .inr (.inl {_,xs,rfl,h})
  .exact .inr (.inr {_,xs,rfl,h})
 .exact h.elim
def dF{a l:ü}{tl:TE}(O:PE X l tl)(U:X.K=K:=by rfl):PI X a l (p_ K tl):=by subst U;show aW8 O
def NJ{a:List ü}{k:Nat}{t:vH}{n:Nat}{pos:Pos}(hc:X.calm=true)(h:B6 X a t)(U:X.K=K:=by rfl)
  (hn:(ô a X.env)[_]=n:=by rfl) (O:(ô a X.env).findIdx? (·.1)=ν:=by rfl):PG X (.Tuple a k pos) (EU K n t):=by subst U;show aIs hc h hn O
def n8{o e:ü}{to:TE}{te:TE}{b a:Pos}(ho:PE X o to)(he:PE X e te)(hK:X.K=K:=by rfl)
  (U:û o "append" X.env (eval o X.env)=eval o X.env:=by rfl)
  (Y:((ó a (Ò [e] X.env)).all (λx=>!x.1)&&(Ń a (Ě [] X.env)).all (λx=>x.1.isSome)
   && decide ([e][_]+([]:List ň)[_]+(if([]:List ň).isEmpty then 0 else 1)<30))=true:=by rfl)
  (O:(b.endLine==a.line)=true:=by rfl) (hs:Ò [e] X.env=(false,eval e X.env)::Ò [] X.env:=by rfl):
  PE X (.Call (.Attribute o "append" b) [e] [] a) (MR K "list" Zp to (DN te zu)):=by
 subst hK;show xF QG PySem.F.slot_list_append PySem.F.type_list_append Iq ho (xW he jF hs) U Y O hs rfl
def LN{o e:ü}{to:TE}{te:TE}{b a:Pos}(ho:PE X o to)(he:PE X e te)(hK:X.K=K:=by rfl)
  (U:û o "extend" X.env (eval o X.env)=eval o X.env:=by rfl)
  (Y:((ó a (Ò [e] X.env)).all (λx=>!x.1)&&(Ń a (Ě [] X.env)).all (λx=>x.1.isSome)
   && decide ([e][_]+([]:List ň)[_]+(if([]:List ň).isEmpty then 0 else 1)<30))=true:=by rfl)
  (O:(b.endLine==a.line)=true:=by rfl) (hs:Ò [e] X.env=(false,eval e X.env)::Ò [] X.env:=by rfl):
  PE X (.Call (.Attribute o "extend" b) [e] [] a) (MR K "list" Tu to (DN te zu)):=by
 subst hK;show xF QG PySem.F.slot_list_extend PySem.F.type_list_extend aJV ho (xW he jF hs) U Y O hs rfl
end
def R9{j}(h:PE X (.Constant c j p) te)(hr:PA X es t):PA X ((.Constant c j p)::es) (DN te t):=xW h hr rfl
def OS(h:PE X (.Name x p) te)(hr:PA X es t):PA X ((.Name x p)::es) (DN te t):=xW h hr rfl
end L2
namespace L2
open PySem
theorem kc:∀ns:ζ,G2 (ns.map cw)=true
 |[]=>rfl
 |n::r=>by
  let:=kc r;simp[G2,qk,this]
theorem YW:∀ns:ζ,bB (ns.map cw)<=1
 |[]=>by simp[bB]
 |n::r=>by
  let:=YW r;simp[bB,qE];omega
def TC(ns:ζ):ï (.list (ns.map .int))=true:=by
 let h1:=kc ns;let h2:=YW ns;simp only[ï,qk,qE,h1,S7];show É ⋯
def e?(ns:ζ):ï (.tuple (ns.map .int))=true:=by
 let h1:=kc ns;let h2:=YW ns;simp only[ï,qk,qE,h1,S7];show É ⋯
def aDd(ns ms:ζ):Ba (.list (ns.map .int)) (.list (ms.map .int))=decide (ns=ms):=by
 rw[Ba,!W.ked_eqvAll ns ms]
def aI6(ns ms:ζ):Ba (.tuple (ns.map .int)) (.tuple (ms.map .int))=decide (ns=ms):=by
 rw[Ba,!W.ked_eqvAll ns ms]
def vP{g:Bool->Bool}{ns ms:ζ}(ha:aj K H a ns[11])(hb:aj K H b ms[11])(q:Q (.bl (g (decide (ns=ms)))) H):rM K g (.ref a) (.ref b) H Q:=
 .inl {_,_,.lst ha (qC.ints ns),.lst hb (qC.ints ms),TC ns,TC ms,#v[aDd,!q]}
def Ra{g:Bool->Bool}{ns ms:ζ}(ha:ao K H a ns[11])(hb:ao K H b ms[11])(q:Q (.bl (g (decide (ns=ms)))) H):rM K g (.ref a) (.ref b) H Q:=
 .inl {_,_,.tup ha (qC.ints ns),.tup hb (qC.ints ms),e? ns,e? ms,#v[aI6,!q]}
end L2
set_option maxHeartbeats 4000000
namespace L2
open PySem PySem.Spec PyProof.Rows
def Ez(lo:Int)(n:Nat):It:={λi _=>i<n,λi H x H'=>H'=H/\x=.int (lo-i),λi _=>n<=i}
def aLk{P:Þ}{w:Ý}{K:aH}{tg:ü}(it:Æ)(lo:Int)(n:Nat):Turn P w K tg (Ez lo n) [it] it (λi h=>Ť h it (lo+(i:Nat)*(-1)) (n[0]-(i:Nat)) (-1)) where
 mem:=0.1
 obj:=λi h st b hb=>by
  let e:b=it:=hb[7]
  subst e;show{_,st,λv z=>by
   let z':ŵ _=Data.cell v:=z;cases z'}
 keep:=λi h h' st k=>k it 0.1 _ st
 item:=by
  intro X hP hw hK hc i π s σ H E I hf st hg;subst hP hw hK;let⟨f0,f1,f2,f3,f4,f5⟩:=hf it 0.1;let W:=Walks.range (prog:=X.prog) (w:=X.w) (I.ok.hd hc) it lo (-1) n;show W.item i s _ _ hg st λv h' tk hv st' kk=>?_;ext t rfl hv;let I1:Inv X π σ H {s with heap:=h',toks:=tk}:=I.turned (λb o hb e=>kk b o hb[7] e) f0 f1 f3 f4 f5;show{(),Ck (s:={s with heap:=h',toks:=tk}) (n:="range_iterator") st' rfl rfl 0.3 {.int (lo-i),H,I1,{t,?_},{rfl,(rfl)},st',λb hb=>(hf b hb).1}};rw[Int.mul_neg_one,0]
 done:=by
  intro X hP hw hK hc i π s σ H E I hf st hg;subst hP hw hK;let⟨f0,f1,f2,f3,f4,f5⟩:=hf it 0.1;show ž (I.ok.hd hc) st (by let:n<=i:=hg;lia) λh' eb=>{rfl,I.turned (t':=s.toks) (λb o hb e=>eb b o hb e) f0 f1 f3 f4 f5}
 self:=λ_ _ _ _ _ st h=>Β st h
def rangeSize_down(a b:Int):æ a b (-1)=if b<a then a-b else 0:=by
 unfold æ;simp only[(0.3:¬(-1:Int)>0),if_false,Int.neg_neg,Qw];split<;>simp_all
def small_down(ha:-(2^62)<=a)(U:a<2^62)(hb:-(2^62)<=b)(O:b<2^62):ď a b (-1)=true:=by
 unfold ď;rw[rangeSize_down];simp only[ľ,tH,Am,decide_eq_true_eq,beq_iff_eq,(0.3:¬(-1:Int)>0),if_false];split<;>grind -ring
section
variable {X:Cx}
def aNd{s:Ó}{R:It->Hp->Prop}{E:χ}{lo hi:Int}{tk:Nat}(I:Inv X π σ H s)(h1:-(2^62)<=lo)(h2:lo<2^62)(h3:-(2^62)<=hi)(h4:hi<2^62)
  (q:R (Ez lo (lo-hi).toNat) H):Ô X[12] X.A (pyIter (.ref s[1])) (D? X π σ tg R) E {s with heap:=s.heap.push {cls:=.type "range",data:=.fields #[.int lo t,.int hi u,.int (-1) v]},toks:=tk}:=by
 show δ (Ŧ ..) (small_down h1 h2 h3 h4) ?_;let a:Inv X π σ H {s with heap:=s.heap.push {cls:=.type "range",data:=.fields #[.int lo t,.int hi u,.int (-1) v]},toks:=tk}:=I.kept λb o e=>Ç _ e;show{(s.heap.push {cls:=.type "range",data:=.fields #[.int lo t,.int hi u,.int (-1) v]}).objs.size,[(s.heap.push {cls:=.type "range",data:=.fields #[.int lo t,.int hi u,.int (-1) v]}).objs.size],_,_,H,rfl,
  a.kept (t':=tk) λb o e=>Ç _ e,aLk _ lo (lo-hi).toNat,?_,λb hb=>?_,q}
 .let d:lo+(0:Nat)[0]*(-1)=lo:=0.1
  let c:(((lo-hi).toNat:Nat):Int)-(0:Nat)[0]=æ lo hi (-1):=by rw[rangeSize_down];split<;>lia
  show Ť _ _ (lo+(0:Nat)[0]*(-1)) (((lo-hi).toNat:Nat)[0]-(0:Nat)[0]) (-1);rw[d,c,!Ù _ rfl]
 .let e:b=(s.heap.push {cls:=.type "range",data:=.fields #[.int lo t,.int hi u,.int (-1) v]}).objs.size:=hb[7]
  subst e;show a.tW (aZ _) (a.hok.fresh (aZ _))
def aRG(a:TA):TI:=λσ H R=>a σ H λvs H1=>∃i j:Int,vs=[.int i,.int j,.int (-1)]/\(-(2^62)<=i/\i<2^62/\-(2^62)<=j/\j<2^62)/\R (Ez i (i-j).toNat) H1
def Fh(hg:Gl X "range")(Y:X.mg "range"=ν)(ha:PA X [a,b,c] ta)(U:Ò [a,b,c] X.env=(false,eval a X.env)::Ò [b,c] X.env:=by rfl)(O:(ó pos (Ò [b,c] X.env)).any (·.1)=false:=by rfl):
  PI X tg (.Call (.Name "range" p) [a,b,c] [] pos) (aRG ta):=by
 show λg s σ H R I h=>Call_ (uz I hg Y Ŭ (xr (aY (ha pos g s σ H _ I h) λus l zz=>?_) U O));let⟨vs,H1,w,m,f⟩:=zz;obtain⟨i,j,e,⟨f,v,u,o⟩,q⟩:=f;subst e;cases m with
 |cons r rr=>
  cases rr with
  |cons n rr=>
   cases rr with
   |cons d rr=>
    cases rr;ext t rfl r;ext t' rfl n;ext k rfl d;show call_range_3 0.3 (aNd (tk:=l.toks) w f v u o q) (.inl (W2 0.3))
end
def AM{lo:Int}{n:Nat}{g:TG}{b:TS}{D:Ends}{σ:St}{H:Hp}(Pv:Nat->St->Hp->Prop)(h0:Pv 0 σ H)
  (Y:∀i σ H,i<n->Pv i σ H->g (.int (lo-i)) σ H λO H2=>b (D.lp (Pv (i+1))) O H2) (hd:∀σ H,Pv n σ H->D.nx σ H):
  ∃W:Nat->Nat->St->Hp->Prop,(∃m,W 0 m σ H)/\∀i m σ H,W i m σ H->
   ((Ez lo n).stop i H/\D.nx σ H)∨((Ez lo n).go i H/\∃N:St->Hp->Prop,(∀U H',N U H'->∃m',m'<m/\W (i+1) m' U H')/\∀x H',(Ez lo n).nM i H x H'->g x σ H' λO H2=>b (D.lp N) O H2):=by
 show{λi m σ H=>m=n-i/\i<=n/\Pv i σ H,{n,0.1,dz _,h0},?_};rintro i m σ H ⟨rfl,hi,p⟩;by_cases a:i<n
 .refine .inr {a,Pv (i+1),λU H' c=>{n-(i+1),0.7,rfl,a,c},λx H' y=>?_};ext e y y;subst e y;show Y i σ _ a p
 .let e:i=n:=⋯;subst e;show .inl {aZ _,hd σ H p}
def aAG:fillsNumberSlot (.type "tuple") "mul" = pure false:=PySem.fillsNumberSlot_seq (id:="tuple.__mul__") (r:=ι (.builtin "tuple.__rmul__")) EY.lookup 0.0 zk.lookup 0.0
def aSK:seqRepeat? (.type "tuple")=pure (ι (.builtin "tuple.__mul__")):=by
 let b:=AS (T:="tuple") (name:="__mul__") (id:="tuple.__mul__") EY.lookup 0.0;let a:=AS (T:="tuple") (name:="__rmul__") (id:="tuple.__rmul__") zk.lookup 0.0;unfold seqRepeat?;rw[b,a,0]
def aLH(a:Int)(t:Tok)(l:Æ)(items:Array Ã)(n:Nat)(dd)(sl):
  Meets (Builtin.«int.__rmul__» {[.int a t,.ref l],[]}) (λ_ R s=>s.heap.get? l=ι {cls:=.type "tuple",dict:=dd,data:=.seq items n,slots:=sl}/\R (.ok (.ret Ã.notImplemented)) s):=
 .of_wp λprog w A R s h=>by
  ext hp g d tk os s;ext b q h
  wp_walk
  show{(),q}
def XT(k:Int)(t:Tok)(l:Æ)(items:Array Ã)(n:Nat)(dd)(sl)(h1:¬(decide (k < -(2^63))||decide (k≥2^63))=true)(h2:(items.isEmpty||k==1)=true):
  Meets (Builtin.«tuple.__mul__» {[.ref l,.int k t],[]}) (λ_ R s=>s.heap.get? l=ι {cls:=.type "tuple",dict:=dd,data:=.seq items n,slots:=sl}/\R (.ok (.ret (.ref l))) s):=
 .of_wp λprog w A R s h=>by
  ext hp g d tk os s;ext a q h;let f1:=ł
  wp_walk using ë a
  rw[Â h1]
  wp_walk using ë a
  show{(),q}
def aEb(k:Int)(t:Tok)(l:Æ)(items:Array Ã)(n:Nat)(dd)(sl)(h1:¬(decide (k < -(2^63))||decide (k≥2^63))=true)(h2:¬(items.isEmpty||k==1)=true)(h3:¬(decide (k<=0)||items.isEmpty)=true)
  (h4:¬(items.size:Int)*k>(2^63-1)/8) (h5:¬Builtin.Tuple.tupleTooMany ((items.size:Int)*k)=true) (h6:((dN k.toNat items).foldl (·++·) #[]).size<=Ê):
  Meets (Builtin.«tuple.__mul__» {[.ref l,.int k t],[]}) (λ_ R s=>s.heap.get? l=ι {cls:=.type "tuple",dict:=dd,data:=.seq items n,slots:=sl}/\
   R (.ok (.ret (.ref s[1]))) {s with heap:=s.heap.push {cls:=.type "tuple",data:=.seq ((dN k.toNat items).foldl (·++·) #[])}}):=
 .of_wp λprog w A R s h=>by
  ext hp g d tk os s;ext a q h;let f1:=ł
  wp_walk using ë a
  rw[Â h1]
  wp_walk using ë a
  rw[Â h4]
  wp_walk using ë a
  show{(),q}
def aEn(k:Int)(t:Tok)(l:Æ)(items:Array Ã)(n:Nat)(dd)(sl)(h1:¬(decide (k < -(2^63))||decide (k≥2^63))=true)(h2:¬(items.isEmpty||k==1)=true)(h3:(decide (k<=0)||items.isEmpty)=true):
  Meets (Builtin.«tuple.__mul__» {[.ref l,.int k t],[]}) (λ_ R s=>s.heap.get? l=ι {cls:=.type "tuple",dict:=dd,data:=.seq items n,slots:=sl}/\
   R (.ok (.ret (.ref s[1]))) {s with heap:=s.heap.push {cls:=.type "tuple",data:=.seq #[]}}):=
 .of_wp λprog w A R s h=>by
  ext hp g d tk os s;ext a q h;let f1:=ł
  wp_walk using ë a
  rw[Â h1]
  wp_walk using ë a
  show{(),q}
def aVS:dj X (ç .Mult) (λx y H Q=>∃l k xs,x=.ref l/\y=.int k/\ao X.K H l xs/\0<=k/\k<1000/\xs[_]*k.toNat<=10000/\(xs=[]∨k=1->Q (.ref l) H)/\
  (xs≠[]->k≠1->∀p,H p=ν->Q (.ref p) (upd H p (.tup (dN k.toNat xs).flatten)))):=by
 intro P s σ H x y v u Q I L ry h;ext l k xs rfl rfl hq R k2 hz w m h;cases L;ext t rfl ry;let⟨a,r,p,_⟩:=I.tuple hq;obtain⟨⟨N,j,D,g⟩,c,hc,n,hd⟩:=id p;simp only at hc hd;subst hc hd;let A:=r[_];let sz:a.toArray.size=xs[_]:=#v[gC,A]
 let f1:¬(decide (k < -(2^63))||decide (k≥2^63))=true:=0.4
 show ų (T:="tuple") (U:="int") 0.3 {_,c,rfl} (λs'=>Ĵ s' k t) aAG WO R5 aSK zi.lookup
  (ñ R5 (Ĵ s k t) N3 (ahs _ _) (aLH k t l a.toArray n j g) {c,rfl,{_,c,rfl},?_})
 by_cases e:a=[]
 .exact ñ EY {_,c,rfl} Vg (Vq _ _) (XT k t l a.toArray n j g f1 (by simp[e])) {c,{.ref l,H,I,rfl,w (.inl (r.Dw.mp e))}}
 by_cases f:k=1
 .exact ñ EY {_,c,rfl} Vg (Vq _ _) (XT k t l a.toArray n j g f1 (by simp[f])) {c,{.ref l,H,I,rfl,w (.inr f)}}
 by_cases C:k=0
 .refine ñ EY {_,c,rfl} Vg (Vq _ _) (aEn k t l a.toArray n j g f1 (by simp[e,f]) (by simp[C])) {c,?_};let i:=m (λz=>e (r.Dw.mpr z)) f _ I.fresh;rw[C]at i;show{.ref s[1],_,I.laid (t':=s.toks) (o:=.tup []) (λb ob q=>Ç _ q) (aZ _) ?_,rfl,i};show{dz _,_,.nil,ĳ _ _}
 .let d:Rn (λJ G=>J++G) #[] (dN k.toNat a.toArray)=(dN k.toNat a).flatten.toArray:=by
   let:=foldl_rep a k.toNat [];rw[uf]at this;show this
  let hb:(xs[_]:Int)*k<=10000:=by
   let f:((k.toNat:Nat):Int)=k:=Et 0.9;let B:((xs[_]*k.toNat:Nat):Int)<=(10000:Nat)[0]:=ahf.mpr hz;rw[sW,f]at B;show sP B 0.3
  let M:((dN k.toNat a).flatten)[_]<=Ê:=by
   rw[len_rep,<-A,qW,!cD hz 0.3]
  show ñ EY {_,c,rfl} Vg (Vq _ _) (aEb k t l a.toArray n j g f1 (by simp[e];omega) (by simp[e];lia) #v[sz] (by
   rw[sz,!¬decide ((xs[_]:Int)*k>Ê[0])=true];let:(10000:Int)<=(Ê:Int):=0.3;exactλz=>È (of_decide_eq_true z) ⋯) #v[d,gC,!M]) {c,?_}
  rw[d,!{.ref s[1],_,I.laid (t':=s.toks) (o:=.tup (dN k.toNat xs).flatten) (λb ob q=>Ç _ q) (aZ _) ?_,rfl,m (λz=>e (r.Dw.mpr z)) f _ I.fresh}];show{#v[len_rep,qW,!cD hz 0.3],_,r.rep k.toNat,ĳ _ _}
def uj(K:aH):R2:=λx y H Q=>match x,y with
 |.int i,.int j=>Ņ i j/\Q (.int (i*j)) H
 |.ref l,.int k=>∃xs,ao K H l xs/\0<=k/\k<1000/\xs[_]*k.toNat<=10000/\(xs=[]∨k=1->Q (.ref l) H)/\(xs≠[]->k≠1->∀p,H p=ν->Q (.ref p) (upd H p (.tup (dN k.toNat xs).flatten)))
 |_,_=>False
def aAj(K:aH)(O:X.K=K:=by rfl):dj X (ç .Mult) (uj K):=by
 subst O;show(Dx.or aVS).imp λx y H Q h=>?_;unfold uj at h;split at h
 .exact .inl {"",h.1,h.2}
 .ext xs h h;show .inr {_,_,xs,rfl,rfl,h}
 .exact h.elim
def aEP{K:aH}{H:Hp}{l:Æ}{xs:τ}{k:Int}{Q:VK}(hq:ao K H l xs)(h1:0<=k)(h2:k<1000)(hz:xs[_]*k.toNat<=10000)
  (q:∀s H1,Same H H1->ao K H1 s (dN k.toNat xs).flatten->Q (.ref s) H1):uj K (.ref l) (.int k) H Q:=
 {xs,hq,h1,h2,hz,λe=>q l H (Same.refl _) (by
  rcases e with e|e
  .let a:(dN k.toNat xs).flatten=[]:=#v[e,2]
   rw[a,<-e,!hq]
  .rw[e];let a:(dN (1:Int).toNat xs).flatten=xs:=0.1
   rw[a,!hq]),λ_ _ p hp=>q p _ (Same.new hp _) (ao.of aB)}
def W6:dj X (ç .FloorDiv) (rI (λ_ j=>j≠0/\j.natAbs.log2<9000) λi j=>.int (i.fdiv j)):=Ao λ_ _ _ _ _ _ _ hc q=>floordiv_int hc.1 q (.inl (PyProof.noPylong_of_log2 hc.2))
end L2
namespace QM
open PySem PySem.W PySem.Calls PyProof.Rows
def aDK{ns:ζ}(h:Ļ.layableAll [Ļ.list (ns.map İ)]=true):∀x∈ns,ă x<=1048576:=by
 intro x hx;let⟨h1,_,h3⟩:=layableW_iff.mp (layW_cons h).1;simp only[Ļ.canLay]at h1;simp only[Ļ.weight]at h3;let a:İ x∈ns.map İ:=bN.mpr {x,hx,(rfl)};let hc:Ļ.canLayAll (ns.map İ)=true:=h1[7]
 let⟨_,_,c⟩:=items_part a hc;let e:Ļ.weight (.int x)=ă x:=rfl;rw[e]at c;let:(2:Nat)^20=1048576:=0.3;lia
def aVf{l:OpenLaw}{n:Nat}{u:(μ)->Û->Prop}{YP:Ý->Û->Prop}{d:DefRec}
  (hn:l.most=ι n)(hdf:d.params.defaults=[])
  (call:∀(w:Ý)(s₀ s₁:Ó)(mg mb:μ)(fa:Æ)(o:Obj)(pm cd U:Ã)(a:Æ)(vs:List Ã)(ns:ζ),
   Ground q O [] u w s₀ mg mb s₁.heap->YP w s₁.heap->
   s₁.heap.get? fa=ι o->o.data=.func (docDef d.name d.params d.body d.scope pm cd U)->s₁.heap.CodeRec cd d.name->mg d.name=fa[4]->
   s₁.heap.get? a=ι {cls:=.type "list",data:=.seq vs.toArray}->Ŋ vs ns->ns[_]<=n->(∀x∈ns,ă x<=1048576)->s₁.gens=#[]->
   Ĝ (model l.prog w) Ŕ (.call (.ref fa) {[.ref a],[]}) (λr s'=>r=.ok (.ret (.bool true))/\OldK s₁.heap s'.heap/\s'.os=s₁.os/\ħ s'.gens) s₁):
  WalkO q O u YP l.row.toRowW d [] (λf vs=>Ex f vs):=by
 intro w s₀ s₁ mg mb G Y fa o pm cd U C kV y hd m s k B t p as c i v j A;obtain rfl:C=.none:=Dflts.none s hdf;obtain rfl:kV=.none:=Dflts.noKw s;let⟨a,vs,ns,rfl,rfl,e,b,g⟩:=axR hn c j;show enter_call (œ (call w s₀ s₁ mg mb fa o pm cd U a vs ns G Y y (fd_plain hd) m k e b g (aDK i) B) λr s' hq=>?_);ext rfl h2 h3 h4 hq;show{.inl {.bool true,.bool true,[],rfl,λ_=>rfl,.bool true,aLN l _,λ_=>{axA,λ_ z=>(nomatch z)}},h2,h3,h4}
end QM
namespace L2
open PySem PySem.Spec PyProof.Rows
def ayK{l:W.OpenLaw}{n k:Nat}{D:(μ)->Û->Prop}{YP:Ý->Û->Prop}{d:DefRec}{K:ċ->aH}{CX:Ý->uT}{sp:Ý->Sp}
  (hn:l.most=ι n)(hn2:n<=Ê)(hdf:d.params.defaults=[])(hr:dM k Ŕ)(hIm:importsNone q=true)(htr:l.prog.given.tree=ν)
  (hY:∀(w:Ý)(h:Û),YP w h->(K w.params).In h)
  (F:∀(w:Ý)(mg:μ)(O:Æ)(h:Û),(K w.params).In h->h.Ns Í mg->mg d.name=O[4]->
   ∃fd:Ć,(∀(s:Ó)(u:Ã),Ζ s fd {[u],([])} [(x,u)])/\
    ∀base:Û,(K w.params).In base->base.Ns Í mg->mQ l.prog w (K w.params) mg base (CX w) k O fd [x] (sp w))
  (hsp:∀(w:Ý)(H:Hp)(a:Æ)(ns:ζ),ns[_]<=n->(∀x∈ns,ă x<=1048576)->Only H->aj (K w.params) H a ns[11]->sp w [.ref a] H (λv _=>v=.bl true) λ_ _ _=>False)
  (I:∀(w:Ý)(H:Hp)(s:Ó)(e:Ã)(s':Ó),CX w [] H s (λ_ _ _=>False) e s'->False):
  W.WalkO q U D YP l.row.toRowW d [] (λf vs=>Ex f vs):=by
 show QM.aVf hn hdf λw s₀ s₁ mg L O o J cd C a vs ns G Y M hd y m j i c p t=>?_;let r:=hY w _ Y;let⟨fd,hb,B⟩:=F w mg O _ r G.T.g m;show aRo r G.T.g G.T.b G.T.builtins G.T.nolimit G.T.nodigits (G.T.seer hIm) htr t j i (cD c hn2) hr B hb (λH A z=>hsp w H a ns c p A z) λH e s'=>I w H s₁ e s'
def NR:V->τ->Hp->VK->Prop:=λx vs H Q=>∃n:Int,x=.int n/\vs=[]/\Q (.int (ă n:Nat)) H
def aCz:wD X "int.bit_length" NR:=by
 intro c s σ H x vs v us Q I a b h;ext n rfl rfl q h;ext t rfl a;cases b;show call_gives F.slot_int_bit_length (Ĵ s n t) F.entry_int_bit_length (F.args_int_bit_length_1 _) (ϩ n t) {.int _,H,I.tok _,{()},q}
def aEo(K:aH)(Y:PE X o to)(hK:X.K=K:=by rfl)(U:û o "bit_length" X.env (eval o X.env)=eval o X.env:=by rfl)(O:(apos.endLine==cpos.line)=true:=by rfl):
  PE X (.Call (.Attribute o "bit_length" apos) [] [] cpos) (Pp K "int" NR to):=by
 subst hK;show aF5 PySem.F.plainAttrs_int PySem.F.slot_int_bit_length PySem.F.type_int_bit_length aCz Y U O
def aO5(hc:X.calm=true):jt X (.type "str") (λxs H Q=>∃i:Int,xs=[.int i]/\i.natAbs<10^4300/\Q (.str (toString i)) H):=by
 intro a s σ H xs us Q I r h;ext i rfl hz q h;let⟨u,rfl,t,rfl⟩:=vals1 r;show str_of_int_or (I.ok.hd hc) (I.ok.mod.digits.keeps I.bk) (λ_=>{.str _,H,I.tok _,{()},q}) (λh=>È hz (Nat.not_lt.mpr h))
def boot_any:Ü "any"=ι (.builtin "any"):=0.0
def v_any(hc:X.calm=true):jt X (.builtin "any") (λxs H Q=>∃(l:Æ) (bs:List Bool),xs=[.ref l]/\aj X.K H l (bs.map V.bl)/\Q (.bl (bs.any id)) H):=by
 intro k s σ H xs us Q I r h;ext l bs rfl t q h;ext u rfl n r.one;cases n;let⟨p,m,o,hz⟩:=I.list t;let y:=Xh m;subst y;let c:=o.isList;let f:l<s[1]:=by ext _ e _ c;show dX e
 show call_any_walk (Ģ c ?_);show{s[1],[s[1],l],[s[1]],(bs.map è).toArray.size,_,_,λi=>(bs[i]?).getD false,rfl,Walks.list (A:=X.A.in1) (I.ok.hd hc) _ l (jP f) (bs.map è).toArray,
  {{_,Ù _ rfl,rfl,rfl},c.push _},λi v s' Q' B w g=>?_,λh' tk hk=>?_}
 .let a:(bs.map è)[i]?=ι v:=w[7]
  rw[Î]at a;cases e:bs[i]? with
  |none=>rw[e]at a;cases a
  |some b=>
   rw[e]at a;cases a;dsimp only at g;rw[e]at g;show ä g
 .let j:((dY (bs.map è).toArray.size).any λi=>(bs[i]?).getD false)=bs.any id:=by
   rw[gC,aA];rw[Gq,Ip,Ip];constructor
   .rintro⟨i,hi,e⟩;let d:=fQ.mp hi;rw[Ä d]at e;show{_,rD d,e}
   .rintro⟨x,hx,e⟩;let⟨i,hi,z⟩:=pH.mp hx;show{i,fQ.mpr hi,#v[Ä hi,z,!e]}
  let fin:EP X k σ Q (.bool (bs.any id)) {s with heap:=h',toks:=tk}:={.bl _,H,I.kept (k_ hk),rfl,q};first|(rw[j,!fin])|(simpa[j]using fin)
def VX(K:aH)(hc:X.calm=true)(O:X.K=K:=by rfl):jt X (.builtin "any") (λxs H Q=>∃(l:Æ) (bs:List Bool),xs=[.ref l]/\aj K H l (bs.map V.bl)/\Q (.bl (bs.any id)) H):=by subst O;show v_any hc
def aHM:Ū (.type "list_reverseiterator") "__len__" = pure ν:=#v[ϕ,Ι,5]
def aHE:Ū (.type "list_reverseiterator") "__length_hint__" = pure (ι (.builtin "list_reverseiterator.__length_hint__")):=#v[ϕ,Ι,5]
def MI:Ü "reversed"=ι (.type "reversed"):=0.0
def Inv.ayg(I:Inv X π σ H s)(f:qI X π H p)(new:gG X.prog X.w (upd H p o) s.heap p o):Inv X π σ (upd H p o) s:=by
 ext a f1 _ j i g f;show I.step (g':=s.gens) (d':=s.drawn) (t':=s.toks) (h':=s.heap) (ch:=[p]) (λb hb=>?_) (λb o _ _ hc e _=>e) (λb o _ _ hc e _=>{o.slots,(e)}) (λb _ hc _ n=>?_)
  (λb o hc e=>{o,(e)}) (λb xs e=>?_) (λb xs _ e=>?_) (λb ps e=>{#[],?_}) (λm d=>d) (λb u e=>?_) I.bare
 .let e:b=p:=hb[7]
  subst e;show{j,f1,i,(g)}
 .rw[cO λz=>hc (by simp[z])];show n
 .rw[cO (iH e a)];show e
 .rw[cO (iH e a)];show e
 .rw[cO (iH e a),e];simp
 .by_cases hb:b=p
  .subst hb;rw[aB]at e;cases e;show new
  .rw[cO hb]at e;show(I.hok b u e).stay (λc v _ q=>q) (λc q=>#v[cO (iH q a),!q]) λc xs q=>#v[cO (iH q a),!q]
def Ag(n i:Nat):Int:=if i<n then((n-1-i:Nat):Int)else -1
def Ϧ(K:aH)(a:Æ)(n:Nat):It:=
 {λi H=>∃xs x,aj K H a xs/\i<n/\xs[n-1-i]?=ι x,λi H x H'=>H'=H/\∀xs,aj K H a xs->xs[n-1-i]?=ι x,λi _=>n<=i}
def aKp{P:Þ}{w:Ý}{K:aH}{tg:ü}(a it:Æ)(n:Nat):Turn P w K tg (Ϧ K a n) [it] it (λi h=>h.IsRevIter it a (Ag n i)) where
 mem:=0.1
 obj:=λi h st b hb=>by
  let e:b=it:=hb[7]
  subst e;ext o e c d st;show{o,e,λv z=>by rw[d]at z;cases z}
 keep:=λi h h' st k=>st.at λo e=>k it 0.1 o e
 item:=by
  intro X hP hw hK hc i π s σ H E I hf st hg;subst hP hw hK;ext xs x hq hi hx hg;let⟨its,rv,p,hz⟩:=I.list hq;let⟨u,hu,ru⟩:=rv.get hx;let⟨f0,f1,f2,f3,f4,f5⟩:=hf it 0.1;let e:Ag n i=(n-1-i:Nat)[0]:=Á hi;rw[e]at st;show wpAny_pyNext_rev_item st p.isList (x:=u) hu[7] λh' st' sb=>?_;let e2:((n-1-i:Nat):Int)-1=Ag n (i+1):=by unfold Ag;split<;>grind -ring
  rw[e2]at st';let I1:Inv X π σ H {s with heap:=h'}:=I.turned (t':=s.toks) (λb o hb e=>(sb.2 b hb).trans e) f0 f1 f3 f4 f5;let⟨o,e,c,d⟩:=id st';show{u,rfl,Ck (s:={s with heap:=h'}) e c d 0.3 {x,H,I1,ru,{rfl,λys hy=>#v[I.UG hy hq,!hx]},st',λb hb=>(hf b hb).1}}
 done:=by
  intro X hP hw hK hc i π s σ H E I hf st hg;subst hP hw hK;let hg:n<=i:=hg;let⟨f0,f1,f2,f3,f4,f5⟩:=hf it 0.1;let e:Ag n i=-1:=Â 0.8;rw[e]at st;show wpAny_pyNext_rev_end (I.ok.hd hc) st λh' eb=>{rfl,I.turned (t':=s.toks) (λb o hb e=>eb b o hb e) f0 f1 f3 f4 f5}
 self:=λ_ _ _ _ _ st h=>Ν st h
def aBS(K:aH)(b:TA):TI:=λσ H R=>b σ H λvs H1=>∃a xs,vs=[.ref a]/\aj K H1 a xs/\R (Ϧ K a xs[_]) H1
def aCV(K:aH)(hg:Gl X "reversed")(Y:X.mg "reversed"=ν)(ha:PA X [O] ta)(hK:X.K=K:=by rfl)
  (U:Ò [O] X.env=[(false,eval O X.env)]:=by rfl):PI X tg (.Call (.Name "reversed" p) [O] [] pos) (aBS K ta):=by
 subst hK;show λi s σ H R I h=>Call_ (uz I hg Y MI (xr (aY (ha pos i s σ H _ I h) λus f zz=>?_) U rfl));let⟨vs,H1,g,k,l⟩:=zz;ext a xs e hq q l;subst e;cases k with
 |cons r rr=>
  cases rr;cases r;let⟨d,j,p1,_⟩:=g.list hq;let m:=j[_];show ε p1.isList ?_;let st:(f.heap.push (ĵ a ((d.toArray.size:Int)-1))).IsRevIter f[1] a (Ag xs[_] 0):={_,Ù _ rfl,rfl,by
   show ŵ #[.ref a,rawInt ((d.toArray.size:Int)-1)]=_;let e:(d.toArray.size:Int)-1=Ag xs[_] 0:=by unfold Ag;simp;split<;>lia
   rw[e]}
  let I2:Inv X i σ H1 {f with heap:=f.heap.push (ĵ a ((d.toArray.size:Int)-1))}:=g.kept (t':=f.toks) λb o e=>Ç _ e;show Ν (s:={f with heap:=f.heap.push (ĵ a ((d.toArray.size:Int)-1))}) st {_,[f[1]],_,_,H1,rfl,I2,aKp a _ _,st,λc hc=>?_,q};let e:c=f[1]:=hc[7]
  subst e;show g.tW (aZ _) (g.hok.fresh (aZ _))
def axT{K:aH}{a:Æ}{xs:τ}{H1:Hp}(h:aj K H1 a xs):sI (Ϧ K a xs[_]) xs.reverse H1:=by
 show{λi H' g hi=>?_,λi H' x H2 g y=>{y.1,λhi=>?_},λi H' g hi=>?_}
 .rw[Eb]at hi;show{xs,xs[xs[_]-1-i]' 0.9,g.seq h,hi,Ä ⋯}
 .rw[Eb]at hi;rw[Ű hi,!y.2 xs (g.seq h)]
 .rw[Eb]at hi;show hi
section
variable {A:î}{E:χ}{s:Ó}{G:Array GenState->Array GenState->Prop}{n:Nat}{P:Nat->Ã->Prop}{St:Nat->Ó->Prop}{R:Result->Ó->Prop}
def aPU(W:WalksS prog w A.in1 I fp wr G n P St)(hT:∀i s,St i s->s.TypeIs (.ref I) "list_reverseiterator")(S:Æ)(c0:Nat)(U:St 0 s)(Y:S∉fp)(hI:I∈fp)
  (hS:s.heap.get? S=ι {cls:=.type "list",data:=.seq #[] c0})
  (hR:∀s' O c',Moved (S::wr) G s s'->s'.heap.get? S=ι {cls:=.type "list",dict:=ν,data:=.seq O c',slots:=#[]}->ItemsOf P O n->R (.ok (.ret .none)) s')(hn:n<=Ê):
  Ô (model prog w) A.in1 (đ (.ref S) (.ref I) .none)
   (λfin s'=>match fin with|.done f=>R (.ok f) s'|.again c'=>c'.quiet=true/\Ĝ (model prog w) A c' R s') (λe s'=>R (.error e) s') s:=by
 let d:S≠I:=λe=>Y (e▸hI);let h1:ŋ (.ref S) (.ref I)=false:=by simp[ŋ,d]
 unfold đ;show Å (Œ (hT 0 _ U) ?_);rw[Â #v[h1,3],!Å (W.self 0 _ _ _ U ?_)];show Å (é ?_);unfold ϖ;show Å (ķ (hT 0 _ U) aHM ?_);show Ô _ A.in1 (specialOf (ß I) (õ "__length_hint__")>>=_) _ _ _;show Å (ķ (hT 0 _ U) aHE ?_)
 (generalize a:("list_reverseiterator.__length_hint__" : String)=id0;(fail_if_success (clear a id0));wp_delta;rw[show splitId id0=ι ("list_reverseiterator","__length_hint__")from by subst a;decide +kernel];subst a)
 show Å (wpAny_isInstance (b:=true) (hT 0 _ U) #v[isSubtype_type,5] ?_);show Ñ ?_;rw[Â 0.3,!Ñ {plainId_quiet F.plain_extend_loop _,codeAny_extend_loopS W hn _ Y _ n 0 _ _ _ rfl (dz _) U hS (ItemsOf.nil P) λs' O c' j g c=>hR s' O c' j g c}]
def aVb(W:WalksS prog w A.in1 I fp wr G n P St)(hT:∀i s,St i s->s.TypeIs (.ref I) "list_reverseiterator")(S:Æ)(hst:St 0 s)(U:S∉fp)(hI:I∈fp)
  (hS:s.heap.get? S=ι {cls:=.type "list",data:=.seq #[]})
  (hR:∀s' O c',Moved (S::wr) G s s'->s'.heap.get? S=ι {cls:=.type "list",dict:=ν,data:=.seq O c',slots:=#[]}->ItemsOf P O n->R (.ok (.ret .none)) s')(hn:n<=Ê):
  Ô (model prog w) A.in1 (Builtin.«list.__init__» {[.ref S,.ref I],[]})
   (λfin s'=>match fin with|.done f=>R (.ok f) s'|.again c'=>c'.quiet=true/\Ĝ (model prog w) A c' R s') (λe s'=>R (.error e) s') s:=by
 show Ô _ A.in1 (ō (.ref S)>>=λd=>Builtin.List.listUpdate (.ref S) (λ_=>#[])>>=λ_=>letGo d.toList.reverse>>=λ_=>đ (.ref S) (.ref I) .none) _ _ s;show Å ?_;unfold ō;show Å (wpAny_seqItems hS rfl (Ñ ?_));show Å (wpAny_updateSeq hS rfl ?_);let g:=ű (C4 (λ_=>(#[]:Array Ã))) hS rfl;let a:∀b o,b≠S->s.heap.get? b=ι o->(s.heap.update S (C4 (λ_=>(#[]:Array Ã)))).get? b=ι o:=
  λb o hb e=>(ĥ _ _ (ux hb)).trans e
 show Å (wpAny_letGo ?_);show aPU W hT S _ (W.frame 0 s _ s.toks hst (aZ _) λb hb o e=>a b o (λh=>U (h▸hb)) e) U hI g (λs' O c' k j c=>?_) hn;show hR s' O c' (Moved.trans W.gtrans ((Moved.refl W.grefl).then_heap (aZ _) λb o hb e=>a b o (λh=>hb (h▸lH)) e) k) j c
def aBm{Q:χ}(W:WalksS prog w A.in1.in1 I fp wr G n P St)(hT:∀i s,St i s->s.TypeIs (.ref I) "list_reverseiterator")(hst:St 0 s)(hfp:∀b∈fp,b<s[1])(hI:I∈fp)
  (hQ:∀s' U c',Moved (s[1]::wr) G {s with heap:=s.heap.push {cls:=.type "list",data:=.seq #[]}} s'->
   s'.heap.get? s[1]=ι {cls:=.type "list",dict:=ν,data:=.seq U c',slots:=#[]}->ItemsOf P U n->Q (.ref s[1]) s')(hn:n<=Ê):
  Ô (model prog w) A (call (.type "list") [.ref I]) Q E s:=by
 let f:s[1]∉fp:=λd=>rO _ (hfp _ d);show callType_codes (Q₁:=λobj s₁=>obj=.ref s[1]/\s₁={s with heap:=s.heap.push {cls:=.type "list",data:=.seq #[]}}) F.called_list (F.typeCall_list_1 _) F.entry_list_init
  (code_list_new _ {rfl,(rfl)}) λobj s₁ a=>?_
 ext rfl rfl a;let j:(s.heap.push {cls:=.type "list",data:=.seq #[]}).get? s[1]=ι {cls:=.type "list",data:=.seq #[]}:=Ù _ rfl;show{{_,j,rfl},F.args_list_init_2 _ _,aVb W hT _ (W.frame 0 s _ s.toks hst (aZ _) λb _ o e=>Ç _ e) f hI j (λs' U c' d g c=>?_) hn};show{rfl,hQ s' U c' d g c}
end
def azh(te:TA):TE:=λσ H Q=>te σ H λvs H1=>∃(l:Æ)(xs:τ),vs=[.ref l]/\H1 l=xs[2]/\∀a,H1 a=ν->Q (.ref a) (upd H1 a (.lst xs.reverse))
def aRx(hc:X.calm=true)(hg:Gl X "list")(hm:X.mg "list"=ν)(hg2:Gl X "reversed")(Y:X.mg "reversed"=ν)(ha:PA X [a] ta)
  (U:Ò [a] X.env=[(false,eval a X.env)]:=by rfl)
  (hs:Ò [.Call (.Name "reversed" p2) [a] [] O] X.env=[(false,eval (.Call (.Name "reversed" p2) [a] [] O) X.env)]:=by rfl):
  PE X (.Call (.Name "list" p) [.Call (.Name "reversed" p2) [a] [] O] [] pos) (azh ta):=by
 show λS s σ H Q I h=>í (uz I hg hm boot_list ?_ 0.3 0.3);show xr ?_ hs rfl;rw[hs,!Ô _ _ (spliced ((false,eval (.Call (.Name "reversed" p2) [a] [] O) X.env)::ó pos [])) _ _ s];show Yz ?_;show Call_ (uz I hg2 Y MI (xr (aY (ha O S s σ H _ I h) λus f zz=>?_) U rfl));let⟨vs,H1,u,r1,q1⟩:=zz;ext l xs e hl q q1;subst e;cases r1 with
 |cons r rr=>
  cases rr;cases r;let⟨z,c,nn,T,Z,P⟩:=u.uK hl;let n:f.heap.IsList l c.toArray:={_,P,rfl,()};show ε n ?_;show YD ?_;let D:l≠f[1]:=λe=>È (dX P) #v[e,!rO _];let hh:=u.ok.hd hc;let G:c.toArray.size=xs[_]:=by let:=T[_];simp;simp_all
  let x:(f.heap.push (ĵ l ((c.toArray.size:Int)-1))).IsRevIter f[1] l ((c.toArray.size:Int)-1-(0:Nat)[0]):={_,Ù _ rfl,rfl,by simp[ĵ]};let W:=(Walks.listRev (prog:=X.prog) (w:=X.w) (A:=X.A.in1.in1) hh f[1] l D c.toArray).toS;let m:(f.heap.push (ĵ l ((c.toArray.size:Int)-1))).objs.size=f[1]+1:=by simp[Û.push]
  show aBm (s:={f with heap:=f.heap.push (ĵ l ((c.toArray.size:Int)-1))}) W (λi s' st=>st.2.1.typeIs) {dz _,x,n.push _} (λb hb=>?_) 0.1 (λs' d c' k M t=>?_) #v[G,!z]
  .let L:b=f[1]∨b=l:=hb[7]
   let:=dX P;show b<(f.heap.push (ĵ l ((c.toArray.size:Int)-1))).objs.size;rcases L with z|z
   .rw[z,m];show YK _
   .rw[z,m];show Nat.lt_succ_of_lt this
  .let R:Inv X S σ H1 {f with heap:=f.heap.push (ĵ l ((c.toArray.size:Int)-1))}:=u.kept (t':=f.toks) λb o e=>Ç _ e;let⟨f0,f1,f2,f3,f4,f5⟩:=u.tW (H':=H1) (aZ _) u.fresh;let g:H1 (f.heap.push (ĵ l ((c.toArray.size:Int)-1))).objs.size=ν:=R.hok.fresh (aZ _);let J:=R.tW (H':=H1) (aZ _) g;let hv:Vals xs.reverse d.toList:=by
    let e:d.toList=c.reverse:=by
     ext h1 h2 t;show List.ext_getElem? λj=>?_;let y:d.toList[_]=c[_]:=h1[7]
     by_cases hj:j<c[_]
     .let a1:d[j]?=ι (d[j]'(by simpa using(y▸hj:j<d.toList[_]))):=Array.getElem?_eq_getElem _;let a2:=h2 j _ a1;rw[Ű hj,Array.getElem?_toList,a1,<-a2,2]
     .rw[à 0.6,à #v[Eb]]
    rw[e,!T.reverse]
   ext B g' d' v o' s';let eg:g'=f.gens:=k.gens;let ed:d'=f.drawn:=k.drawn;let N:o'=f.os:=k.os;subst eg ed N;let I5:=R.turned (h':=B) (it:=f[1]) (t':=v) (λb o hb e=>k.heap b o (by
    let C:=dX e;let:b≠(f.heap.push (ĵ l ((c.toArray.size:Int)-1))).objs.size:=jP C;simp only[fj,En,or_false,not_or];show{this,(hb)}) (Ç _ e)) f0 f1 f3 f4 f5
   show{.ref _,_,I5.ayg (o:=.lst xs.reverse) J ?_,rfl,q _ g};show{#v[Eb,!z],d.toList,c',hv,M[7]}
section
variable {x:Str}{t:TA}
def tFn(mg:μ)(x:Str):TE:=λ_ H Q=>∀g,mg x=g[4]->Q (.ref g) H
def YF(C:mW X.prog X.w X.K X.mg X.base x k ps sp)(O:Gl X x)(hd:(x==("__debug__":Str))=false:=by decide):PE X (.Name x pos) (tFn X.mg x):=by
 ext g c a _ _ _ C.ex;show λb s σ H Q I h=>Wx (v:=.ref g) O a rfl hd b s σ H Q I (h g a)
def sA(C:mW X.prog X.w X.K X.mg X.base x k ps sp)(hr:dM k' X.A)(ha:PA X (e::es) t)(hk:k<=k')
  (he:Ò (e::es) X.env=(false,eval e X.env)::Ò es X.env)(U:(ó pos (Ò es X.env)).any (·.1)=false)(I1:Inv X π σ H1 Y)(O:X.mg x=g[4])(q:t σ H1 λvs H2=>sp vs H2 Q E0):
  Ô X[12] X.A (callWith pos (.ref g) [] (ó pos (Ò (e::es) X.env)) (Ń pos (Ě [] X.env))) (EP X π σ Q) X.xe Y:=by
 ext j i d a hb F C.ex;rw[d]at O;cases O;show Uu (h₀:=X.base) I1.ok.mod.Fv a (aY (ha pos π Y σ H1 _ I1 q) λus f ⟨vs,H2,I2,b,c⟩=>{I2.f9,?_}) he U;show IL F (hr.mono hk) hb .nil Gf I2 b ?_;rw[sU,!c]
def aM5(mg:μ)(Y U O:Str)(a b U3:Sp)(tv:TE)(t:TA):TE:=λσ H Q=>tv σ H λv H1=>((∃g,mg Y=g[4]/\v=.ref g)/\t σ H1 λvs H2=>a vs H2 Q E0)∨((∃g,mg U=g[4]/\v=.ref g)/\t σ H1 λvs H2=>b vs H2 Q E0)∨((∃g,mg O=g[4]/\v=.ref g)/\t σ H1 λvs H2=>U3 vs H2 Q E0)
def aVG(C1:mW X.prog X.w X.K mg X.base x1 k1 ps1 Rb)(C2:mW X.prog X.w X.K mg X.base x2 k2 ps2 Qn)(C3:mW X.prog X.w X.K mg X.base x3 k3 ps3 U3)(hr:dM k' X.A)(hv:PE X (.Name y p) tv)(ha:PA X (e::es) t)
  (U:X.mg=mg:=by rfl)(hk1:k1<=k':=by decide)(hk2:k2<=k':=by decide)(Y:k3<=k':=by decide)(he:Ò (e::es) X.env=(false,eval e X.env)::Ò es X.env:=by rfl)(O:(ó pos (Ò es X.env)).any (·.1)=false:=by rfl):PE X (.Call (.Name y p) (e::es) [] pos) (aM5 mg x1 x2 x3 Rb Qn U3 tv t):=by
 subst U;show λc s σ H Q I h=>í (aY (hv c s σ H _ I h) λu d zz=>?_);let⟨v,H1,b,r,q⟩:=zz;rcases q with⟨⟨g,a,rfl⟩,q⟩|⟨⟨g,a,rfl⟩,q⟩|⟨⟨g,a,rfl⟩,q⟩
 .obtain rfl:u=ß g:=r;show sA C1 hr ha hk1 he O b a q
 .obtain rfl:u=ß g:=r;show sA C2 hr ha hk2 he O b a q
 .obtain rfl:u=ß g:=r;show sA C3 hr ha Y he O b a q
end
section
variable {X:Cx}
theorem RW:∀{xs:List Str} {its:List Ã},Vals xs[10] its->∃l:List (Str×Tok),its=ć l/\l.map (·.1)=xs
 |[],_,h=>by cases h;show{[],rfl,(rfl)}
 |x::xs,_,h=>by
  cases h with
  |cons r t=>
   ext tk rfl r;let⟨l,rfl,e⟩:=RW t;show{(x,tk)::l,rfl,#v[jK,e]}
theorem i_:∀(l:List (Str×Tok)),Vals (l.map (·.1))[10] (ć l)
 |[]=>.nil
 |p::l=>.cons {p.2,(rfl)} (i_ l)
theorem X3:∀(l:List (Str×Tok)),StrsAre (ć l) (l.map (·.1))
 |[]=>.nil
 |p::l=>.cons p.1 p.2 (X3 l)
def aJR(z y:Str):(Ā z y)[_]<=z[_]+2/\(Ę z (ì z y 0 z[_] (z[_]+1)) y[_])[_]<=z[_]+2:=by
 let hn:=StrLaws.occ_length_le z y 0 z[_] (z[_]+1);let h2:(Ę z (ì z y 0 z[_] (z[_]+1)) y[_])[_]<=z[_]+2:=by
  rw[length_partsBetween,1]
 show{?_,h2};unfold Ā;split
 .simp
 .split
  .simp
  .exact h2
inductive Ss1(x:V)(vs:τ)(H:Hp)(Q:VK):Prop|mk(z y)(_:x=.str z)(_:vs=[.str y])(_:(y[_]==0)=false)(_:z[_]<=100000)(_:∀p,H p=ν->Q (.ref p) (upd H p (.lst (Ā z y)[10])))
def aW3:V->τ->Hp->VK->Prop:=Ss1
def Gu:wD X "str.split" aW3:=by
 intro d s σ H x vs v us Q I f g h;ext z y rfl rfl hy hz q h;ext t rfl f;ext u rfl i g.one;ext t' rfl i;let c:(200000:Nat)<=Ê:=0.3;let b:z[_]<=Ê:=⋯;let⟨f1,f2⟩:=aJR z y;let fin:∀(l:List (Str×Tok)) (k:Nat),l.map (·.1)=Ā z y->EP X d σ Q (.ref s[1]) {s with heap:=s.heap.push {cls:=.type "list",data:=.seq (ć l).toArray},toks:=k}:=λl k e=>
  {.ref s[1],_,I.Tv (t':=k) (ys:=(Ā z y)[10]) #v[-e,!i_ l] #v[aA],rfl,q _ I.fresh}
 cases h1:(decide (z[_]<y[_])||decide (Ă z<Ă y))
 .cases a:(ì z y 0 z[_] (z[_]+1)).isEmpty
  .refine ñ aa (Ğ _ _ _) XS (yA _ _) (meets_str_split_sep z y t t' h1 hy a b ⋯) ?_;show wants _ _ _ {s with toks:=_,heap:=s.heap.push {cls:=.type "list",data:=.seq (strsFrom s.toks (Ę z (ì z y 0 z[_] (z[_]+1)) y[_])).toArray}};rw[strsFrom_eq,!fin (numbered s.toks _) _ ((numbered_texts _ _).trans ((Â (ne_true_of_eq_false h1)).trans (Â (ne_true_of_eq_false a))).symm)]
  .exact ñ aa (Ğ _ _ _) XS (yA _ _) (meets_str_split_not_found z y t t' h1 hy a)
    (fin [(z,t)] s.toks ((Â (ne_true_of_eq_false h1)).trans (Á a)).symm)
 .exact ñ aa (Ğ _ _ _) XS (yA _ _) (meets_str_split_cannot_occur z y t t' h1)
   (fin [(z,t)] s.toks (Á h1).symm)
def rJoin:V->τ->Hp->VK->Prop:=λx vs H Q=>∃(a:Str)(l:Æ)(xs:List Str),x=.str a/\vs=[.ref l]/\H l=xs[10][2]/\JoinOk a xs=true/\Q (.str (Õ a xs)) H
def Ci:wD X "str.join" rJoin:=by
 intro j s σ H x vs v us Q I b c h;ext a l xs rfl rfl g hok q h;ext t rfl b;ext u rfl d c.one;cases d;let⟨z,f,n,r,o,e⟩:=I.uK g;let⟨m,rfl,i⟩:=RW r;rw[<-StrLaws.glued_eq_join]at q;show SC.join {_,e,rfl,()} i hok λt' k=>{.str _,H,I.tok k,{()},q}
def aHh:V->τ->Hp->VK->Prop:=λx vs H Q=>∃z y,x=.str z/\vs=[.str y]/\Q (.bl (Ŝ z y)) H
def FU:wD X "str.startswith" aHh:=by
 intro d s σ H x vs v us Q I a b h;ext z y rfl rfl q h;ext t rfl a;ext u rfl c b.one;ext t' rfl c;show SC.startswith {.bl _,H,I,rfl,q}
def aBf:V->τ->Hp->VK->Prop:=λx vs H Q=>∃(l:Æ)(xs:List Str)(y:Str),x=.ref l/\vs=[.str y]/\H l=xs[10][2]/\Q (.int (xs.count y:Nat)) H
theorem Jn(x:Str):∀l:List Str,countIn (.str x) (l.map Oo)=(l.count x:Nat)[0]
 |[]=>rfl
 |a::r=>by
  rw[ϑ,jK,WB,<-ϑ,Jn x r,List.count_cons];split<;>simp<;>lia
def aMm:wD X "list.count" aBf:=by
 intro j s σ H x vs v us Q I a b h;ext l xs y rfl rfl g q h;cases a;ext u rfl c b.one;ext t' rfl c;let⟨z,f,n,r,k,e⟩:=I.uK g;let⟨d,rfl,i⟩:=RW r;show count_list_strs {_,e,rfl,()} (X3 d) {.int _,H,I.tok _,{()},?_};rw[i,Jn,!q]
def aAz:V->τ->Hp->VK->Prop:=λx vs H Q=>∃(l:Æ)(xs:List Str)(y:Str)(j:Nat),x=.ref l/\vs=[.str y]/\H l=xs[10][2]/\xs[j]?=ι y/\(∀m,m<j->xs[m]?≠ι y)/\Q (.int (j:Int)) H
def ZU(l:List (Str×Tok))(h:m<(ć l).toArray.size)(y:Str):LI y (ć l).toArray[m]=decide ((l.map (·.1))[m]?=ι y):=by
 let a:m<l[_]:=by simpa[ć]using h
 let e:(ć l).toArray[m]=.str l[m].1 l[m].2:=by simp[ć]
 rw[e,Î,Ä a,!(l[m].1==y)=_];by_cases c:l[m].1=y
 .simp[c]
 .simp[c]
def aKY:wD X "list.index" aAz:=by
 intro C s σ H x vs v us Q I d f h;ext l xs y j rfl rfl p c b q h;cases d;ext u rfl g f.one;ext t rfl g;let⟨z,k,i,r,J,e⟩:=I.uK p;let⟨a,rfl,A⟩:=RW r;subst A;let o:j<a[_]:=by
  let:=(Ú.mp c).1;simpa using this
 let D:(ć a).toArray.size=a[_]:=by simp[ć]
 let n:a[_]<=Ê:=z[7]
 let B:Ê<2^62:=0.3;show ñ F.slot_list_index {_,e,rfl} F.entry_list_index (F.args_list_index_2 _ _) (SeqAt.list_indexAt l (ć a).toArray i ν #[] (.str y t) (LI y) j 1.1 ⋯ #v[ZU,!É c] (λm G h2=>#v[ZU,!Ì (b m h2)])) {e,λw hw=>?_,?_}
 .exact(eq_isStrOf y t (X3 a) w hw[7]).at _ _
 .exact{.int _,H,I.tok _,{()},q}
def M1(U:Gl X x)(O:∃t,X.mg x=ι (.str i t))(hd:(x==("__debug__":Str))=false:=by decide):PE X (.Name x pos) (tC (.str i)):=by
 ext t e O;show Wx U e {t,(rfl)} hd
def sk:dj X (ç .Pow) (rI (λi j=>0<=j/\(zG i:Int)*j<=2^27) λi j=>.int (i^j.toNat)):=Ao λ_ _ _ _ _ _ _ hc q=>pow_int hc.1 hc.2 q
inductive Sit(xs:τ)(H:Hp)(Q:VK):Prop|mk(z:Str)(n:Int)(_:xs=[.str z])(_:intText? z=ι n)(_:z[_]<=640)(_:Q (.int n) H)
def AW:jt X (.type "int") Sit:=by
 intro b s σ H xs us Q I r h;ext z n rfl hn a q h;let⟨u,rfl,t,rfl⟩:=vals1 r;show W.KIN.call_text hn a {.int _,H,I.tok _,{()},q}
def aJv:V->Option Int->Option Int->Hp->VK->Prop:=λx lo hi H Q=>∃z,x=.str z/\z[_]<=Ê/\Q (.str (ő z lo hi)) H
def aOV:rA X aJv:=by
 intro b s σ H x v f e lo hi g Q I c a d pu h;ext z rfl hz q h;ext t rfl c;show{"str",_,F.slot_str_getitem.lookup,Ğ _ _ _,?_};let fin:∀t' k,EP X b σ Q (.str (ő z lo hi) t') {s with toks:=k}:=λt' k=>{.str _,H,I.tok k,{()},q};cases d with
 |none=>cases pu with
  |none=>show Đ (l:=ν) (u:=ν) (st:=ν) a rfl (Ĺ {cD (Ō z _ _) hz,fin})
  |int j tj=>show Đ (l:=ν) (u:=ι (j,tj)) (st:=ν) a rfl (Ĺ {cD (Ō z _ _) hz,fin})
 |int i ti=>cases pu with
  |none=>show Đ (l:=ι (i,ti)) (u:=ν) (st:=ν) a rfl (Ĺ {cD (Ō z _ _) hz,fin})
  |int j tj=>show Đ (l:=ι (i,ti)) (u:=ι (j,tj)) (st:=ν) a rfl (Ĺ {cD (Ō z _ _) hz,fin})
def ϧ(z:Str):It:={λi _=>i<z[_],λi H x H'=>H'=H/\∃c,z[8][i]?=ι c/\x=.str {(#[c])},λi _=>z[_]<=i}
def N1:sI (ϧ z) (z[8].map λc=>V.str {(#[c])}) H1:=by
 let a:z[8][_]=z[_]:=by simp[Ĕ]
 show{λi H' g h=>?_,λi H' x H2 g y=>{y.1,λh=>?_},λi H' g h=>?_}
 .rw[aA,a]at h;show h
 .ext _ c e rfl y;rw[Î,e,0]
 .rw[aA,a]at h;show h
def aLP{P:Þ}{w:Ý}{K:aH}{tg:ü}(z:Str)(t:Tok)(it:Æ):Turn P w K tg (ϧ z) [it] it (λi h=>h.IsStrIter it (ÿ z) z t i) where
 mem:=0.1
 obj:=λi h st b hb=>by
  let e:b=it:=hb[7]
  subst e;ext o e c d st;show{o,e,λv z=>by rw[d]at z;cases z}
 keep:=λi h h' st k=>by
  ext o e c d st;show{o,k it 0.1 o e,c,d}
 item:=by
  intro X hP hw hK hc i π s σ H E I hf st hg;subst hP hw hK;let⟨f0,f1,f2,f3,f4,f5⟩:=hf it 0.1;let hl:z[8][_]=z[_]:=by simp[Ĕ]
  let hi:i<z[_]:=hg;obtain⟨c,hc'⟩:∃c,z[8][i]?=ι c:={_,Ä 1.2};let hc2:z.cps[i]?=ι c:=hc'[7]
  cases ha:z.cps.all (· < 128)
  .let et:ÿ z = "str_iterator" := by unfold ÿ;rw[ha,0]
   rw[et]at st;show wpAny_pyNext_wide_item st hc2 λh' st' sb=>?_;let I1:Inv X π σ H {s with heap:=h',toks:=s.toks+1}:=I.turned (t':=s.toks+1) (λb o hb e=>(sb.2 b hb).trans e) f0 f1 f3 f4 f5;let⟨o,e,c',d⟩:=id st';show{.str {(#[c])} s.toks,rfl,Ck (s:={s with heap:=h',toks:=s.toks+1}) e c' d 0.3 {.str {(#[c])},H,I1,{()},{rfl,c,hc',(rfl)},#v[et,!st'],λb hb=>(hf b hb).1}}
  .let et:ÿ z = "str_ascii_iterator" := by unfold ÿ;rw[ha,0]
   rw[et]at st;show wpAny_pyNext_ascii_item st hc2 λh' st' sb=>?_;let I1:Inv X π σ H {s with heap:=h',toks:=s.toks+1}:=I.turned (t':=s.toks+1) (λb o hb e=>(sb.2 b hb).trans e) f0 f1 f3 f4 f5;let⟨o,e,c',d⟩:=id st';show{.str {(#[c])} s.toks,rfl,Ck (s:={s with heap:=h',toks:=s.toks+1}) e c' d 0.3 {.str {(#[c])},H,I1,{()},{rfl,c,hc',(rfl)},#v[et,!st'],λb hb=>(hf b hb).1}}
 done:=by
  intro X hP hw hK hc i π s σ H E I hf st hg;subst hP hw hK;let⟨f0,f1,f2,f3,f4,f5⟩:=hf it 0.1;let hi:z[_]<=i:=hg;let hc2:z.cps[i]?=ν:=Array.getElem?_eq_none hi;cases ha:z.cps.all (· < 128)
  .let et:ÿ z = "str_iterator" := by unfold ÿ;rw[ha,0]
   rw[et]at st;show wpAny_pyNext_wide_end (I.ok.hd hc) st hc2 λh' eb=>{rfl,I.turned (t':=s.toks) (λb o hb e=>eb b o hb e) f0 f1 f3 f4 f5}
  .let et:ÿ z = "str_ascii_iterator" := by unfold ÿ;rw[ha,0]
   rw[et]at st;show wpAny_pyNext_ascii_end (I.ok.hd hc) st hc2 λh' eb=>{rfl,I.turned (t':=s.toks) (λb o hb e=>eb b o hb e) f0 f1 f3 f4 f5}
 self:=λ_ _ _ _ _ st h=>by
  revert st;unfold ÿ;split
  .exactλst=>wpAny_pyIter_striter_ascii st h
  .exactλst=>wpAny_pyIter_striter_wide st h
def aRW(tl:TE):TI:=λσ H R=>tl σ H λx H1=>∃z,x=.str z/\R (ϧ z) H1
def L0(O:PE X l tl):PI X tg l (aRW tl):=by
 show λd s σ H R I h=>aY (O d s σ H _ I h) λv a zz=>?_;let⟨x,H1,c,f,g⟩:=zz;ext z rfl q g;ext t rfl f;show wpAny_pyIter_strU ?_;show{a[1],[a[1]],_,_,H1,rfl,c.kept (t':=a.toks) λb o e=>Ç _ e,aLP z t _,{_,Ù _ rfl,rfl,rfl},λb hb=>?_,q};let e:b=a[1]:=hb[7]
 subst e;show c.tW (aZ _) (c.hok.fresh (aZ _))
section
variable (K:aH)
def mZ{T id:String}{r:V->τ->Hp->VK->Prop}{name:Str}{o e:ü}{to:TE}{te:TE}{b a:Pos}(pa:PlainAttrs T)(slot:Slot T name id)(hty:typeOf (.builtin id)=pure (.type "method_descriptor"))(hm:wD X id r)(ho:PE X o to)(he:PE X e te)(hK:X.K=K:=by rfl)
  (U:û o name X.env (eval o X.env)=eval o X.env:=by rfl)
  (Y:((ó a (Ò [e] X.env)).all (λx=>!x.1)&&(Ń a (Ě [] X.env)).all (λx=>x.1.isSome)
   && decide ([e][_]+([]:List ň)[_]+(if([]:List ň).isEmpty then 0 else 1)<30))=true:=by rfl)
  (O:(b.endLine==a.line)=true:=by rfl) (hs:Ò [e] X.env=(false,eval e X.env)::Ò [] X.env:=by rfl):
  PE X (.Call (.Attribute o name b) [e] [] a) (MR K T r to (DN te zu)):=by
 subst hK;show xF pa slot hty hm ho (xW he jF hs) U Y O hs rfl
end
end
def dM.hu{k:Nat}{A:î}(r:dM k A):A.units+1<š:=let:=r.un;⋯
def axm(hd:(d==ã)=false):
  MeetsIn prog w (Builtin.«dict.__len__» {[.ref d],[]}) (λ_ R s=>∃n o es U,s.heap.get? d=ι o/\o.data=.dict es U/\es.size=n/\R (.ok (.ret (.int n s.toks))) {s with toks:=s.toks+1}):=
 .of_wp λA R s ⟨n,o,es,U,b,a,hn,h⟩=>by
  show Ô _ _ (dictSize d>>=_) _ _ s;unfold dictSize;show Å (Å (wpAny_dictEntries b a (Ñ ?_)));show Ô _ _ (Builtin.Dict.pendingCount d>>=_) _ _ s;show Å (wpAny_pendingCount_other hd ?_);show wpAny_ret_mkInt ?_;rw[Dj,hn,!h]
def aSF{E:χ}{s:Ó}{n:Nat}{o:Obj}{a:Array ý}{ep:Nat}{Q:χ}(hd:(d==ã)=false)(U:s.TypeIs (.ref d) "dict")
  (ho:s.heap.get? d=ι o)(Y:o.data=.dict a ep)(hn:a.size=n)(hfit:(n:Int)<2^63)
  (h:Q (.int n (s.toks+1)) {s with toks:=s.toks+1+1}):Ô (model prog w) A (Builtin.«len» {[.ref d],[]}) (λfin s'=>∃r,fin=.done (.ret r)/\Q r s') E s:=by
 unfold Builtin.«len»;show Å (m:=oneArg "len" _) (Ñ ?_);show Å (m:=callSpecial? (.ref d) (õ "__len__")) (ī (name:=õ "__len__") U HQ
  (call_meetsIn HQ U PySem.F.entry_dict_len (PySem.F.args_dict_len_1 _) (axm hd) {n,o,a,ep,ho,Y,hn,?_}))
 show Ô _ _ _ _ _ {s with toks:=s.toks+1};show Å (é (Ñ ?_));show Å (wpAny_letGo ?_);show Ô _ _ (if((n:Nat):Int)<0 then _ else _) _ _ _;rw[Â 0.6,!Ô _ _ (if((n:Nat):Int)≥2^63 then _ else _) _ _ _];rw[Â 0.6,!Å (wpAny_mkInt (Ñ {(),h}))]
def KG:jt X (.builtin "len") (λxs H Q=>∃a kvs,xs=[V.ref a]/\H a=ι (.dT kvs)/\Q (.int kvs[_]) H):=by
 intro j s σ H xs us Q I r h;ext a kvs rfl ha q h;let⟨u,rfl,d⟩:=vals1 r;cases d;let⟨z,hd,xs,rel,c⟩:=Co I.hok ha;let ty:=c.typeIs;let⟨o,g,k,e,hc,b,f,_⟩:=id c;let i:g.size=kvs[_]:=by
  rw[size_of_entries f,!rel[_].symm]
 show PySem.Calls.call_function_entry PySem.kind_len PySem.plain_len PySem.entry_len (PySem.args_len1 _) (aSF hd ty e b i (by rw[ģ]at z;lia) ?_);show{.int kvs[_],H,I.tok _,{()},q}
end L2
namespace PySem.SeqAt
open AutoSeq1 (wpAny_loadPart')
open MeetsSeq MeetsSeq2 MeetsSeq3 SeqRoads2
end PySem.SeqAt
namespace L2
open PySem PySem.Spec PyProof.Rows
section
open Classical
def aXM(H:Hp)(c:ζ):Ã->Bool:=λv=>match v with
 |.ref t=>decide (H t=c[11][2])
 |_=>false
end
def xY:Ã->Str|.str s _=>s|_=>Str.empty
def Px:Ã->Nat|.str _ t=>t|_=>0
structure KD(w:Ý)(K:aH)(mg:μ)(x:Str)(a:Æ):Prop where
 ex:∃es ep,K.lookup a=ι {.type "dict",ν,.dict {(es)} ep,#[]}/\es.map (λe=>({MH w.params (xY e.key),.str (xY e.key) (Px e.key),e.val}:ý))=es
 ns:(a==ã)=false
 mg:mg x=a[4]
def JT{K:aH}{mg:μ}(D:KD w K mg x a)(X:K.In h):∃f,Û.MapOf (mY P w) h a f/\∀s o,cQ K a s=ι o->f (.inr s)=o:=by
 ext c l g hk D.ex;show{findBy wZ {(c)},{_,_,_,X a _ g,{rfl,rfl,(rfl)},rfl,λe j=>?_,λ_=>rfl},λs o b=>?_}
 .let d:e∈c:=j[7]
  rw[<-hk]at d;let⟨i,_,rfl⟩:=bN.mp d;show{.inr (xY i.key),y_ _ (Px i.key),rfl}
 .unfold cQ at b;rw[g]at b;unfold findBy;rw[show(({(c)}:Array ý).find? λe=>wZ (.inr s) e.key)=c.find? λe=>wZ (.inr s) e.key by simp];let k:(c.find? λe=>wZ (.inr s) e.key)=c.find? λe=>e.key.isStr s:=by
   congr 1
   funext e
   show ś s e.key=e.key.isStr s;cases e.key<;>rfl
  rw[k];cases z:c.find? λe=>e.key.isStr s with
  |some e=>simp only[z]at b;cases b;rfl
  |none=>
   simp only[z]at b;split at b
   .cases b
   .cases b;rfl
section
variable {X:Cx}{i:ü}{ty:TE}{p pos:Pos}{x:Str}{a:Æ}
def Zs{K:aH}{mg:μ}(D:KD w K mg x a){s:Ó}(X:K.In s.heap):s.TypeIs (.ref a) "dict" := by
 let⟨f,m,_⟩:=JT (P:=default) D X;show m.typeIs
def DH(K:aH)(a:Æ)(ty:TE):TE:=λσ H Q=>ty σ H λy H1=>∃s v,y=.str s/\cQ K a s=ι v[4]/\Q (.ref v) H1
def aE2{K:aH}(D:KD X.w X.K X.mg x a)(U:Gl X x)(hi:PE X i ty)(Y:X.K=K)(O:Ng i)(hd:(x==("__debug__":Str))=false):PE X (.Subscript (.Name x p) i pos) (DH K a ty):=by
 subst Y;show λb s σ H Q I h=>i0 fw.lookup O (Ax I U D.mg (aY (hi b s σ H _ I h) λc g zz=>?_) hd);let⟨y,H2,I2,ry,k,v,e,hv,q⟩:=zz;subst e;let⟨t,rfl⟩:=(show ∃t,c=Ē k t from ry);let⟨f,m,d⟩:=JT (P:=X.prog) D I2.f9;show{Zs D I2.f9,ŗ (KJ _ _ k t) m (d k _ hv) {.ref v,H2,I2.tok _,rfl,q}}
def aFQ(D:KD X.w X.K X.mg x a)(K:aH)(U:Gl X x)(hi:PE X i ty)(O:Ng i)(Y:X.K=K:=by rfl)(hd:(x==("__debug__":Str))=false:=by decide):PE X (.Subscript (.Name x p) i pos) (DH K a ty):=aE2 D U hi Y O hd
def CA(K:aH)(a:Æ)(g:Bool->Bool)(ty:TE):TE:=λσ H Q=>ty σ H λy H1=>∃s o,y=.str s/\cQ K a s=ι o/\Q (.bl (g o.isSome)) H1
def NA(D:KD X.w X.K X.mg x a)(K:aH)(O:Gl X x)(hi:PE X i ty)(U:X.K=K:=by rfl)(hd:(x==("__debug__":Str))=false:=by decide):PC X .In i (.Name x p) (CA K a id ty):=by
 subst U;show λc s σ H Q I h=>aY (hi c s σ H _ I h) λd l ⟨y,H1,b,ry,k,o,j,e,q⟩=>Ax b O D.mg ?_ hd;subst j;let⟨t,rfl⟩:=(show ∃t,d=Ē k t from ry);let⟨f,m,g⟩:=JT (P:=X.prog) D b.f9;show wpAny_in_of (KJ _ _ k t) D.ns m ?_;rw[g k o e,!{.bl _,H1,b.tok _,rfl,q}]
def aJC(D:KD X.w X.K X.mg x a)(K:aH)(O:Gl X x)(hi:PE X i ty)(U:X.K=K:=by rfl)(hd:(x==("__debug__":Str))=false:=by decide):PC X .NotIn i (.Name x p) (CA K a not ty):=by
 subst U;show λc s σ H Q I h=>aY (hi c s σ H _ I h) λd l ⟨y,H1,b,ry,k,o,j,e,q⟩=>Ax b O D.mg ?_ hd;subst j;let⟨t,rfl⟩:=(show ∃t,d=Ē k t from ry);let⟨f,m,g⟩:=JT (P:=X.prog) D b.f9;show wpAny_notIn_of (KJ _ _ k t) D.ns m ?_;rw[g k o e,!{.bl _,H1,b.tok _,rfl,q}]
end
def EE(P:Þ)(w:Ý)(K:aH)(mg:μ)(base:Û)(a:Æ)(k:Nat)(ps:List Str)(T:List (Str×Str))(sp:Str->Sp):Prop:=
 ∀s∈T.map (·.1),∃g b,cQ K a s=ι g[4]/\su K (.ref g)=true/\Binds K b ps []/\mQ P w K mg base (vm P w) k g b ps (sp s)
section
variable {P:Þ}{w:Ý}{K:aH}{mg:μ}{base:Û}{a:Æ}{k:Nat}{ps:List Str}{sp:Str->Sp}
structure QY(K:aH)(mg:μ)(a:Æ)(T:List (Str×Str)):Prop where
 at_:∀p∈T,∀g,mg p.2=g[4]->cQ K a p.1=ι g[4]
 is_:∀s∈T.map (·.1),∃v,cQ K a s=ι (ι v)
def Sb{h:Û}(X:K.In h)(G:h.Ns Í mg){T:List (Str×Str)}(e:T.map (λp=>cQ K a p.1)=T.map λp=>cQ K Í p.2)(O:(T.all λp=>match cQ K a p.1 with|some (ι _)=>true|_=>false)=true):QY K mg a T:=by
 let b:∀p∈T,∃v,cQ K a p.1=ι (ι v):=λp hp=>by
  let h1:=jU.mp O p hp;cases z:cQ K a p.1 with
  |none=>rw[z]at h1;cases h1
  |some o=>
   cases o with
   |none=>rw[z]at h1;cases h1
   |some v=>show{v,(rfl)}
 show{λp hp g c=>?_,λs O=>?_}
 .obtain⟨v,z⟩:=b p hp;let d:cQ K a p.1=cQ K Í p.2:=List.map_inj_left.mp e p hp;let:=j5 X G (d.symm.trans z);rw[this]at c;cases c;show z
 .obtain⟨p,hp,rfl⟩:=bN.mp O;show b p hp
def gH(P:Þ)(w:Ý)(K:aH)(mg:μ)(base:Û)(k:Nat)(ps:List Str)(T:List (Str×Str))(sp:Str->Sp):Prop:=∀p∈T,∃j,j<=k/\mW P w K mg base p.2 j ps (sp p.1)
def gH.nil:gH P w K mg base k ps [] sp:=λ_ h=>nomatch h
def gH.cons{j:Nat}{s f:Str}{T:List (Str×Str)}(C:mW P w K mg base f j ps (sp s))(r:gH P w K mg base k ps T sp)(hk:j<=k:=by decide):gH P w K mg base k ps ((s,f)::T) sp:=λp hp=>by
 rcases fj.mp hp with rfl|hp
 .exact{j,hk,(C)}
 .exact r p hp
def gH.of{T:List (Str×Str)}(F:QY K mg a T)(C:gH P w K mg base k ps T sp):EE P w K mg base a k ps T sp:=λs b=>by
 let⟨p,hp,rfl⟩:=bN.mp b;let⟨j,hk,C⟩:=C p hp;ext g f m c d e C.ex;show{g,f,F.at_ p hp g m,c,d,e.mono hk}
structure S6(K:aH)(a:Æ)(l:List Str):Prop where
 at_:∀s∈l,cQ K a s=ι ν
def Wm{l:List Str}(h:(l.all λs=>match cQ K a s with|some ν=>true|_=>false)=true):S6 K a l:={λs b=>by
 let h1:=jU.mp h s b;cases z:cQ K a s with
 |none=>rw[z]at h1;cases h1
 |some o=>
  cases o with
  |none=>rfl
  |some v=>rw[z]at h1;cases h1}
def BF:List Ã->Option (List Str)
 |[]=>ι []
 |.str s _::r=>(BF r).map (s :: ·)
 |_=>ν
theorem XZ:∀{l:List Ã} {xs:List Str},BF l=ι xs->Vals xs[10] l
 |[],_,h=>by cases h;show .nil
 |v::r,xs,h=>by
  cases v<;>first|cases h|skip
  rename_i s t
  cases z:BF r with
  |none=>rw[show BF (.str s t::r)=(BF r).map (s :: ·)from rfl,z]at h;cases h
  |some ys=>
   rw[show BF (.str s t::r)=(BF r).map (s :: ·)from rfl,z]at h;cases h;show .cons {t,(rfl)} (XZ z)
structure E_(K:aH)(a:Æ)(T:List (Str×List Str)):Prop where
 at_:∀p∈T,∃t,cQ K a p.1=ι t[4]/\∀H,ao K H t p.2[10]
def Xr(K:aH)(a:Æ)(p:Str×List Str):Bool:=match cQ K a p.1 with
 |some t[4]=>match K.lookup t with
  |some ⟨.type "tuple",_,.seq its _,_⟩=>decide (BF its.toList=ι p.2)&&decide (its.size<=1000)
  |_=>false
 |_=>false
def aBt{T:List (Str×List Str)}(h:T.all (Xr K a)=true):E_ K a T:={λp hp=>by
 let h1:=jU.mp h p hp;unfold Xr at h1;split at h1
 .rename_i t e
  split at h1
  .rename_i its n sl e2
   rw[tH,decide_eq_true_eq,decide_eq_true_eq]at h1;show{t,e,λH=>.inr {_,its,_,e2,rfl,rfl,cD h1.2 #v[ģ,3],XZ h1.1}}
  .cases h1
 .cases h1}
def aE1(T:List (Str×Str))(sp:Str->Sp)(E:XK)(ty:TE)(t:TA):TE:=λσ H Q=>ty σ H λy H1=>∃s,y=.str s/\s∈T.map (·.1)/\t σ H1 λvs H2=>sp s vs H2 Q E
end
structure xG(K:aH)(C:Æ)(m qual:Str)(st:Ö)(ps:List Str):Prop where
 ex:∃(f:Æ)(fd:Ć),wI K m qual st f fd/\Meth K C m f/\Binds K fd ps []
structure Gb(P:Þ)(w:Ý)(K:aH)(mg:μ)(base:Û)(C:Æ)(m:Str)(k:Nat)(ps:List Str)(sp:Sp):Prop where
 ex:∃(f:Æ)(fd:Ć),Meth K C m f/\Binds K fd ps []/\mQ P w K mg base (vm P w) k f fd ps sp
section
variable {P:Þ}{w:Ý}{K:aH}{mg:μ}{base:Û}{C:Æ}{m qual:Str}{st:Ö}{ps:List Str}
def xG.axH{N:List Str}{k:Nat}{sp:Sp}(F:xG K C m qual st ps)(S:aM N ps (aG st))(len:∀vs H Q E,sp vs H Q E->vs[_]=ps[_])
  (U:∀(f:Æ)(O:Ã)(A:î)(outer:List Env)(s:Ó)(H:Hp)(vs:τ)(Q:VK)(E:XK),dM k (A.deeper (Ġ qual (aG st) s[1] f O))->sp vs H Q E->
   ∃t,m8 (J7 P w K mg base N qual (aG st) f O A outer s H E) (jG st) t/\t (.fn Q) (start N vs) H):Gb P w K mg base C m (k+1) ps sp:=by
 ext f a F m b F.ex;show{f,a,m,b,F.okF S len λO A outer s H vs Q E hr h=>U f O A outer s H vs Q E hr h}
def xG.cal{N:List Str}{k:Nat}{sp:Sp}(F:xG K C m qual st ps)(S:aM N ps (aG st))(len:∀vs H Q E,sp vs H Q E->vs[_]=ps[_])
  (U:∀(f:Æ)(O:Ã)(A:î)(outer:List Env)(s:Ó)(H:Hp)(vs:τ)(Q:VK)(E:XK),dM k (A.deeper (Ġ qual (aG st) s[1] f O))->sp vs H Q E->
   Okt (J7 P w K mg base N qual (aG st) f O A outer s H E).CN (jG st) (.fn Q) (start N vs) H):Gb P w K mg base C m (k+1) ps sp:=
 F.axH S len λf O A outer s H vs Q E hr h=>let⟨t,a,b⟩:=U f O A outer s H vs Q E hr h;{t,a.CN,(b)}
def aLA{f:Æ}{oc:Ã}{od:Option Æ}{kV U Y:Ã}{an:Option Æ}{O ct:Ã}{b:Array (Option Ã)}(a:qZ K (.ref C) m=ι f[4])(i:W.isFn K (.ref f)=true)
  (l:K.lookup f=ι {oc,od,.func (rY m qual (nG st) (jG st) (aG st) .none kV U Y an O ct),b}) (c:Ho K O qual=true) (k:su K (.ref f)=true)
  (hb:∀(us:List Ã),us[_]=ps[_]->ŭ (rY m qual (nG st) (jG st) (aG st) .none kV U Y an O ct) {us,([])}=pure (ps.zip us):=by
   intro us hl;first
    |(let⟨_,rfl⟩:=L2.Yn hl;rfl)
    |(let⟨_,_,rfl⟩:=L2.Ym hl;rfl)):xG K C m qual st ps:=
 {f,_,WD (st:=st) l c k,{a,i,(k)},.all hb}
structure F_(K:aH)(mg:μ)(x:Str)(C:Æ):Prop where
 cl:Φ K C
 makes:Tn K C=true
 kp:su K (.ref C)=true
 mg:mg x=C[4]
end
def aNj(M:F_ X.K X.mg x C)(I:Gb X.prog X.w X.K X.mg X.base C "__init__" k ["self"] sp)(hr:dM k' X.A)(U:Gl X x)(hk:k+1<=k':=by decide)(O:(x==("__debug__":Str))=false:=by decide):PE X (.Call (.Name x p) [] [] pos) (TH C sp [] E0 zu):=by
 ext f a m b F I.ex;show aSe {M.makes,m.at_,m.fn,(M.kp)} F (hr.mono hk) U M.mg b .nil Gf O
def OI(K:aH)(O:PE X e ta)(hb:û e f X.env (eval e X.env)=eval e X.env)(U:X.K=K:=by rfl):PE X (.Attribute e f pos) (XW K ta f):=by subst U;show aRu O hb
section
variable {C:Æ}{sp:Sp}
inductive Smt(C:Æ)(m:Str)(x:V)(H:Hp)(T:Prop):Prop|mk(a dx fs)(_:x=.ref a)(_:H a=ι (.ins C dx fs))(_:fs.lookup m=ν)(_:T)
def aEH(C:Æ)(m:Str)(sp:Sp)(b:TE)(t:TA):TE:=λσ H Q=>b σ H λx H1=>Smt C m x H1 (t σ H1 λvs H2=>sp (x::vs) H2 Q E0)
def qF(c:Φ X.K C)(M:Gb X.prog X.w X.K X.mg X.base C m k ps sp)(hr:dM k' X.A)(ho:PE X o ta)(ha:PA X (e::es) t)(hk:k<=k':=by decide)
  (O:Ò (e::es) X.env=(false,eval e X.env)::Ò es X.env:=by rfl)(U:(ó pos (Ò es X.env)).any (·.1)=false:=by rfl)
  (ht:eval (.Call (.Attribute o m apos) (e::es) [] pos) X.env=(do
   let Y<-eval o X.env
   standAt apos.atName
   let(f,first)<-holding [Y] (getMethod Y m pl)
   callWith pos f first (ó pos (Ò (e::es) X.env)) (Ń pos (Ě [] X.env))):=by rfl):PE X (.Call (.Attribute o m apos) (e::es) [] pos) (aEH C m sp ta t):=by
 ext f z g b F M.ex;show λd s σ H Q I h=>W.methodCall_KW (pl:=pl) (aY (ho d s σ H _ I h) λu j zz=>?_) ht;let⟨x,H1,i,n,a,dx,fs,ex,v,l,q⟩:=zz;subst ex;obtain rfl:u=ß a:=n;show aFK i v c g l ?_;show Uu (first:=[.ref a]) (h₀:=X.base) I.ok.mod.Fv g.kp (aY (ha pos d j σ H1 _ i q) λus y ⟨vs,H2,I2,r,p⟩=>{I2.f9,?_}) O U
 show IL (us:=.ref a::us) (vs:=.ref a::vs) F (hr.mono hk) b .nil Gf I2 (.cons rfl r) ?_;rw[sU,!p]
def FV{sp:Str->Sp}(D:KD X.w X.K X.mg x a)(C:EE X.prog X.w X.K X.mg X.base a k ps T sp)(hr:dM k X.A)(hg:Gl X x)(hi:PE X i ty)(Y:Ng i)(ha:PA X (e::es) t)
  (hd:(x==("__debug__":Str))=false:=by decide)
  (he:Ò (e::es) X.env=(false,eval e X.env)::Ò es X.env:=by rfl)(O:(ó pos (Ò es X.env)).any (·.1)=false:=by rfl):
  PE X (.Call (.Subscript (.Name x p) i U) (e::es) [] pos) (aE1 T sp E0 ty t):=by
 intro c s σ H Q I h;show Ô _ _ (do
  let o<-eval (.Subscript (.Name x p) i U) X.env
  callWith pos o [] (ó pos (Ò (e::es) X.env)) (Ń pos (Ě [] X.env))) _ _ s
 show Å (i0 fw.lookup Y (Ax I hg D.mg (aY (hi c s σ H _ I h) λj B zz=>?_) hd));let⟨y,H2,I2,ry,z,v,hz,q⟩:=zz;subst v;let⟨u,rfl⟩:=(show ∃u,j=Ē z u from ry);let⟨g,G,hv,b,hb,F⟩:=C z hz;let⟨m,l,n⟩:=JT (P:=X.prog) D I2.f9;show{Zs D I2.f9,ŗ (KJ _ _ z u) l (n z _ hv) ?_};show Uu (h₀:=X.base) I.ok.mod.Fv b (aY (ha pos c _ σ H2 _ (I2.tok _) q) λus s3 ⟨vs,H3,d,r,f⟩=>{d.f9,?_}) he O;show IL F hr hb .nil Gf d r ?_;rw[sU,!f]
inductive Ss2(x:V)(vs:τ)(H:Hp)(Q:VK):Prop|mk(z y)(_:x=.str z)(_:vs=[.str y])(_:(y[_]==0)=false)(_:z[_]<=100000)(_:∀p,H p=ν->Q (.ref p) (upd H p (.tup [.str (ė z y).1,.str (ė z y).2.1,.str (ė z y).2.2])))
def aAT:V->τ->Hp->VK->Prop:=Ss2
def aEX:wD X "str.partition" aAT:=by
 intro e s σ H x vs v us Q I f g h;ext z y rfl rfl hy hz q h;ext t rfl f;ext u rfl j g.one;ext t' rfl j;let d:(200000:Nat)<=Ê:=0.3;show ñ F.slot_str_partition (Ğ _ _ _) F.entry_str_partition (F.args_str_partition_2 _ _) (meets_str_partition z y t t' hy ⋯) ?_;unfold ė at q;revert q;let fin:∀(a b c:Str) (t1 t2 t3:Tok) (k:Nat),(∀p,H p=ν->Q (.ref p) (upd H p (.tup [.str a,.str b,.str c])))->EP X e σ Q (.ref s[1]) {s with heap:=s.heap.push {cls:=.type "tuple",data:=.seq [.str a t1,.str b t2,.str c t3].toArray},toks:=k}:=λa b c t1 t2 t3 k q=>
  {.ref s[1],_,I.laid (t':=k) (o:=.tup [.str a,.str b,.str c]) (λ_ _ q=>Ç _ q) (aZ _) {by show 3<=Ê;decide,[.str a t1,.str b t2,.str c t3],.cons {()} (.cons {()} (.cons {()} .nil)),_,Ù _ rfl,rfl,()},rfl,q _ I.fresh}
 cases ì z y 0 z[_] 1 with
 |nil=>show λq=>fin _ _ _ _ _ _ _ q
 |cons i r=>show λq=>fin _ _ _ _ _ _ _ q
end
section
variable {X:Cx}{π:List (Æ×Obj)}{σ:St}{H:Hp}{s:Ó}{h':Û}
def Inv.NX{t':Nat}{ch:List Æ}(I:Inv X π σ H s)(O:∀b∈ch,qI X π H b)(k:∀b o,b∉ch->s.heap.get? b=ι o->h'.get? b=ι o):Inv X π σ H {s with heap:=h',toks:=t'}:=by
 let a:∀b u,H b=ι u->b∉ch:=λb u e z=>by rw[(O b z).1]at e;cases e
 show I.step (g':=s.gens) (d':=s.drawn) (ch:=ch) (λb hb=>?_) (λb o _ _ hc e _=>k b o hc e) (λb o _ _ hc e _=>{o.slots,k b o hc e}) (λ_ _ _ _ n=>n)
  (λb o hc e=>{o,k b o hc e}) (λ_ _ e=>e) (λ_ _ _ e=>e) (λb ps e=>{#[],#v[e,2]}) (λm f=>?_) (λb u e=>?_) I.bare
 .obtain⟨_,f1,_,j,i,g⟩:=O b hb;show{j,f1,i,(g)}
 .ext o l p d r f;show{o,l,p,k _ o (λz=>(O _ z).2.1 rfl) d,r}
 .refine(I.hok b u e).stay (λc v hc q=>k c v ?_ q) (λ_ q=>q) λ_ _ q=>q;rcases hc with z|z
  .rw[z];show a b u e
  .exact a c _ z
def Inv.adopt(I:Inv X π σ H s)(f:qI X π H p)(new:gG X.prog X.w (upd H p o) s.heap p o):Inv X π σ (upd H p o) s:=by
 ext a f1 _ j i g f;show I.step (g':=s.gens) (d':=s.drawn) (t':=s.toks) (h':=s.heap) (ch:=[p]) (λb hb=>?_) (λb o _ _ hc e _=>e) (λb o _ _ hc e _=>{o.slots,(e)}) (λb _ hc _ n=>?_)
  (λb o hc e=>{o,(e)}) (λb xs e=>?_) (λb xs _ e=>?_) (λb ps e=>{#[],?_}) (λm d=>d) (λb u e=>?_) I.bare
 .let e:b=p:=hb[7]
  subst e;show{j,f1,i,(g)}
 .rw[cO λz=>hc (by simp[z])];show n
 .rw[cO (iH e a)];show e
 .rw[cO (iH e a)];show e
 .rw[cO (iH e a),e];simp
 .by_cases hb:b=p
  .subst hb;rw[aB]at e;cases e;show new
  .rw[cO hb]at e;show(I.hok b u e).stay (λc v _ q=>q) (λc q=>#v[cO (iH q a),!q]) λc xs q=>#v[cO (iH q a),!q]
end
def JC(K:aH)(a b:Æ):It:=
 {λi H=>∃xs ys x y,aj K H a xs/\aj K H b ys/\xs[i]?=ι x/\ys[i]?=ι y,
 λi H v H'=>∃p x y,v=.ref p/\H p=ν/\H'=upd H p (.tup [x,y])/\(∀xs,aj K H a xs->xs[i]?=ι x)/\∀ys,aj K H b ys->ys[i]?=ι y,
 λi H=>∃xs ys,aj K H a xs/\aj K H b ys/\(ys[_]<=i∨xs[_]<=i)}
structure Ep(z TI TO i1 i2 l1 l2:Æ)(i:Nat)(h:Û)(f:Ã):Prop where
 zz:IsZip h z TI TO f
 ti:IsPair h TI (.ref i1) (.ref i2)
 to:∃a b,IsPair h TO a b
 w1:h.IsListIter i1 l1 i
 w2:h.IsListIter i2 l2 i
def Ep.mono{z TI TO U O l1 l2:Æ}{i:Nat}{h h':Û}{f:Ã}(Z:Ep z TI TO U O l1 l2 i h f)(k:∀c∈[z,TI,TO,U,O],∀o,h.get? c=ι o->h'.get? c=ι o):Ep z TI TO U O l1 l2 i h' f:=by
 obtain⟨zz,ti,⟨u,v,to⟩,w1,w2⟩:=Z;show{k _ 0.1 _ zz,k _ 0.1 _ ti,{u,v,k _ 0.1 _ to},w1.at λo e=>k _ 0.1 o e,w2.at λo e=>k _ 0.1 o e}
def Ep.has{z TI TO U O l1 l2:Æ}{i:Nat}{h:Û}{f:Ã}(Z:Ep z TI TO U O l1 l2 i h f):∀c∈[z,TI,TO,U,O],∃o,h.get? c=ι o/\∀v,o.data≠ .cell v:=λc hc=>by
 obtain⟨zz,ti,⟨u,v,to⟩,⟨e,h1,_,b⟩,⟨d,h2,_,a⟩⟩:=Z;simp only[fj,En,or_false]at hc;rcases hc with rfl|rfl|rfl|rfl|rfl
 .exact{_,zz,λv q=>by cases q}
 .exact{_,ti,λv q=>by cases q}
 .exact{_,to,λv q=>by cases q}
 .exact{_,h1,λv q=>by rw[b]at q;cases q}
 .exact{_,h2,λv q=>by rw[a]at q;cases q}
def aCK{P:Þ}{w:Ý}{K:aH}{es:List ü}{x1:Nat}{pos:Pos}{z TI TO i1 i2 a b:Æ}(D:ZipApart z TI TO i1 i2 a b):
  Turn P w K (.Tuple es x1 pos) (JC K a b) [z,TI,TO,i1,i2] z (λi h=>Ep z TI TO i1 i2 a b i h .none) where
 mem:=0.1
 obj:=λi h Z c hc=>Z.has c hc
 keep:=λi h h' Z k=>Z.mono k
 item:=by
  intro X hP hw hK hc i π s σ H E I hf Z hg;subst hP hw hK;ext xs ys x y hq1 hq2 hx hy hg;let⟨LJ,r1,p1,_⟩:=I.list hq1;let⟨its2,r2,p2,_⟩:=I.list hq2;let⟨u1,hu1,ru1⟩:=r1.get hx;let⟨u2,hu2,ru2⟩:=r2.get hy;let has:=Z.has;obtain⟨zz,ti,⟨v1,v2,to⟩,w1,w2⟩:=Z;show wpAny_pyNext_zip_item D zz ti to w1 w2 p1.isList p2.isList (x:=u1) (y:=u2) hu1[7] hu2[7] λg zz1 to1 w3 w4 T1 _ k1=>{(),?_};let zl:z≠s[1]:=jP (dX zz);show wpAny_letOwnedTupleGo_zip zz1 λg' zz' m'=>?_;let T2:IsPair g' s[1] u1 u2:=m'.extBut _ _ (ux zl) T1;let I1:Inv X π σ H {s with heap:=g'}:=I.NX (t':=s.toks) (ch:=[z,TI,TO,i1,i2]) hf λc o hc e=>
   m'.extBut _ _ (λq=>hc (by simp[q])) (k1 c o (λq=>hc (by simp[q])) (λq=>hc (by simp[q])) (λq=>hc (by simp[q])) (λq=>hc (by simp[q])) e)
  let I2:Inv X π σ (upd H s[1] (.tup [x,y])) {s with heap:=g'}:=I1.adopt (I.tW (aZ _) I.fresh)
   {by simp[Ê],[u1,u2],.cons ru1 (.cons ru2 .nil),{_,T2,rfl,()}}
  show{.ref s[1],_,I2,rfl,{_,x,y,rfl,I.fresh,rfl,λxs' q=>#v[I.UG q hq1,!hx],λys' q=>#v[I.UG q hq2,!hy]},
   {zz',m'.extBut _ _ D.TIz (k1 _ _ D.TIz D.TITO D.TIi1 D.TIi2 ti),{_,_,m'.extBut _ _ D.TOz to1},w3.extBut m'.extBut D.i1z,w4.extBut m'.extBut D.i2z},λc hc=>?_}
  rw[cO λq=>by
   let⟨o,ho,_⟩:=has c hc;show È (dX ho) #v[q,!rO _]]
  show(hf c hc).1
 done:=by
  intro X hP hw hK hc i π s σ H E I hf Z hg;subst hP hw hK;ext xs ys hq1 hq2 hend hg;let⟨LJ,r1,p1,_⟩:=I.list hq1;let⟨its2,r2,p2,_⟩:=I.list hq2;let n1:=r1[_];let n2:=r2[_];obtain⟨zz,ti,⟨v1,v2,to⟩,w1,w2⟩:=Z;show wpAny_pyNext_zip_end (I.ok.hd hc) D zz ti to w1 w2 p1.isList p2.isList (hend.symm.imp (λq=>0.4) λq=>0.4) λg k1=>{rfl,I.NX (t':=s.toks) (ch:=[z,TI,TO,i1,i2]) hf λc o hc e=>
   k1 c o (λq=>hc (by simp[q])) (λq=>hc (by simp[q])) (λq=>hc (by simp[q])) (λq=>hc (by simp[q])) e}
 self:=λ_ _ _ _ _ Z h=>ύ Z.zz h
def aT9(K:aH)(c:TA):TI:=λσ H R=>c σ H λvs H1=>∃a b xs ys,vs=[.ref a,.ref b]/\aj K H1 a xs/\aj K H1 b ys/\R (JC K a b) H1
def aDc(K:aH)(hg:Gl X "zip")(hm:X.mg "zip"=ν)(ha:PA X [Y,U] ta)(hK:X.K=K:=by rfl)
  (hs:Ò [Y,U] X.env=[(false,eval Y X.env),(false,eval U X.env)]:=by rfl)(O:Ò [U] X.env=[(false,eval U X.env)]:=by rfl):
  PI X (.Tuple es x1 pos') (.Call (.Name "zip" p) [Y,U] [] pos) (aT9 K ta):=by
 subst hK;show λu s σ H R I h=>Call_ (uz I hg hm boot_zip (xr (aY (ha pos u s σ H _ I h) λus g zz=>?_) #v[hs,O] #v[O,0]));let⟨vs,H1,f,v,w⟩:=zz;ext a b xs ys e l j q w;subst e;cases v with
 |cons r rr=>
 cases rr with
 |cons r' rr=>
  cases rr;cases r;cases r';let⟨A,z,p1,_⟩:=f.list l;let⟨t,y,p2,_⟩:=f.list j;let lt:∀{c:Æ} {i:Array Ã},g.heap.IsList c i->c<g[1]:=λ⟨o,x,_⟩=>dX x;show call_zip_2 p1.isList p2.isList λh' hz n m h1 h2 _ k=>?_;show ύ hz {_,_,_,_,H1,rfl,f.kept (t':=g.toks) k,aCK (zipApart_new (lt p1.isList) (lt p2.isList)),{hz,n,{_,_,m},h1,h2},λc hc=>?_,q};let d:g[1]<=c:=by
   simp only[fj,En,or_false]at hc;rcases hc with rfl|rfl|rfl|rfl|rfl
   .exact SV _ _
   .exact SV _ _
   .exact SV _ _
   .exact aZ _
   .exact SV _ _
  show f.tW d (f.hok.fresh d)
end L2
namespace PyProof.Rows
open PySem
theorem E2(O:t≠it):∀(n i:Nat)(s:Ó)(Q:List Ã->Ó->Prop),s.heap.IsListIter it t i->s.heap.IsList t items->i+n<=items.size->
  (∀h':Û,h'.IsListIter it t (i+n)->Jp it s.heap h'->Q ((items.toList.drop i).take n) {s with heap:=h'})->Ô (model prog w) A (draw (.ref it) n) Q E s
 |0,i,s,Q,hit,_,_,hQ=>by
  show Ô _ _ (pure []) Q E s;show Ñ (hQ s.heap hit (aPJ ..))[7]
 |n+1,i,s,Q,hit,ht,hle,hQ=>by
  let f:i<items.size:=⋯;show Ô _ _ (pyNext (.ref it)>>=_) Q E s;show Å (Α hit ht (x:=items[i]) (by simp[f]) λg c a=>?_);show Å (é (E2 O n (i+1) _ _ c (ht.extBut a.extBut O) ⋯ λe b d=>Ñ ?_));let hd:items.toList.drop i=items[i]::items.toList.drop (i+1):=by simp[EI,f]
  let:=hQ e #v[(⋯:i+(n+1)=i+1+n),!b] (a.trans d);rw[hd,A2]at this;show this
def aUs(O:A.handled=ν)(ht:s.heap.IsList t items)
  (U:∀h',ko s[1] s.heap h'->Q items.toList {s with heap:=h'}):Ô (model prog w) A (Ο (.ref t) items.size ν) Q E s:=by
 let j:t≠s[1]:=by ext o l _ ht;show jP (dX l)
 unfold Ο;show Å ?_
 .unfold notIterableAtAll;show Å (ķ ht.typeIs slot_list_iter.lookup ?_);show Ñ ?_;simp only[b8,if_false];show Å (é (Ģ ht ?_));show Å (é (E2 j items.size 0 _ _ {_,Ù _ rfl,rfl,rfl} (ht.push _) 0.6 λi c a=>?_));let k:List.take items.size (List.drop 0 items.toList)=items.toList:=by
   rw[RD,!sG 0.1]
  rw[k];rw[Â 0.1];let d:i.IsList t items:=(ht.push _).extBut a.extBut j;show Å (é (Η O c d 0.1 λg f=>?_));simp only[Option.isSome_none,b8,if_false];show Ñ (U g λb o hb e=>f b o hb (a.extBut b o hb (Ç _ e)))
def aL6(Y:A.handled=ν)(ht:s.heap.IsList t items)
  (hn:O[_]=items.size)(U:O.findIdx? (·.1)=ν)
  (h:∀h',ko s[1] s.heap h'->Ô (model prog w) A (ĩ (O.map (·.2)) items.toList) Q E {s with heap:=h'}):
  Ô (model prog w) A (unpack (.ref t) O) Q E s:=by
 unfold unpack;rw[hn,U,!Å (é (aUs Y ht h))]
def aB4{Y}(hh:A.handled=ν)(ht:s.heap.IsList t items)
  (hn:(ô O env)[_]=items.size)(U:(ô O env).findIdx? (·.1)=ν)
  (h:∀h',ko s[1] s.heap h'->Ô (model prog w) A (ĩ ((ô O env).map (·.2)) items.toList) Q E {s with heap:=h'}):
  Ô (model prog w) A (assign (.Tuple O Y pos) env (.ref t)) Q E s:=by
 rw[assign_Tuple,!Å (Ĩ (aL6 hh ht hn U h))]
end PyProof.Rows
namespace L2
open PySem PySem.Spec PyProof.Rows
def aIw(K:aH)(n:Nat)(t:vH):TG:=λv σ H Q=>∃a xs,v=.ref a/\aj K H a xs/\xs[_]=n/\t xs σ H Q
def LF(K:aH)(hc:X.calm=true)(h:B6 X es t)(U:X.K=K:=by rfl)
  (hn:(ô es X.env)[_]=n:=by rfl)(O:(ô es X.env).findIdx? (·.1)=ν:=by rfl):PG X (.Tuple es k pos) (aIw K n t):=by
 subst U;intro c s σ H v u Q I r hw;ext a xs m hq g hw hw;subst m;cases r;obtain⟨f,d,⟨o,n,i,l,_,j⟩,hz⟩:=I.list hq;show aB4 (I.ok.hd hc) {o,i,l,n,(j)} (by simp[hn,<-g,d[_]]) O λh' hx=>?_;let p:Inv X c σ H {s with heap:=h'}:=I.kept (t':=s.toks) λb o e=>hx b o (jP (dX e)) e;show h c _ σ H xs _ Q p d[7] hw
theorem QR(g:Nat->Int):∀(ys:List Ã)(k:Nat),(∀(i:Nat)(v:Ã),ys[i]?=ι v->∃t,v=Ĳ (g (k+i)) t)->Vals ((zx k ys[_]).map λi=>V.int (g i)) ys
 |[],_,_=>.nil
 |y::r,k,h=>.cons (h 0 y rfl) (QR g r (k+1) λi v hv=>#v[Dl,qz 1,!h (i+1) v hv])
inductive Sr3(vs:τ)(H:Hp)(Q:VK):Prop|mk(a b c:Int)(_:vs=[.int a,.int b,.int c])(_:0<=a/\a<=1000/\0<=b/\b<=1000/\1<=c/\c<=1000)(_:∀l n,(∀k:Nat,k<n↔a+k*c<b)->H l=ν->Q (.ref l) (upd H l (.lst ((zx 0 n).map λi:Nat=>V.int (a+i*c)))))
def aB6(d:TA):TE:=λσ H Q=>d σ H λvs H1=>Sr3 vs H1 Q
def ayY(hc:X.calm=true)(hg:Gl X "list")(hm:X.mg "list"=ν)(hg2:Gl X "range")(hm2:X.mg "range"=ν)(ha:PA X [a,b,c] ta)
  (Y:Ò [a,b,c] X.env=(false,eval a X.env)::Ò [b,c] X.env:=by rfl)(U:(ó O (Ò [b,c] X.env)).any (·.1)=false:=by rfl)
  (hs:Ò [.Call (.Name "range" p2) [a,b,c] [] O] X.env=[(false,eval (.Call (.Name "range" p2) [a,b,c] [] O) X.env)]:=by rfl):
  PE X (.Call (.Name "list" p) [.Call (.Name "range" p2) [a,b,c] [] O] [] pos) (aB6 ta):=by
 show λy s σ H Q I h=>í (uz I hg hm boot_list ?_ 0.3 0.3);show xr ?_ hs rfl;rw[hs,!Ô _ _ (spliced ((false,eval (.Call (.Name "range" p2) [a,b,c] [] O) X.env)::ó pos [])) _ _ s];show Yz ?_;show Call_ (uz I hg2 hm2 Ŭ (xr (aY (ha O y s σ H _ I h) λus u zz=>?_) Y U));let⟨vs,H1,A,B,D⟩:=zz;obtain⟨a,b,c,e,⟨a0,a1,P,N,M,c1⟩,q⟩:=D;subst e;cases B with
 |cons r rr=>
 cases rr with
 |cons C rr=>
 cases rr with
 |cons w rr=>
  cases rr;ext t rfl r;ext t' rfl C;ext m rfl w;show call_range_3 ⋯ ?_ (.inl (W2 0.7));show YD ?_;let I2:Inv X y σ H1 {u with heap:=u.heap.push {cls:=.type "range",data:=.fields #[.int a t,.int b t',.int c m]},toks:=u.toks}:=A.kept λb o e=>Ç _ e;obtain⟨n,j,hn⟩:∃n:Nat,æ a b c=n[0]/\n<=1000:=by
   let e:=rangeSize_toNat a b c;let l:=rangeSize_toNat_le a b c;show{_,e,?_};unfold æ at *;rw[Á 1.2]at *;split at l
   .let:=Int.ediv_le_self c (⋯:(0:Int)<=b-a-1);rw[Á (by assumption),1]
   .rw[Â (by assumption)];simp_all
  let hk:∀k:Nat,k<n↔a+k*c<b:=λk=>by
   unfold æ at j;rw[Á ⋯]at j;let h1:(b-a-1)/c<(k:Int)↔b-a-1<k*c:=Int.ediv_lt_iff_lt_mul ⋯;split at j
   .generalize (k:Int)*c=z at *;constructor
    .intro h;by_cases g:b-a-1<z
     .let:=h1.mpr g;omega
     .omega
    .intro h;by_cases g:(b-a-1)/c<k[0]
     .let:=h1.mp g;omega
     .omega
   .let:0<=k[0]*c:=MA 0.1 ⋯;generalize (k:Int)*c=z at *;lia
  let sm:ď a b c=true:=by
   unfold ď;rw[j];simp only[ľ,tH,Am,decide_eq_true_eq,beq_iff_eq,Á (⋯:c>0)];(simp;omega)
  show call_list_range (n:=n) (A.ok.hd hc) (Ŧ ..) sm j (cD hn 0.3) λh' tk d L x J f=>?_;let G:d.toList[_]=n:=f.1[7]
  let hv:=QR (λi=>a+i*c) d.toList 0 λi v hv=>by
   let⟨t,e⟩:=f.2 i v hv[7];show{t,#v[e,vL]}
  rw[G]at hv;show{.ref _,_,I2.laid (t':=tk) (o:=.lst ((zx 0 n).map λi:Nat=>V.int (a+i*c))) x (aZ _) ?_,rfl,q _ n hk (I2.hok.fresh (aZ _))};show{#v[aA,Y9,!cD hn 0.3],d.toList,L,hv,J[7]}
theorem UM:∀{ns:ζ} {us:List Ã},Vals ns[11] us->Ŋ us ns
 |[],_,.nil=>.nil
 |n::ns,_,.cons ⟨t,e⟩ r=>#v[e,!.cons n t (UM r)]
theorem Tf:∀{vs:List Ã} {ns:ζ},Ŋ vs ns->Vals ns[11] vs
 |_,_,.nil=>.nil
 |_,_,.cons n t h=>.cons {t,(rfl)} (Tf h)
def aEr:jt X (.builtin "sorted") (λvs H Q=>∃(l:Æ) (ns:ζ),vs=[.ref l]/\H l=ns[11][2]/\ns[_]<64/\
  ∀(O:Æ)(ns':ζ),ns'.Perm ns->ns'.Pairwise (·<=·)->H O=ν->Q (.ref O) (upd H O (.lst ns'[11]))):=by
 intro p s σ H vs us Q I r h;ext l ns rfl k hz q h;ext u rfl j r.one;cases j;let⟨z,a,t,g,i,n⟩:=I.uK k;let f:s.heap.IsList l a.toArray:={_,n,rfl,()};let d:=g[_];rw[aA]at d;show sorted_ints f (UM g) 0.6 λout ns' a1 a2 a3=>?_;let⟨e,m⟩:=sortedAll_at s.heap a out;let c:(ns'[11])[_]<=Ê:=#v[aA,a2.length_eq,ģ]
 show{.ref _,_,I.laid (t':=s.toks) (λb o e=>sortedAll_old e) (vt _) (show gG X.prog X.w _ _ _ (.lst ns'[11])from{c,out.toList,e,Tf a1,m[7]}),rfl,q _ ns' a2 a3 (I.hok.fresh (vt _))}
def aHk:Ü "sorted"=ι (.builtin "sorted"):=0.0
end L2
namespace Rm
section
variable {b x y:Int}{ρ ς:ζ}{n m:Nat}
def tk(b n:Int):Int:=if b=0 then n else n%b
def cY(n:Int):tk 0 n=n:=Á rfl
def mz(h:b≠0)(n:Int):tk b n=n%b:=Â h
def qj(b n:Int):tk b (tk b n)=tk b n:=by
 unfold tk;split
 .rfl
 .exact u5 _ (vC b)
def mV(b x y:Int):tk b (tk b x+y)=tk b (x+y):=by
 unfold tk;split
 .rfl
 .exact Int.emod_add_emod ..
def J0(b x y:Int):tk b (x+tk b y)=tk b (x+y):=by
 rw[u9,mV,u9]
def mH(b x y:Int):tk b (x*tk b y)=tk b (x*y):=by
 unfold tk;split
 .rfl
 .rw[wB,u5 _ (vC b),<-wB]
def qK(b x y:Int):tk b (tk b x*y)=tk b (x*y):=by
 rw[fO,mH,fO]
def tX(h:tk b x=tk b x')(h':tk b y=tk b y'):tk b (x+y)=tk b (x'+y'):=by
 rw[<-mV,<-J0,h,h',J0,mV]
def S(ρ:ζ)(f:Nat->Int)(n:Nat):Nat->Int
 |0=>0
 |m+1=>S ρ f n m+ρ.getD m 0*f (n-1-m)
theorem QK{ρ:ζ}{n:Nat}:∀{m:Nat},(∀k,k<m->f (n-1-k)=g (n-1-k))->S ρ f n m=S ρ g n m
 |0,_=>rfl
 |m+1,h=>by
  unfold S;rw[QK λk hk=>h k ⋯,h m 0.6]
theorem rp{ρ:ζ}{n:Nat}:∀{m:Nat},m<=n->S ρ (λi=>f (d+i)) n m=S ρ f (d+n) m
 |0,_=>rfl
 |m+1,h=>by
  unfold S;rw[rp ⋯,(⋯:d+n-1-m=d+(n-1-m))]
theorem getD_map{f:Int->Int}(h0:f 0=0):∀(l:ζ)(k:Nat),(l.map f).getD k 0=f (l.getD k 0)
 |[],k=>by simp[h0]
 |x::r,0=>0.1
 |x::r,k+1=>by
  let:=getD_map h0 r k;simpa using this
theorem NC(p:Int){ρ:ζ}{n:Nat}:∀m:Nat,tk p (S (ρ.map (tk p)) (λi=>tk p (f i)) n m)=tk p (S ρ f n m)
 |0=>rfl
 |m+1=>by
  unfold S;show tX (NC p m) ?_;rw[getD_map (by unfold tk;split<;>simp),mH,qK]
def row(b:Int)(ρ ς:ζ):Nat->ζ
 |0=>[]
 |n+1=>row b ρ ς n++[if n<ς[_] then ς.getD n 0 else tk b (S ρ (λi=>(row b ρ ς n).getD i 0) n ρ[_])]
theorem pY(b:Int)(ρ ς:ζ):∀n,(row b ρ ς n)[_]=n
 |0=>rfl
 |n+1=>by simp[row,pY b ρ ς n]
def at_(b:Int)(ρ ς:ζ)(n:Nat):Int:=(row b ρ ς (n+1)).getD n 0
theorem d6(b:Int)(ρ ς:ζ):∀{n i:Nat},i<n->(row b ρ ς n).getD i 0=at_ b ρ ς i
 |n+1,i,h=>by
  by_cases e:i=n
  .subst e;rfl
  .let hi:i<n:=⋯;let a:=pY b ρ ς n;let:=d6 b ρ ς (n:=n) (i:=i) hi;rw[<-this,!(row b ρ ς n++_).getD i 0=_];rw[À,ê 0.6,<-À]
def Qc(b:Int)(ρ ς:ζ)(n:Nat):at_ b ρ ς n=if n<ς[_] then ς.getD n 0 else tk b (S ρ (λi=>(row b ρ ς n).getD i 0) n ρ[_]):=by
 unfold at_;let a:=pY b ρ ς n;show(row b ρ ς n++_).getD n 0=_;rw[À,á 0.6,a,2]
def qG(h:n<ς[_]):at_ b ρ ς n=ς.getD n 0:=by
 rw[Qc,Á h]
def Bq(O:ρ[_]=ς[_])(h:ς[_]<=n):at_ b ρ ς n=tk b (S ρ (at_ b ρ ς) n ρ[_]):=by
 rw[Qc,Â 0.8];congr 1;show QK λk hk=>d6 b ρ ς 0.9
theorem ya(b:Int)(ρ ς:ζ):∀n,row b ρ ς n=(dY n).map (at_ b ρ ς)
 |0=>rfl
 |n+1=>by
  rw[QW,eG,<-ya b ρ ς n,!_++[_]=_++[at_ b ρ ς n]];rw[Qc]
def aBZ(b:Int)(ρ ς:ζ)(n:Nat):row b ρ ς (n+1)=row b ρ ς n++[at_ b ρ ς n]:=by
 rw[Qc,0]
def XG(O:ρ[_]=ς[_])(h1:∀i,i<ς[_]->g i=ς.getD i 0)
  (h2:∀i,ς[_]<=i->g i=tk b (S ρ g i ρ[_])):∀n,at_ b ρ ς n=g n:=by
 intro n;induction n using rz with
 |ind n ih=>
  by_cases h:n<ς[_]
  .rw[qG h,h1 n h]
  .rw[Bq O 0.6,h2 n ⋯];congr 1;show QK λk hk=>ih _ 0.9
theorem Ve{b:Int}{ρ ς:ζ}:∀{n:Nat},n<=ς[_]->row b ρ ς n=ς.take n
 |0,_=>by simp[row]
 |n+1,h=>by
  rw[aBZ,Ve ⋯,qG 1.2,zp,À,Ä ⋯,0]
def oC(hp:p≠0)(O:ρ[_]=ς[_])(n:Nat):at_ p (ρ.map (tk p)) (ς.map (tk p)) n=tk p (at_ 0 ρ ς n):=by
 show XG O[7] (g:=λi=>tk p (at_ 0 ρ ς i)) (λi hi=>?_) (λi hi=>?_) n
 .rw[qG hi[7],getD_map (by unfold tk;split<;>simp)]
 .rw[aA]at hi;show tk p (at_ 0 ρ ς i)=_;rw[Bq O hi,cY,aA,!(NC p _).symm]
def Bd(n:Nat)(x:Int):Prop:=x.natAbs<2^n
def Bd.mono(h:Bd m x)(O:m<=n):Bd n x:=gY h (mX 0.3 O)
def Bd.mul(h:Bd m x)(h':Bd n y):Bd (m+n) (x*y):=by
 unfold Bd at *;rw[wG,yL,!Nat.mul_lt_mul'' h h']
def Bd.add{n:Nat}{x y:Int}(h:Bd n x)(h':Bd n y):Bd (n+1) (x+y):=by
 unfold Bd at *;let:=Je x y;rw[lY,1]
def Bd.zero(n:Nat):Bd n 0:=Ko 0.3
def Bd.of(h1:-(2^n)<x)(h2:x<2^n):Bd n x:=by
 unfold Bd;let e:((2^n:Nat):Int)=(2:Int)^n:=0.1
 lia
def Bd.emod(hb:0<b)(h:Bd n b):Bd n (x%b):=by
 unfold Bd at *;let:=pW x (⋯:b≠0);let:=qQ x hb;grind -ring
theorem Bd.S{ρ:ζ}{f:Nat->Int}{n a c:Nat}(hr:∀k,Bd a (ρ.getD k 0)):∀m:Nat,(∀k,k<m->Bd c (f (n-1-k)))->Bd (a+c+m) (Rm.S ρ f n m)
 |0,_=>Bd.zero _
 |m+1,h=>by
  unfold Rm.S;show Bd.add (n:=a+c+m) (Bd.S hr m λk hk=>h k ⋯) (((hr m).mul (h m ⋯)).mono 0.6)
def aSN(l:ζ)(k:Nat):l.getD k 0=0∨l.getD k 0∈l:=by
 by_cases h:k<l[_]
 .right;rw[À,Ä h,!rD h]
 .left;rw[À,à ⋯,0]
theorem Bd.getD{l:ζ}{n:Nat}(h:∀x∈l,Bd n x)(k:Nat):Bd n (l.getD k 0):=by
 rcases aSN l k with e|e
 .rw[e];show .zero n
 .exact h _ e
def CB(hb:0<=b)(O:Bd n b)(h:Bd n x):Bd n (tk b x):=by
 unfold tk;split
 .exact h
 .exact Bd.emod ⋯ O
def zy(Y:ρ[_]=ς[_])(hb:0<=b)(O:Bd c b)(hr:∀x∈ρ,Bd a x)(U:∀x∈ς,Bd c x):
  ∀n,Bd (c+n*(a+ρ[_])) (at_ b ρ ς n):=by
 intro n;induction n using rz with
 |ind n ih=>
  by_cases h:n<ς[_]
  .rw[qG h];show(Bd.getD U n).mono 0.1
  .rw[Bq Y 0.7];by_cases h0:ρ[_]=0
   .rw[h0];show CB hb (O.mono 1.1) (.zero _)
   .let hn:0<n:=⋯;let q:=Bd.S (ρ:=ρ) (f:=at_ b ρ ς) (n:=n) (a:=a) (c:=c+(n-1)*(a+ρ[_])) (λk=>Bd.getD hr k) ρ[_] λk hk=>by
     show(ih (n-1-k) 0.7).mono ?_;let:(n-1-k)*(a+ρ[_])<=(n-1)*(a+ρ[_]):=pN _ 0.6;(simp;omega)
    let e:n*(a+ρ[_])=(n-1)*(a+ρ[_])+(a+ρ[_]):=by
     obtain⟨m,rfl⟩:∃m,n=m+1:={n-1,⋯};rw[gU,rm]
    show CB hb (O.mono ⋯) (q.mono ⋯)
def A4(U:ρ[_]=ς[_])(hb:0<b)(O:∀x∈ς,0<=x/\x<b)(n:Nat):0<=at_ b ρ ς n/\at_ b ρ ς n<b:=by
 by_cases h:n<ς[_]
 .rw[qG h,À,Ä h];show O _ (rD h)
 .rw[Bq U ⋯,mz ⋯];show{pW _ ⋯,qQ _ hb}
end
end Rm
namespace Om
section
variable {p a power square:Int}{e left:Nat}
noncomputable def Er:List Nat:=[2,3,5,7,11,13,17,19,23,29,31,37,41,43,47,53,59,61,67,71,73,79,83,89,97,101,103,107,109,113,127,131,137,139,149,151,157,163,167,173,179,181,191,193,197,199,211,223,227,229,233,239,241,251,257,263,269,271,277,281,283,293,307,311,313,317,331,337,347,349,353,359,367,373,379,383,389,397,401,409,419,421,431,433,439,443,449,457,461,463,467,479,487,491,499,503,509,521,523,541,547,557,563,569,571,577,587,593,599,601,607,613,617,619,631,641,643,647,653,659,661,673,677,683,691,701,709,719,727,733,739,743,751,757,761,769,773,787,797,809,811,821,823,827,829,839,853,857,859,863,877,881,883,887,907,911,919,929,937,941,947,953,967,971,977,983,991,997]
def mod_mul{x y x' y':Int}(h:x%p=x'%p)(h':y%p=y'%p):(x*y)%p=(x'*y')%p:=by
 rw[wB,h,h',<-wB]
theorem bE{x x' p:Int}(h:x%p=x'%p):∀n:Nat,(x^n)%p=(x'^n)%p
 |0=>0.1
 |n+1=>#v[oN,oN,!mod_mul (bE h n) h]
def Keeps(p a:Int)(e:Nat)(c b:Int)(left:Nat):Prop:=(c*b^left)%p=(a^e)%p
def aNX(p a:Int)(e:Nat):Keeps p a e 1 a e:=by unfold Keeps;rw[mU]
theorem kQ(x:Int):∀n:Nat,(x*x)^n=x^(2*n)
 |0=>0.1
 |n+1=>by
  rw[oN,kQ x n,(⋯:2*(n+1)=2*n+1+1),oN,oN,iT]
def aFd(h:Keeps p a e power square left)(O:left%2=1):Keeps p a e (power*square%p) (square*square%p) (left/2):=by
 unfold Keeps at *;let h1:(power*square%p)%p=(power*square)%p:=u5 _ (vC p);let h2:=bE (p:=p) (x:=square*square%p) (x':=square*square) (u5 _ (vC p)) (left/2);rw[mod_mul h1 h2,<-h,kQ,iT];let b:left=2*(left/2)+1:=⋯
 conv=>rhs;rw[b,oN]
 rw[fO square]
def aGS(h:Keeps p a e power square left)(O:¬left%2=1):Keeps p a e power (square*square%p) (left/2):=by
 unfold Keeps at *;let h2:=bE (p:=p) (x:=square*square%p) (x':=square*square) (u5 _ (vC p)) (left/2);rw[mod_mul rfl h2,<-h,kQ];let b:left=2*(left/2):=⋯
 conv=>rhs;rw[b]
def aV7(h:Keeps p a e power square 0):power%p=a^e%p:=by
 unfold Keeps at h
 rwa [Ac,m7]at h
end
end Om
namespace Pm
open Rm
section
variable {f f' g g':Nat->Int}{n k i c:Nat}{b x:Int}{p q:ζ}
def sm:Nat->(Nat->Int)->Int
 |0,_=>0
 |n+1,f=>sm n f+f n
theorem bG{f g:Nat->Int}:∀{n:Nat},(∀k,k<n->f k=g k)->sm n f=sm n g
 |0,_=>rfl
 |n+1,h=>#v[sm,sm,bG λk hk=>h k ⋯,h n 0.6]
theorem ou:∀n:Nat,sm n (λ_=>0)=0
 |0=>rfl
 |n+1=>#v[sm,ou n,0]
def Mr(h:∀k,k<n->f k=0):sm n f=0:=#v[bG h,ou]
theorem oK(f:Nat->Int):∀n:Nat,sm (n+1) f=f 0+sm n (λi=>f (i+1))
 |0=>by simp[sm]
 |n+1=>by
  rw[sm,oK f n,sm,Qz]
theorem jW(f g:Nat->Int):∀n:Nat,sm n (λk=>f k+g k)=sm n f+sm n g
 |0=>rfl
 |n+1=>#v[sm,sm,sm,jW f g n]
theorem dW(c:Int)(f:Nat->Int):∀n:Nat,sm n (λk=>c*f k)=c*sm n f
 |0=>by simp[sm]
 |n+1=>#v[sm,sm,dW c f n,yd]
theorem pU{f:Nat->Int}:∀{n:Nat},m<=n->(∀k,m<=k->k<n->f k=0)->sm n f=sm m f
 |0,h,_=>by rw[(0.6:m=0)]
 |n+1,h,h0=>by
  by_cases e:m=n+1
  .rw[e]
  .rw[sm,pU (n:=n) ⋯ (λk h1 h2=>h0 k h1 ⋯),h0 n ⋯ ⋯,fK]
def ġ(b:Int):tk b 0=0:=by unfold tk;split<;>simp
theorem mj{b:Int}{f g:Nat->Int}:∀{n:Nat},(∀k,k<n->tk b (f k)=tk b (g k))->tk b (sm n f)=tk b (sm n g)
 |0,_=>rfl
 |n+1,h=>by
  rw[sm,sm,!tX (mj λk hk=>h k ⋯) (h n ⋯)]
theorem PK(f:Nat->Int):∀n:Nat,((dY n).map f).sum=sm n f
 |0=>rfl
 |n+1=>by rw[QW,eG,YJ,PK f n];simp[sm]
def cv:(Nat->Int)->(Nat->Int)->Nat->Int
 |f,g,0=>f 0*g 0
 |f,g,k+1=>f 0*g (k+1)+cv (λi=>f (i+1)) g k
theorem iw:∀(f g:Nat->Int)(k:Nat),cv f g k=sm (k+1) (λj=>f j*g (k-j))
 |f,g,0=>by simp[cv,sm]
 |f,g,k+1=>by
  rw[cv,iw _ g k,oK (λj=>f j*g (k+1-j)),!Ï (_ + ·) (bG λj a=>?_)];rw[(0.6:k+1-(j+1)=k-j)]
theorem nN:∀(f g:Nat->Int)(k:Nat),cv f g (k+1)=cv f (λi=>g (i+1)) k+f (k+1)*g 0
 |f,g,0=>rfl
 |f,g,k+1=>by
  rw[cv,nN (λi=>f (i+1)) g k,cv,Qz]
theorem je:∀(f g:Nat->Int)(k:Nat),cv f g k=cv g f k
 |f,g,0=>fO _ _
 |f,g,k+1=>by
  rw[cv,nN,je (λi=>f (i+1)) g k,u9,fO]
def pI(h:∀i,i<=k->f i=f' i)(h':∀i,i<=k->g i=g' i):cv f g k=cv f' g' k:=by
 rw[iw,iw,!bG λj a=>#v[h j ⋯,h' _ 0.6]]
def wV(h:∀i,i<=k->tk b (f i)=tk b (f' i))(h':∀i,i<=k->tk b (g i)=tk b (g' i)):tk b (cv f g k)=tk b (cv f' g' k):=by
 rw[iw,iw,!mj λj a=>#v[-qK,-mH,h j ⋯,h' _ ⋯,mH,qK]]
def pX(f f' g:Nat->Int)(k:Nat):cv (λi=>f i+f' i) g k=cv f g k+cv f' g k:=by
 rw[iw,iw,iw,<-jW,!bG λj _=>Od ..]
def Sw(f g g':Nat->Int)(k:Nat):cv f (λi=>g i+g' i) k=cv f g k+cv f g' k:=by
 rw[je,pX,je,je g']
def kW(c:Int)(f g:Nat->Int)(k:Nat):cv (λi=>c*f i) g k=c*cv f g k:=by
 rw[iw,iw,<-dW,!bG λj _=>iT ..]
theorem lZ:∀(f g h:Nat->Int)(k:Nat),cv (cv f g) h k=cv f (cv g h) k
 |f,g,h,0=>by simp[cv,iT]
 |f,g,h,k+1=>by
  let e:(λi=>cv f g (i+1))=λi=>f 0*(λi=>g (i+1)) i+cv (λi=>f (i+1)) g i:=rfl;rw[cv,e,pX (λi=>f 0*(λi=>g (i+1)) i),kW,lZ (λi=>f (i+1)) g h k,cv,cv,cv];rw[yd,iT,1]
def nF(h:∀i,i<=k->f i=0∨g (k-i)=0):cv f g k=0:=by
 rw[iw];show Mr λj a=>by rcases h j ⋯ with e|e<;>rw[e]<;>simp
def co(p:ζ)(k:Nat):Int:=p.getD k 0
def gP(k:Nat):co [] k=0:=by simp[co]
def jj(x:Int)(r:ζ):co (x::r) 0=x:=by simp[co]
def qH(x:Int)(r:ζ)(k:Nat):co (x::r) (k+1)=co r k:=by simp[co]
def bK(h:p[_]<=k):co p k=0:=by
 rw[co,À,à h,0]
def mC(h:k<p[_]):co p k=p[k]:=by
 rw[co,À,Ä h,0]
def O9(h:k<p[_]):co p k∈p:=#v[mC h,!rD h]
def aD(n:Nat)(f:Nat->Int):ζ:=(dY n).map f
def bZ(n:Nat)(f:Nat->Int):(aD n f)[_]=n:=by simp[aD]
def dH(n:Nat)(f:Nat->Int)(k:Nat):co (aD n f) k=if k<n then f k else 0:=by
 by_cases h:k<n
 .rw[Á h,co,aD,À,Î,ú h];rfl
 .rw[Â h,bK #v[bZ]]
def oI(n:Nat)(f:Nat->Int):aD (n+1) f=aD n f++[f n]:=by
 rw[aD,QW,eG,0]
def ϻ(p:ζ):aD p[_] (co p)=p:=by
 apply AR #v[bZ];intro i h1 h2;simp only[aD,Ha,VY];show mC h2
def qT(O:p[_]=q[_])(h:∀k,co p k=co q k):p=q:=by
 rw[<-ϻ p,<-ϻ q,O,!jx λk _=>h k]
def Lh(p:ζ)(i:Nat)(x:Int)(k:Nat)(hi:i<p[_]):co (p.set i x) k=if k=i then x else co p k:=by
 unfold co;rw[À,Ň,À];by_cases e:i=k
 .subst e;simp[hi]
 .rw[Â e,Â (λz=>e z.symm)]
def uH{f:Int->Int}(h:f 0=0)(p:ζ)(k:Nat):co (p.map f) k=f (co p k):=getD_map h p k
def kZ(p q:ζ)(k:Nat):co (p++q) k=if k<p[_] then co p k else co q (k-p[_]):=by
 unfold co;by_cases h:k<p[_]
 .rw[Á h,À,ê h,<-À]
 .rw[Â h,À,á 0.6,<-À]
def trim:ζ->ζ
 |[]=>[]
 |x::r=>if x=0/\trim r=[]then[]else x::trim r
theorem vA:∀(p:ζ)(k:Nat),co (trim p) k=co p k
 |[],k=>rfl
 |x::r,k=>by
  rw[trim];let a:=vA r;by_cases h:x=0/\trim r=[]
  .rw[Á h];rw[h.2]at a;cases k with
   |zero=>rw[gP,jj,h.1]
   |succ k=>rw[qH,<-a k,gP,gP]
  .rw[Â h];cases k with
   |zero=>rw[jj,jj]
   |succ k=>rw[qH,qH,a k]
def U5:trim p=[]↔∀k,co p k=0:=by
 constructor
 .intro h k;rw[<-vA,h,gP]
 .intro h;induction p with
  |nil=>rfl
  |cons x r ih=>
   rw[trim,Á {by let:=h 0;rwa [jj]at this,ih λk=>by let:=h (k+1);rwa [qH]at this}]
theorem Lf:∀{p q:ζ},(∀k,co p k=co q k)->trim p=trim q
 |[],q,h=>by rw[show trim q=[]from U5.mpr λk=>#v[-h k,gP],0]
 |x::r,[],h=>by rw[show trim (x::r)=[]from U5.mpr λk=>#v[h k,gP],0]
 |x::r,y::s,h=>by
  let a:=h 0;rw[jj,jj]at a;let b:trim r=trim s:=Lf λk=>by let:=h (k+1);rwa [qH,qH]at this
  rw[trim,trim,a,b]
def aSw(p:ζ):trim (trim p)=trim p:=Lf (vA p)
theorem CV:∀p:ζ,(trim p)[_]<=p[_]
 |[]=>aZ _
 |x::r=>by
  let:=CV r;rw[trim];split
  .simp
  .simp;omega
theorem pE:∀{p:ζ} {n:Nat},(∀k,n<=k->co p k=0)->(trim p)[_]<=n
 |[],n,_=>dz _
 |x::r,0,h=>by rw[U5.mpr λk=>h k (dz _),!aZ 0]
 |x::r,n+1,h=>by
  let:=pE (p:=r) (n:=n) λk hk=>by let:=h (k+1) 0.8;rwa [qH]at this
  rw[trim];split
  .simp
  .simp;omega
def FI(p:ζ):trim (p++[0])=trim p:=Lf λk=>by
 rw[kZ];by_cases h:k<p[_]
 .rw[Á h]
 .rw[Â h,bK (p:=p) ⋯];cases k-p[_] with
  |zero=>rfl
  |succ j=>rw[qH,gP]
theorem dQ:∀(p:ζ){x:Int},x≠0->trim (p++[x])=p++[x]
 |[],x,h=>by simp[trim,h]
 |y::r,x,h=>by
  show trim (y::(r++[x]))=_;rw[trim,dQ r h,Â 0.1,0]
def gv(h:x∈trim p):x∈p:=by
 induction p with
 |nil=>show h
 |cons y r ih=>
  rw[trim]at h;split at h
  .cases h
  .rcases fj.mp h with rfl|h
   .exact lH
   .exact gW _ (ih h)
structure Py(b:Int)(p:ζ):Prop where
 tr:trim p=p
 nu:∀x∈p,tk b x=x
theorem Py.co{b:Int}{p:ζ}(h:Py b p)(k:Nat):tk b (co p k)=co p k:=by
 by_cases hk:k<p[_]
 .exact h.nu _ (O9 hk)
 .rw[bK ⋯,ġ]
def Py.ext(h:Py b p)(h':Py b q)(e:∀k,tk b (Pm.co p k)=tk b (Pm.co q k)):p=q:=by
 rw[<-h.tr,<-h'.tr,!Lf λk=>#v[-h.co k,-h'.co k,!e k]]
def Py.of(h:∀x∈p,tk b x=x):Py b (trim p):={aSw p,λx hx=>h x (gv hx)}
def Py.nil(b:Int):Py b []:={rfl,λ_ h=>nomatch h}
def jN(h:x∈aD n f):∃k,k<n/\x=f k:=by
 let⟨k,hk,e⟩:=bN.mp h;show{k,fQ.mp hk,e.symm}
theorem Py.aD(b:Int)(n:Nat)(f:Nat->Int):Py b (trim (Pm.aD n λk=>tk b (f k))):=Py.of λx hx=>by
 let⟨k,_,rfl⟩:=jN hx;show qj ..
def add(b:Int)(p q:ζ):ζ:=trim (aD (max p[_] q[_]) λk=>tk b (co p k+co q k))
def mul(b:Int)(p q:ζ):ζ:=trim (aD (p[_]+q[_]) λk=>tk b (cv (co p) (co q) k))
def Rg(b:Int)(p q:ζ):Py b (add b p q):=Py.aD ..
def Cm(b:Int)(p q:ζ):Py b (mul b p q):=Py.aD ..
def DK(b:Int)(p q:ζ)(k:Nat):co (add b p q) k=tk b (co p k+co q k):=by
 rw[add,vA,dH];split
 .rfl
 .rw[bK (p:=p) 0.7,bK (p:=q) 0.7,fK,ġ]
def yU(b:Int)(p q:ζ)(k:Nat):co (mul b p q) k=tk b (cv (co p) (co q) k):=by
 rw[mul,vA,dH];split
 .rfl
 .rw[nF,ġ];intro i hi;by_cases h:i<p[_]
  .exact .inr (bK 0.7)
  .exact .inl (bK ⋯)
theorem add_comm(b:Int)(p q:ζ):add b p q=add b q p:=(Rg ..).ext (Rg ..) λk=>#v[DK,DK,u9]
def mul_comm(b:Int)(p q:ζ):mul b p q=mul b q p:=(Cm ..).ext (Cm ..) λk=>#v[yU,yU,je]
def nil_add(h:Py b p):add b [] p=p:=(Rg ..).ext h λk=>by
 rw[DK,gP,dO,qj]
def W(f g:Nat->Int)(i k c:Nat):Int:=sm i (λj=>if j<=c then f j*g (c-j)else 0)+(if i<=c/\c-i<k then f i*g (c-i)else 0)
def aEv(f g:Nat->Int)(c:Nat):W f g 0 0 c=0:=by simp[W,sm]
def aTv:W f g i (k+1) c=W f g i k c+(if c=i+k then f i*g k else 0):=by
 unfold W;by_cases h:c=i+k
 .rw[Á h,Á 0.6,Â 0.6,(0.6:c-i=k)];simp
 .rw[Â h];by_cases h2:i<=c/\c-i<k
  .rw[Á h2,Á ⋯];simp_all
  .rw[Â h2,Â ⋯];lia
def axd(O:∀k,n<=k->g k=0):W f g i n c=W f g (i+1) 0 c:=by
 unfold W;rw[sm,Â (0.6:¬(i+1<=c/\c-(i+1)<0))];by_cases h:i<=c
 .rw[Á h];by_cases h2:c-i<n
  .rw[Á {h,(h2)}];lia
  .rw[Â 1.1,O _ 0.6,dG];lia
 .rw[Â 1.1,Â h];lia
def sF(O:∀k,m<=k->f k=0):W f g m 0 c=cv f g c:=by
 unfold W;rw[Â 0.6,fK,iw];by_cases h:m<=c+1
 .rw[pU (n:=c+1) h λk h1 _=>#v[O k h1,jk]];show bG λj a=>Á ⋯
 .rw[pU (m:=c+1) (n:=m) ⋯ λk h1 _=>Â ⋯];show bG λj a=>Á ⋯
end
end Pm
namespace Pm
open Rm
section
variable {b:Int}{ρ p c:ζ}{a:Nat->Int}
theorem vZ(F:Nat->Nat->Int)(m:Nat):∀n:Nat,sm m (λk=>sm n (λj=>F k j))=sm n (λj=>sm m (λk=>F k j))
 |0=>by simp only[sm];show ou m
 |n+1=>by
  simp only[sm];rw[jW,vZ F m n]
theorem pO(ρ:ζ)(f:Nat->Int)(n:Nat):∀m:Nat,S ρ f n m=sm m (λk=>co ρ k*f (n-1-k))
 |0=>rfl
 |m+1=>#v[S,sm,pO ρ f n m,0]
def ks(p:ζ)(a:Nat->Int)(n:Nat):Int:=sm p[_] (λk=>co p k*a (n+k))
def aGk(ha:∀n,ρ[_]<=n->tk b (a n)=tk b (S ρ a n ρ[_]))(hn:ρ[_]<=n):
  tk b (ks p a n)=tk b (S ρ (ks p a) n ρ[_]):=by
 let d:tk b (ks p a n)=tk b (sm p[_] (λk=>co p k*sm ρ[_] (λj=>co ρ j*a (n+k-1-j)))):=by
  show mj λk _=>?_;rw[<-mH,ha (n+k) ⋯,mH,pO]
 rw[d,pO];congr 1;let c:(λk=>co p k*sm ρ[_] (λj=>co ρ j*a (n+k-1-j)))=λk=>sm ρ[_] (λj=>co ρ j*(co p k*a (n+k-1-j))):=by
  funext k
  rw[<-dW,!bG λj _=>rZ ..]
 rw[c,vZ,!bG λj e=>?_];rw[dW];congr 1;show bG λk _=>?_;rw[(⋯:n-1-j+k=n+k-1-j)]
def az8(ha:∀n,ρ[_]<=n->tk b (a n)=tk b (S ρ a n ρ[_]))(h0:∀n,n<ρ[_]->tk b (ks p a n)=0):
  ∀n,tk b (ks p a n)=0:=by
 intro n;induction n using rz with
 |ind n ih=>
  by_cases h:n<ρ[_]
  .exact h0 n h
  .rw[aGk ha ⋯,pO];let:tk b (sm ρ[_] λk=>co ρ k*ks p a (n-1-k))=tk b (sm ρ[_] λ_=>0):=mj λk hk=>by
    rw[<-mH,ih (n-1-k) 0.9,dG]
   rw[this,ou,ġ]
def bH(b:Int)(c:ζ):ζ:=aD c[_] (λk=>tk b (0-co c (c[_]-1-k)))++[1]
def jR(b:Int)(p:ζ):ζ:=aD (p[_]-1) (λk=>tk b (0-co p (p[_]-1-1-k)))
def jy(b:Int)(c:ζ):(bH b c)[_]=c[_]+1:=by simp[bH,bZ]
def k?(b x:Int):tk b (0-tk b (0-x))=tk b x:=by
 let h:tk b (tk b (0-x)+(0-tk b (0-x)))=tk b ((0-x)+(0-tk b (0-x))):=mV ..;let a:tk b (0-x)+(0-tk b (0-x))=0:=⋯;rw[a]at h;let h2:tk b (tk b (0-tk b (0-x))+(0-x))=tk b 0:=#v[mV,u9,!h.symm]
 let h3:tk b (tk b (0-tk b (0-x)))=tk b x:=by
  let:=tX h2 (rfl:tk b x=tk b x);rw[(⋯:tk b (0-tk b (0-x))+(0-x)+x=tk b (0-tk b (0-x))),dO]at this;show this
 rwa [qj]at h3
def aFL(h:∀x∈c,tk b x=x):jR b (bH b c)=c:=by
 show qT #v[jR,bZ,jy] λk=>?_;rw[jR,dH,jy];by_cases hk:k<c[_]+1-1
 .rw[Á hk,bH,kZ,bZ,Á 0.7,dH,Á ⋯,k?];rw[(⋯:c[_]-1-(c[_]+1-1-1-k)=k),!h _ (O9 1.2)]
 .rw[Â hk,bK 0.6]
def BR(O:ρ[_]=ς[_]):∀n,ρ[_]<=n->tk b (at_ b ρ ς n)=tk b (S ρ (at_ b ρ ς) n ρ[_]):=λn hn=>by
 rw[Bq O 0.6,qj]
theorem vW{c:Nat}:∀n:Nat,(∀k,k<n->Bd c (f k))->Bd (c+n) (sm n f)
 |0,_=>Bd.zero _
 |n+1,h=>by
  rw[sm,!Bd.add (n:=c+n) (vW n λk hk=>h k ⋯) ((h n ⋯).mono 0.6)]
def iK(h:∀x∈p,Bd u x)(k:Nat):Bd u (co p k):=Bd.getD h k
def aSP(h:∀x∈p,Bd u x)(h':∀x∈q,Bd v x)(k:Nat):Bd (u+v+p[_]) (cv (co p) (co q) k):=by
 rw[<-sF (m:=p[_]) λj a=>bK a,W,Â 0.6,fK,!vW _ λj _=>?_];split
 .exact(iK h j).mul (iK h' _)
 .exact Bd.zero _
def Wg(hb:0<=b)(O:b<1000)(hu:10<=u)(h:∀x∈p,Bd u x)(h':∀x∈q,Bd v x):∀x∈mul b p q,Bd (u+v+p[_]) x:=by
 intro x hx;let⟨k,_,rfl⟩:=jN (gv hx);show CB hb ?_ (aSP h h' k);show(Bd.of (n:=10) ⋯ ⋯).mono ⋯
def Uz(hb:0<=b)(O:b<1000)(hu:10<=u)(h:∀x∈c,Bd u x):∀x∈bH b c,Bd u x:=by
 intro x hx;rcases iz.mp hx with hx|hx
 .obtain⟨k,_,rfl⟩:=jN hx;show CB hb ((Bd.of (n:=10) ⋯ ⋯).mono 0.9) ?_;let:=iK h (c[_]-1-k);unfold Bd at this⊢;rw[rH,Oh,!this]
 .rw[iI.mp hx];show(Bd.of (n:=10) 0.3 0.3).mono hu
end
end Pm
namespace Pm
open Rm
section
variable {b:Int}{p m q r l o:ζ}{s:Nat}
theorem xu(x:Int)(j:Nat):∀n:Nat,sm n (λi=>if i=j then x else 0)=if j<n then x else 0
 |0=>by simp[sm]
 |n+1=>by
  rw[sm,xu x j n];by_cases h:n=j
  .rw[Á h,Â 0.6,Á 0.6];lia
  .rw[Â h];by_cases h2:j<n
   .rw[Á h2,Á ⋯];lia
   .rw[Â h2,Â ⋯];lia
def Dy:tk b (x-y)=0↔tk b x=tk b y:=by
 constructor
 .intro h;let:=tX (b:=b) (x:=x-y) (x':=0) (y:=y) (y':=y) #v[h,ġ] rfl
  rwa [(0.6:x-y+y=x),dO]at this
 .intro h;let:=tX (b:=b) (x:=x) (x':=y) (y:=-y) (y':=-y) h rfl;rw[(⋯:x + -y=x-y),(⋯:y + -y=0),ġ]at this;show this
def Bh(f:Int)(s:Nat)(g:Nat->Int)(k:Nat):cv (λi=>if i=s then f else 0) g k=if s<=k then f*g (k-s)else 0:=by
 rw[iw];let e:sm (k+1) (λj=>(if j=s then f else 0)*g (k-j))=sm (k+1) (λj=>if j=s then f*g (k-s)else 0):=bG λj _=>by
  by_cases h:j=s
  .rw[Á h,Á h,h]
  .rw[Â h,Â h,jk]
 rw[e,xu];by_cases h:s<=k
 .rw[Á h,Á ⋯]
 .rw[Â h,Â ⋯]
structure Mon(m:ζ):Prop where
 pos:0<m[_]
 one:co m (m[_]-1)=1
structure Div(b:Int)(p m q r:ζ):Prop where
 qy:Py b q
 ry:Py b r
 short:r[_]<m[_]
 eq:∀k,tk b (cv (co q) (co m) k+co r k)=tk b (co p k)
def Div.uniq(U:Mon m)(h:Div b p m q r)(h':Div b p m O r'):q=O/\r=r':=by
 let hp:=U.pos;let f:∀k,tk b (cv (λi=>co q i-co O i) (co m) k+(co r k-co r' k))=0:=by
  intro k;let u:cv (λi=>co q i-co O i) (co m) k=cv (co q) (co m) k-cv (co O) (co m) k:=by
   let:=pX (co q) (λi=>-1*co O i) (co m) k;rw[kW]at this;let t:(λi=>co q i + -1*co O i)=λi=>co q i-co O i:=by funext i;lia
   rw[t]at this;lia
  rw[u,(⋯:cv (co q) (co m) k-cv (co O) (co m) k+(co r k-co r' k)=(cv (co q) (co m) k+co r k)-(cv (co O) (co m) k+co r' k)),Dy,h.eq,h'.eq]
 let s:∀d j,q[_]+O[_]<=j+d->tk b (co q j-co O j)=0:=by
  intro d;induction d with
  |zero=>intro j l;rw[bK ⋯,bK ⋯,!ġ b]
  |succ d ih=>
   intro j l;let e:=f (j+(m[_]-1));let v:=h.short;let g:=h'.short;rw[bK (p:=r) ⋯,bK (p:=r') ⋯,CY,fK,iw]at e;rw[<-e];let o:tk b (sm (j+(m[_]-1)+1) λi=>(co q i-co O i)*co m (j+(m[_]-1)-i))=tk b (sm (j+(m[_]-1)+1) λi=>if i=j then co q j-co O j else 0):=mj λi hi=>by
    by_cases c:i=j
    .rw[Á c,c,(0.6:j+(m[_]-1)-j=m[_]-1),U.one,m7]
    .rw[Â c];by_cases c2:i<j
     .rw[bK (p:=m) ⋯,dG]
     .rw[<-qK,ih i ⋯,jk]
   rw[o,xu,Á ⋯]
 let eq:q=O:=h.qy.ext h'.qy λk=>Dy.mp (s (q[_]+O[_]) k 0.6);show{eq,h.ry.ext h'.ry λk=>?_};let a:=f k;rw[eq]at a;let n:(λi=>co O i-co O i)=λ_=>0:=by funext i;simp_all
 rw[n,nF (λ_ _=>.inl rfl),dO]at a;show Dy.mp a
def Div.back(hp:Py b p)(h:Div b p m q r):add b (mul b q m) r=p:=(Rg ..).ext hp λk=>by
 rw[DK,yU,qj,mV,!h.eq k]
structure uX(b:Int)(p m:ζ)(s:Nat)(o l:ζ):Prop where
 eq:∀k,tk b (cv (co o) (co m) k+co l k)=tk b (co p k)
 zero:∀k,s+(m[_]-1)<=k->co l k=0
 low:∀k,k<s->co o k=0
 ol:o[_]=p[_]-(m[_]-1)
 ll:l[_]=p[_]
 on:∀k,tk b (co o k)=co o k
 ln:∀k,tk b (co l k)=co l k
def uX.start(hp:∀k,tk b (co p k)=co p k):uX b p m (p[_]-(m[_]-1)) (aD (p[_]-(m[_]-1)) λ_=>0) p:=by
 let z:∀k,co (aD (p[_]-(m[_]-1)) λ_=>0) k=0:=λk=>by rw[dH];split<;>rfl
 show{λk=>#v[nF λi _=>.inl (z i),dO],λk hk=>bK ⋯,λk _=>z k,bZ _ _,rfl,λk=>#v[z,ġ],hp}
def lf(b f:Int)(s t:Nat)(l m:ζ)(k:Nat):Int:=if s<=k/\k<s+t then tk b (co l k-f*co m (k-s))else co l k
def aSS(b f:Int)(s:Nat)(l m:ζ)(k:Nat):lf b f s 0 l m k=co l k:=Â 1.1
def aLQ(b f:Int)(s t:Nat)(l m:ζ)(k:Nat):lf b f s (t+1) l m k=if k=s+t then tk b (lf b f s t l m k-f*co m t)else lf b f s t l m k:=by
 unfold lf;by_cases h:k=s+t
 .rw[Á h,Á 0.6,Â 0.6,(0.6:k-s=t)]
 .rw[Â h];by_cases h2:s<=k/\k<s+t
  .rw[Á h2,Á ⋯]
  .rw[Â h2,Â ⋯]
def aLj(O:∀k,tk b (co l k)=co l k)(k:Nat):lf b f s m[_] l m k=tk b (co l k-(if s<=k then f*co m (k-s)else 0)):=by
 unfold lf;by_cases h:s<=k
 .rw[Á h];by_cases h2:k<s+m[_]
  .rw[Á {h,(h2)}]
  .rw[Â 1.1,bK (p:=m) 0.7,dG,CY,O]
 .rw[Â 1.1,Â h,CY,O]
def uX.step(U:Mon m)(h:uX b p m (s+1) o l)(hs:s<p[_]-(m[_]-1))(Y:O[_]=l[_])(e:∀k,co O k=lf b (co l (s+(m[_]-1))) s m[_] l m k):
  uX b p m s (o.set s (co l (s+(m[_]-1)))) O:=by
 let hp:=U.pos;let d:=h.ol;let a:co (o.set s (co l (s+(m[_]-1))))=λk=>co o k+(if k=s then co l (s+(m[_]-1))else 0):=by
  funext k
  rw[Lh _ _ _ _ 0.6];by_cases c:k=s
  .rw[Á c,Á c,c,h.low s ⋯,dO]
  .rw[Â c,Â c,fK]
 let el:∀k,co O k=tk b (co l k-(if s<=k then co l (s+(m[_]-1))*co m (k-s)else 0)):=λk=>#v[e,aLj h.ln]
 show{λk=>?_,λk hk=>?_,λk hk=>?_,#v[qt,d],#v[Y,h.ll],λk=>?_,λk=>#v[el,qj]}
 .rw[a,pX (co o),Bh,el,J0,<-h.eq k];congr 1;lia
 .rw[el,Á ⋯];by_cases c:k=s+(m[_]-1)
  .rw[c,(⋯:s+(m[_]-1)-s=m[_]-1),U.one,m7,QX,ġ]
  .rw[h.zero k ⋯,bK (p:=m) ⋯,dG,CY,ġ]
 .rw[a];simp only;rw[h.low k ⋯,Â ⋯,fK]
 .rw[Lh _ _ _ _ ⋯];split
  .exact h.ln _
  .exact h.on _
def uX.stop(O:Mon m)(h:uX b p m 0 o l):Div b p m (trim o) (trim l):=by
 let hp:=O.pos;let y:∀{x:ζ},(∀k,tk b (co x k)=co x k)->Py b (trim x):=λhx=>Py.of λz hz=>by
  let⟨k,hk,e⟩:=pH.mp hz;rw[<-e,<-mC hk,!hx k]
 show{y h.on,y h.ln,?_,λk=>?_}
 .let:=pE (p:=l) (n:=m[_]-1) λk hk=>h.zero k 1.1;omega
 .rw[vA,<-h.eq k];congr 2;show pI (λi _=>vA _ _) (λ_ _=>rfl)
end
end Pm
namespace Pm
open Rm
section
variable {b:Int}{p q x g m:ζ}{a:Nat->Int}
theorem Lc(g:Nat->Int)(j:Nat):∀m:Nat,sm (j+m) (λk=>if j<=k then g (k-j)else 0)=sm m g
 |0=>by
  rw[Dj,!Mr λk hk=>Â 0.8]
 |m+1=>by
  rw[<-Dl,sm,sm,Lc g j m,Á ⋯,CW]
def Dz(p:ζ)(a:Nat->Int)(n:Nat)(h:p[_]<=N):sm N (λk=>co p k*a (n+k))=ks p a n:=
 pU h λk h1 _=>#v[bK h1,jk]
def IJ(h:∀k,tk b (co p k)=tk b (co q k))(n:Nat):tk b (ks p a n)=tk b (ks q a n):=by
 rw[<-Dz p a n (aj2 p[_] q[_]),<-Dz q a n (YY p[_] q[_]),!mj λk _=>#v[-qK,h k,qK]]
def ayo(p q:ζ)(a:Nat->Int)(n:Nat):tk b (ks (add b p q) a n)=tk b (ks p a n+ks q a n):=by
 let c:(add b p q)[_]<=max p[_] q[_]:=by
  let:=CV (aD (max p[_] q[_]) λk=>tk b (co p k+co q k))
  rwa [bZ]at this
 rw[<-Dz _ a n c,<-Dz p a n (aj2 p[_] q[_]),<-Dz q a n (YY p[_] q[_]),<-jW,!mj λk _=>#v[DK,qK,Od]]
def J1(p q:ζ)(a:Nat->Int)(n:Nat):tk b (ks (mul b p q) a n)=tk b (ks p (ks q a) n):=by
 let d:(mul b p q)[_]<=p[_]+q[_]:=by
  let:=CV (aD (p[_]+q[_]) λk=>tk b (cv (co p) (co q) k))
  rwa [bZ]at this
 rw[<-Dz _ a n d];let f:tk b (sm (p[_]+q[_]) λk=>co (mul b p q) k*a (n+k))=tk b (sm (p[_]+q[_]) λk=>sm p[_] λj=>co p j*(if j<=k then co q (k-j)*a (n+k)else 0)):=mj λk _=>by
  rw[yU,qK,<-sF (m:=p[_]) λj c=>bK c,W,Â ⋯,fK,fO,<-dW];congr 1;show bG λj _=>?_;by_cases h:j<=k
  .rw[Á h,Á h,fO,iT]
  .rw[Â h,Â h,dG,dG]
 rw[f,vZ];congr 1;show bG λj c=>?_;rw[dW];congr 1;let e:(λk=>if j<=k then co q (k-j)*a (n+k)else 0)=λk=>if j<=k then(λi=>co q i*a (n+j+i)) (k-j)else 0:=by
  funext k
  by_cases h:j<=k
  .rw[Á h,Á h];show _=co q (k-j)*a (n+j+(k-j));rw[(0.7:n+j+(k-j)=n+k)]
  .rw[Â h,Â h]
 rw[e,(⋯:p[_]+q[_]=j+(p[_]-j+q[_])),!(Lc (λi=>co q i*a (n+j+i)) j _).trans ?_];show Dz q a (n+j) 0.6
def aIh(h:∀n,tk b (a n)=0)(n:Nat):tk b (ks p a n)=0:=by
 let:tk b (ks p a n)=tk b (sm p[_] λ_=>0):=mj λk _=>#v[-mH,h,dG]
 rw[this,ou,ġ]
def Kp(b:Int)(p:ζ)(a:Nat->Int):Prop:=∀n,tk b (ks p a n)=0
def Kp.S5(h:Kp b q a)(p:ζ):Kp b (mul b p q) a:=λn=>#v[J1,!aIh h n]
def Kp.Zf(h:Kp b q a)(p:ζ):Kp b (mul b q p) a:=#v[mul_comm,!h.S5 p]
theorem Kp.bH{b:Int}{ρ:ζ}{a:Nat->Int}(ha:∀n,ρ[_]<=n->tk b (a n)=tk b (S ρ a n ρ[_])):Kp b (bH b ρ) a:=λn=>by
 unfold ks;rw[jy,sm];let g:co (Pm.bH b ρ) ρ[_]=1:=by
  rw[Pm.bH,kZ,bZ,Â 0.6,ql,0]
 let e:tk b (sm ρ[_] λk=>co (Pm.bH b ρ) k*a (n+k))=tk b (sm ρ[_] λk=>-1*(co ρ (ρ[_]-1-k)*a (n+k))):=mj λk hk=>by
  rw[Pm.bH,kZ,bZ,Á hk,dH,Á hk,qK,rH,B5,Dg]
 let d:S ρ a (n+ρ[_]) ρ[_]=sm ρ[_] λk=>co ρ (ρ[_]-1-k)*a (n+k):=by
  rw[pO];let c:∀(m:Nat)(f:Nat->Int),sm m f=sm m λk=>f (m-1-k):=by
   intro m;induction m with
   |zero=>intro f;rfl
   |succ m ih=>
    intro f;rw[oK,sm,ih λi=>f (i+1),u9];let:m+1-1-m=0:=0.6;rw[this];congr 1;show bG λk hk=>#v[(0.7:m-1-k+1=m+1-1-k)]
  rw[c,!bG λk hk=>#v[(⋯:n+ρ[_]-1-(ρ[_]-1-k)=n+k)]]
 rw[g,mU,<-mV,e,mV,dW,<-d,<-J0,ha (n+ρ[_]) 0.6,J0,Dg,Int.add_left_neg,ġ]
def eY(b:Int)(p q x:ζ):Prop:=∃u v,∀k,tk b (co x k)=tk b (cv (co u) (co p) k+cv (co v) (co q) k)
def aOW(p q:ζ)(k:Nat):co (add 0 p q) k=co p k+co q k:=#v[DK,cY]
def Hn(p q:ζ)(k:Nat):co (mul 0 p q) k=cv (co p) (co q) k:=#v[yU,cY]
def eY.left(b:Int)(p q:ζ):eY b p q p:={[1],[],λk=>by
 rw[nF (f:=co []) λi _=>.inl (gP _),fK,iw,pU (m:=1) 0.6 λj h1 _=>#v[show co [1] j=0 from bK h1[7],jk]];simp[sm,jj]}
def eY.swap(h:eY b p q x):eY b q p x:=by
 ext u v e h;show{v,u,λk=>#v[e,u9]}
def eY.trans(U:eY b p q g)(O:eY b p q s)(h:eY b g s x):eY b p q x:=by
 ext a c l U;ext f d j O;ext u v e h;show{add 0 (mul 0 u a) (mul 0 v f),add 0 (mul 0 u c) (mul 0 v d),λk=>?_};let n:tk b (cv (co u) (co g) k)=tk b (cv (co u) (λi=>cv (co a) (co p) i+cv (co c) (co q) i) k):=wV (λ_ _=>rfl) λi _=>l i;let m:tk b (cv (co v) (co s) k)=tk b (cv (co v) (λi=>cv (co f) (co p) i+cv (co d) (co q) i) k):=wV (λ_ _=>rfl) λi _=>j i;rw[e,tX n m];congr 1;let f1:∀y z:ζ,co (add 0 (mul 0 u y) (mul 0 v z))=λi=>cv (co u) (co y) i+cv (co v) (co z) i:=λy z=>by
  funext i;rw[aOW,Hn,Hn]
 rw[f1,f1,pX (cv (co u) (co a)),pX (cv (co u) (co c)),Sw,Sw,lZ,lZ,lZ,lZ,1]
def Div.in1(h:Div b p m q r):eY b m r p:=by
 show{q,[1],λk=>?_};let⟨u,v,e⟩:=eY.left b r [];rw[<-h.eq k];let:cv (co [1]) (co r) k=co r k:=by
  rw[iw,pU (m:=1) ⋯ λj h1 _=>#v[show co [1] j=0 from bK h1[7],jk]];simp[sm,jj]
 rw[this]
def Div.in2(h:Div b p m q r):eY b p m r:=by
 show{[1],q.map (-1 * ·),λk=>?_};let c:cv (co [1]) (co p) k=co p k:=by
  rw[iw,pU (m:=1) ⋯ λj h1 _=>#v[show co [1] j=0 from bK h1[7],jk]];simp[sm,jj]
 let a:co (q.map (-1 * ·))=λi=>-1*co q i:=by funext i;rw[uH 0.1]
 rw[c,a,kW];let:=tX (h.eq k) (rfl:tk b (-1*cv (co q) (co m) k)=tk b (-1*cv (co q) (co m) k));rw[<-this];congr 1;lia
structure Gcd(b:Int)(p q g:ζ):Prop where
 py:Py b g
 mon:Mon g
 sum:eY b p q g
 one:eY b g [] p
 two:eY b g [] q
def eY.dv(h:eY b g [] p):∃u,∀k,tk b (co p k)=tk b (cv (co u) (co g) k):=by
 ext u v e h;show{u,λk=>#v[e,nF (g:=co []) λi _=>.inr (gP _),fK]}
end
end Pm
namespace Pm
open Rm
section
variable {p q g s:ζ}{b:Int}
def VA(h:p≠[]):p=p.dropLast++[co p (p[_]-1)]:=by
 let hp:0<p[_]:=tM.mpr h
 conv=>lhs;rw[<-aik h]
 congr 2;rw[mC 0.9,List.getLast_eq_getElem]
def BM(h:p≠[])(h0:co p (p[_]-1)≠0):trim p=p:=by
 let e:=VA h;rw[e,dQ _ h0]
def Iz(h:p≠[])(ht:trim p=p):co p (p[_]-1)≠0:=by
 intro z;let e:=VA h;rw[z]at e;let a:trim p=trim p.dropLast:=by
  conv=>lhs;rw[e]
  show FI _
 let:=CV p.dropLast;rw[<-a,ht,List.length_dropLast]at this;let hp:0<p[_]:=tM.mpr h;lia
structure AZ(b:Int)(p m:ζ):Prop where
 py:Py b m
 len:m[_]=p[_]
 mon:p≠[]->Mon m
 to:∃c,∀k,tk b (co m k)=tk b (c*co p k)
 of:∃c,∀k,tk b (co p k)=tk b (c*co m k)
def eY.scale{b:Int}{p m:ζ}(h:∃c,∀k,tk b (co m k)=tk b (c*co p k))(q:ζ):eY b p q m:=by
 ext c e h;show{[c],[],λk=>?_};rw[nF (f:=co []) λi _=>.inl (gP _),fK,e,iw,pU (m:=1) ⋯ λj h1 _=>#v[show co [c] j=0 from bK h1[7],jk]];simp[sm,jj]
theorem AZ.nil(b:Int):AZ b [] []:={Py.nil b,rfl,λh=>È rfl h,{0,λk=>#v[gP,jk]},{0,λk=>#v[gP,jk]}}
def zB(P:Nat)(p:ζ):ζ:=p.map λx=>x*(co p (p[_]-1))^(P-2)%P[0]
structure yH(b:Int)(p q g s:ζ):Prop where
 gy:Py b g
 sy:Py b s
 gm:g≠[]->Mon g
 sm_:s≠[]->Mon s
 some:s=[]->g≠[]
 gi:eY b p q g
 si:eY b p q s
 pi:eY b g s p
 qi:eY b g s q
def yH.start(U:AZ b p g)(O:AZ b q s)(h:q=[]->p≠[]):yH b p q g s:=by
 let c:=U.len;let a:=O.len;let pn:g≠[]->p≠[]:=λz e=>z (zH #v[c,e,0]);let d:s≠[]->q≠[]:=λz e=>z (zH #v[a,e,0]);show{U.py,O.py,λz=>U.mon (pn z),λz=>O.mon (d z),λz e=>?_,eY.scale U.to q,(eY.scale O.to p).swap,eY.scale U.of s,(eY.scale O.of g).swap};let f:q=[]:=zH #v[-a,z,0];show h f (zH #v[-c,e,0])
def yH.step(h:yH b p q g s)(U:s≠[])(d:Div b g s o l)(O:AZ b l m):yH b p q s m:=by
 let f:=O.len;let ln:m≠[]->l≠[]:=λz e=>z (zH #v[f,e,0]);let a:eY b p q l:=h.gi.trans h.si d.in2;let c:eY b s m g:=(eY.left b s m).trans (eY.scale O.of s).swap d.in1;show{h.sy,O.py,h.sm_,λz=>O.mon (ln z),λ_=>U,h.si,a.trans a (eY.scale O.to l),?_,?_}
 .exact c.trans (eY.left b s m) h.pi
 .exact c.trans (eY.left b s m) h.qi
def yH.stop(h:yH b p q g s)(O:s=[]):Gcd b p q g:=by
 subst O;show{h.gy,h.gm (h.some rfl),h.gi,h.pi,h.qi}
end
end Pm
namespace Pm
open Rm
def Dd(h:co p k≠0):k<p[_]:=by
 by_cases c:k<p[_]
 .exact c
 .exact È (bK ⋯) h
def xC(hb:tk b 1=1)(hp:Mon p)(hq:Mon q):Mon (mul b p q)/\(mul b p q)[_]=p[_]+q[_]-1:=by
 let h1:=hp.pos;let h2:=hq.pos;let e:co (mul b p q) (p[_]+q[_]-2)=1:=by
  rw[yU,iw];let:sm (p[_]+q[_]-2+1) (λj=>co p j*co q (p[_]+q[_]-2-j))=sm (p[_]+q[_]-2+1) (λj=>if j=p[_]-1 then 1 else 0):=bG λj a=>by
   by_cases c:j=p[_]-1
   .rw[Á c,c,hp.one,(0.7:p[_]+q[_]-2-(p[_]-1)=q[_]-1),hq.one];rfl
   .rw[Â c];by_cases c2:j<p[_]-1
    .rw[bK (p:=q) 0.9,dG]
    .rw[bK (p:=p) ⋯,jk]
  rw[this,xu,Á ⋯,hb]
 let l1:=Dd (p:=mul b p q) (k:=p[_]+q[_]-2) #v[e,3];let l2:(mul b p q)[_]<=p[_]+q[_]-1:=by
  show pE λk hk=>?_;rw[dH];split
  .rw[nF λi hi=>?_,ġ];by_cases c:i<p[_]
   .exact .inr (bK ⋯)
   .exact .inl (bK ⋯)
  .rfl
 let l3:(mul b p q)[_]=p[_]+q[_]-1:=⋯;show{{⋯,#v[l3,(⋯:p[_]+q[_]-1-1=p[_]+q[_]-2),!e]},l3}
def nJ(b:Int)(c:ζ):Mon (bH b c):={#v[jy],by
 rw[jy,bH,kZ,bZ,Â 0.6,(0.6:c[_]+1-1-c[_]=0),0]}
def GD(b:Int)(p:ζ):(jR b p)[_]=p[_]-1:=#v[jR,bZ]
def Vv(hw:∀k,tk b (co w k)=co w k)(O:Mon w):bH b (jR b w)=w:=by
 let hp:=O.pos;show qT #v[jy,GD] λk=>?_;rw[bH,kZ,bZ,GD];by_cases h:k<w[_]-1
 .rw[Á h,dH,Á h,jR,dH,Á 0.9,k?,(⋯:w[_]-1-1-(w[_]-1-1-k)=k),hw]
 .rw[Â h];by_cases c:k=w[_]-1
  .rw[c,ql,O.one];rfl
  .rw[bK (p:=w) ⋯,bK];simp;lia
def aFX(n:Nat):tk b (ks (bH b ρ) a n)=tk b (a (n+ρ[_])-S ρ a (n+ρ[_]) ρ[_]):=by
 unfold ks;rw[jy,sm];let g:co (bH b ρ) ρ[_]=1:=by
  rw[bH,kZ,bZ,Â ⋯,ql,0]
 let e:tk b (sm ρ[_] λk=>co (bH b ρ) k*a (n+k))=tk b (sm ρ[_] λk=>-1*(co ρ (ρ[_]-1-k)*a (n+k))):=mj λk hk=>by
  rw[bH,kZ,bZ,Á hk,dH,Á hk,qK,rH,B5,Dg]
 let d:S ρ a (n+ρ[_]) ρ[_]=sm ρ[_] λk=>co ρ (ρ[_]-1-k)*a (n+k):=by
  rw[pO];let c:∀(m:Nat)(f:Nat->Int),sm m f=sm m λk=>f (m-1-k):=by
   intro m;induction m with
   |zero=>intro f;rfl
   |succ m ih=>
    intro f;rw[oK,sm,ih λi=>f (i+1),u9];let:m+1-1-m=0:=⋯;rw[this];congr 1;show bG λk hk=>#v[(⋯:m-1-k+1=m+1-1-k)]
  rw[c,!bG λk hk=>#v[(⋯:n+ρ[_]-1-(ρ[_]-1-k)=n+k)]]
 rw[g,mU,<-mV,e,mV,dW,<-d];congr 1;lia
def Kp.rec{b:Int}{ρ:ζ}{a:Nat->Int}(h:Kp b (Pm.bH b ρ) a):∀n,ρ[_]<=n->tk b (a n)=tk b (S ρ a n ρ[_]):=λn hn=>by
 let:=h (n-ρ[_]);rw[aFX,(0.6:n-ρ[_]+ρ[_]=n)]at this;show Dy.mp this
end Pm
namespace Om
def cZ(p:Nat):Prop:=2<=p/\∀d,d∣p->d=1∨d=p
def cZ.cop(h:cZ p)(hx:¬p∣x):Nat.Coprime p x:=by
 rcases h.2 _ (EB p x)with e|e
 .exact e
 .exact È (e▸Hu p x) hx
def cZ.dvd(h:cZ p)(hd:p∣x*y):p∣x∨p∣y:=by
 by_cases c:p∣x
 .exact .inl c
 .exact .inr ((h.cop c).dvd_of_dvd_mul_left hd)
def ch:Nat->Nat->Nat
 |_,0=>1
 |0,_+1=>0
 |n+1,k+1=>ch n k+ch n (k+1)
def Jb(n:Nat):ch n 0=1:=by cases n<;>rfl
theorem Fz:∀(n k:Nat),n<k->ch n k=0
 |0,k+1,_=>rfl
 |n+1,k+1,h=>#v[ch,Fz n k 0.6,Fz n (k+1) ⋯]
theorem II:∀n,ch n n=1
 |0=>rfl
 |n+1=>#v[ch,II n,Fz n (n+1) ⋯]
theorem U9:∀n k:Nat,(k+1)*ch (n+1) (k+1)=(n+1)*ch n k
 |0,0=>rfl
 |0,k+1=>by
  let e:ch (0+1) (k+1+1)=ch 0 (k+1)+ch 0 (k+1+1):=rfl;rw[e,Fz 0 (k+1) 0.6,Fz 0 (k+1+1) 0.6,2]
 |n+1,0=>by
  let:=U9 n 0;let e:ch (n+1+1) (0+1)=ch (n+1) 0+ch (n+1) (0+1):=rfl;simp only[Jb]at e⊢;rw[e];rw[Jb]at this;lia
 |n+1,k+1=>by
  let h1:=U9 n k;let h2:=U9 n (k+1);rw[ch,yj];let b:(k+1+1)*ch (n+1) (k+1)=(n+1)*ch n k+ch (n+1) (k+1):=#v[rm,h1]
  rw[b,h2];let a:ch (n+1) (k+1)=ch n k+ch n (k+1):=rfl;rw[a,rm (n+1),yj,1]
def cZ.dch(h:cZ p)(h0:0<k)(hk:k<p):p∣ch p k:=by
 obtain⟨n,rfl⟩:∃n,p=n+1:={p-1,let:=h.1;⋯};obtain⟨j,rfl⟩:∃j,k=j+1:={k-1,⋯};let e:=U9 n j;rcases h.dvd (x:=j+1) (y:=Om.ch (n+1) (j+1)) #v[e,!B1 ..]with d|d
 .exact È (yI ⋯ d) 0.6
 .exact d
def sN(f:Nat->Nat):Nat->Nat
 |0=>0
 |n+1=>sN f n+f n
theorem IS:∀{n:Nat},(∀k,k<n->f k=g k)->sN f n=sN g n
 |0,_=>rfl
 |n+1,h=>#v[sN,sN,IS λk hk=>h k ⋯,h n ⋯]
theorem UD(f g:Nat->Nat):∀n,sN (λk=>f k+g k) n=sN f n+sN g n
 |0=>rfl
 |n+1=>#v[sN,sN,sN,UD f g n]
theorem o_(c:Nat)(f:Nat->Nat):∀n,sN (λk=>c*f k) n=c*sN f n
 |0=>rfl
 |n+1=>#v[sN,sN,o_ c f n,yj]
theorem Uc(f:Nat->Nat):∀n,sN f (n+1)=f 0+sN (λk=>f (k+1)) n
 |0=>by rw[sN,sN,sN,1]
 |n+1=>#v[sN,Uc f n,sN]
theorem Cc:∀{n:Nat},(∀k,k<n->p∣f k)->p∣sN f n
 |0,_=>nh _
 |n+1,h=>Nat.dvd_add (Cc λk hk=>h k ⋯) (h n ⋯)
theorem zS(a:Nat):∀n,(a+1)^n=sN (λk=>ch n k*a^k) (n+1)
 |0=>by simp[sN,ch]
 |n+1=>by
  rw[lY,zS a n,Uc (λk=>ch (n+1) k*a^k) (n+1)];let c:sN (λk=>ch (n+1) (k+1)*a^(k+1)) (n+1)=sN (λk=>a*(ch n k*a^k)) (n+1)+sN (λk=>ch n (k+1)*a^(k+1)) (n+1):=by
   rw[<-UD,!IS λk _=>?_];rw[ch,Sg,lY];congr 1;rw[qW a,Qe]
  let d:sN (λk=>ch n k*a^k) (n+1)=1+sN (λk=>ch n (k+1)*a^(k+1)) (n+1):=by
   let b:sN (λk=>ch n k*a^k) (n+1+1)=sN (λk=>ch n k*a^k) (n+1):=#v[sN,Fz n (n+1) ⋯,rV,Dj]
   rw[<-b,Uc];rw[Jb,Li]
  rw[c,o_,Jb,Li,yj,Sy,qW,1]
theorem cZ.pow(h:cZ p):∀a:Nat,a^p%p=a%p
 |0=>by rw[Nat.zero_pow (let:=h.1;⋯)]
 |a+1=>by
  obtain⟨n,rfl⟩:∃n,p=n+1:={p-1,let:=h.1;⋯};let e:(a+1)^(n+1)=1+sN (λk=>ch (n+1) (k+1)*a^(k+1)) n+a^(n+1):=by
   rw[zS,sN,Uc,Jb,Li,II,G8,G8]
  obtain⟨c,hc⟩:(n+1)∣sN (λk=>ch (n+1) (k+1)*a^(k+1)) n:=Cc λk hk=>NP (h.dch ⋯ 0.8) (B1 ..);rw[e,hc,(⋯:1+(n+1)*c+a^(n+1)=(a^(n+1)+1)+(n+1)*c),fi,Nat.add_mod,cZ.pow h a,<-Nat.add_mod]
def cZ.aOw(h:cZ p)(h0:a≠0)(ha:a<p):a^(p-1)%p=1:=by
 let hp:=h.1;let e:=h.pow a;obtain⟨n,rfl⟩:∃n,p=n+1:={p-1,⋯};rw[gU];let one:1<=a^n:=Ko ⋯;let d:(n+1)∣a*(a^n-1):=by
  let b:a*(a^n-1)=a^(n+1)-a:=#v[Nat.mul_sub,Sy,lY,qW]
  rw[b,!Nat.dvd_of_mod_eq_zero (Nat.sub_mod_eq_zero_of_mod_eq e)]
 rcases h.dvd d with d|⟨c,hc⟩
 .exact È (yI ⋯ d) 0.8
 .rw[(0.9:a^n=1+(n+1)*c),fi];show zF 1.2
end Om
namespace Pm
open Rm
section
variable {f g:Nat->Int}{m:ζ}{n:Nat}{b x:Int}
def Fs(f:Nat->Int)(n:Nat):Prop:=∀k,n<=k->f k=0
theorem Fs.co(p:ζ):Fs (co p) p[_]:=λ_ h=>bK h
def Fs.mono{m:Nat}(h:Fs f m)(O:m<=n):Fs f n:=λk hk=>h k ⋯
def Fs.add{f g:Nat->Int}{n:Nat}(h:Fs f n)(h':Fs g n):Fs (λk=>f k+g k) n:=λk hk=>by show f k+g k=0;rw[h k hk,h' k hk,0]
def Fs.mul(c:Int)(h:Fs f n):Fs (λk=>c*f k) n:=λk hk=>by show c*f k=0;rw[h k hk,dG]
def Fs.Qk{m:Nat}(h:Fs f m)(h':Fs g n){k:Nat}(hk:m+n<=k+1):Pm.cv f g k=0:=nF λi _=>by
 by_cases c:m<=i
 .exact .inl (h i c)
 .exact .inr (h' _ 0.7)
theorem Fs.cv{f g:Nat->Int}{m n:Nat}(h:Fs f m)(h':Fs g n):Fs (Pm.cv f g) (m+n):=λk hk=>h.Qk h' ⋯
def Kh(h:Fs f (a+1))(h':Fs g (c+1)):Pm.cv f g (a+c)=f a*g c:=by
 rw[iw,bG (g:=λi=>if i=a then f a*g c else 0) λi _=>?_,xu,Á ⋯];by_cases e:i=a
 .rw[Á e,e,CW]
 .rw[Â e];by_cases l:i<a
  .rw[h' _ ⋯,dG]
  .rw[h i ⋯,jk]
def aB0(h:tk b x=0)(h':tk b y=0):tk b (x+y)=0:=#v[-mV,h,dO,h']
def JX(y:Int)(h:tk b x=0):tk b (y*x)=0:=#v[-mH,h,dG,ġ]
def Zu(O:Mon m){f:Nat->Int}{n:Nat}(U:Fs f n)(h:∀k,m[_]-1<=k->tk b (cv f (co m) k)=0):∀k,tk b (f k)=0:=by
 let q:∀d j,n<=j+d->tk b (f j)=0:=λd=>by
  induction d with
  |zero=>intro j a;rw[U j a,ġ]
  |succ d ih=>
   intro j a;let e:=h (j+(m[_]-1)) 0.6;rw[iw]at e;let g:tk b (sm (j+(m[_]-1)+1) λi=>f i*co m (j+(m[_]-1)-i))=tk b (sm (j+(m[_]-1)+1) λi=>if i=j then f j else 0):=mj λi hi=>by
    by_cases c:i=j
    .rw[Á c,c,CW,O.one,m7]
    .rw[Â c,ġ];by_cases l:i<j
     .rw[bK (let:=O.pos;⋯),dG,ġ]
     .rw[fO];show JX _ (ih i ⋯)
   rw[g,xu,Á ⋯]at e;show e
 exactλk=>q n k 0.6
def Dv(b:Int)(m:ζ)(f:Nat->Int):Prop:=∃s n,Fs s n/\∀k,tk b (f k)=tk b (cv s (co m) k)
def Dv.congr(e:∀k,tk b (f k)=tk b (g k))(h:Dv b m f):Dv b m g:=by
 ext s n a h h;show{s,n,a,λk=>#v[-e,h]}
def Dv.zero(b:Int)(m:ζ):Dv b m λ_=>0:={λ_=>0,0,λ_ _=>rfl,λk=>#v[nF λi _=>.inl rfl]}
theorem Dv.add{b:Int}{m:ζ}{f g:Nat->Int}(h:Dv b m f)(h':Dv b m g):Dv b m λk=>f k+g k:=by
 ext s n d h h;ext s' c a h' h';show{λk=>s k+s' k,n+c,(d.mono ⋯).add (a.mono 0.6),λk=>#v[pX,!tX (h k) (h' k)]}
def Dv.smul(c:Int)(h:Dv b m f):Dv b m λk=>c*f k:=by
 ext s n a h h;show{λk=>c*s k,n,a.mul c,λk=>#v[kW,-mH,h,mH]}
def Dv.sub(h:Dv b m f)(h':Dv b m g):Dv b m λk=>f k-g k:=
 (h.add (h'.smul (-1))).congr λk=>#v[(⋯:f k + -1*g k=f k-g k)]
def Dv.mul(O:Fs g n)(h:Dv b m f):Dv b m (cv g f):=by
 ext s a c h h;show{cv g s,n+a,O.cv c,λk=>#v[lZ,!wV (λi _=>rfl) λi _=>h i]}
def Dv.self(O:Fs g n):Dv b m (cv g (co m)):={g,n,O,λ_=>rfl}
def Dv.short{b:Int}{m:ζ}(O:Mon m){f:Nat->Int}(U:Fs f (m[_]-1))(h:Dv b m f):∀k,tk b (f k)=0:=by
 ext s n a h h;let z:=Zu (b:=b) O a λk hk=>#v[-h,U k hk,ġ]
 intro k;rw[h,<-ġ b,<-nF (f:=λ_=>(0:Int)) (g:=co m) (k:=k) λi _=>.inl rfl,!wV (λi _=>#v[z,ġ]) λi _=>rfl]
def Xu(O:Mon m)(hp:∀k,tk b (co p k)=co p k):∃q r,Div b p m q r:=by
 let go:∀d,d<=p[_]-(m[_]-1)->∃o l,uX b p m (p[_]-(m[_]-1)-d) o l:=λd=>by
  induction d with
  |zero=>show λ_=>{_,_,uX.start hp}
  |succ d ih=>
   intro hd;let⟨o,l,I⟩:=ih ⋯;obtain⟨s,a⟩:∃s,p[_]-(m[_]-1)-d=s+1:={p[_]-(m[_]-1)-d-1,⋯};rw[a]at I;show{o.set s (co l (s+(m[_]-1))),aD l[_] λk=>lf b (co l (s+(m[_]-1))) s m[_] l m k,?_};rw[(0.9:p[_]-(m[_]-1)-(d+1)=s),!I.step O 0.9 (bZ ..) λk=>?_];rw[dH];by_cases c:k<l[_]
   .rw[Á c]
   .rw[Â c];let f:=I.ll;let e:=O.pos;unfold lf;rw[Â 0.9,bK 0.7]
 let⟨o,l,I⟩:=go _ (aZ _);rw[ql]at I;show{_,_,I.stop O}
theorem Dv.by{b:Int}{m:ζ}{f:Nat->Int}(h:Dv 0 m f):Dv b m f:=by
 ext s n a h h;show{s,n,a,λk=>by let:=h k;rw[cY,cY]at this;rw[this]}
def Dv.len(h1:tk b 1=1){m:ζ}(O:Mon m)(hp:Mon p)(h:Dv b m (co p)):m[_]<=p[_]:=by
 by_cases c:m[_]<=p[_]
 .exact c
 .exfalso
  let:=h.short O ((Fs.co p).mono ⋯) (p[_]-1);rw[hp.one,h1]at this;show È this 0.3
def A_(h1:tk b 1=1){g:ζ}(U:Mon P)(O:Mon g)(h:Dv b g (co P)):∃L:ζ,Mon L/\(∀k,tk b (co L k)=co L k)/\L[_]+g[_]=P[_]+1/\∀k,tk b (co P k)=tk b (cv (co L) (co g) k):=by
 let r:=h.len h1 O U;let hp:=U.pos;let p:=O.pos;ext s n m h h;let a:∀d j,n<=j+d->P[_]-g[_]<j->tk b (s j)=0:=λd=>by
  induction d with
  |zero=>intro j l _;rw[m j l,ġ]
  |succ d ih=>
   intro j l o;let e:=h (j+(g[_]-1));rw[bK ⋯,ġ,iw]at e;let f:tk b (sm (j+(g[_]-1)+1) λi=>s i*co g (j+(g[_]-1)-i))=tk b (sm (j+(g[_]-1)+1) λi=>if i=j then s j else 0):=mj λi hi=>by
    by_cases c:i=j
    .rw[Á c,c,CW,O.one,m7]
    .rw[Â c,ġ];by_cases q:i<j
     .rw[bK ⋯,dG,ġ]
     .rw[fO];show JX _ (ih i ⋯ ⋯)
   rw[f,xu,Á ⋯]at e;show e.symm
 let z:∀k,P[_]-g[_]<k->tk b (s k)=0:=λk hk=>a n k ⋯ hk;let t1:tk b (s (P[_]-g[_]))=1:=by
  let e:=h (P[_]-1);rw[U.one,h1,iw]at e;let f:tk b (sm (P[_]-1+1) λi=>s i*co g (P[_]-1-i))=tk b (sm (P[_]-1+1) λi=>if i=P[_]-g[_] then s (P[_]-g[_])else 0):=mj λi hi=>by
   by_cases c:i=P[_]-g[_]
   .rw[Á c,c,(0.7:P[_]-1-(P[_]-g[_])=g[_]-1),O.one,m7]
   .rw[Â c,ġ];by_cases q:i<P[_]-g[_]
    .rw[bK 0.9,dG,ġ]
    .rw[fO];show JX _ (z i ⋯)
  rw[f,xu,Á 0.7]at e;show e.symm
 let hc:∀k,co (aD (P[_]-g[_]+1) λk=>tk b (s k)) k=tk b (s k):=λk=>by
  rw[dH];by_cases c:k<P[_]-g[_]+1
  .rw[Á c]
  .rw[Â c,z k ⋯]
 show{aD (P[_]-g[_]+1) λk=>tk b (s k),{#v[bZ],?_},λk=>?_,#v[bZ],λk=>?_}
 .rw[bZ,gU,hc,t1]
 .rw[hc,qj]
 .rw[h k];show wV (λi _=>#v[hc,qj]) λi _=>rfl
def aFJ(U:Mon m){f g:Nat->Int}{n:Nat}(hf:Fs f n)(Y:Fs g O)(h:∀k,tk b (cv f (co m) k)=tk b (cv g (co m) k)):∀k,tk b (f k)=tk b (g k):=λk=>by
 show Dy.mp (Zu (b:=b) U (f:=λk=>f k-g k) (n:=n+O) (λk hk=>?_) (λk _=>?_) k)
 .show f k-g k=0;rw[hf k ⋯,Y k ⋯,0]
 .let e:cv (λk=>f k-g k) (co m) k=cv f (co m) k + -1*cv g (co m) k:=by
   rw[<-kW,<-pX,!pI (λi _=>⋯) λi _=>rfl]
  rw[e,tX (h k) rfl,show ∀x:Int,x + -1*x=0 fromλx=>⋯,ġ]
def Z9(h:Fs f n):∃S:ζ,∀k,co S k=f k:={aD n f,λk=>by
 rw[dH];by_cases c:k<n
 .rw[Á c]
 .rw[Â c,h k ⋯]}
def tJ(O:Mon L)(hN:N≠0){f:Nat->Int}{n:Nat}(U:Fs f n)(h:Dv 0 L λk=>N*f k):Dv 0 L f:=by
 let⟨p,hp⟩:=Z9 U;let⟨o,r,D⟩:=Xu (b:=0) O (p:=p) λk=>cY _;let e:∀k,f k=cv (co o) (co L) k+co r k:=λk=>by let:=D.eq k;rw[cY,cY]at this;rw[<-hp,this]
 let z:=(h.sub ((Dv.self (b:=0) (m:=L) (Fs.co o)).smul N)).short O λk hk=>by
  let:=D.short;show N*f k-N*cv (co o) (co L) k=0;rw[e,bK (p:=r) 0.9,fK,QX]
 show{co o,o[_],Fs.co o,λk=>Ï _ ?_};let:=z k;rw[cY,<-Fo]at this;let:=(K9.mp this).resolve_left hN;lia
def Div.dv(h:Div b P M q r)(O:Mon M):r=[]↔Dv b M (co P):=by
 constructor
 .rintro rfl;show{co q,q[_],Fs.co q,λk=>#v[-h.eq k,gP,fK]}
 .intro d;let e:Dv b M (co r):=(d.sub (Dv.self (b:=b) (m:=M) (Fs.co q))).congr λk=>by
   let a:tk b (co P k + -cv (co q) (co M) k)=tk b ((cv (co q) (co M) k+co r k) + -cv (co q) (co M) k):=tX (h.eq k).symm rfl;rw[(⋯:co P k-cv (co q) (co M) k=co P k + -cv (co q) (co M) k),a,!Ï (tk b) ⋯]
  let z:=e.short O ((Fs.co r).mono (let:=h.short;0.9));rw[<-h.ry.tr,!U5.mpr λk=>#v[-h.ry.co k,!z k]]
def xh(x:Int)(q:ζ)(f:Nat->Int)(k:Nat):cv (co (x::q)) f k=x*f k+(if k=0 then 0 else cv (co q) f (k-1)):=by
 cases k with
 |zero=>rw[cv,jj,Á rfl,fK]
 |succ k=>
  rw[cv,jj,Â ⋯,gU];congr 1
def Mb:tk b x=0↔b∣x:=by
 by_cases h:b=0
 .rw[h,cY,EZ]
 .rw[mz h];show Int.dvd_iff_emod_eq_zero.symm
def tp(P:ζ)(a:Nat->Int)(k:Nat):Int:=sm (P[_]-1-k) λi=>co P (k+1+i)*a i
end
end Pm
namespace Pm
open Rm
theorem yl:∀(B A:Nat)(f:Nat->Nat),(∀c,c<A->f c<B)->B<A->∃i j,i<j/\j<A/\f i=f j
 |0,A,f,h,hA=>È (h 0 hA) (tE _)
 |B+1,A,f,h,hA=>by
  by_cases e:∃c,c<A-1/\f c=f (A-1)
  .ext c h1 h2 e;show{c,A-1,h1,⋯,h2}
  .let ne:∀c,c<A-1->f c≠f (A-1):=λc hc z=>e {c,hc,(z)};let hv:=h (A-1) ⋯;let⟨i,j,h1,h2,h3⟩:=yl B (A-1) (λc=>if f (A-1)<f c then f c-1 else f c) (λc hc=>by
    let h1:=h c ⋯;let h2:=ne c hc;show(if f (A-1)<f c then f c-1 else f c)<B;split<;>lia) 0.9
   show{i,j,h1,⋯,?_};let b:=ne i ⋯;let a:=ne j h2;change (if f (A-1)<f i then f i-1 else f i)=(if f (A-1)<f j then f j-1 else f j)at h3;split at h3<;>split at h3<;>lia
def dig(s j c:Nat):Nat:=c/2^(s*j)%2^s
theorem BA:∀{n c c':Nat},(∀j,j<n->dig s j c=dig s j c')->c%2^(s*n)=c'%2^(s*n)
 |0,c,c',_=>by rw[Ug,Li,Nat.mod_one,Nat.mod_one]
 |n+1,c,c',h=>by
  let h1:=BA (n:=n) λj a=>h j ⋯;let h2:c/2^(s*n)%2^s=c'/2^(s*n)%2^s:=h n ⋯;rw[wF,yL,Nat.mod_mul,Nat.mod_mul,h1,h2]
def wg(R:Nat)(y:Nat->Nat):Nat->Nat
 |0=>0
 |n+1=>wg R y n*2^R+y n
theorem Fu:∀{n:Nat},(∀i,i<n->y i<2^R)->wg R y n<2^(R*n)
 |0,_=>by rw[Ug,!Nat.one_pos]
 |n+1,h=>by
  let h1:=pN (2^R) (Fu (n:=n) λi hi=>h i ⋯);let h2:=h n ⋯;rw[wF,yL];rw[rm]at h1;show wg R y n*2^R+y n<_;lia
theorem LH:∀{n:Nat},(∀i,i<n->y i<2^R)->(∀i,i<n->y' i<2^R)->wg R y n=wg R y' n->∀i,i<n->y i=y' i
 |0,_,_,_,i,hi=>È hi (tE _)
 |n+1,h,h',e,i,hi=>by
  let b:wg R y n*2^R+y n=wg R y' n*2^R+y' n:=e;let a:=Ï (· % 2^R) b;simp only[Nat.mul_add_mod_self_right,zF (h n ⋯),zF (h' n ⋯)]at a;by_cases c:i=n
  .rw[c];show a
  .exact LH (λi hi=>h i ⋯) (λi hi=>h' i ⋯) (Nat.eq_of_mul_eq_mul_right (Ŗ R) (0.6:wg R y n*2^R=wg R y' n*2^R)) i ⋯
theorem An:∀n,sm n (λj=>f j-g j)=sm n f-sm n g
 |0=>rfl
 |n+1=>by show sm n _+(f n-g n)=sm n f+f n-(sm n g+g n);rw[An n,1]
def aHo(A:Nat->Nat->Int)(s R:Nat)(O:∀i,i<m->∀x:Nat->Nat,(∀j,x j<2^s)->Bd R (sm n λj=>A i j*(x j:Nat)))(h:(R+1)*m<s*n):
  ∃x:Nat->Int,(∃j,j<n/\x j≠0)/\(∀j,Bd s (x j))/\∀i,i<m->sm n (λj=>A i j*x j)=0:=by
 let dl:∀c j,dig s j c<2^s:=λc j=>Qv _ (Ŗ _);let hb:=λc i hi=>O i hi _ (dl c);let hy:∀c i,i<m->((sm n λj=>A i j*(dig s j c:Nat))+(2^R:Nat)).toNat<2^(R+1):=λc i hi=>by
  let:=hb c i hi;unfold Bd at this;rw[lY,1]
 let⟨a,b,h1,h2,h3⟩:=yl (2^((R+1)*m)) (2^(s*n)) (λc=>wg (R+1) (λi=>((sm n λj=>A i j*(dig s j c:Nat))+(2^R:Nat)).toNat) m) (λc _=>Fu λi hi=>hy c i hi) (Nat.pow_lt_pow_right 0.3 h);show{λj=>(dig s j a:Int)-(dig s j b:Int),?_,λj=>?_,λi hi=>?_}
 .apply BL;intro z;let e:=BA (n:=n) (s:=s) (c:=a) (c':=b) λj d=>BL λw=>z {j,d,(⋯:(dig s j a:Int)-(dig s j b:Int)≠0)};rw[zF ⋯,zF h2]at e;simp_all
 .let:=dl a j;let:=dl b j;show((dig s j a:Int)-(dig s j b:Int)).natAbs<2^s;lia
 .let k:=LH (λi hi=>hy a i hi) (λi hi=>hy b i hi) h3 i hi;let g:=hb a i hi;let f:=hb b i hi;unfold Bd at g f;rw[show(λj=>A i j*((dig s j a:Int)-(dig s j b:Int)))=λj=>A i j*(dig s j a:Int)-A i j*(dig s j b:Int)from funext λj=>Fo ..,An,1]
end Pm
namespace Pm
open Rm
section
variable {p:Nat}{f T:Nat->Int}{P g s:ζ}{N:Int}
def aWY:∀n:Nat,2<=n->∃p,Om.cZ p/\p∣n:=λn=>by
 induction n using rz with
 |ind n ih=>
  intro hn;by_cases h:∀d,d∣n->d=1∨d=n
  .exact{n,{hn,(h)},R7 n}
  .obtain⟨d,hd⟩:=RX.mp h;let⟨hd,a⟩:=Classical.not_imp.mp hd;let h0:d≠0:=λe=>by rw[e]at hd;let:=ahR hd;simp_all
   let b:=yI ⋯ hd;let h1:d≠1:=λe=>a (.inl e);let h2:d≠n:=λe=>a (.inr e);let⟨p,hp,hq⟩:=ih d ⋯ ⋯;show{p,hp,NP hq hd}
def least_of{Q:Nat->Prop}(h:∃n,Q n):∃n,Q n/\∀m,Q m->n<=m:=by
 ext n hn h;induction n using rz with
 |ind n ih=>
  by_cases c:∃m,m<n/\Q m
  .ext m h1 h2 c;show ih m h1 h2
  .exact{n,hn,λm a=>by
    by_cases d:m<n
    .exact È {m,d,(a)} c
    .lia}
def Jw{x:Int}:(p:Int)∣x↔p∣x.natAbs:=vN
def ow(hp:Om.cZ p)(h:(p:Int)∣x*y):(p:Int)∣x∨(p:Int)∣y:=by
 rw[Jw,wG]at h;rcases hp.dvd h with h|h
 .exact .inl (Jw.mpr h)
 .exact .inr (Jw.mpr h)
theorem Q2{f:Nat->Int}:∀{n:Nat},(∀k,k<n->d∣f k)->d∣sm n f
 |0,_=>{0,#v[dG,0]}
 |n+1,h=>uL (Q2 λk hk=>h k ⋯) (h n ⋯)
def aTr(U:j<n)(h:d∣sm n f)(O:∀k,k<n->k≠j->d∣f k):d∣f j:=by
 let e:sm n f=sm n (λk=>if k=j then f j else 0)+sm n (λk=>if k=j then 0 else f k):=by
  rw[<-jW,!bG λk _=>?_];by_cases c:k=j
  .rw[Á c,Á c,c,fK]
  .rw[Â c,Â c,dO]
 rw[xu,Á U]at e;let h2:d∣sm n (λk=>if k=j then 0 else f k):=Q2 λk hk=>by
  by_cases c:k=j
  .rw[Á c];show{0,#v[dG]}
  .rw[Â c];show O k hk c
 let:f j=sm n f-sm n (λk=>if k=j then 0 else f k):=0.6;rw[this,!Int.dvd_sub h h2]
def az0(hp:Om.cZ p){f g:Nat->Int}(h:∀k,(p:Int)∣cv f g k):(∀k,(p:Int)∣f k)∨∀k,(p:Int)∣g k:=by
 by_cases l:∀k,(p:Int)∣f k
 .exact .inl l
 by_cases d:∀k,(p:Int)∣g k
 .exact .inr d
 let⟨i,hi,b⟩:=least_of (RX.mp l);let⟨j,n,a⟩:=least_of (RX.mp d);let e:=h (i+j);rw[iw]at e;let t:=aTr (j:=i) ⋯ e λk hk m=>by
  by_cases c:k<i
  .let:(p:Int)∣f k:=BL λz=>let:=b k z;0.7
   show NK this (Nm ..)
  .let:(p:Int)∣g (i+j-k):=BL λz=>let:=a _ z;0.7
   show NK this (zr ..)
 rw[CW]at t;rcases ow hp t with t|t
 .exact È t hi
 .exact È t n
theorem Fs.top{f:Nat->Int}:∀{n:Nat},Fs f n->(∀k,f k=0)∨∃d,d<n/\f d≠0/\Fs f (d+1)
 |0,h=>.inl λk=>h k (dz _)
 |n+1,h=>by
  by_cases c:f n=0
  .let h':Fs f n:=λk hk=>by
    by_cases e:k=n
    .rw[e];show c
    .exact h k ⋯
   rcases Fs.top h' with z|⟨d,h1,h2,h3⟩
   .exact .inl z
   .exact .inr {d,⋯,h2,h3}
  .exact .inr {n,⋯,c,h}
def I2(P:ζ)(T f:Nat->Int):Prop:=∃(N:Int)(A B:Nat->Int)(n:Nat),N≠0/\Fs A n/\Fs B n/\∀k,N*f k=cv A (co P) k+cv B T k
def y3(f:Nat->Int)(k:Nat):cv (λk=>if k=0 then 1 else 0) f k=f k:=#v[Bh,Á (dz _),mU,qe]
def wb(f:Nat->Int)(k:Nat):cv (λ_=>0) f k=0:=nF λ_ _=>.inl rfl
def xA:Fs (λk=>if k=0 then 1 else 0) 1:=λk hk=>Â ⋯
def I2.left(P:ζ)(T:Nat->Int):I2 P T (co P):={1,_,λ_=>0,1,0.3,xA,λ_ _=>rfl,λk=>#v[y3,wb,mU,fK]}
def I2.right(P:ζ)(T:Nat->Int):I2 P T T:={1,λ_=>0,_,1,0.3,λ_ _=>rfl,xA,λk=>#v[y3,wb,mU,dO]}
def I2.div(hc:c≠0)(h:I2 P T λk=>c*f k):I2 P T f:=by
 ext N A B n a b hB e h;show{N*c,A,B,n,UL a hc,b,hB,λk=>#v[iT,e]}
def I2.step(c:Int)(O:Fs G m)(hq:I2 P T q)(U:I2 P T f):I2 P T λk=>c*q k+cv G f k:=by
 ext N A B n o p hB e hq;ext N' j g l a d b s U;show{N*N',λk=>c*N'*A k+N*cv G j k,λk=>c*N'*B k+N*cv G g k,n+(m+l),UL o a,((p.mul _).mono 0.6).add (((O.cv d).mul _).mono 0.6),((hB.mul _).mono ⋯).add (((O.cv b).mul _).mono ⋯),λk=>?_};let r:N'*cv G f k=cv G (cv j (co P)) k+cv G (cv g T) k:=by
  rw[<-Sw,je G f,<-kW,je,!pI (λ_ _=>rfl) λi _=>s i]
 rw[pX,pX,kW,kW,kW,kW,lZ,lZ,yd,show N*N'*(c*q k)=c*N'*(N*q k)by ac_rfl,e k,iT N,r,yd,yd,1]
structure Lk(P:ζ)(T:Nat->Int)(d:Nat)(f:Nat->Int):Prop where
 fs:Fs f (d+1)
 ne:f d≠0
 kf:I2 P T f
def j_(O:Lk P T d f)(hd:∀e g,Lk P T e g->d<=e):∀(n:Nat)(q:Nat->Int),Fs q n->I2 P T q->∃(m:Int)(G:Nat->Int)(N:Nat),m≠0/\Fs G N/\∀k,m*q k=cv G f k:=λn=>by
 induction n using rz with
 |ind n ih=>
  intro q hq hk;rcases hq.top with z|⟨e,j,b,a⟩
  .exact{1,λ_=>0,0,0.3,λ_ _=>rfl,λk=>#v[z k,wb,0]}
  .let p:=hd e q {a,b,(hk)};let l:=I2.step (G:=λi=>if i=e-d then -(q e)else 0) (m:=e-d+1) (f d) (λk h=>Â ⋯) hk O.kf;let fl:Fs (λk=>f d*q k+cv (λi=>if i=e-d then -(q e)else 0) f k) e:=λk hk=>by
    show f d*q k+cv (λi=>if i=e-d then -(q e)else 0) f k=0;rw[Bh,Á 0.8];by_cases c:k=e
    .rw[c,(⋯:e-(e-d)=d),B5,fO (q e),Int.add_right_neg]
    .rw[a k ⋯,O.fs (k-(e-d)) ⋯,dG,dG];rfl
   let⟨m,G,N,o,r,s⟩:=ih e j _ fl l;show{m*f d,λk=>G k+m*(if k=e-d then q e else 0),N+(e-d+1),UL o O.ne,λk hk=>?_,λk=>?_}
   .show G k+m*(if k=e-d then q e else 0)=0;rw[r k ⋯,Â ⋯,dG,0]
   .rw[pX,kW,<-s k,Bh,Bh,iT,<-yd];show Ï (m * ·) ?_;split
    .rw[B5,Int.neg_add_cancel_right]
    .rw[fK,fK]
def aXe(O:Mon P)(hT:Fs T nT):∃g,Mon g/\I2 P T (co g)/\Dv 0 g (co P)/\Dv 0 g T:=by
 let hp:=O.pos;let U:Lk P T (P[_]-1) (co P):={#v[(⋯:P[_]-1+1=P[_]),!Fs.co P],#v[O.one,3],I2.left P T};obtain⟨d,⟨f0,M⟩,hd⟩:=least_of (Q:=λd=>∃f,Lk P T d f) {_,_,U};let x:∀e g,Lk P T e g->d<=e:=λe g h=>hd e {g,(h)};obtain⟨c,⟨f,a,hc⟩,R⟩:=least_of (Q:=λc=>∃f,Lk P T d f/\(f d).natAbs=c) {_,f0,M,rfl};let⟨Y,G0,N0,J,S,W⟩:=j_ a x P[_] (co P) (Fs.co P) (I2.left P T);obtain⟨n,⟨m,G,N,v,B,o,hn⟩,I⟩:=least_of (Q:=λn=>∃(m:Int)(G:Nat->Int)(N:Nat),m≠0/\Fs G N/\(∀k,m*co P k=cv G f k)/\m.natAbs=n) {_,Y,G0,N0,J,S,W,rfl};let h1:m.natAbs=1:=by
  by_cases c2:m.natAbs=1
  .exact c2
  .let h0:m.natAbs≠0:=0.8;let⟨p,hp,hd⟩:=aWY m.natAbs ⋯;let s:=hp.1;let b:(p:Int)≠0:=⋯;let⟨m',C⟩:=Jw.mpr hd;let L:m'≠0:=λz=>v #v[C,z,dG];rcases az0 hp (f:=G) (g:=f) λk=>by rw[<-o k,C,iT];show Nm .. with z|z
   .exfalso
    let⟨G',j⟩:=QO.mp z;show È (I m'.natAbs {m',G',N,L,λk hk=>?_,λk=>?_,rfl}) ?_
    .let:=j k;rw[B k hk]at this;show(K9.mp this.symm).resolve_left b
    .refine ahI b ?_;rw[<-kW,<-iT,<-C,o k,!pI (λi _=>j i) λ_ _=>rfl]
    .rw[<-hn,C,wG,C0];let:0<m'.natAbs:=0.8;let:2*m'.natAbs<=p*m'.natAbs:=pN _ s;lia
   .exfalso
    let⟨r,j⟩:=QO.mp z;let e:f=λk=>p*r k:=funext λk=>j k;let q:Lk P T d r:={λk hk=>by
     let:=j k;rw[a.fs k hk]at this;show(K9.mp this.symm).resolve_left b,λz=>a.ne #v[j d,z,dG],by
     let:=a.kf;rw[e]at this;show this.div b}
    show È (R _ {_,q,rfl}) ?_;let y:=Ï Int.natAbs (j d);rw[wG,C0,hc]at y;let u:=q.ne;let:0<(r d).natAbs:=0.8;let:2*(r d).natAbs<=p*(r d).natAbs:=pN _ s;rw[y,!¬p*(r d).natAbs<=(r d).natAbs];lia
 let hu:(f d).natAbs=1:=by
  rcases B.top with z|⟨e,_,u,w⟩
  .exfalso
   let:=o (P[_]-1);rw[O.one,m7,nF λi _=>.inl (z i)]at this;show v this
  .let t:cv G f (e+d)=G e*f d:=Kh w a.fs;let hx:G e*f d≠0:=UL u a.ne;let A:=o (e+d);rw[t]at A;let hl:e+d=P[_]-1:=by
    by_cases c3:P[_]<=e+d
    .rw[bK c3,dG]at A;show È A.symm hx
    .by_cases c4:e+d=P[_]-1
     .exact c4
     .exfalso
      let y:=o (P[_]-1);rw[O.one,m7,nF λi hi=>by
       by_cases c5:e+1<=i
       .exact .inl (w i c5)
       .exact .inr (a.fs _ 0.7)]at y
      show v y
   rw[hl,O.one,m7]at A;let Z:=Ï Int.natAbs A;rw[wG,h1]at Z;show Nat.eq_one_of_mul_eq_one_left Z.symm
 let D:f d*f d=1:=by
  rcases Int.natAbs_eq (f d)with h|h<;>rw[h,hu]<;>rfl
 let l:∀k,co (aD (d+1) λk=>f d*f k) k=f d*f k:=λk=>by
  rw[dH];by_cases c3:k<d+1
  .rw[Á c3]
  .rw[Â c3,a.fs k 0.6,dG]
 let X:Mon (aD (d+1) λk=>f d*f k):={#v[bZ],#v[bZ,gU,l,D]};let dv:∀(q:Nat->Int)(n:Nat),Fs q n->I2 P T q->Dv 0 (aD (d+1) λk=>f d*f k) q:=λq n h h'=>by
  let⟨m,G,N,v,B,o⟩:=j_ a x n q h h';show tJ X v h {λk=>f d*G k,N,B.mul _,λk=>Ï _ ?_};show m*q k=_;rw[o,kW,pI (g:=co (aD (d+1) λk=>f d*f k)) (g':=λk=>f d*f k) (λ_ _=>rfl) λi _=>l i,je G λk=>f d*f k,kW,<-iT,D,mU,je]
 show{aD (d+1) λk=>f d*f k,X,I2.div a.ne ?_,dv _ _ (Fs.co P) (I2.left P T),dv _ _ hT (I2.right P T)};rw[show(λk=>f d*co (aD (d+1) λk=>f d*f k) k)=f from funext λk=>#v[l,-iT,D,mU],!a.kf]
theorem WA(f:Nat->Int)(a:Nat):∀b,sm (a+b) f=sm a f+sm b λj=>f (a+j)
 |0=>(fK _).symm
 |b+1=>#v[-Dl,sm,sm,WA f a b,Qz]
def P9{g:Nat->Int}(h:Fs f a)(k:Nat):cv f g k=sm a λj=>(if j<=k then g (k-j)else 0)*f j:=by
 let e:=pU (f:=λj=>(if j<=k then g (k-j)else 0)*f j) (m:=a) (n:=a+(k+1)) 0.6 λj b _=>#v[h j b,dG]
 rw[iw,<-e,pU (n:=a+(k+1)) (m:=k+1) 0.6 λj b _=>#v[Â ⋯,jk],!bG λj b=>#v[Á ⋯,fO]]
structure oM(P:ζ)(T:Nat->Int)(g:ζ)(N:Int):Prop where
 mon:Mon g
 ne:N≠0
 one:Dv 0 g (co P)
 two:Dv 0 g T
 sum:∃(A B:Nat->Int)(n:Nat),Fs A n/\Fs B n/\∀k,N*co g k=cv A (co P) k+cv B T k
def oM.small(hg:Mon g)(O:Mon L)(eP:∀k,co P k=cv (co L) (co g) k)(Y:∀k,T k=cv t (co g) k)(ht:Fs t (L[_]-1))(hI:I2 P T (co g))(hl:L[_]<=13)(hu:∀k,Bd u (co L k))(hv:∀k,Bd u (t k)):∃N,oM P T g N/\Bd (25*(u+26)) N:=by
 let hp:=O.pos;obtain⟨l,el⟩:∃l,L[_]=l+1:={L[_]-1,⋯};rw[el,gU]at ht;let M:Fs (co L) (l+1):=#v[-el,!Fs.co L]
 obtain⟨s,hs⟩:∃s,s=24*(u+26)+1:={()};obtain⟨x,⟨j,p,hx⟩,R,hz⟩:=aHo (n:=l+1+l) (m:=2*l) (λi j=>if j<l+1 then(if j<=i+1 then co L (i+1-j)else 0)else if j-(l+1)<=i+1 then t (i+1-(j-(l+1)))else 0) s (u+s+25) (λi hi x hx=>by
  show(vW (c:=u+s) _ λj _=>Bd.mul ?_ (show Bd s (x j:Int)from hx j)).mono ⋯;split
  .split
   .exact hu _
   .exact Bd.zero _
  .split
   .exact hv _
   .exact Bd.zero _) (by
  let:s*(2*l+1)=s*(2*l)+s:=wF ..;let w:(u+s+25+1)*(2*l)=(u+26)*(2*l)+s*(2*l):=by rw[<-Sg];congr 1;lia
  let h3:(u+26)*(2*l)<=(u+26)*24:=nH _ ⋯;rw[(⋯:l+1+l=2*l+1),w,this,1])
 obtain⟨U,v⟩:∃U:Nat->Int,U=λk=>if k<l+1 then x k else 0:={()};obtain⟨V,r⟩:∃V:Nat->Int,V=λk=>if k<l then x (l+1+k)else 0:={()};let q:Fs U (l+1):=λk hk=>#v[v,!Â 0.8]
 let d:Fs V l:=λk hk=>#v[r,!Â 0.8]
 let X:∀k,k≠0->cv U (co L) k+cv V t k=0:=λk hk=>by
  by_cases c:k<=2*l
  .let:=hz (k-1) 0.9;rw[WA,(⋯:k-1+1=k)]at this;rw[P9 q,P9 d,!V3 (congr (Ï _ (bG λj p=>?_)) (bG λj p=>?_)) this]
   .rw[v];show _*(if j<l+1 then x j else 0)=_;rw[Á p,Á p]
   .rw[r];show _*(if j<l then x (l+1+j)else 0)=_;rw[Á p,Â (0.6:¬l+1+j<l+1),(0.6:l+1+j-(l+1)=j)]
  .rw[q.Qk M 0.7,d.Qk ht 0.7];rfl
 obtain⟨N,I⟩:∃N,N=cv U (co L) 0+cv V t 0:={()};let D:∀k,cv U (co L) k+cv V t k=if k=0 then N else 0:=λk=>by
  by_cases c:k=0
  .rw[Á c,c,I]
  .rw[Â c,X k c]
 show{N,{hg,λz=>?_,{co L,_,Fs.co L,λk=>Ï _ (eP k)},{t,_,ht,λk=>Ï _ (Y k)},U,V,l+1,q,d.mono 0.6,λk=>?_},?_}
 .ext o A B n SN J hB e hI;let b0:∀k,cv A (co L) k+cv B t k=if k=0 then o else 0:=λk=>by
   let:=aFJ (b:=0) hg (f:=λk=>cv A (co L) k+cv B t k) (g:=λk=>if k=0 then o else 0) (((J.cv M).mono (n:=n+(l+1)) ⋯).add ((hB.cv ht).mono ⋯)) (λk (hk:1<=k)=>Â ⋯) (λk=>by
    rw[pX,lZ,lZ,Bh,Á (dz _),qe,e k,!Ï _ (congr (Ï _ (pI (λ_ _=>rfl) λi _=>(eP i).symm)) (pI (λ_ _=>rfl) λi _=>(Y i).symm))]) k
   rwa [cY,cY]at this
  let W:Dv 0 L λk=>o*V k:={λk=>cv A V k + -1*cv B U k,n+(l+1),((J.cv d).mono ⋯).add (((hB.cv q).mul _)),λk=>Ï _ ?_}
  .let G:=(tJ O SN d W).short O #v[el,!d];let S:=Zu (b:=0) O q λk _=>by
    let:=D k;rw[z,ite_self,nF (f:=V) λi _=>.inl (by let:=G i;rwa [cY]at this),fK]at this;rw[this,0]
   let a:=G (j-(l+1));let C:=S j;rw[cY]at a C;rw[r]at a;rw[v]at C;by_cases c:j<l+1
   .exact hx (by simpa[c]using C)
   .refine hx ?_;let:(if j-(l+1)<l then x (l+1+(j-(l+1)))else 0)=0:=a
    rwa [Á ⋯,(⋯:l+1+(j-(l+1))=j)]at this
  .let y:o*V k=cv (λk=>cv A (co L) k+cv B t k) V k:=by
    rw[show(λk=>cv A (co L) k+cv B t k)=λk=>if k=0 then o else 0 from funext b0,Bh,Á (dz _),qe]
   let w:cv B (cv V t) k=-1*cv B (cv U (co L)) k:=by
    rw[je B (cv U _),<-kW,je,!pI (λi _=>?_) λ_ _=>rfl];let:=D i;rw[z,ite_self]at this;lia
   show o*V k=_;rw[y,pX,pX,kW,lZ,lZ,lZ,lZ,<-w,!congr (Ï _ (pI (λ_ _=>rfl) λi _=>je ..)) (pI (λ_ _=>rfl) λi _=>je ..)]
 .let y:N*co g k=cv (λk=>cv U (co L) k+cv V t k) (co g) k:=by
   rw[show(λk=>cv U (co L) k+cv V t k)=λk=>if k=0 then N else 0 from funext D,Bh,Á (dz _),qe]
  rw[y,pX,lZ,lZ,!congr (Ï _ (pI (λ_ _=>rfl) λi _=>(eP i).symm)) (pI (λ_ _=>rfl) λi _=>(Y i).symm)]
 .let bU:Bd s (U 0):=by rw[v,!Bd s (if 0<l+1 then x 0 else 0)];rw[Á ⋯,!R _]
  let Z:Bd s (V 0):=by
   rw[r,!Bd s (if 0<l then x (l+1+0)else 0)];split
   .exact R _
   .exact Bd.zero _
  rw[I,cv,cv,!((bU.mul (hu 0)).add (Z.mul (hv 0))).mono ⋯]
def oM.dv(h:oM P T g N)(h1:Dv b s (co P))(h2:Dv b s T):Dv b s λk=>N*co g k:=by
 ext A B n a hB e h.sum;show((h1.mul a).add (h2.mul hB)).congr λk=>#v[e]
def oM.all(h:oM P T g N)(O:Mon s)(h1:Dv 0 s (co P))(h2:Dv 0 s T):Dv 0 s (co g):=tJ O h.ne (Fs.co g) (h.dv h1 h2)
def oM.good(h:oM P T g N){p:Nat}(hN:¬(p:Int)∣N)(O:Mon s)(h1:Dv p s (co P))(h2:Dv p s T):s[_]<=g[_]:=HS λz=>hN (by
 let:=(h.dv h1 h2).short O (λk hk=>by show N*co g k=0;rw[bK 0.9,dG]) (g[_]-1);rw[h.mon.one,m7]at this;show Mb.mp this)
end
end Pm
namespace Pm
open Rm
section
variable {p prime bad good:Nat}{b N M:Int}{g P t s:ζ}{ripe:Bool}
def aOM{p:Int}(hp:p≠0):tk p x=tk p y↔p∣x-y:=by
 rw[<-Dy,Mb]
def SQ(hp:Om.cZ p):tk (p:Int) 1=1:=by
 let:=hp.1;rw[mz ⋯,!Ph 0.3 ⋯]
def Dv.same{p:ζ}(O:Mon m)(hp:Mon p)(h:Dv b m (co p))(U:m[_]=p[_])(k:Nat):tk b (co p k)=tk b (co m k):=
 Dy.mp ((h.sub ({_,1,xA,λk=>#v[y3]}:Dv b m (co m))).short O (λk hk=>by
  show co p k-co m k=0;by_cases c:k=m[_]-1
  .rw[c,O.one,U,hp.one];rfl
  .rw[bK 0.9,bK ⋯];rfl) k)
structure Seen(g:ζ)(N:Int)(p:Nat)(s:ζ):Prop where
 mon:Mon s
 nu:∀k,tk (p:Int) (co s k)=co s k
 ge:g[_]<=s[_]
 eq:s[_]=g[_]->∀k,(p:Int)∣co s k-co g k
 good:¬(p:Int)∣N->s[_]=g[_]
def eY.to{p:ζ}(h:eY b g [] p)(e:∀k,tk b (co p k)=tk b (co q k)):Dv b g (co q):=by
 ext u h h.dv;show{co u,u[_],Fs.co u,λk=>#v[-e,h]}
def oM.seen(h:oM P (co t) g N){p:Nat}(hp:Om.cZ p){s:ζ}(Y:∀k,tk (p:Int) (co P' k)=tk p (co P k))(U:∀k,tk (p:Int) (co t' k)=tk p (co t k))(O:Gcd p P' t' s):Seen g N p s:=by
 let h2:=hp.1;let h1:=SQ hp;let f:Dv p s (co P):=O.one.to Y;let d:Dv p s (co t):=O.two.to U;let c:Dv p g (co s):=by
  ext u v e O.sum;show((((h.one.by (b:=p))).mul (Fs.co u)).add ((h.two.by (b:=p)).mul (Fs.co v))).congr λk=>?_;rw[e,!tX (wV (λ_ _=>rfl) λi _=>(Y i).symm) (wV (λ_ _=>rfl) λi _=>(U i).symm)]
 let a:=c.len h1 h.mon O.mon;show{O.mon,O.py.co,a,λe k=>(aOM ⋯).mp (c.same h.mon O.mon e.symm k),λz=>by
  let:=h.good z O.mon f d;lia}
def oM.told(H:oM P (co t) g N)(O:Mon h)(h1:Dv 0 h (co P))(h2:Dv 0 h (co t))(U:g[_]<=h[_]):h=g:=by
 let d:=H.all O h1 h2;let:=d.len rfl O H.mon;show qT ⋯ λk=>by let:=d.same O H.mon ⋯ k;rw[cY,cY]at this;show this.symm
def nr(M x:Int):Int:=if 2*(x%M)>M then x%M-M else x%M
def Nr(M x:Int):Prop:=-M<2*x/\2*x<=M
def QC(M x:Int):M∣nr M x-x:=by
 let e:=Int.emod_add_mul_ediv x M;unfold nr;split
 .exact{-(x/M)-1,#v[Fo,U6]}
 .exact{-(x/M),#v[U6]}
def ZR(O:0<M)(x:Int):Nr M (nr M x):=by
 let h0:=pW x (⋯:M≠0);let h1:=qQ x O;unfold nr Nr;split<;>lia
def Nr.eq(O:0<M)(hx:Nr M x)(hy:Nr M y)(h:M∣x-y):x=y:=by
 ext c hc h;unfold Nr at hx hy;by_cases a:c=0
 .rw[a,dG]at hc;lia
 .exfalso
  rcases Int.lt_or_gt_of_ne a with l|l
  .let:M*c<=M*(-1):=Vf ⋯ ⋯;lia
  .let:M*1<=M*c:=Vf 1.2 ⋯;lia
def aUJ(O:2<=M)(h:M∣x-1):nr M x=1:=Nr.eq (M:=M) ⋯ (ZR ⋯ x) (by unfold Nr;lia) (by
 let:=uL (QC M x) h
 rwa [(⋯:nr M x-x+(x-1)=nr M x-1)]at this)
def w8(hp:Om.cZ p)(O:¬(p:Int)∣M)(h1:M∣x)(h2:(p:Int)∣x):M*p∣x:=by
 ext y rfl h1;rcases ow hp h2 with z|⟨e,a⟩
 .exact È z O
 .exact{e,#v[a,iT]}
structure oB(P g:ζ)(N:Int)(told:ζ)(M:Int)(prime:Nat)(ripe:Bool)(bad good:Nat):Prop where
 mon:Mon told
 ge:g[_]<=told[_]
 le:told[_]<=P[_]
 pos:0<M
 div:∀q:Nat,Om.cZ q->(q:Int)∣M->q<=prime
 ar:told[_]=g[_]->∀k,M∣co told k-co g k
 near:M≠1->∀k,Nr M (co told k)
 Gs:∃X:Nat,(X:Int)∣N/\2^(19*bad)<=X/\∀q:Nat,Om.cZ q->q∣X->q<=prime
 LC:0<good->told[_]=g[_]/\2^(19*good)<=M
 aiR:2<=good->(∀k,2*(co g k).natAbs<2^(19*(good-1)))->ripe=true/\told=g
 hi:M<=2^(22*(bad+good))
 first:M=1->told=P
def oB.start(U:Mon P)(O:g[_]<=P[_])(a:Nat):oB P g N P 1 a true 0 0:=
 {U,O,aZ _,0.3,λq hq h=>by
  let:=hq.1;let h3:=Int.le_of_dvd 0.3 h;lia,λ_ k=>{_,(mU _).symm},λh=>È rfl h,{1,{N,(mU N).symm},0.3,λq hq h=>by
  let:=hq.1;let h3:=yI 0.3 h;simp_all},λh=>È h 0.3,λh=>È h 0.3,0.3,λ_=>rfl}
def Xf(hp:Om.cZ p)(U:prime<p)(O:2^19<=p)(hN:(p:Int)∣N)(h:∃X:Nat,(X:Int)∣N/\2^(19*bad)<=X/\∀q:Nat,Om.cZ q->q∣X->q<=prime):
  ∃X:Nat,(X:Int)∣N/\2^(19*(bad+1))<=X/\∀q:Nat,Om.cZ q->q∣X->q<=p:=by
 ext X h1 h2 h3 h;show{X*p,?_,?_,λq hq hd=>?_}
 .let:=w8 (M:=X[0]) hp (λz=>let:=h3 p hp (O6.mp z);⋯) h1 hN
  rwa [sW]
 .rw[yj,yL];show nZ h2 O
 .rcases hq.dvd hd with z|z
  .let:=h3 q hq z;lia
  .exact yI ⋯ z
def oB.stay(h:oB P g N told M prime ripe bad good)(hp:Om.cZ p)(U:prime<p)(O:2^19<=p)(Y:Seen g N p s)(hl:told[_]<s[_]):oB P g N told M p ripe (bad+1) good:=by
 let a:(p:Int)∣N:=BL λz=>by let:=Y.good z;let:=h.ge;lia
 show{h.mon,h.ge,h.le,h.pos,λq hq hd=>let:=h.div q hq hd;⋯,h.ar,h.near,Xf hp U O a h.Gs,h.LC,h.aiR,sP h.hi (by
  let:(2:Nat)^(22*(bad+good))<=2^(22*(bad+1+good)):=mX 0.3 ⋯
  exact_mod_cast this),h.first}
def oB.anew(h:oB P g N told M prime ripe bad good)(hp:Om.cZ p)(hlt:prime<p)(O:2^19<=p)(Y:p<=2^22)(U:Seen g N p s)(hl:s[_]<told[_]):
  ∃uY vO,uY+vO=bad+good+1/\oB P g N (s.map (nr p)) p p true uY vO:=by
 let l:=hp.1;let n:good=0:=by
  by_cases c:good=0
  .exact c
  .let:=(h.LC ⋯).1;let:=U.ge;lia
 let m:=h.le;let d:=U.mon.pos;let f:(2:Int)<=p:=⋯;let hc:∀k,co (s.map (nr p)) k=nr p (co s k):=λk=>uH (by unfold nr;rw[Int.zero_emod];split<;>lia) s k;let i:Mon (s.map (nr p)):={#v[aA,!d],#v[aA,hc,U.mon.one,!aUJ f {0,#v[dG,0]}]};let j:(s.map (nr p))[_]=g[_]->∀k,(p:Int)∣co (s.map (nr p)) k-co g k:=λe k=>by
  rw[hc];let:=uL (QC p (co s k)) (U.eq (by rwa [aA]at e) k)
  rwa [(⋯:nr p (co s k)-co s k+(co s k-co g k)=nr p (co s k)-co g k)]at this
 let a:(p:Int)≠1->∀k,Nr p (co (s.map (nr p)) k):=λ_ k=>#v[hc,!ZR ⋯ _]
 let b:∀q:Nat,Om.cZ q->(q:Int)∣p->q<=p:=λq _ hd=>yI ⋯ (O6.mp hd);by_cases c:s[_]=g[_]
 .refine{bad,1,0.8,i,#v[aA,!U.ge],#v[aA],⋯,b,j,a,?_,λ_=>{#v[aA,!c],by exact_mod_cast O},λz=>È z 0.3,?_,λz=>0.6}
  .ext X h1 h2 h3 h.Gs;show{X,h1,h2,λq hq hd=>let:=h3 q hq hd;⋯}
  .let:(2:Nat)^22<=2^(22*(bad+1)):=mX 0.3 ⋯
   exact_mod_cast cD Y this
 .let o:(p:Int)∣N:=BL λz=>c (U.good z);show{bad+1,0,0.8,i,#v[aA,!U.ge],#v[aA],⋯,b,j,a,Xf hp hlt O o h.Gs,λz=>È z 0.3,λz=>È z 0.3,?_,λz=>⋯};let:(2:Nat)^22<=2^(22*(bad+1+0)):=mX 0.3 ⋯
  exact_mod_cast cD Y this
def oB.join(h:oB P g N told M prime ripe bad good)(hp:Om.cZ p)(Y:prime<p)(O:2^19<=p)(hhi:p<=2^22)(U:Seen g N p s)(hl:s[_]=told[_])
  (hl':mL[_]=told[_])(ht:∀k,k<told[_]->∃w:Int,(p:Int)∣M*w-(co s k-co told k)/\co mL k=nr (M*p) (co told k+M*w))(hr:aci=true↔mL=told):
  ∃uY vO,uY+vO=bad+good+1/\oB P g N mL (M*p) p aci uY vO:=by
 let D:=hp.1;let R:=h.pos;let B:¬(p:Int)∣M:=λz=>let:=h.div p hp z;⋯
 let j:(2:Int)<=p:=⋯;let L:(2:Int)<=M*p:=by
  let:1*(2:Int)<=M*p:=WR 1.2 j 0.3 ⋯;assumption
 let G:=h.le;let I:=h.ge;let C:=h.mon.pos;let a1:∀k,M∣co mL k-co told k:=λk=>by
  by_cases c:k<told[_]
  .obtain⟨w,_,e⟩:=ht k c;rw[e];let r:M∣nr (M*p) (co told k+M*w)-(co told k+M*w):=NK (Nm M p) (QC _ _);let T:M∣M*w:=Nm ..;let:=uL r T
   rwa [(⋯:nr (M * ↑p) (co told k+M*w)-(co told k+M*w)+M*w=nr (M * ↑p) (co told k+M*w)-co told k)]at this
  .rw[bK 0.6,bK ⋯];show{0,#v[dG,0]}
 let a2:∀k,(p:Int)∣co mL k-co s k:=λk=>by
  by_cases c:k<told[_]
  .obtain⟨w,h1,e⟩:=ht k c;rw[e];let r:(p:Int)∣nr (M*p) (co told k+M*w)-(co told k+M*w):=NK (zr M p) (QC _ _);let:=uL r h1
   rwa [(⋯:nr (M * ↑p) (co told k+M*w)-(co told k+M*w)+(M*w-(co s k-co told k))=nr (M * ↑p) (co told k+M*w)-co s k)]at this
  .rw[bK ⋯,bK 0.6];show{0,#v[dG,0]}
 let a:M*p≠1->∀k,Nr (M*p) (co mL k):=λ_ k=>by
  by_cases c:k<told[_]
  .obtain⟨w,_,e⟩:=ht k c;rw[e,!ZR ⋯ _]
  .rw[bK ⋯];unfold Nr;lia
 let u:co mL (mL[_]-1)=1:=by
  rw[hl',!Nr.eq (M:=M*p) ⋯ (a ⋯ _) (by unfold Nr;lia) (w8 hp B ?_ ?_)]
  .let:=a1 (told[_]-1)
   rwa [h.mon.one]at this
  .let:=a2 (told[_]-1);let e:=U.mon.one;rw[hl]at e
   rwa [e]at this
 let y:Mon mL:={0.6,u};let f:∀q:Nat,Om.cZ q->(q:Int)∣M*p->q<=p:=λq hq hd=>by
  rcases ow hq hd with z|z
  .let:=h.div q hq z;lia
  .exact yI ⋯ (O6.mp z)
 let v:mL[_]=g[_]->∀k,M*p∣co mL k-co g k:=λe k=>by
  show w8 hp B ?_ ?_
  .let:=uL (a1 k) (h.ar 0.6 k)
   rwa [(⋯:co mL k-co told k+(co told k-co g k)=co mL k-co g k)]at this
  .let:=uL (a2 k) (U.eq 0.6 k)
   rwa [(⋯:co mL k-co s k+(co s k-co g k)=co mL k-co g k)]at this
 let d:∀x,x=bad+good+1->M*p<=2^(22*x):=λx hx=>by
  rw[hx,(⋯:22*(bad+good+1)=22*(bad+good)+22),Int.pow_add,!WR h.hi (by exact_mod_cast hhi) 0.6 (Int.le_of_lt (Int.pow_pos 0.3))]
 by_cases c:s[_]=g[_]
 .refine{bad,good+1,⋯,y,1.1,0.6,⋯,f,v,a,?_,λ_=>{0.6,?_},λh2 hb=>?_,d _ ⋯,λz=>0.6}
  .ext X h1 h2 h3 h.Gs;show{X,h1,h2,λq hq hd=>let:=h3 q hq hd;⋯}
  .rw[(⋯:19*(good+1)=19*good+19),Int.pow_add];show WR ?_ (by exact_mod_cast O) 0.3 ⋯;by_cases t:good=0
   .rw[t];show(1:Int)<=M;lia
   .exact(h.LC ⋯).2
  .rw[gU]at hb;let b:=h.LC ⋯;let m:M≠1:=λz=>by
    rw[z]at b;let h3:=b.2;let:(2:Int)^(19*1)<=2^(19*good):=by exact_mod_cast mX (n:=2) 0.3 (⋯:19*1<=19*good)
    let:(2:Int)^(19*1)=524288:=0.3;lia
   let A:∀k,Nr M (co g k):=λk=>by
    let h3:=hb k;let h4:=b.2;let W:((2*(co g k).natAbs:Nat):Int)<M:=Int.lt_of_lt_of_le (by exact_mod_cast h3) h4;unfold Nr;omega
   let S:told=g:=qT b.1 λk=>(h.near m k).eq R (A k) (h.ar b.1 k);let o:∀k,Nr (M*p) (co g k):=λk=>by
    let h3:=A k;unfold Nr at h3⊢;let:M*1<=M*p:=Vf ⋯ 0.7;lia
   let i:mL=g:=qT ⋯ λk=>(a ⋯ k).eq ⋯ (o k) (v ⋯ k);show{hr.mpr #v[i,S],i}
 .let J:(p:Int)∣N:=BL λz=>c (U.good z);let l:good=0:=by
   by_cases t:good=0
   .exact t
   .let:=(h.LC ⋯).1;simp_all
  subst l;show{bad+1,0,(by simp only[*];done),y,0.6,⋯,⋯,f,v,a,Xf hp Y O J h.Gs,λz=>È z 0.3,λz=>È z 0.3,d _ ⋯,λz=>⋯}
def oB.few(h:oB P g N told M prime ripe bad good)(hN:N≠0)(Y:Bd V N)(hU:∀k,Bd U (co g k))(O:¬(ripe=true/\told=g)):19*(bad+good)<=V+U+38:=by
 ext X h1 h2 _ h.Gs;let b:19*bad<=V:=by
  let h3:=yI ⋯ (Jw.mp h1);let h4:2^(19*bad)<2^V:=jD (cD h2 h3) Y;let:=(Z3 (0.3:1<2)).mp h4;lia
 let a:19*good<=U+38:=by
  by_cases c:2<=good
  .by_cases d:∀k,2*(co g k).natAbs<2^(19*(good-1))
   .exact È (h.aiR c d) O
   .obtain⟨k,hk⟩:=RX.mp d;let h3:(co g k).natAbs<2^U:=hU k;let h4:2^(19*(good-1))<2^(U+1):=#v[lY]
    let:=(Z3 (0.3:1<2)).mp h4;lia
  .lia
 lia
structure Gc(b:Int)(P t g:ζ):Prop where
 mon:Mon g
 nu:∀k,tk b (co g k)=co g k
 one:Dv b g (co P)
 two:Dv b g (co t)
 all:∀h:ζ,Mon h->Dv b h (co P)->Dv b h (co t)->Dv b h (co g)
def oM.gc(h:oM P (co t) g N):Gc 0 P t g:={h.mon,λ_=>cY _,h.one,h.two,λ_=>h.all}
def eY.to'{p:ζ}(h:eY b g [] p):Dv b g (co p):=by
 ext u e h.dv;show{co u,u[_],Fs.co u,e}
def Gcd.gc(h:Gcd b P t g):Gc b P t g:=by
 show{h.mon,λk=>?_,h.one.to',h.two.to',λd _ h1 h2=>?_}
 .by_cases c:k<g[_]
  .exact h.py.nu _ (O9 c)
  .rw[bK ⋯,ġ]
 .ext u v e h.sum;show Dv.congr (λk=>(e k).symm) (Dv.add (Dv.mul (Fs.co u) h1) (Dv.mul (Fs.co v) h2))
def Gc.uniq(h1:tk b 1=1){P t g:ζ}(h:Gc b P t g)(h':Gc b P t g'):g=g':=by
 let a:=h'.all g h.mon h.one h.two;let c:=h.all g' h'.mon h'.one h'.two;let l1:=a.len h1 h.mon h'.mon;let l2:=c.len h1 h'.mon h.mon;show qT ⋯ λk=>?_;rw[<-h.nu k,<-h'.nu k,!(a.same h.mon h'.mon ⋯ k).symm]
end
end Pm
namespace Pm
open Rm
def ev(p:ζ)(x:Int):Int:=sm p[_] λk=>co p k*x^k
def zW(h:p[_]<=n)(x:Int):sm n (λk=>co p k*x^k)=ev p x:=
 pU h λk h1 _=>#v[bK h1,jk]
def Mp(x:Int):ev [] x=0:=rfl
def Zd(c x:Int):ev [c] x=c:=by
 show 0+co [c] 0*x^0=c;rw[jj,Ac,m7,dO]
abbrev lin(r:Int):ζ:=[0-r,1]
def GW(r:Int):Mon (lin r):={by show 0<2;decide,rfl}
def oo(f:Nat->Int)(r:Int):∀k,cv f (co (lin r)) k=(if k=0 then 0 else f (k-1))-r*f k:=λk=>by
 rw[iw];cases k with
 |zero=>
  show 0+f 0*co (lin r) 0=_;rw[Á rfl,jj,dO,Fo,dG,fO]
 |succ k=>
  rw[Â (NF _),gU];rw[sm,ql,sm,(0.6:k+1-k=1)];rw[Mr λj a=>#v[bK (p:=lin r) (⋯:2<=k+1-j),dG]];rw[jj,qH,jj,m7,dO,Fo,dG,rH,fO (f (k+1)),0]
def Me(f:Nat->Int)(x:Int):∀n,sm (n+1) (λk=>(if k=0 then 0 else f (k-1))*x^k)=x*sm n λk=>f k*x^k:=λn=>by
 rw[oK,Á rfl,jk,dO,<-dW,!bG λk _=>?_];rw[Â (NF _),gU,oN,fO (x^k) x,<-iT,<-iT,fO (f k) x]
theorem Div.ev{p q l:ζ}{r:Int}(h:Div 0 p (lin r) q l)(x:Int):Pm.ev p x=(x-r)*Pm.ev q x+Pm.ev l x:=by
 obtain⟨n,h1,h2,h3⟩:∃n,p[_]<=n+1/\q[_]<=n/\l[_]<=n+1:={p[_]+q[_]+l[_],⋯,⋯,⋯};rw[<-zW h1 x,<-zW h2 x,<-zW h3 x];let e:∀k,co p k=(if k=0 then 0 else co q (k-1))-r*co q k+co l k:=λk=>by
  let:=h.eq k;rw[cY,cY,oo]at this;show this.symm
 rw[bG (g:=λk=>(if k=0 then 0 else co q (k-1))*x^k+(-r*(co q k*x^k)+co l k*x^k)) λk _=>?_,jW,jW,Me,dW]
 .let a:sm (n+1) (λk=>co q k*x^k)=sm n λk=>co q k*x^k:=by
   rw[sm,bK h2,jk,fK]
  rw[a,qc,B5,1]
 .rw[e k,Od,qc,B5,iT];lia
def Div.root{p q l:ζ}{r:Int}(h:Div 0 p (lin r) q l):l=[]↔Pm.ev p r=0:=by
 let e:=h.ev r;rw[QX,jk,dO]at e;let a:l[_]<2:=h.short
 match l,a,h.ry with
 |[],_,_=>show{λ_=>#v[e,Mp],λ_=>rfl}
 |[c],_,hr=>
  rw[Zd]at e;constructor
  .intro z;cases z
  .intro z;rw[e]at z
   exfalso
   let:=hr.tr;rw[z]at this;simp[trim]at this
inductive Rep(r:Int):Nat->ζ->ζ->Prop
 |zero (q:ζ):Rep r 0 q q
 |succ {m:Nat} {p p' q:ζ}:Div 0 p (lin r) p' []->Rep r m p' q->Rep r (m+1) p q
theorem Rep.ev{r:Int}{m:Nat}{p q:ζ}(h:Rep r m p q)(x:Int):Pm.ev p x=(x-r)^m*Pm.ev q x:=by
 induction h with
 |zero q=>rw[Ac,mU]
 |succ d _ ih=>
  rw[d.ev x,ih,Mp,fK,oN,fO ((x-r)^_) (x-r),iT]
def Mf(r:Int):Nat->ζ->ζ
 |0,q=>q
 |m+1,q=>mul 0 (Mf r m q) (lin r)
def RP:List (Int×Nat)->ζ->ζ
 |[],R=>R
 |(r,m)::t,R=>Mf r m (RP t R)
def Rc(h:Py 0 q):∀m,Py 0 (Mf r m q)
 |0=>h
 |_+1=>Cm ..
theorem Ya(h:Py 0 R):∀l,Py 0 (RP l R)
 |[]=>h
 |(_,m)::t=>Rc (Ya h t) m
theorem Div.lin{q:ζ}(r:Int)(hq:Py 0 q):Div 0 (mul 0 q (Pm.lin r)) (Pm.lin r) q []:=
 {hq,Py.nil 0,by show 0<2;decide,λk=>#v[gP,fK,yU,cY,cY]}
theorem Mc(h:Py 0 q):∀m,Rep r m (Mf r m q) q
 |0=>.zero q
 |m+1=>.succ (Div.lin r (Rc h m)) (Mc h m)
inductive Scan:ζ->ζ->List (Int×Nat)->ζ->Prop
 |nil (p:ζ):Scan [] p [] p
 |hit {c:Int} {cs p q:ζ} {m:Nat} {l:List (Int×Nat)} {R:ζ}:Rep c (m+1) p q->ev q c≠0->Scan cs q l R->Scan (c::cs) p ((c,m+1)::l) R
 |miss {c:Int} {cs p:ζ} {l:List (Int×Nat)} {R:ζ}:ev p c≠0->Scan cs p l R->Scan (c::cs) p l R
theorem Rep.back(h:Rep r m p q)(hp:Py 0 p):p=Mf r m q/\Py 0 q:=by
 induction h with
 |zero q=>show{rfl,(hp)}
 |@succ m p p' q d _ ih=>
  let⟨c,a⟩:=ih d.qy;show{?_,a};let b:=d.back hp;rw[add_comm,nil_add (Cm ..)]at b;rw[<-b,c,0]
theorem fe(h:Py 0 R)(e:ev R x=0):∀l,ev (RP l R) x=0
 |[]=>e
 |(r,m)::t=>by
  let q:=(Mc (r:=r) (Ya h t) m).ev x;rw[fe h e t,dG]at q;show q
theorem Scan.back(h:Scan cs p l R):Py 0 p->p=RP l R/\Py 0 R/\(∀c∈cs,ev R c≠0)/\(l.map (·.1)).Sublist cs/\∀x∈l,0<x.2:=by
 induction h with
 |nil p=>show λhp=>{rfl,hp,(λc hc=>(by cases hc)),aBi,(λx hx=>(by cases hx))}
 |@hit c cs p q m l R hr hq _ ih=>
  intro hp;let⟨j,i⟩:=hr.back hp;let⟨b,a,g,f,e⟩:=ih i;show{#v[j,b,0],a,λd hd=>?_,f.cons_cons c,λx hx=>?_}
  .rcases fj.mp hd with rfl|hd
   .intro z;show hq #v[b,!fe a z l]
   .exact g d hd
  .rcases fj.mp hx with rfl|hx
   .exact iZ _
   .exact e x hx
 |@miss c cs p l R hn _ ih=>
  intro hp;let⟨b,a,g,f,e⟩:=ih hp;show{b,a,λd hd=>?_,f.cons c,e};rcases fj.mp hd with rfl|hd
  .intro z;show hn #v[b,!fe a z l]
  .exact g d hd
end Pm
namespace Pm
open Rm
def Ey(h:Bd n x):Bd n (-x):=by unfold Bd at h ⊢;rw[Oh,!h]
def aJ7(a:Int)(p:ζ)(x:Int):ev (a::p) x=a+x*ev p x:=by
 rw[<-zW (p:=a::p) (n:=p[_]+1) (aZ _) x,oK,jj,Ac,m7,<-zW (p:=p) (aZ _) x,<-dW];congr 1;show bG λk _=>?_;rw[qH,oN,fO (x^k) x,<-iT,<-iT,fO (co p k) x]
theorem Xv(x:Int)(g:ζ):∀(L P:ζ),(∀k,co P k=cv (co L) (co g) k)->ev P x=ev L x*ev g x
 |[],P,h=>by
  rw[Mp,jk];unfold ev;show Mr λk _=>by rw[h,nF (λi _=>.inl (gP i)),jk]
 |a::L,P,h=>by
  obtain⟨Q,b⟩:∃Q:ζ,∀k,co Q k=cv (co L) (co g) k:=Z9 ((Fs.co L).cv (Fs.co g));let c:=Xv x g L Q b;obtain⟨n,h1,h2,h3⟩:∃n,P[_]<=n+1/\Q[_]<=n/\g[_]<=n+1:={P[_]+Q[_]+g[_],⋯,⋯,⋯};let e:∀k,co P k=a*co g k+(if k=0 then 0 else co Q (k-1)):=λk=>by
   rw[h,xh];split
   .rfl
   .rw[b]
  rw[aJ7,<-zW h1 x,bG (g:=λk=>a*(co g k*x^k)+(if k=0 then 0 else co Q (k-1))*x^k) λk _=>#v[e k,Od,iT],jW,dW,Me,zW h3,zW h2,c,Od,iT]
def OH(p:ζ)(r:Int):∃q l,Div 0 p (lin r) q l/\(∀k,co p k=(if k=0 then 0 else co q (k-1))-r*co q k+co l k)/\q[_]<=p[_]-1:=by
 let⟨q,l,h⟩:=Xu (b:=0) (GW r) (p:=p) λk=>cY _;let e:∀k,co p k=(if k=0 then 0 else co q (k-1))-r*co q k+co l k:=λk=>by
  let:=h.eq k;rw[cY,cY,oo]at this;show this.symm
 let a:l[_]<2:=h.short;show{q,l,h,e,?_};by_cases hq:q=[]
 .rw[hq];show dz _
 .let h0:=Iz hq h.qy.tr;let hp:0<q[_]:=tM.mpr hq;let h1:=e q[_];rw[Â 0.8,bK (p:=q) (aZ _),dG,bK (p:=l) ⋯,CY,fK]at h1;let:=Dd (p:=p) (k:=q[_]) #v[h1,!h0];lia
theorem sf:∀(m:Nat)(L:ζ),Mon L->L[_]=m+1->∀xs:ζ,xs.Nodup->(∀x∈xs,ev L x=0)->xs[_]<=m
 |_,_,_,_,[],_,_=>dz _
 |0,L,hL,hl,r::ys,_,hr=>by
  exfalso
  let e:L=[1]:=qT (q:=[1]) hl λk=>by
   cases k with
   |zero=>let:=hL.one;rw[hl]at this;show this
   |succ k=>rw[bK 1.1,bK (⋯:1<=k+1)]
  let:=hr r (lH ..);rw[e,Zd]at this;show È this 0.3
 |m+1,L,hL,hl,r::ys,hn,hr=>by
  let⟨q,l,h,e,g⟩:=OH L r;let h0:=hr r (lH ..);let f:=h.root.mpr h0;subst f;let d:co q m=1:=by
   let h1:=e (m+1);rw[Â ⋯,gU,bK (p:=q) (0.6:q[_]<=m+1),dG,gP,CY,fK]at h1;let h2:=hL.one;rw[hl,gU,h1]at h2;show h2
  let a:q[_]=m+1:=by
   let:=Dd (p:=q) (k:=m) #v[d,3];lia
  let⟨c,b⟩:=yF.mp hn;let:=sf m q {0.6,#v[a,gU,!d]} a ys b λy hy=>by
   let h1:=h.ev y;rw[hr y (gW _ hy),Mp,fK]at h1;rcases K9.mp h1.symm with z|z
   .exact È (⋯:y=r) (λz=>c (z▸hy))
   .exact z
  rw[gh,1]
def oz(hx:x≠0)(h:Bd M (x*y)):Bd M y:=by
 unfold Bd at h⊢;rw[wG]at h;let h1:1<=x.natAbs:=⋯;let:1*y.natAbs<=x.natAbs*y.natAbs:=pN _ h1;lia
theorem fI:∀(d:Nat)(g:ζ)(M:Nat),g[_]<=d->∀xs:ζ,xs.Nodup->d<=xs[_]->(∀x∈xs,Bd e x)->(∀x∈xs,Bd M (ev g x))->∀k,Bd (M+d*(e+3)) (co g k)
 |0,g,_,hl,_,_,_,_,_,k=>by rw[bK 0.6,!Bd.zero _]
 |d+1,_,_,_,[],_,hd,_,_,_=>È hd (⋯:¬d+1<=0)
 |d+1,g,M,hl,r::ys,hn,hd,hx,hv,k=>by
  let⟨q,l,h,eq,s⟩:=OH g r;let⟨b,a⟩:=yF.mp hn;let f:l[_]<2:=h.short;let er:ev l r=ev g r:=#v[h.ev r,QX,jk,dO]
  let el:∀x,ev l x=co l 0:=λx=>by
   match l,f with
   |[],_=>rw[Mp,gP]
   |[c],_=>rw[Zd,jj]
  let j:co l 0=ev g r:=#v[-el r,er]
  let hr:=hv r (lH ..);let i:=fI (e:=e) d q (M+1) 0.9 ys a (by rw[gh]at hd;simp_all) (λx h=>hx x (gW _ h)) λy hy=>by
   show oz (x:=y-r) (λz=>b ((⋯:y=r)▸hy)) ?_;let h1:=h.ev y;rw[el y,j]at h1;rw[(⋯:(y-r)*ev q y=ev g y + -(ev g r)),!(hv y (gW _ hy)).add (Ey hr)]
  let p:Bd (e+(M+1+d*(e+3))) (if k=0 then 0 else co q (k-1)):=by
   split
   .exact Bd.zero _
   .exact(i _).mono 0.6
  let o:=Ey ((hx r (lH ..)).mul (i k));let n:Bd (e+(M+1+d*(e+3))+1) (co l k):=by
   cases k with
   |zero=>rw[j,!hr.mono ⋯]
   |succ k=>rw[bK ⋯,!Bd.zero _]
  let m:=(p.add o).add n;let t:(d+1)*(e+3)=d*(e+3)+(e+3):=rm ..;rw[eq k,Js,!m.mono ⋯]
def aMv(hu:∀k,Bd u (co P k))(hx:Bd e x):Bd (u+P[_]*(e+1)+P[_]) (ev P x):=by
 let hp:∀k,Bd (k*e+1) (x^k):=λk=>by
  induction k with
  |zero=>rw[Ac,!(Bd.of (n:=1) 0.3 0.3).mono 0.6]
  |succ k ih=>
   let a:(k+1)*e=k*e+e:=rm ..;rw[oN,!(ih.mul hx).mono ⋯]
 unfold ev;show(vW (c:=u+P[_]*(e+1)) P[_] λk hk=>((hu k).mul (hp k)).mono ?_).mono 0.6;let h1:(k+1)*(e+1)<=P[_]*(e+1):=pN _ 1.2;let h2:(k+1)*(e+1)=k*(e+1)+(e+1):=rm ..;let h3:k*(e+1)=k*e+k:=wF ..;lia
theorem wt(p:Int->Bool):∀xs:ζ,xs[_]=(xs.filter p)[_]+(xs.filter λx=>!p x)[_]
 |[]=>rfl
 |x::xs=>by
  let:=wt p xs;cases h:p x
  .rw[Rq #v[h,3],Yk #v[h,0],gh,gh];lia
  .rw[Yk h,Rq #v[h,3],gh,gh];lia
def Ot(O:Mon L)(U:∀k,co P k=cv (co L) (co g) k)(hP:P[_]<=13)(hg:g[_]<=13)(Y:L[_]+g[_]<=14)(hu:∀k,Bd u (co P k))(k:Nat):Bd (u+169) (co g k):=by
 obtain⟨xs,a⟩:∃xs:ζ,xs=(dY 13).map Int.ofNat:={()};let nd:xs.Nodup:=by rw[a];decide +kernel
 let ln:xs[_]=13:=#v[a,0]
 let c:∀x∈xs,Bd 4 x:=by rw[a];unfold Bd;decide +kernel
 let hp:=O.pos;let h0:=sf (L[_]-1) L O ⋯ _ (nd.filter λx=>decide (ev L x=0)) λx hx=>of_decide_eq_true (pD.mp hx).2;let hc:=wt (λx=>decide (ev L x=0)) xs;show(fI (e:=4) g[_] g (u+78) (aZ _) (xs.filter λx=>!decide (ev L x=0)) (nd.filter _) ⋯ (λx hx=>c x (pD.mp hx).1) (λx hx=>?_) k).mono ⋯;let b:ev L x≠0:=λz=>by
  let:=(pD.mp hx).2;rw[É z]at this;show È this 0.3
 show oz b ?_;rw[<-Xv x g L P U,!(aMv hu (c x (pD.mp hx).1)).mono ⋯]
def aCr(U:Mon P)(O:P[_]<=13)(ht:t[_]<P[_])(hu:∀k,Bd u (co P k))(hv:∀k,Bd u (co t k)):∃g N,oM P (co t) g N/\Bd (25*(u+195)) N/\∀k,Bd (u+169) (co g k):=by
 let⟨g,d,s,x,w⟩:=aXe U (Fs.co t);let⟨L,e,_,q,v⟩:=A_ (b:=0) rfl U d x;let⟨o,r,D⟩:=Xu (b:=0) d (p:=t) λk=>cY _;let er:=(D.dv d).mpr w;subst er;let n:=e.pos;let l:=d.pos;let j:∀k,co P k=cv (co L) (co g) k:=λk=>by let:=v k;rwa [cY,cY]at this
 let i:∀k,co t k=cv (co o) (co g) k:=λk=>by let:=D.eq k;rw[cY,cY,gP,fK]at this;show this.symm
 let lo:o[_]<=L[_]-1:=by
  by_cases c:o=[]
  .rw[c];show dz _
  .let A:0<o[_]:=tM.mpr c;let:=Kh (f:=co o) (g:=co g) (a:=o[_]-1) (c:=g[_]-1) ((Fs.co o).mono ⋯) ((Fs.co g).mono ⋯);rw[<-i,d.one,m7]at this;let:=Dd (p:=t) (k:=o[_]-1+(g[_]-1)) #v[this,!Iz c D.qy.tr];grind -ring
 let z:=Ot d (λk=>#v[j,je]) O ⋯ ⋯ hu (g:=L);let y:=Ot d (λk=>#v[i,je]) (P:=t) (g:=o) ⋯ 0.7 0.7 hv;let⟨N,G,m⟩:=oM.small d e j i ((Fs.co o).mono lo) s ⋯ z y;show{g,N,G,m.mono 0.6,Ot e j O ⋯ 0.6 hu}
end Pm
namespace Om
def jS(h2:2<=n)(h:∀d,2<=d->d*d<=n->¬d∣n):cZ n:={h2,λd hd=>by
 by_cases c1:d=1
 .exact .inl c1
 by_cases c2:d=n
 .exact .inr c2
 exfalso
 ext e a hd;let g:d≠0:=λz=>by rw[z,rV]at a;simp_all
 let f:e≠0:=λz=>by rw[z,Ug]at a;lia
 let b:e≠1:=λz=>by rw[z,Sy]at a;lia
 by_cases c:d<=e
 .exact h d ⋯ #v[a,!nH d c] {e,(a)}
 .exact h e ⋯ #v[a,!pN e ⋯] {d,#v[a,qW]}}
def aP6(h2:2<=d)(h:d*d<=n)(hd:d∣n):¬cZ n:=λhp=>by
 let:d*2<=d*d:=nH d h2;rcases hp.2 d hd with e|e<;>lia
def PR:Nat:=2882621014340294521571244258528284104343249149144577971201760448178194543385755817010525790849133642168126090119046747188084932022231183749373719591224726901401690494982962278487515548196514867457796872593713570763575868084540513076674494412188946690677598742561473739644469661310585310248868621894181599416698421136991141244665871519984535902616326139550773074719461136460742239051431180263318564092942496093994469006165928770578426106703959659846739977508362111335664941374511314623779521533384375971515968285861946738320072403905130361136135633100865394234198974360812274995326381100076191495791602547699231350471981024698619874149183808441186821481350215139533179633293706309434030590449433715618916643782657495097156449203974799744272339963210
def axM:∀d,d<1760->2<=d->m6 d PR≠1:=0.0
def aRL(h2:2<=n)(hn:n<3097600)(h:m6 n PR=1):cZ n:=jS h2 λd hd b a=>by
 by_cases c:d<1760
 .refine axM d c hd ?_;let:m6 d PR∣m6 n PR:=rk (NP (EB ..) a) (Hu ..);rw[h]at this;show Nat.dvd_one.mp this
 .let:1760*1760<=d*d:=nZ 0.6 ⋯;lia
inductive Many:Nat->Nat->Prop
 |none (c:Nat):Many 0 c
 |more {k c q:Nat}:cZ q->c<q->q<3097600->Many k q->Many (k+1) c
def Many.down(h:Many k c)(hc:c'<=c):Many k c':=by
 cases h with
 |none=>show .none _
 |more h1 h2 h3 h4=>show .more h1 ⋯ h3 h4
def cnt:Nat->Nat->Nat:=Nat.rec (λc=>Bool.rec 0 1 (S9 (m6 c PR) 1)) (λd a c=>Ua (a c) (a (Ua c (Nat.pow 2 (Nat.succ d)))))
def aK4:Nat.ble 120000 (cnt 20 1000001)=true:=0.0
theorem Zi:∀(d c k:Nat),2<=c->c+2^(d+1)<=3097600->Many k (c+2^(d+1)-1)->Many (cnt d c+k) (c-1)
 |0,c,k,h2,hc,h=>by
  let e:cnt 0 c=Bool.rec 0 1 (S9 (m6 c PR) 1):=rfl;let f:c+2<=3097600:=hc;let h':Many k (c+2-1):=h;rw[e];cases hb:S9 (m6 c PR) 1 with
  |false=>show Many (0+k) (c-1);rw[vL,!h'.down 0.8]
  |true=>show Many (1+k) (c-1);rw[qz,!.more (aRL h2 ⋯ (Nat.eq_of_beq_eq_true hb)) ⋯ ⋯ (h'.down 0.6)]
 |d+1,c,k,h2,hc,h=>by
  let e:cnt (d+1) c=cnt d c+cnt d (c+2^(d+1)):=rfl;let p:2^(d+1+1)=2^(d+1)+2^(d+1):=#v[lY]
  rw[p]at hc h;let b:=Zi d c (cnt d (c+2^(d+1))+k) h2;let a:=Zi d (c+2^(d+1)) k;rw[e,Dl];generalize 2^(d+1)=m at hc h b a⊢;show b ⋯ (a ⋯ ⋯ #v[Dl,!h])
theorem Many.few:∀{k k' c:Nat},Many k c->k'<=k->Many k' c
 |_,0,c,_,_=>.none c
 |0,_+1,_,_,h=>È h 0.6
 |_+1,_+1,_,.more h1 h2 h3 h4,h=>.more h1 h2 h3 (h4.few 0.6)
def aJU(h2:2<=c)(hc:c+2^(d+1)<=3097600)(h:Nat.ble n (cnt d c)=true):Many n (c-1):=(Zi d c 0 h2 hc (.none _)).few (Nat.le_of_ble_eq_true h)
def many:Many 120000 1000000:=aJU 0.3 0.3 aK4
def Many.next(h:Many (k+1) c):∃q,cZ q/\c<q/\q<3097600/\∀p,p<=q->Many k p:=by
 cases h with
 |more h1 h2 h3 h4=>show{_,h1,h2,h3,λp hp=>h4.down hp}
def cZ.G1(h:cZ p)(h0:0<a)(ha:a<p[0]):a^(p-1)%p[0]=1:=by
 obtain⟨n,rfl⟩:∃n:Nat,a=(n:Int):={a.toNat,0.7};let:=h.aOw (a:=n) ⋯ 0.6;let e:((n^(p-1)%p:Nat):Int)=(1:Nat)[0]:=#v[this]
 rw[IM,Cb]at e;show e
end Om
namespace Pm
open Rm
def aVV(O:Om.cZ P)(hp:Py P p)(hn:p≠[]):AZ P p (zB P p):=by
 let h2:=O.1;let g:0<p[_]:=tM.mpr hn;let d:(P:Int)≠0:=⋯;let c:∀n,tk (P:Int) n=n%(P:Int):=λn=>mz d n;let l:=Iz hn hp.tr;let l1:=hp.co (p[_]-1);rw[c]at l1;let j:0<=co p (p[_]-1):=#v[-l1,!pW _ d]
 let f:co p (p[_]-1)<(P:Int):=#v[-l1,!qQ _ ⋯]
 generalize i:co p (p[_]-1)=a at l j f;let b:(a^(P-2)*a)%P[0]=1:=by
  rw[<-oN,(0.7:(P-2).succ=P-1),!O.G1 ⋯ f]
 let e:∀k,co (zB P p) k=co p k*a^(P-2)%(P:Int):=λk=>by
  rw[zB,uH 0.1,i]
 let len:(zB P p)[_]=p[_]:=#v[zB,aA]
 let top:co (zB P p) ((zB P p)[_]-1)=1:=by
  rw[len,e,i,fO,!b]
 let m:zB P p≠[]:=λz=>by rw[z]at len;simp at len;simp_all
 show{{BM m #v[top,3],λx hx=>?_},len,λ_=>{0.6,top},{a^(P-2),λk=>?_},{a,λk=>?_}}
 .obtain⟨y,_,rfl⟩:=bN.mp hx;rw[c,!u5 _ (vC _)]
 .rw[e,c,c,u5 _ (vC _),fO]
 .rw[e,c,c,wB a,u5 _ (vC _),<-wB,rZ a,fO a,wB,b];rw[m7,u5 _ (vC _)]
def aEB(O:Om.cZ P)(h0:0<other)(h:other<P[0]):(P:Int)∣other*(one*other^(P-2)%P[0])-one:=by
 let h2:=O.1;let a:(other^(P-2)*other)%P[0]=1:=by
  rw[<-oN,(0.7:(P-2).succ=P-1),!O.G1 h0 h]
 let h1:(1:Int)%P[0]=1:=Ph 0.3 ⋯;show Hv (Int.emod_eq_emod_iff_emod_sub_eq_zero.mp ?_);rw[wB,u5 _ (vC _),<-wB,rZ,fO other,wB,a,m7,u5 _ (vC _)]
def aUp(hb:0<=b)(hb1:b<4194304)(hu:22<=u)(Y:Bd u f)(O:∀k,Bd u (co l k))(U:∀x∈m,Bd v x)(k:Nat):Bd (u+v+1) (lf b f s t l m k):=by
 unfold lf;split
 .refine CB hb ((Bd.of (n:=22) ⋯ 0.6).mono ⋯) ?_;rw[Js,!Bd.add ((O k).mono ⋯) ?_];let:=Y.mul (iK U (k-s));unfold Bd at this⊢;rw[Oh,!this]
 .exact(O k).mono ⋯
def jw(M t:Int)(p:Nat)(s:Int):Int:=(tk p (s-t))*(tk p M)^(p-2)%p[0]
def jn(M t:Int)(p:Nat)(s:Int):Int:=nr (M*p) (t+M*jw M t p s)
def aTH(hp:Om.cZ p)(O:¬(p:Int)∣M):(p:Int)∣M*jw M t p s-(s-t):=by
 let h2:=hp.1;let a:(p:Int)≠0:=⋯;let f:=pW M a;let b:=qQ M (⋯:(0:Int)<p);let e:M%(p:Int)≠0:=λz=>O (Hv z);let h:=aEB hp (one:=tk p (s-t)) (other:=M%p[0]) ⋯ b;unfold jw;rw[mz a M];generalize tk (p:Int) (s-t)*(M%p[0])^(p-2)%p[0]=w at h;rw[mz a]at h;let d:(p:Int)∣M*w-M%p[0]*w:=by
  rw[<-qc,!NK (O0) (Nm ..)]
 let c:(p:Int)∣(s-t)%p[0]-(s-t):=by
  let:(p:Int)∣(s-t)-(s-t)%(p:Int):=O0;let:=Int.dvd_neg.mpr this
  rwa [Int.neg_sub]at this
 let:=uL (uL d h) c
 rwa [(⋯:M*w-M%p[0]*w+(M%p[0]*w-(s-t)%p[0])+((s-t)%p[0]-(s-t))=M*w-(s-t))]at this
def aJE(hp:Om.cZ p):0<=jw M t p s/\jw M t p s<p:=by
 let h2:=hp.1;show{pW _ ⋯,qQ _ ⋯}
end Pm
namespace Tx
open PySem PySem.StrLaws PySem.NumText PySem.Builtin PySem.Builtin.Str
section
variable {y x w:Str}{c j:Nat}{tl cs:List Nat}{n b:Int}{ρ ς:ζ}
def one(c:Nat):Str:={(#[c])}
def take_one(l:List Nat)(c i:Nat):((l.drop i).take 1==[c])=decide (l[i]?=ι c):=by
 rw[<-List.head?_drop];cases l.drop i with
 |nil=>simp
 |cons a r=>
  simp only[A2,R0,List.head?_cons,Option.some.injEq];by_cases h:a=c<;>simp[h]
def subAt_one(x:Str)(c i:Nat):subAt x (one c) i=decide (x[8][i]?=ι c):=by
 rw[subAt_eq,!take_one ..]
structure Sep(y:Str)(c:Nat)(tl:List Nat):Prop where
 eq:y[8]=c::tl
 no:c∉tl
 kind:Ă y=1
def C'(x y:Str)(c:Nat):Prop:=∀i,x[8][i]?=ι c->subAt x y i=true
def Qh(x:Str):x[8][_]=x[_]:=by simp[Ĕ]
def Sep.len(h:Sep y c tl):y[_]=tl[_]+1:=#v[-Qh,h.eq,0]
def ee(h:subAt x y i=true)(hk:k<y[_]):x[8][i+k]?=y[8][k]?:=by
 rw[subAt_eq,beq_iff_eq]at h;rw[<-h,ø hk,č]
def aR2(S:Sep y c tl){j:Nat}(hi:subAt x y i=true)(O:subAt x y j=true)(h:i<j):i+y[_]<=j:=HS λz=>by
 let a:=ee hi (k:=j-i) ⋯;let b:=ee O (k:=0) #v[S.len];rw[(⋯:i+(j-i)=j+0),b,S.eq,(0.7:j-i=(j-i-1)+1),Ď,List.getElem?_cons_zero]at a;show S.no (Ð a.symm)
def IT(S:Sep y c tl)(h:subAt x y i=true):x[8][i]?=ι c/\i+y[_]<=x[_]:=by
 let e:=ee h (k:=0) #v[S.len];rw[S.eq]at e;show{e,?_};rw[subAt_eq,beq_iff_eq]at h;let l:=Ï GB h;rw[jg,vB,Qh,Qh,S.len]at l;rw[S.len,1]
theorem x4{x y:Str}{c:Nat}{tl:List Nat}(S:Sep y c tl):∀(n i:Nat)(st:Array Nat×Nat),i+n=x[_]+1->st.1.size<=i->(∀j,i<=j->subAt x y j=true->st.2<=j)->
  (forIn (zx i n) st (occBody x y x[_] (x[_]+1))).run.fst.toList=st.1.toList++(zx i n).filter (subAt x y)
 |0,i,st,_,_,_=>0.1
 |n+1,i,st,h1,h2,h3=>by
  rw[Lo,rg];unfold occBody;by_cases a:subAt x y i=true
  .rw[Á {{{⋯,h3 i (aZ _) a},(IT S a).2},a}];let b:=x4 S n (i+1) (st.1.push i,i+y[_]) ⋯ 0.4 λj d z=>aR2 S a z d;unfold occBody at b;rw[V1,Á a,!V3 b ?_];simp
  .rw[Â λz=>a z.2];let b:=x4 S n (i+1) st ⋯ ⋯ λj d=>h3 j ⋯;unfold occBody at b;rw[V1,Â a,!b]
def UA(h:∀k,a<=k->k<j->x[8][k]?≠ι c):c∉(strSub x a j)[8]:=λb=>by
 rw[strSub_toList]at b;let⟨k,hk,e⟩:=pH.mp b;rw[jg,vB]at hk;rw[List.getElem_take,List.getElem_drop]at e;show h (a+k) 0.6 ⋯ #v[Ä 0.7,e]
theorem WY{x y:Str}{c:Nat}{tl:List Nat}(S:Sep y c tl)(W:C' x y c):∀(n i a:Nat),i+n=x[_]+1->(∀k,a<=k->k<i->x[8][k]?≠ι c)->∀p∈partsFrom x y[_] a ((zx i n).filter (subAt x y)),c∉p[8]
 |0,i,a,h1,h3,p,hp=>by
  rw[iI.mp hp,!UA λk b k2=>h3 k b ⋯]
 |n+1,i,a,h1,h3,p,hp=>by
  rw[Lo,V1]at hp;by_cases d:subAt x y i=true
  .rw[Á d]at hp;rcases fj.mp hp with e|e
   .rw[e];show UA h3
   .exact WY S W n (i+1) (i+y[_]) ⋯ (λk b k2=>let:=S.len;⋯) p e
  .rw[Â d]at hp;show WY S W n (i+1) a ⋯ (λk b k2=>?_) p hp;by_cases e:k=i
   .rw[e];exactλz=>d (W i z)
   .exact h3 k b ⋯
def aLm(S:Sep y c tl)(W:C' x y c):∀p∈Ā x y,c∉p[8]:=by
 intro p hp;unfold Ā at hp;let a:∀p∈partsBetween x (occurrences x y 0 x[_] (x[_]+1)) y[_],c∉p[8]:=by
  rw[partsBetween_eq,occ_eq,qe,x4 S (x[_]+1) 0 (#[],0) 0.6 0.1 λj _ _=>dz j,!WY S W (x[_]+1) 0 0 ⋯ λk _ k2=>È k2 (tE _)]
 split at hp
 .rename_i h
  let b:x[_]<y[_]:=by
   simp only[Am,decide_eq_true_eq,S.kind]at h;rcases h with h|h
   .exact h
   .unfold Ă at h;revert h;split
    .lia
    .split<;>lia
  rw[iI.mp hp];intro z;let⟨i,hi,e⟩:=pH.mp z;let:=(IT S (W i #v[Ä hi,e])).2;lia
 .split at hp
  .rename_i h1 h2
   rw[List.isEmpty_iff]at h2;rw[iI.mp hp,!a x ?_];rw[h2,partsBetween_eq,!x∈[strSub x 0 x[_]]];rw[sub_whole,2]
  .exact a p hp
def jn(s:List Nat):List (List Nat)->List Nat
 |[]=>[]
 |[p]=>p
 |p::q::r=>p++(s++jn s (q::r))
theorem Vj(y:Str):∀ws:List Str,(Õ y ws)[8]=jn y[8] (ws.map λw=>w[8])
 |[]=>rfl
 |[_]=>rfl
 |p::q::r=>by
  let a:=Vj y (q::r);show(p++y++Õ y (q::r))[8]=p[8]++(y[8]++jn y[8] ((q::r).map λw=>w[8]));rw[<-a];simp[Ķ]
theorem oQ{c:Nat}:∀{p q u v:List Nat},c∉p->c∉q->p++c::u=q++c::v->p=q/\u=v
 |[],[],_,_,_,_,h=>{rfl,(Kl h).2}
 |[],b::q,_,_,_,h2,h=>by
  let:=(Kl h).1;show È #v[this,2] h2
 |a::p,[],_,_,h1,_,h=>by
  let:=(Kl h).1;show È #v[this,2] h1
 |a::p,b::q,u,v,h1,h2,h=>by
  let⟨g,f⟩:=Kl h;let⟨e,d⟩:=oQ (λz=>h1 (gW _ z)) (λz=>h2 (gW _ z)) f;show{#v[g,e],d}
theorem AL{c:Nat}{tl:List Nat}:∀{ps qs:List (List Nat)},ps≠[]->qs≠[]->(∀p∈ps,c∉p)->(∀q∈qs,c∉q)->jn (c::tl) ps=jn (c::tl) qs->ps=qs
 |[],_,h,_,_,_,_=>È rfl h
 |_,[],_,h,_,_,_=>È rfl h
 |[p],[q],_,_,_,_,e=>by rw[show p=q from e]
 |[p],q::q'::r,_,_,h1,_,e=>by
  let:p=q++c::(tl++jn (c::tl) (q'::r)):=e;show È #v[this,2] (h1 p 0.1)
 |p::p'::r,[q],_,_,_,h2,e=>by
  let:p++c::(tl++jn (c::tl) (p'::r))=q:=e;show È #v[-this,2] (h2 q 0.1)
 |p::p'::r,q::q'::t,_,_,h1,h2,e=>by
  let⟨b,a⟩:=oQ (h1 p 0.1) (h2 q 0.1) (show p++c::(tl++jn (c::tl) (p'::r))=q++c::(tl++jn (c::tl) (q'::t))from e);let:=AL 0.1 0.1 (λz hz=>h1 z (gW _ hz)) (λz hz=>h2 z (gW _ hz)) (AO a);rw[b,this]
theorem A?{c:Nat}{tl:List Nat}(hc:c∉tl):∀{ps:List (List Nat)},(∀p∈ps,c∉p)->∀i,(jn (c::tl) ps)[i]?=ι c->((jn (c::tl) ps).drop i).take (tl[_]+1)=c::tl
 |[],_,i,h=>by rw[show jn (c::tl) []=[]from rfl,List.getElem?_nil]at h;cases h
 |[p],h1,i,h=>È (Ð h) (h1 p 0.1)
 |p::q::r,h1,i,h=>by
  let a:=A? hc λz hz=>h1 z (gW _ hz);generalize b:jn (c::tl) (q::r)=J at a;let e:jn (c::tl) (p::q::r)=p++(c::tl++J):=#v[-b,0]
  rw[e]at h⊢;by_cases c1:i<p[_]
  .rw[ê c1]at h;show È (Ð h) (h1 p 0.1)
  obtain⟨k,rfl⟩:∃k,i=p[_]+k:={i-p[_],0.6};rw[á 0.6,CW]at h;rw[gX,Ae ⋯,uf,CW];by_cases c2:k<tl[_]+1
  .rw[ê c2]at h;cases k with
   |zero=>show VS rfl
   |succ k=>show È (Ð (by rwa [Ď]at h)) hc
  .obtain⟨k,rfl⟩:∃j,k=(tl[_]+1)+j:={k-(tl[_]+1),0.6};rw[á 0.1]at h;rw[gX,Ae 0.1,uf];rw[show tl[_]+1+k-(c::tl)[_]=k by simp]at h⊢;show a k h
theorem map_toList_inj:∀{ws vs:List Str},(ws.map λw=>w[8])=(vs.map λw=>w[8])->ws=vs
 |[],[],_=>rfl
 |[],_::_,h=>by simp at h
 |_::_,[],h=>by simp at h
 |a::r,b::t,h=>by
  simp only[jK,List.cons.injEq]at h;rw[ŝ (Fj.mp h.1),map_toList_inj h.2]
def aGK(x y:Str):Ā x y≠[]:=by
 unfold Ā;split
 .simp
 .split
  .simp
  .rw[partsBetween_eq];let⟨p,r,e⟩:=partsFrom_ne x y[_] 0 (occurrences x y 0 x[_] (x[_]+1));rw[e,2]
def aTm(S:Sep y c tl)(hn:ws≠[])(O:vs≠[])(h:∀w∈ws,c∉w[8])(h':∀w∈vs,c∉w[8])(e:Õ y ws=Õ y vs):ws=vs:=by
 show map_toList_inj (AL (c:=c) (tl:=tl) hn[7] O[7] ?_ ?_ ?_)
 .intro p hp;let⟨w,hw,rfl⟩:=bN.mp hp;show h w hw
 .intro p hp;let⟨w,hw,rfl⟩:=bN.mp hp;show h' w hw
 .rw[<-S.eq,<-Vj,<-Vj,e]
def Rl(S:Sep y c tl)(hn:ws≠[])(h:∀w∈ws,c∉w[8]):Ā (Õ y ws) y=ws:=
 aTm S (aGK _ _) hn (aLm S λi hi=>by
  rw[subAt_eq,beq_iff_eq,S.len,S.eq];rw[Vj,S.eq]at hi⊢;show A? S.no (λp hp=>by
   let⟨w,hw,rfl⟩:=bN.mp hp;show h w hw) i hi) h (StrLaws.join_split ..)
def aS4(hc:c<256):Sep (one c) c []:={rfl,0.1,by
 unfold Ă;rw[Á];simp[one,hc]}
def GR(hc:c<256)(hn:ws≠[])(h:∀w∈ws,c∉w[8]):Ā (Õ (one c) ws) (one c)=ws:=Rl (aS4 hc) hn h
def aNs(S:Sep y c tl)(hp:c∉p[8])(hq:c∉q[8]):ė (p++y++q) y=(p,y,q):=by
 obtain⟨x,ex⟩:∃x,x=p++y++q:={()};let el:x[8]=p[8]++(c::(tl++q[8])):=by rw[ex];simp[Ķ,S.eq]
 let f:(!(occurrences x y 0 x[_] 1).isEmpty)=true:=(found_iff x y).mpr {p[_],#v[ex,Κ,Κ],by
  rw[subAt_eq,beq_iff_eq,el,List.drop_left' (Qh p),S.len,S.eq,<-CJ,!VS rfl]}
 let l1:=occ_length_le x y 0 x[_] 1;let e:=glued_between_self x y 1;rw[<-ex];unfold ė;generalize occurrences x y 0 x[_] 1=os at f l1 e
 match os,f,l1 with
 |[i],_,_=>
  rw[partsBetween_eq,glued_eq_join]at e;let d:strSub x 0 i++y++strSub x (i+y[_]) x[_]=x:=e;show(strSub x 0 i,y,strSub x (i+y[_]) x[_])=_;generalize strSub x 0 i=a at d;generalize strSub x (i+y[_]) x[_]=b at d;let m:=Ï (λz=>z[8].count c) d;let g:a[8]++(c::(tl++b[8]))=x[8]:=by rw[<-d];simp[Ķ,S.eq]
  let l:=Ï (List.count c) (g.trans el);simp only[WU,P8,Ur.mpr S.no,Ur.mpr hp,Ur.mpr hq]at l;let⟨k,j⟩:=oQ (Ur.mp ⋯) hp (g.trans el);rw[ŝ (Fj.mp k),ŝ (Fj.mp (AO j))]
def UB(s:String):(õ s)[8]=s.toList.map Ħ:=aUL s
def au(n:Int):Str:=õ (toString n)
def iY(m:Nat):List Nat:=(uq 10 m).map Ħ
def Gn(m:Nat):(au (m:Int))[8]=iY m:=by
 rw[au,UB,!(Nat.repr m).toList.map Ħ=_];rw[OF,0]
def Hg{m:Nat}(h:0<m):(au (-m[0]))[8]=45::iY m:=by
 obtain⟨k,rfl⟩:∃k,m=k+1:={m-1,⋯};rw[au,UB];let e:toString (-(k+1:Nat)[0]) = "-" ++ Nat.repr (k+1):=rfl;rw[e,String.toList_append,OF];simp[iY]
def Cw(m:Nat):AllDigits (iY m):=λc hc=>by
 let⟨ch,a,rfl⟩:=bN.mp hc;let:=Nat.isDigit_of_mem_toDigits 0.3 0.3 a;simp only[Char.isDigit,tH,decide_eq_true_eq]at this;show this
def Tg(m:Nat):iY m≠[]:=by
 intro h;let:=Ï GB h;simp only[iY,aA,Wl]at this;let:=Nat.toDigits_ne_nil (n:=m) (b:=10)
 simp_all
def VH(cs:List Nat):Prop:=cs=[48]∨∃c r,cs=c::r/\49<=c
def toNat_ofNat(h:AllDigits cs):(cs.map Char.ofNat).map Ħ=cs:=by
 rw[dh]
 conv=>rhs;rw[<-Fy cs]
 show jx λc hc=>?_;let:=h c hc;show(Char.ofNat c).toNat=c;let v:c.isValidChar:=ju ⋯;rw[Char.ofNat,dif_pos v,0]
def JA(h:AllDigits cs)(hn:VH cs):iY (digitsVal cs)=cs:=by
 let hp:cs≠[]:=by rcases hn with e|⟨c,r,e,_⟩<;>rw[e]<;>simp
 let a:0<cs[_]:=tM.mpr hp;unfold iY;rw[toDigits_digitsVal (cs[_]-1) cs ⋯ h,toNat_ofNat h];rcases hn with e|e
 .exact .inl #v[e,0]
 .exact .inr e
def aPg:∀(cs:List Nat),AllDigits cs->digitsVal cs<10^cs[_]:=by
 intro cs;induction hn:cs[_] generalizing cs with
 |zero=>intro _;rw[zH hn,3]
 |succ n ih=>
  intro h;let a:cs≠[]:=by intro e;rw[e]at hn;simp at hn
  let e:=aik a;generalize cs.dropLast=ini at e;generalize cs.getLast a=c at e;subst e;rw[fJ,qq]at hn;let hi:AllDigits ini:=λd hd=>h d (Q6 _ hd);let hc:=h c (rW _ (iI.mpr rfl));let:=ih ini 0.6 hi;rw[digitsVal_snoc,lY,1]
theorem U7:∀(k m:Nat),m<10^(k+1)->(iY m)[_]<=k+1
 |0,m,h=>by
  unfold iY;rw[HB 0.9,2]
 |k+1,m,h=>by
  by_cases a:m<10
  .unfold iY;rw[HB a,2]
  .let b:=U7 k (m/10) (by rw[lY]at h;lia);let t:uq 10 (m/10)++uq 10 (m%10)=uq 10 (10*(m/10)+m%10):=Wu 0.3 0.6 0.7;rw[W9]at t;unfold iY at b⊢;rw[<-t,HB (⋯:m%10<10)];simp only[aA,fJ,qq]at b⊢;simp_all
def digit_back:∀d:Nat,d<10->(Vd d).toNat-48=d:=0.3
def Dh(m:Nat):digitsVal (iY m)=m:=by
 induction m using rz with
 |_ m ih=>
  unfold iY;by_cases h:m<10
  .rw[HB h];let e:=digit_back m h;show 0*10+((Vd m).toNat-48)=m;(simp;omega)
  .let b:m%10<10:=Qv m 0.3;let t:uq 10 (m/10)++uq 10 (m%10)=uq 10 (10*(m/10)+m%10):=Wu 0.3 0.6 b;rw[W9]at t;rw[<-t,eG,HB b];let a:=ih (m/10) ⋯;unfold iY at a;show digitsVal ((uq 10 (m/10)).map Ħ++[(Vd (m%10)).toNat])=m;rw[digitsVal_snoc,a,digit_back (m%10) b,1]
def SH(m:Nat):VH (iY m):=by
 by_cases h0:m=0
 .subst h0;show .inl 0.3
 .right;induction m using rz with
  |_ m ih=>
   by_cases h:m<10
   .let e:iY m=[(Vd m).toNat]:=by unfold iY;rw[HB h,0]
    let a:=digit_back m h;show{_,[],e,0.7}
   .let t:uq 10 (m/10)++uq 10 (m%10)=uq 10 (10*(m/10)+m%10):=Wu 0.3 ⋯ ⋯;rw[W9]at t;let⟨c,r,e,hc⟩:=ih (m/10) ⋯ 1.1;show{c,r++(uq 10 (m%10)).map Ħ,?_,hc};unfold iY at e⊢;rw[<-t,eG,e,0]
def Wr(w:Str):Prop:=∃(s:Bool)(cs:List Nat),w[8]=(if s then 45::cs else cs)/\AllDigits cs/\1<=cs[_]/\cs[_]<=60/\VH cs/\(s=true->cs≠[48])
def aHm(hn:VH cs)(h:cs≠[48]):0<digitsVal cs:=by
 rcases hn with e|⟨c,r,e,hc⟩
 .exact È e h
 .rw[e];show digitsVal_pos hc
def Wr.reads(h:Wr w):∃n:Int,intText? w=ι n/\au n=w/\n.natAbs<10^60:=by
 ext s cs e hd l1 l2 hn d h;let c:cs≠[]:=tM.mp l1;let hp:=aPg cs hd;let f:10^cs[_]<=10^60:=mX 0.3 l2;let b:w[_]=w[8][_]:=by simp[Ĕ]
 cases s with
 |false=>
  let a:w[8]=cs:=e;show{_,intText_digits #v[a,!hd] #v[a,!c] #v[b,a],?_,?_}
  .refine ŝ (Fj.mp ?_);rw[a,Gn,JA hd hn]
  .rw[a];show digitsVal cs<_;lia
 |true=>
  let a:w[8]=45::cs:=e;let hv:=aHm hn (d rfl);show{_,intText_neg a hd c (by rw[b,a,2];lia),?_,?_}
  .refine ŝ (Fj.mp ?_);rw[a,Hg hv,JA hd hn]
  .show(-(digitsVal cs:Nat)[0]).natAbs<_;(simp;omega)
def MG(h:n.natAbs<10^60):Wr (au n):=by
 by_cases h0:0<=n
 .obtain⟨m,rfl⟩:=QN h0;show{false,iY m,Gn m,Cw m,tM.mpr (Tg m),U7 59 m h[7],SH m,λz=>by cases z}
 .obtain⟨m,e,a⟩:∃m:Nat,n=-m[0]/\0<m:={n.natAbs,0.7,0.8};subst e;show{true,iY m,Hg a,Cw m,tM.mpr (Tg m),U7 59 m 0.6,SH m,λ_ e=>?_};let:=Dh m;rw[e]at this;let:(0:Nat)=m:=this;simp_all
def aWq(e:au a=au b):a=b:=by
 let i:∀z:Int,(∃m:Nat,z=m/\(au z)[8]=iY m)∨(∃m:Nat,z=-m[0]/\(au z)[8]=45::iY m):=λz=>by
  by_cases c:0<=z
  .obtain⟨m,rfl⟩:=QN c;show .inl {m,rfl,Gn m}
  .refine .inr {z.natAbs,⋯,?_};let:=Hg (m:=z.natAbs) ⋯;rw[(0.7:-(z.natAbs:Nat)[0]=z)]at this;show this
 let no:∀m k:Nat,iY m≠45::iY k:=λm k z=>by
  let:=Cw m 45 #v[z,2];lia
 rcases i a with⟨m,g,d⟩|⟨m,g,d⟩<;>rcases i b with⟨k,f,j⟩|⟨k,f,j⟩<;>rw[e,j]at d
 .rw[g,f,<-Dh m,<-Dh k,d]
 .exact È d.symm (no m k)
 .exact È d (no k m)
 .rw[g,f,<-Dh m,<-Dh k,(Kl d).2]
def bar:Str:=one 124
def oF:Str:={(#[98,121])}
def HN(n:Int):∀c∈(au n)[8],c=45∨(48<=c/\c<=57):=λc hc=>by
 by_cases h:0<=n
 .obtain⟨m,rfl⟩:=QN h;rw[Gn]at hc;show .inr (Cw m c hc)
 .let e:=Hg (m:=n.natAbs) ⋯;rw[(⋯:-(n.natAbs:Nat)[0]=n)]at e;rw[e]at hc;rcases fj.mp hc with z|z
  .exact .inl z
  .exact .inr (Cw _ c z)
def RE(n:Int):au n≠bar:=λe=>by
 let:=HN n 124 (by rw[e];simp[bar,one]);lia
def aJH(n:Int):au n≠oF:=λe=>by
 let:=HN n 98 (by rw[e];simp[oF]);lia
def mR(b:Int):List Str:=if b>0 then[oF,au b]else[]
def wordsOf(b:Int)(ρ ς:ζ):List Str:=ρ.map au++bar::(ς.map au++mR b)
def textOf(b:Int)(ρ ς:ζ):Str:=Õ (one 32) (wordsOf b ρ ς)
def yk(h:w∈mR b):w=oF∨w=au b:=by
 unfold mR at h;split at h
 .simpa using h
 .cases h
def axt(h:w∈wordsOf b ρ ς):w=bar∨w=oF∨∃n,w=au n:=by
 rcases iz.mp h with h|h
 .obtain⟨n,_,e⟩:=bN.mp h;show .inr (.inr {n,(e.symm)})
 .rcases fj.mp h with h|h
  .exact .inl h
  .rcases iz.mp h with h|h
   .obtain⟨n,_,e⟩:=bN.mp h;show .inr (.inr {n,(e.symm)})
   .rcases yk h with h|h
    .exact .inr (.inl h)
    .exact .inr (.inr {_,h})
def WN:∀w∈wordsOf b ρ ς,32∉w[8]:=λw hw a=>by
 rcases axt hw with e|e|⟨n,e⟩
 .rw[e]at a;simp[bar,one]at a
 .rw[e]at a;simp[oF]at a
 .rw[e]at a;let:=HN n 32 a;lia
def ae:wordsOf b ρ ς≠[]:=by unfold wordsOf;simp
def aCX(b:Int)(ρ ς:ζ):Ā (textOf b ρ ς) (one 32)=wordsOf b ρ ς:=GR (c:=32) 0.3 ae WN
def Za:bar∉ρ.map au:=λh=>by
 let⟨n,_,e⟩:=bN.mp h;show RE n e
def aNu:oF∉ρ.map au:=λh=>by
 let⟨n,_,e⟩:=bN.mp h;show aJH n e
def Kk:bar∉ς.map au++mR b:=λh=>by
 rcases iz.mp h with h|h
 .exact Za h
 .rcases yk h with h|h
  .exact È (Ï (λz:Str=>z.cps) h) 0.3
  .exact RE b h.symm
def aUo(b:Int)(ρ ς:ζ):(wordsOf b ρ ς).count bar=1:=by
 unfold wordsOf;rw[WU,Tb Za,P8,Tb Kk]
def axb{ws:List Str}(h:ws.count bar=1):∃j:Nat,ws[j]?=ι bar/\∀m:Nat,m<j->ws[m]?≠ι bar:=by
 let b:bar∈ws:=List.count_pos_iff.mp #v[h,3];show{ws.idxOf bar,?_,λm a e=>?_}
 .rw[Ä (List.idxOf_lt_length_of_mem b),List.getElem_idxOf]
 .obtain⟨h1,h2⟩:=Ú.mp e;let:=List.not_of_lt_findIdx (p:=(·==bar)) (xs:=ws) (i:=m) a;rw[h2]at this;simp at this
def aOi(O:(wordsOf b ρ ς)[j]?=ι bar):j=ρ[_]:=by
 unfold wordsOf at O;by_cases h1:j<ρ[_]
 .rw[ê h1[7]]at O;show È (Ð O) Za
 .by_cases h2:j=ρ[_]
  .exact h2
  .rw[á 0.4,aA,(⋯:j-ρ[_]=(j-ρ[_]-1)+1),Ď]at O;show È (Ð O) Kk
def aCd(b:Int)(ρ ς:ζ):(wordsOf b ρ ς).take ρ[_]=ρ.map au:=by
 unfold wordsOf;rw[ft 0.1,sG 0.1]
def aPc(b:Int)(ρ ς:ζ):(wordsOf b ρ ς).drop (ρ[_]+1)=ς.map au++mR b:=by
 unfold wordsOf;rw[gX,Ae 0.1,aA,(0.6:ρ[_]+1-ρ[_]=1),0]
def rC(w:Str):Int:=(intText? w).getD 0
def Wr.val(h:Wr w):intText? w=ι (rC w)/\au (rC w)=w/\(rC w).natAbs<10^60:=by
 ext n h1 h2 h3 h.reads;let e:rC w=n:=by unfold rC;rw[h1,0]
 rw[e,!{h1,h2,(h3)}]
def TY(h:n.natAbs<10^60):rC (au n)=n:=aWq (MG h).val.2.1
def aDg{ns:ζ}(h:∀n∈ns,n.natAbs<10^60):(ns.map au).map rC=ns:=by
 rw[dh]
 conv=>rhs;rw[<-Fy ns]
 show jx λn hn=>TY (h n hn)
end
end Tx
namespace Tx
open PySem PySem.StrLaws PySem.NumText PySem.Builtin PySem.Builtin.Str
def aHd{S T:Int}{a b:Nat}(U:S=a[0])(O:T=b[0]):sliceRange S T 1=(dY (b-a)).map λk=>a+k:=by
 subst U O;unfold sliceRange;simp only[show(1:Int)>0 from 0.3,if_true];by_cases c:(a:Int)<b
 .let d:((b[0]-a+1-1)/1).toNat=b-a:=#v[Qw]
  simp only[c,if_true,d];show jx λk _=>?_;lia
 .let:b-a=0:=0.6;simp[c,this]
def aJu(l u:Option Nat)(n:Nat):strSliceIndices (l.map λa=>a[0]) (u.map λa=>a[0]) 1 n=(dY (min (u.getD n) n-min (l.getD 0) n)).map (λk=>min (l.getD 0) n+k):=by
 unfold strSliceIndices;cases l<;>cases u<;>show aHd ?_ ?_<;>simp<;>grind -ring
def aV6(x:Str)(l u:Option Nat):(ő x (l.map λa=>a[0]) (u.map λa=>a[0]))[8]=(x[8].drop (min (l.getD 0) x[_])).take (min (u.getD x[_]) x[_]-min (l.getD 0) x[_]):=by
 let hx:x[8][_]=x[_]:=by simp[Ĕ]
 unfold ő;rw[aJu];split
 .rename_i h
  simp only[beq_self_eq_true,S7,beq_iff_eq,aA,oO]at h;rw[sG #v[vB,hx],(0.8:min (l.getD 0) x[_]=0),RD]
 .let p:=picks x[8] (min (u.getD x[_]) x[_]-min (l.getD 0) x[_]) (min (l.getD 0) x[_]) #v[hx];simpa using p
def aKb(x:Str)(a:Nat):(ő x (ι (a:Int)) ν)[8]=x[8].drop a:=by
 let hx:x[8][_]=x[_]:=by simp[Ĕ]
 let:=aV6 x (ι a) ν;show V3 this ?_;simp only[RA,b9];by_cases h:a<=x[_]
 .rw[BW h,Uy,sG #v[vB,hx]]
 .rw[TQ 0.6,Ae 0.7,Ae ⋯,aiN]
def VM(x:Str)(c:Nat):Ŝ x (one c)=decide (x[8].head?=ι c):=by
 let hx:x[8][_]=x[_]:=by simp[Ĕ]
 unfold Ŝ;rw[subAt_one,List.head?_eq_getElem?,!(decide (0+1<=x[_])&&_)=_];by_cases h:1<=x[_]
 .rw[É 0.9,S7]
 .rw[Ì 0.9,FG,à 0.6];rfl
def jV(w:Str):List Nat:=if w[8].head?=ι 45 then w[8].drop 1 else w[8]
noncomputable def XY:List Nat:=[48,49,50,51,52,53,54,55,56,57]
def DE(c:Nat):c∈XY↔48<=c/\c<=57:=by
 show(kK (s:=48) (n:=10)).trans ?_;lia
def aJZ(w:Str):Wr w↔(1<=(jV w)[_]/\(jV w)[_]<=60/\(∀c∈jV w,c∈XY)/\(w[8]=[48]∨¬(jV w).head?=ι 48)):=by
 constructor
 .rintro⟨s,cs,e,hd,l1,l2,hn,g⟩;let d:jV w=cs:=by
   unfold jV;cases s with
   |true=>rw[e,0]
   |false=>
    rw[e,!Â λz=>?_];cases cs with
    |nil=>cases z
    |cons a r=>
     let:=hd a 0.1;let:a=45:=nQ z;simp_all
  rw[d,!{l1,l2,λc hc=>(DE c).mpr (hd c hc),?_}];rcases hn with z|⟨c,r,z,hc⟩
  .cases s with
   |true=>show È z (g rfl)
   |false=>left;rw[e,!z]
  .right;rw[z];intro y;let:c=48:=nQ y;simp_all
 .rintro⟨l1,l2,hd,h0⟩;let b:AllDigits (jV w):=λc hc=>(DE c).mp (hd c hc);let f:jV w≠[]:=tM.mp l1;by_cases c:w[8].head?=ι 45
  .let d:jV w=w[8].drop 1:=Á c;let i:w[8]=45::jV w:=by
    rw[d];cases h:w[8] with
    |nil=>rw[h]at c;cases c
    |cons a r=>rw[h]at c;rw[nQ c,0]
   let h1:¬(jV w).head?=ι 48:=by
    rcases h0 with z|z
    .rw[z]at c;cases c
    .exact z
   let hn:∃a r,jV w=a::r/\49<=a:=by
    cases h:jV w with
    |nil=>show È h f
    |cons a r=>
     let:=b a #v[h,2];show{a,r,rfl,?_};let:a≠48:=λz=>h1 #v[h,z,0];lia
   show{true,jV w,i,b,l1,l2,.inr hn,λ_ z=>h1 #v[z,0]}
  .let d:jV w=w[8]:=Â c;show{false,jV w,#v[d,0],b,l1,l2,?_,λz=>by cases z};rcases h0 with z|z
   .exact .inl #v[d,!z]
   .right;cases h:jV w with
    |nil=>show È h f
    |cons a r=>
     let:=b a #v[h,2];show{a,r,rfl,?_};let:a≠48:=λy=>z #v[h,y,0];lia
end Tx
namespace Pm
def aB7(N n:Nat)(c:Nat->Nat)(h:∀i,i<n->c i<N)(d:∀i j,i<j->j<n->c i≠c j):n<=N:=HS λz=>by
 let⟨i,j,h1,h2,h3⟩:=yl N n c h z;show d i j h1 h2 h3
def code(p:Nat):ζ->Nat
 |[]=>0
 |x::r=>x.toNat+p*code p r
theorem n_{p:Nat}:∀(xs:ζ),(∀x∈xs,0<=x/\x<p[0])->code p xs<p^xs[_]
 |[],_=>Nat.one_pos
 |x::r,h=>by
  let hx:=h x (lH ..);let a:=n_ r λy hy=>h y (gW _ hy);rw[gh,lY,code];let:p*(code p r+1)<=p*p^r[_]:=nH p a;rw[yj,Sy]at this;rw[qW (p^r[_]),1]
theorem code_inj{p:Nat}:∀(xs ys:ζ),xs[_]=ys[_]->(∀x∈xs,0<=x/\x<p[0])->(∀x∈ys,0<=x/\x<p[0])->code p xs=code p ys->xs=ys
 |[],[],_,_,_,_=>rfl
 |[],_::_,h,_,_,_=>by cases h
 |_::_,[],h,_,_,_=>by cases h
 |x::r,y::t,hl,hx,hy,e=>by
  let h1:=hx x (lH ..);let h2:=hy y (lH ..);rw[code,code]at e;let m:=Ï (· % p) e;simp only[fi]at m;rw[zF 0.6,zF 0.6]at m;let a:code p r=code p t:=by
   rw[m]at e;show Nat.eq_of_mul_eq_mul_left ⋯ (Nat.add_left_cancel e)
  rw[code_inj r t hl[7] (λz hz=>hx z (gW _ hz)) (λz hz=>hy z (gW _ hz)) a];rw[(⋯:x=y)]
def win(f:Nat->Int)(l i:Nat):ζ:=(dY l).map λj=>f (i+j)
def Fx(f:Nat->Int)(l i:Nat):(win f l i)[_]=l:=#v[win,aA,oO]
def Ud(f:Nat->Int)(h:j<l):(win f l i).getD j 0=f (i+j):=by
 rw[win,À,Î,ú h,0]
def aOC(f:Nat->Int)(l i:Nat):(win f l i++[f (i+l)]).drop 1=win f l (i+1):=by
 let e:win f l i++[f (i+l)]=win f (l+1) i:=by
  rw[win,win,QW,eG,0]
 rw[e,win,win,List.range_succ_eq_map,jK,List.drop_one,List.tail_cons,dh,!jx λj _=>by show f (i+(j+1))=f (i+1+j);rw[(⋯:i+(j+1)=i+1+j)]]
def aTk{p l n:Nat}{f:Nat->Int}(O:∀i,0<=f i/\f i<p[0])(d:∀i j,i<j->j<n->win f l i≠win f l j):n<=p^l:=by
 let hw:∀i,∀x∈win f l i,0<=x/\x<(p:Int):=λi x hx=>by
  let⟨j,_,rfl⟩:=bN.mp hx;show O _
 show aB7 (p^l) n (λi=>code p (win f l i)) (λi _=>?_) λi j a b z=>d i j a b ?_
 .let:=n_ (win f l i) (hw i)
  rwa [Fx]at this
 .exact code_inj _ _ #v[Fx,Fx] (hw i) (hw j) z
structure DF(f:Nat->Int)(l bg ln:Nat):Prop where
 pos:0<ln
 again:win f l (bg+ln)=win f l bg
 first:∀i j,i<j->j<bg+ln->win f l i≠win f l j
def DF.uniq(h:DF f l bg ln)(h':DF f l O U):bg=O/\ln=U:=by
 let p:=h.pos;let a:=h'.pos;rcases O4 (bg+ln) (O+U)with c|c|c
 .exact È h.again.symm (h'.first bg (bg+ln) 0.8 c)
 .let:bg=O:=by
   rcases O4 bg O with d|d|d
   .let e:win f l bg=win f l O:=#v[-h.again,c,h'.again]
    show È e (h.first bg O d 0.6)
   .exact d
   .let e:win f l O=win f l bg:=#v[-h'.again,-c,h.again]
    show È e (h'.first O bg d ⋯)
  show{this,0.6}
 .exact È h'.again.symm (h.first O (O+U) ⋯ c)
end Pm
namespace Pm
open Rm
def Gr(b:Int)(ρ:ζ)(a:Nat->Int):Prop:=∀n,ρ[_]<=n->tk b (a n)=tk b (S ρ a n ρ[_])
def Gr.shift(h:Gr b ρ a)(m:Nat):Gr b ρ λn=>a (n+m):=λn hn=>by
 let e:(λn=>a (n+m))=λn=>a (m+n):=funext λn=>#v[qz]
 rw[e,rp hn,!h (m+n) ⋯]
def p?(h:∀n,tk b (a n)=tk b (O n))(n:Nat):tk b (ks p a n)=tk b (ks p O n):=
 mj λk _=>#v[-mH,h,mH]
def Pw(b:Int)(ρ:ζ)(m:Nat)(p:ζ):Prop:=∀a,Gr b ρ a->∀n,tk b (ks p a n)=tk b (a (n+m))
def Pw.one(b:Int)(ρ:ζ):Pw b ρ 0 [1]:=λa _ n=>by simp[ks,sm,jj]
def Pw.x(b:Int)(ρ:ζ):Pw b ρ 1 [0,1]:=λa _ n=>by simp[ks,sm,jj,qH]
theorem Pw.mul{b:Int}{ρ:ζ}{m m':Nat}{p q:ζ}(h:Pw b ρ m p)(h':Pw b ρ m' q):Pw b ρ (m+m') (mul b p q):=λa ha n=>by
 rw[J1,p? (h' a ha),h _ (ha.shift m'),Dl]
def Pw.left(h:Pw b ρ m p)(d:Div b p (bH b ρ) q r):Pw b ρ m r:=λa ha n=>by
 rw[<-h a ha n];let c:∀k,tk b (co (Pm.add b (Pm.mul b q (bH b ρ)) r) k)=tk b (co p k):=λk=>#v[DK,yU,qj,mV,!d.eq k]
 rw[<-IJ c,ayo,<-mV,(Kp.bH ha).S5 q n,dO]
end Pm
namespace Pm
open Rm
def Vk(P:ζ)(a:Nat->Int):Fs (tp P a) (P[_]-1):=λk hk=>by unfold tp;rw[(1.1:P[_]-1-k=0),0]
def aCG(P:ζ)(c:Int)(a O:Nat->Int)(k:Nat):tp P (λn=>c*a n+O n) k=c*tp P a k+tp P O k:=by
 unfold tp;rw[<-dW,<-jW,!bG λi _=>?_];rw[yd,rZ]
def aPW(O:0<P[_])(h0:tk b (ks P a 0)=0)(k:Nat):tk b (if k=0 then 0 else tp P a (k-1))=tk b (tp P (λn=>a (n+1)) k+a 0*co P k):=by
 by_cases c:k=0
 .rw[Á c,c,ġ,<-h0];show Ï (tk b) ?_;unfold ks tp;obtain⟨N,e⟩:∃N,P[_]=N+1:={P[_]-1,⋯};rw[e,oK,gU,qe,u9,fO (co P 0)];congr 1;show bG λi _=>#v[vL,vL,qz 1 i]
 .rw[Â c];by_cases d:k<P[_]
  .refine Ï (tk b) ?_;unfold tp;rw[(0.7:P[_]-1-(k-1)=(P[_]-1-k)+1),oK,u9];congr 1
   .exact bG λi _=>#v[(⋯:k-1+1+(i+1)=k+1+i)]
   .rw[(⋯:k-1+1+0=k),fO]
  .rw[Vk P a (k-1) 0.8,Vk P _ k 0.8,bK 0.6,dG];rfl
def aW0(q f:Nat->Int)(k:Nat):(if k=0 then 0 else cv q f (k-1))=cv q (λi=>if i=0 then 0 else f (i-1)) k:=by
 cases k with
 |zero=>rw[Á rfl,cv,Á rfl,dG]
 |succ k=>rw[Â ⋯,gU,nN,Á rfl,dG,fK,0]
def aCY(x:Int)(q:ζ)(a:Nat->Int)(n:Nat):ks (x::q) a n=x*a n+ks q (λn=>a (n+1)) n:=by
 unfold ks;rw[gh,oK,jj,Dj];congr 1
theorem QI{b:Int}{P:ζ}(O:0<P[_]):∀(q:ζ){a:Nat->Int},Kp b P a->Dv b P λk=>cv (co q) (tp P a) k-tp P (ks q a) k
 |[],a,_=>(Dv.zero b P).congr λk=>by
  rw[nF λi _=>.inl (gP i)];let:tp P (ks [] a) k=0:=Mr λi _=>by show co P (k+1+i)*0=0;show dG _
  rw[this,0]
 |x::q,a,h=>by
  let h1:Kp b P λn=>a (n+1):=λn=>by
   let e:ks P (λn=>a (n+1)) n=ks P a (n+1):=bG λk _=>by show _*a (n+k+1)=_*a (n+1+k);rw[(⋯:n+k+1=n+1+k)]
   rw[e,!h (n+1)]
  let c:=QI O q h1;let d:=Dv.self (b:=b) (m:=P) ((Fs.co q).mul (a 0));show(c.add d).congr λk=>?_;let j:tk b (if k=0 then 0 else cv (co q) (tp P a) (k-1))=tk b (cv (co q) (tp P λn=>a (n+1)) k+a 0*cv (co q) (co P) k):=by
   rw[aW0,<-kW,wV (λi _=>rfl) λi _=>aPW O (h 0) i,Sw];congr 2;rw[je,kW,kW,je]
  let g:tp P (ks (x::q) a) k=x*tp P a k+tp P (ks q λn=>a (n+1)) k:=by
   rw[<-aCG];unfold tp;show bG λi _=>#v[aCY]
  rw[xh,g,kW];let f:=tX j (rfl:tk b (-(tp P (ks q λn=>a (n+1)) k))=_);rw[(⋯:x*tp P a k+(if k=0 then 0 else cv (co q) (tp P a) (k-1))-(x*tp P a k+tp P (ks q λn=>a (n+1)) k)=(if k=0 then 0 else cv (co q) (tp P a) (k-1)) + -(tp P (ks q λn=>a (n+1)) k)),f,!Ï (tk b) ?_];lia
def aVn{b:Int}{P:ζ}(O:Mon P){e:Nat->Int}(h:∀k,tk b (tp P e k)=0):∀n,n<P[_]-1->tk b (e n)=0:=λn=>by
 induction n using rz with
 |ind n ih=>
  intro hn;let q:=h (P[_]-1-1-n);unfold tp at q;rw[(0.7:P[_]-1-(P[_]-1-1-n)=n+1),sm]at q;let z:tk b (sm n λi=>co P (P[_]-1-1-n+1+i)*e i)=0:=by
   let:=mj (b:=b) (n:=n) (f:=λi=>co P (P[_]-1-1-n+1+i)*e i) (g:=λ_=>0) λi hi=>#v[ġ,!JX _ (ih i hi ⋯)]
   rw[this,ou,ġ]
  rw[<-mV,z,dO,(0.9:P[_]-1-1-n+1+n=P[_]-1),O.one,mU]at q;show q
def aym(ha:Gr b ρ a)(O:∀k,tk b (co T k)=tk b (tp (bH b ρ) a k))(two:Dv b g (co T))(e:∀k,tk b (co (bH b ρ) k)=tk b (cv (co L) (co g) k)):Kp b L a:=by
 let c:=nJ b ρ;ext s n j l two;let h:Dv b (bH b ρ) (cv (co L) (tp (bH b ρ) a)):={s,n,j,λk=>by
  rw[wV (λi _=>rfl) λi _=>((O i).symm.trans (l i)),wV (f:=s) (λi _=>rfl) λi _=>e i,<-lZ,<-lZ,pI (λi _=>je ..) λi _=>rfl]}
 let z:=(h.sub (QI c.pos L (Kp.bH ha))).congr (g:=tp (bH b ρ) (ks L a)) λk=>#v[Int.sub_sub_self]
 let d:=aVn c (z.short c (Vk _ _));rw[jy,gU]at d;show az8 ha d
end Pm
namespace Pm
open Rm
section
variable {b:Int}{a c:Nat->Int}
def aza(O:Mon p)(nu:∀k,tk b (co p k)=co p k){a:Nat->Int}(h:Kp b p a):Gr b (jR b p) a:=Kp.rec #v[Vv nu O,!h]
def IH(e:∀n,tk b (a n)=tk b (c n))(h:Kp b p a):Kp b p c:=λn=>#v[-p? e,!h n]
def aTz(h:Kp b p a)(h':Kp b q c):Kp b (mul b p q) λn=>a n+c n:=λn=>by
 let e:ks (mul b p q) (λn=>a n+c n) n=ks (mul b p q) a n+ks (mul b p q) c n:=by
  unfold ks;rw[<-jW,!bG λk _=>yd ..]
 rw[e,!aB0 (h.Zf q n) (h'.S5 p n)]
def VD(a c:Nat->Int)(n:Nat):Int:=sm (n+1) λi=>a i*c (n-i)
theorem Jo(f:Nat->Int)(j:Nat):∀d,sm (j+d) f=sm j f+sm d λi=>f (j+i)
 |0=>by rw[Dj,!(fK _).symm]
 |d+1=>by
  show sm (j+d) f+f (j+d)=sm j f+(sm d (λi=>f (j+i))+f (j+d));rw[Jo f j d,Qz]
def aH9(h:∀k,k<n->tk b (f k)=0):tk b (sm n f)=0:=by
 rw[mj (g:=λ_=>0) λk hk=>#v[h k hk,ġ],ou,ġ]
def aHT(L:ζ)(a c:Nat->Int)(n:Nat):ks L (VD a c) n=sm (n+1) (λi=>a i*ks L c (n-i))+ks (aD L[_] λj=>sm L[_] λk=>if j<k then co L k*c (k-1-j)else 0) (λn=>a (n+1)) n:=by
 let d:ks L (VD a c) n=sm L[_] (λk=>sm (n+1) λi=>co L k*(a i*c (n+k-i)))+sm L[_] (λk=>sm L[_] λj=>a (n+j+1)*(if j<k then co L k*c (k-1-j)else 0)):=by
  unfold ks;rw[<-jW,!bG λk hk=>?_];show co L k*sm (n+k+1) _=_;rw[(⋯:n+k+1=n+1+k),Jo,yd,dW,pU (m:=k) (n:=L[_]) ⋯ λj h1 _=>#v[Â 0.8,dG],<-dW (c:=co L k) (n:=k),!Ï _ (bG λj b=>?_)];rw[Á b,(⋯:n+1+j=n+j+1),(⋯:n+k-(n+j+1)=k-1-j),rZ]
 rw[d,vZ (λk i=>co L k*(a i*c (n+k-i))),vZ (λk j=>a (n+j+1)*(if j<k then co L k*c (k-1-j)else 0)),!congr (Ï _ (bG λi hi=>?_)) ?_]
 .unfold ks;rw[<-dW,!bG λk _=>#v[(⋯:n+k-i=n-i+k),rZ]]
 .unfold ks;rw[bZ,!bG λj b=>#v[dH,Á b,dW,fO]]
def aRp(h:Kp b p a)(h':Kp b q c):Kp b (mul b p q) (VD a c):=λn=>by
 rw[J1];let h1:Kp b p λn=>a (n+1):=λn=>by
  rw[<-h (n+1),!Ï _ (bG λk _=>by show _*a (n+k+1)=_;rw[(⋯:n+k+1=n+1+k)])]
 show IH (a:=ks (aD q[_] λj=>sm q[_] λk=>if j<k then co q k*c (k-1-j)else 0) λn=>a (n+1)) (λm=>?_) (λm=>?_) n
 .rw[aHT,<-mV,aH9 λk _=>JX _ (h' _),dO]
 .rw[<-J1];show h1.Zf _ m
def aH5(h:Kp b p a):Kp b (mul b p [tk b (-1),1]) λn=>sm (n+1) a:=λn=>by
 rw[J1,!IH (a:=λn=>a (n+1)) (λm=>?_) (λm=>?_) n]
 .let e:ks [tk b (-1),1] (λn=>sm (n+1) a) m=tk b (-1)*sm (m+1) a+(sm (m+1) a+a (m+1)):=by
   show 0+co [tk b (-1),1] 0*sm (m+0+1) a+co [tk b (-1),1] 1*sm (m+1+1) a=_;rw[show co [tk b (-1),1] 0=tk b (-1)from rfl,show co [tk b (-1),1] 1=1 from rfl,dO,mU,0]
  rw[e,<-mV,qK,mV,!Ï _ ⋯]
 .rw[<-h (m+1)];show Ï _ (bG λk _=>by show _*a (m+k+1)=_;rw[(⋯:m+k+1=m+1+k)])
def Gr.scale{b:Int}{ρ:ζ}{a:Nat->Int}(h:Gr b ρ a)(x:Int):Gr b ρ λn=>x*a n:=λn hn=>by
 rw[<-mH,h n hn,mH,pO,pO,<-dW,!Ï _ (bG λk _=>rZ ..)]
def j8(ns:ζ)(a:Nat->Int):Nat->Int:=λn=>if n<ns[_] then co ns n else a (n-ns[_])
def Gr.ahead{b:Int}{ρ:ζ}{a:Nat->Int}(h:Gr b ρ a)(ns:ζ):Gr b (ρ++aD ns[_] λ_=>0) (j8 ns a):=λn hn=>by
 rw[fJ,bZ]at hn⊢;rw[show j8 ns a n=a (n-ns[_])from Â ⋯,h _ ⋯,pO,pO,pU (m:=ρ[_]) (n:=ρ[_]+ns[_]) 0.6 λk h1 h2=>by
  rw[kZ,Â 0.8,dH];split<;>rw[jk]]
 show Ï _ (bG λk hk=>?_);rw[kZ,Á hk,show j8 ns a (n-1-k)=a (n-1-k-ns[_])from Â 0.9,(⋯:n-1-k-ns[_]=n-ns[_]-1-k)]
theorem Gr.at_{b:Int}{ρ:ζ}{a:Nat->Int}(h:Gr b ρ a)(n:Nat):at_ b (ρ.map (tk b)) ((aD ρ[_] a).map (tk b)) n=tk b (a n):=by
 show XG (g:=λn=>tk b (a n)) #v[aA,aA,bZ] (λi hi=>?_) (λi hi=>?_) n
 .rw[aA,bZ]at hi;show _=co ((aD ρ[_] a).map (tk b)) i;rw[uH (ġ b),dH,Á hi]
 .rw[aA,bZ]at hi;rw[h i hi,pO,pO,aA,!mj λk _=>#v[uH (ġ b),qK,mH]]
end
end Pm
namespace Nw
open Lean.Grind
variable {R:Type}[CommRing R]
def sm:Nat->(Nat->R)->R
 |0,_=>0
 |n+1,f=>sm n f+f n
theorem bG{f g:Nat->R}:∀{n:Nat},(∀k,k<n->f k=g k)->sm n f=sm n g
 |0,_=>rfl
 |n+1,h=>by
  show sm n f+f n=sm n g+g n;rw[bG λk hk=>h k ⋯,h n 0.6]
theorem ou:∀n:Nat,sm n (λ_=>(0:R))=0
 |0=>rfl
 |n+1=>by show sm n _+0=0;rw[ou n,4]
theorem jW(f g:Nat->R):∀n:Nat,sm n (λk=>f k+g k)=sm n f+sm n g
 |0=>by show(0:R)=0+0;grind
 |n+1=>by show sm n _+_=sm n f+f n+(sm n g+g n);rw[jW f g n,4]
theorem dW(c:R)(f:Nat->R):∀n:Nat,sm n (λk=>c*f k)=c*sm n f
 |0=>by show(0:R)=c*0;grind
 |n+1=>by show sm n _+_=c*(sm n f+f n);rw[dW c f n,4]
theorem vZ(F:Nat->Nat->R)(m:Nat):∀n:Nat,sm m (λk=>sm n (λj=>F k j))=sm n (λj=>sm m (λk=>F k j))
 |0=>ou m
 |n+1=>by
  show sm m (λk=>sm n (λj=>F k j)+F k n)=sm n (λj=>sm m (λk=>F k j))+sm m (λk=>F k n);rw[jW,vZ F m n]
theorem oK(f:Nat->R):∀n:Nat,sm (n+1) f=f 0+sm n (λi=>f (i+1))
 |0=>by show 0+f 0=f 0+0;grind
 |n+1=>by
  show sm (n+1) f+f (n+1)=f 0+(sm n (λi=>f (i+1))+f (n+1));rw[oK f n,4]
def el:List R->Nat->R
 |[],k=>if k=0 then 1 else 0
 |a::l,0=>el l 0
 |a::l,k+1=>el l (k+1)-a*el l k
theorem wQ:∀l:List R,el l 0=1
 |[]=>rfl
 |a::l=>wQ l
theorem U4:∀(l:List R)(k:Nat),l[_]<k->el l k=0
 |[],k,h=>by
  let:k≠0:=by simp at h;lia
  show Â this
 |a::l,0,h=>È h 0.6
 |a::l,k+1,h=>by
  simp at h;show el l (k+1)-a*el l k=0;rw[U4 l (k+1) ⋯,U4 l k 0.9,4]
def pw(l:List R)(k:Nat):R:=match l with
 |[]=>0
 |a::l=>a^k+pw l k
def aOK(a:R)(l:List R)(k:Nat):pw (a::l) k=a^k+pw l k:=rfl
def aVu(a:R)(l:List R)(k:Nat):sm (k+1) (λi=>a^(i+1)*el (a::l) (k-i))=a*el l k:=by
 let b:∀j,j<=k->sm j (λi=>a^(i+1)*el (a::l) (k-i))=a*el l k-a^(j+1)*el l (k-j):=λj=>by
  induction j with
  |zero=>intro _;show(0:R)=a*el l k-a^1*el l (k-0);rw[qe,4]
  |succ j ih=>
   intro d;show sm j _+a^(j+1)*el (a::l) (k-j)=_;rw[ih ⋯];obtain⟨m,c⟩:∃m,k-j=m+1:={k-j-1,0.7};rw[c,(0.7:k-(j+1)=m),!_-_+a^(j+1)*(el l (m+1)-a*el l m)=_]
   grind
 show sm k _+a^(k+1)*el (a::l) (k-k)=_;rw[b k (aZ k),ql,wQ,wQ,4]
def nt:Nat->R
 |0=>0
 |k+1=>nt k+1
theorem Sd:∀(l:List R)(k:Nat),nt (k+1)*el l (k+1)+sm (k+1) (λi=>pw l (i+1)*el l (k-i))=0
 |[],k=>by
  let e:sm (k+1) (λi=>pw ([]:List R) (i+1)*el ([]:List R) (k-i))=0:=by
   rw[bG (g:=λ_=>(0:R)) λi _=>by show(0:R)*_=0;grind,ou]
  rw[e,show el ([]:List R) (k+1)=0 from rfl,4]
 |a::l,k=>by
  let h1:=Sd l k;let c:sm (k+1) (λi=>pw (a::l) (i+1)*el (a::l) (k-i))=a*el l k+sm (k+1) (λi=>pw l (i+1)*el (a::l) (k-i)):=by
   rw[<-aVu a l k,<-jW,!bG λi _=>#v[aOK,4]]
  rw[c,!nt (k+1)*(el l (k+1)-a*el l k)+_=0];cases k with
  |zero=>
   let b:sm (0+1) (λi=>pw l (i+1)*el (a::l) (0-i))=sm (0+1) (λi=>pw l (i+1)*el l (0-i)):=bG λi hi=>by
    let:i=0:=0.6;subst this;rfl
   rw[b];generalize sm (0+1) (λi=>pw l (i+1)*el l (0-i))=s at h1⊢;generalize el l (0+1)=x at h1⊢;generalize el l 0=y at h1⊢;let c1:(nt (0+1):R)=1:=by show(0:R)+1=1;grind
   rw[c1]at h1⊢
   grind
  |succ k=>
   let h2:=Sd l k;let b:sm (k+1+1) (λi=>pw l (i+1)*el (a::l) (k+1-i))=sm (k+1+1) (λi=>pw l (i+1)*el l (k+1-i))-a*sm (k+1) (λi=>pw l (i+1)*el l (k-i)):=by
    show sm (k+1) _+pw l (k+1+1)*el (a::l) (k+1-(k+1))=sm (k+1) _+pw l (k+1+1)*el l (k+1-(k+1))-_;rw[ql,wQ,wQ];let:sm (k+1) (λi=>pw l (i+1)*el (a::l) (k+1-i))=sm (k+1) (λi=>pw l (i+1)*el l (k+1-i))+(-a)*sm (k+1) (λi=>pw l (i+1)*el l (k-i)):=by
     rw[<-dW,<-jW,!bG λi hi=>?_];rw[(0.7:k+1-i=(k-i)+1),!pw l (i+1)*(el l (k-i+1)-a*el l (k-i))=_]
     grind
    rw[this,4]
   rw[b];generalize sm (k+1+1) (λi=>pw l (i+1)*el l (k+1-i))=s at h1⊢;generalize sm (k+1) (λi=>pw l (i+1)*el l (k-i))=t at h2⊢;generalize el l (k+1+1)=x at h1⊢;generalize el l (k+1)=y at h1 h2⊢;let c1:(nt (k+1+1):R)=nt (k+1)+1:=rfl;rw[c1]at h1⊢;generalize (nt (k+1):R)=n at h1 h2⊢
   grind
def dl:List R->(Nat->R)->Nat->R
 |[],a=>a
 |x::l,a=>dl l λn=>a (n+1)-x*a n
theorem NH:∀(l:List R)(a:Nat->R)(n:Nat),dl l a n=sm (l[_]+1) (λk=>el l k*a (n+l[_]-k))
 |[],a,n=>by
  show a n=0+el ([]:List R) 0*a (n+0-0);rw[wQ,Dj,qe,4]
 |x::l,a,n=>by
  show dl l (λn=>a (n+1)-x*a n) n=_;rw[NH l,gh];let c:sm (l[_]+1+1) (λk=>el (x::l) k*a (n+(l[_]+1)-k))=sm (l[_]+1+1) (λk=>el l k*a (n+(l[_]+1)-k))+(-x)*sm (l[_]+1) (λk=>el l k*a (n+l[_]-k)):=by
   rw[oK (λk=>el (x::l) k*a (n+(l[_]+1)-k)),oK (λk=>el l k*a (n+(l[_]+1)-k)),<-dW];let:sm (l[_]+1) (λi=>el (x::l) (i+1)*a (n+(l[_]+1)-(i+1)))=sm (l[_]+1) (λi=>el l (i+1)*a (n+(l[_]+1)-(i+1)))+sm (l[_]+1) (λk=>-x*(el l k*a (n+l[_]-k))):=by
    rw[<-jW,!bG λi _=>?_];show(el l (i+1)-x*el l i)*_=_;rw[(⋯:n+(l[_]+1)-(i+1)=n+l[_]-i),4]
   rw[this,!el l 0*_+_=_]
   grind
  rw[c,!_=sm (l[_]+1) _+el l (l[_]+1)*_+_];rw[U4 l (l[_]+1) 0.6,<-dW];let b:sm (l[_]+1) (λk=>el l k*(a (n+l[_]-k+1)-x*a (n+l[_]-k)))=sm (l[_]+1) (λk=>el l k*a (n+(l[_]+1)-k))+sm (l[_]+1) (λk=>-x*(el l k*a (n+l[_]-k))):=by
   rw[<-jW,!bG λk hk=>?_];rw[(⋯:n+(l[_]+1)-k=n+l[_]-k+1),4]
  rw[b,4]
theorem Gd:∀(l:List R)(a b:Nat->R)(x y:R)(n:Nat),dl l (λn=>x*a n+y*b n) n=x*dl l a n+y*dl l b n
 |[],_,_,_,_,_=>rfl
 |z::l,a,b,x,y,n=>by
  show dl l (λn=>x*a (n+1)+y*b (n+1)-z*(x*a n+y*b n)) n=x*dl l _ n+y*dl l _ n;rw[<-Gd l,!Ï (λf=>dl l f n) (funext λn=>by grind)]
theorem Jx:∀(l:List R)(a:Nat->R)(n:Nat),dl l (λn=>a (n+1)) n=dl l a (n+1)
 |[],_,_=>rfl
 |z::l,a,n=>Jx l (λn=>a (n+1)-z*a n) n
def v?(l:List R)(n:Nat):dl l (λ_=>0) n=0:=by
 let:=Gd l (λ_=>(0:R)) (λ_=>0) 0 0 n;rw[show(λ_:Nat=>(0:R)*0+0*0)=λ_=>0 from funext λ_=>by grind]at this;rw[this,4]
theorem FK:∀(l O:List R)(a:Nat->R),dl (l++O) a=dl O (dl l a)
 |[],_,_=>rfl
 |x::l,O,a=>FK l O _
inductive Zc(A B:List R):(Nat->R)->Prop
 |one {u v:Nat->R}:(∀n,dl A u n=0)->(∀n,dl B v n=0)->Zc A B λn=>u n*v n
 |lin {s t:Nat->R} (x y:R):Zc A B s->Zc A B t->Zc A B λn=>x*s n+y*t n
def Zc.step{A B:List R}{s:Nat->R}(h:Zc A B s)(g:R):Zc A B λn=>s (n+1)-g*s n:=by
 induction h with
 |@one u v hu hv=>
  let h1:Zc A B λn=>u (n+1)*v (n+1):=.one (u:=λn=>u (n+1)) (v:=λn=>v (n+1)) (λn=>#v[Jx,!hu _]) λn=>#v[Jx,!hv _]
  let:=Zc.lin 1 (-g) h1 (.one hu hv);rw[show(λn=>u (n+1)*v (n+1)-g*(u n*v n))=λn=>1*(u (n+1)*v (n+1)) + -g*(u n*v n)from funext λn=>by grind,!this]
 |@lin s t x y _ _ h1 h2=>
  let:=Zc.lin x y h1 h2;rw[show(λn=>x*s (n+1)+y*t (n+1)-g*(x*s n+y*t n))=λn=>x*(s (n+1)-g*s n)+y*(t (n+1)-g*t n)from funext λn=>by grind,!this]
theorem Zc.dl{A B:List R}:∀(l:List R){s:Nat->R},Zc A B s->Zc A B (Nw.dl l s)
 |[],_,h=>h
 |g::l,_,h=>Zc.dl l (h.step g)
def Zc.more{A B:List R}{b:R}{s:Nat->R}(h:Zc A B s):Zc A (b::B) s:=by
 induction h with
 |@one u v hu hv=>
  show .one hu λn=>?_;show Nw.dl B (λn=>v (n+1)-b*v n) n=0;let:=Gd B (λn=>v (n+1)) v 1 (-b) n;rw[show(λn=>v (n+1)-b*v n)=λn=>1*v (n+1) + -b*v n from funext λn=>by grind,this,Jx,hv,hv,4]
 |lin x y _ _ h1 h2=>show .lin x y h1 h2
theorem FA{a:R}{A:List R}:∀(B:List R){u v:Nat->R},(∀n,dl (a::A) u n=0)->(∀n,dl B v n=0)->Zc A B (dl (B.map λb=>a*b) λn=>u n*v n)
 |[],u,v,hu,hv=>by
  let:(λn=>u n*v n)=λn=>(0:R)*(0*v n)+0*(0*v n):=funext λn=>#v[show v n=0 from hv n,4]
  show Zc A [] λn=>u n*v n;rw[this];let z:Zc A [] λn=>(0:R)*v n:=.one (u:=λ_=>0) (λn=>v? A n) hv;show .lin 0 0 z z
 |b::B,u,v,hu,hv=>by
  show Zc A (b::B) (dl (B.map λb=>a*b) λn=>u (n+1)*v (n+1)-a*b*(u n*v n));let h1:Zc A (b::B) λn=>(u (n+1)-a*u n)*v (n+1):=.one (u:=λn=>u (n+1)-a*u n) (v:=λn=>v (n+1)) hu λn=>#v[Jx,!hv _]
  let h2:=(FA (a:=a) (A:=A) B (u:=u) (v:=λn=>v (n+1)-b*v n) hu hv).more (b:=b);let:=Zc.lin 1 a (h1.dl (B.map λb=>a*b)) h2;rw[show(λn=>u (n+1)*v (n+1)-a*b*(u n*v n))=λn=>1*((u (n+1)-a*u n)*v (n+1))+a*(u n*(v (n+1)-b*v n))from funext λn=>by grind];rw[show Nw.dl (B.map λb=>a*b) (λn=>1*((u (n+1)-a*u n)*v (n+1))+a*(u n*(v (n+1)-b*v n)))=λn=>1*Nw.dl (B.map λb=>a*b) (λn=>(u (n+1)-a*u n)*v (n+1)) n+a*Nw.dl (B.map λb=>a*b) (λn=>u n*(v (n+1)-b*v n)) n from funext λn=>Gd _ _ _ _ _ n,!this]
def Ż:List R->List R->List R
 |[],_=>[]
 |a::A,B=>(B.map λb=>a*b)++Ż A B
theorem BN:∀(A B:List R){s:Nat->R},Zc A B s->∀n,dl (Ż A B) s n=0
 |[],B,s,h,n=>by
  show s n=0;induction h with
  |@one u v hu hv=>show u n*v n=0;rw[show u n=0 from hu n,4]
  |@lin s t x y _ _ h1 h2=>show x*s n+y*t n=0;rw[h1,h2,4]
 |a::A,B,s,h,n=>by
  let c:Zc A B (dl (B.map λb=>a*b) s):=by
   induction h with
   |one hu hv=>show FA B hu hv
   |@lin s t x y _ _ h1 h2=>
    rw[show dl (B.map λb=>a*b) (λn=>x*s n+y*t n)=λn=>x*dl (B.map λb=>a*b) s n+y*dl (B.map λb=>a*b) t n from funext λn=>Gd _ _ _ _ _ n,!.lin x y h1 h2]
  show dl ((B.map λb=>a*b)++Ż A B) s n=0;rw[FK,!BN A B c n]
def aOr{A B:List R}{u v:Nat->R}(hu:∀n,dl A u n=0)(hv:∀n,dl B v n=0)(n:Nat):dl (Ż A B) (λn=>u n*v n) n=0:=BN A B (.one hu hv) n
theorem A5:∀(l O:List R)(k:Nat),pw (l++O) k=pw l k+pw O k
 |[],O,k=>by show pw O k=0+pw O k;grind
 |a::l,O,k=>by show a^k+pw (l++O) k=a^k+pw l k+pw O k;rw[A5 l O k,4]
theorem GG(a:R):∀(B:List R)(k:Nat),pw (B.map λb=>a*b) k=a^k*pw B k
 |[],k=>by show(0:R)=a^k*0;grind
 |b::B,k=>by
  show(a*b)^k+pw (B.map λb=>a*b) k=a^k*(b^k+pw B k);let:(a*b)^k=a^k*b^k:=by
   induction k with
   |zero=>grind
   |succ k ih=>grind
  rw[this,GG a B k,4]
theorem L7:∀(A B:List R)(k:Nat),pw (Ż A B) k=pw A k*pw B k
 |[],B,k=>by show(0:R)=0*pw B k;grind
 |a::A,B,k=>by
  show pw ((B.map λb=>a*b)++Ż A B) k=(a^k+pw A k)*pw B k;rw[A5,GG,L7 A B k,4]
theorem YE:∀A B:List R,(Ż A B)[_]=A[_]*B[_]
 |[],B=>by simp[Ż]
 |a::A,B=>by simp[Ż,YE A B,rm];lia
end Nw
namespace Nw
open Lean.Grind
structure Laws{α:Type}(z o:α)(ad mu:α->α->α)(ng:α->α):Prop where
 Hl:∀a,ad a z=a
 MF:∀a b,ad a b=ad b a
 adA:∀a b c,ad (ad a b) c=ad a (ad b c)
 muA:∀a b c,mu (mu a b) c=mu a (mu b c)
 mu1:∀a,mu a o=a
 Az:∀a b,mu a b=mu b a
 dis:∀a b c,mu a (ad b c)=ad (mu a b) (mu a c)
 Ft:∀a,ad (ng a) a=z
section
variable {α:Type}{z o:α}{ad mu:α->α->α}{ng:α->α}
def rK(z o:α)(a:α->α->α):Nat->α
 |0=>z
 |n+1=>a (rK z o a n) o
def HD(z o:α)(a:α->α->α)(b:α->α):Int->α
 |.ofNat n=>rK z o a n
 |.negSucc n=>b (rK z o a (n+1))
def ϭ(z o:α)(c b:α->α->α)(a:α):Nat->α
 |0=>rK z o c 1
 |n+1=>b (ϭ z o c b a n) a
def Laws.z0(L:Laws z o ad mu ng)(a:α):ad z a=a:=#v[L.MF,L.Hl]
def Laws.one(L:Laws z o ad mu ng):rK z o ad 1=o:=L.z0 o
def Laws.can(L:Laws z o ad mu ng)(h:ad b a=a):b=z:=by
 let:ad (ad b a) (ng a)=ad a (ng a):=#v[h]
 rw[L.adA,L.MF a,L.Ft,L.Hl]at this;show this
def Laws.Yq(L:Laws z o ad mu ng)(a:α):mu a z=z:=by
 show L.can (a:=mu a z) ?_;rw[<-L.dis,L.Hl]
def Laws.OA(L:Laws z o ad mu ng)(h:ad b a=z):b=ng a:=by
 let:ad (ad b a) (ng a)=ad z (ng a):=#v[h]
 rw[L.adA,L.MF a,L.Ft,L.Hl,L.z0]at this;show this
def Laws.aIY(L:Laws z o ad mu ng)(a b:α):mu (ng a) b=ng (mu a b):=by
 show L.OA ?_;rw[L.Az (ng a),L.Az a,<-L.dis,L.Ft,L.Yq]
def Laws.ng0(L:Laws z o ad mu ng):ng z=z:=by
 let:=L.Ft z;rw[L.Hl]at this;show this
def Laws.ngg(L:Laws z o ad mu ng)(a:α):ng (ng a)=a:=(L.OA #v[L.MF,L.Ft]).symm
def Laws.itN(L:Laws z o ad mu ng):∀i:Int,HD z o ad ng (-i)=ng (HD z o ad ng i)
 |.ofNat 0=>L.ng0.symm
 |.ofNat (n+1)=>rfl
 |.negSucc n=>(L.ngg _).symm
@[reducible] def Laws.ring(L:Laws z o ad mu ng):CommRing α:=
 {add:=ad,mul:=mu,neg:=ng,sub:=λa b=>ad a (ng b),natCast:={rK z o ad},ofNat:=λn=>{rK z o ad n},nsmul:={λn a=>mu (rK z o ad n) a},npow:={λa n=>ϭ z o ad mu a n},intCast:={HD z o ad ng},zsmul:={λi a=>mu (HD z o ad ng i) a},add_zero:=L.Hl,add_comm:=L.MF,add_assoc:=L.adA,mul_assoc:=L.muA,mul_one:=λa=>by show mu a (rK z o ad 1)=a;rw[L.one,L.mu1],one_mul:=λa=>by show mu (rK z o ad 1) a=a;rw[L.one,L.Az,L.mu1],left_distrib:=L.dis,right_distrib:=λa b c=>by show mu (ad a b) c=ad (mu a c) (mu b c);rw[L.Az,L.dis,L.Az c,L.Az c],zero_mul:=λa=>by show mu z a=z;rw[L.Az,L.Yq],mul_zero:=L.Yq,pow_zero:=λa=>rfl,pow_succ:=λa n=>rfl,mul_comm:=L.Az,ofNat_succ:=λn=>by show ad (rK z o ad n) o=ad (rK z o ad n) (rK z o ad 1);rw[L.one],neg_add_cancel:=L.Ft,sub_eq_add_neg:=λa b=>rfl,neg_zsmul:=λi a=>by show mu (HD z o ad ng (-i)) a=ng (mu (HD z o ad ng i) a);rw[L.itN,L.aIY],intCast_neg:=L.itN}
end
variable {R:Type}[CommRing R]
structure Xt(R:Type)[CommRing R](d:Nat)(c:Nat->R) where
 f:Nat->R
 z:∀i,d<=i->f i=0
def Xt.eq{d:Nat}{c:Nat->R}:∀{x y:Xt R d c},(∀i,i<d->x.f i=y.f i)->x=y
 |⟨f,hf⟩,⟨g,hg⟩,h=>by
  let:f=g:=funext λi=>by
   by_cases q:i<d
   .exact h i q
   .rw[hf i 0.6,hg i ⋯]
  subst this;rfl
section
variable {d:Nat}{c:Nat->R}
def xT(x:Xt R d c):Xt R d c:={λi=>if i<d then(if i=0 then 0 else x.f (i-1))+x.f (d-1)*c i else 0,λi h=>Â 0.8}
def xN:Nat->Xt R d c->Xt R d c
 |0,x=>x
 |k+1,x=>xT (xN k x)
def ϛ(x y:Xt R d c):Xt R d c:={λi=>x.f i+y.f i,λi h=>#v[x.z i h,y.z i h,4]}
def xNg(x:Xt R d c):Xt R d c:={λi=>-x.f i,λi h=>#v[x.z i h,4]}
def xS(n:Nat)(g:Nat->R)(F:Nat->Xt R d c):Xt R d c:={λi=>sm n λk=>g k*(F k).f i,λi h=>by
 rw[bG (g:=λ_=>(0:R)) λk _=>#v[(F k).z i h,4],ou]}
def tY(x y:Xt R d c):Xt R d c:=xS d x.f λk=>xN k y
def xE(hd:0<d):Xt R d c:={λi=>if i=0 then 1 else 0,λi h=>Â ⋯}
def Na(n:Nat)(g:Nat->R)(F:Nat->Xt R d c):xT (xS n g F)=xS n g λk=>xT (F k):=Xt.eq λi hi=>by
 show(if i<d then(if i=0 then 0 else sm n λk=>g k*(F k).f (i-1))+(sm n λk=>g k*(F k).f (d-1))*c i else 0)=sm n λk=>g k*(if i<d then(if i=0 then 0 else(F k).f (i-1))+(F k).f (d-1)*c i else 0);rw[Á hi];let a:(sm n λk=>g k*(F k).f (d-1))*c i=sm n λk=>c i*(g k*(F k).f (d-1)):=#v[dW,4]
 rw[a];by_cases z:i=0
 .rw[Á z];rw[show((0:R)+sm n λk=>c i*(g k*(F k).f (d-1)))=sm n λk=>c i*(g k*(F k).f (d-1))by grind,!bG λk _=>#v[Á hi,Á z,4]]
 .rw[Â z,<-jW];show bG λk _=>#v[Á hi,Â z,4]
theorem Wk(n:Nat)(g:Nat->R)(F:Nat->Xt R d c):∀j,xN j (xS n g F)=xS n g λk=>xN j (F k)
 |0=>rfl
 |j+1=>by show xT (xN j (xS n g F))=_;rw[Wk n g F j,Na,0]
theorem JV(x:Xt R d c):∀i j,xN (i+j) x=xN i (xN j x)
 |0,j=>by rw[vL,0]
 |i+1,j=>by rw[Nat.succ_add,!xT (xN (i+j) x)=xT (xN i (xN j x))];rw[JV x i j]
theorem oj(hd:0<d):∀k,k<d->∀i,(xN k (xE (c:=c) hd)).f i=if i=k then 1 else 0
 |0,_,i=>rfl
 |k+1,hk,i=>by
  show(if i<d then(if i=0 then 0 else(xN k (xE (c:=c) hd)).f (i-1))+(xN k (xE (c:=c) hd)).f (d-1)*c i else 0)=_;rw[oj hd k ⋯,oj hd k ⋯];by_cases q:i<d
  .rw[Á q,Â (⋯:¬d-1=k)];by_cases z:i=0
   .rw[Á z,Â (0.6:¬i=k+1)];grind
   .rw[Â z];by_cases y:i=k+1
    .rw[Á y,Á 0.6];grind
    .rw[Â y,Â ⋯];grind
  .rw[Â q,Â ⋯]
theorem Mm(g:Nat->R)(i:Nat):∀n,sm n (λk=>g k*(if i=k then 1 else 0))=if i<n then g i else 0
 |0=>by rw[Â 0.6,0]
 |n+1=>by
  show sm n _+g n*(if i=n then 1 else 0)=_;rw[Mm g i n];by_cases a:i<n
  .rw[Á a,Â ⋯,Á ⋯];grind
  .rw[Â a];by_cases b:i=n
   .rw[Á b,Á 0.6,b];grind
   .rw[Â b,Â ⋯];grind
def Vs(hd:0<d)(x:Xt R d c):xS d x.f (λk=>xN k (xE hd))=x:=Xt.eq λi hi=>by
 show sm d (λk=>x.f k*(xN k (xE (c:=c) hd)).f i)=x.f i;rw[bG λk hk=>#v[oj hd k hk],Mm,Á hi]
def DI(n m:Nat)(g h:Nat->R)(x:Xt R d c):xS n g (λk=>xN k (xS m h λj=>xN j x))=xS m h (λj=>xN j (xS n g λk=>xN k x)):=Xt.eq λi hi=>by
 show sm n (λk=>g k*(xN k (xS m h λj=>xN j x)).f i)=sm m (λj=>h j*(xN j (xS n g λk=>xN k x)).f i);let b:sm n (λk=>g k*(xN k (xS m h λj=>xN j x)).f i)=sm n (λk=>sm m λj=>g k*(h j*(xN (k+j) x).f i)):=bG λk _=>by
  rw[Wk,dW,!Ï (g k * ·) (bG λj _=>#v[JV])]
 let a:sm m (λj=>h j*(xN j (xS n g λk=>xN k x)).f i)=sm m (λj=>sm n λk=>g k*(h j*(xN (k+j) x).f i)):=bG λj _=>by
  rw[Wk,!h j*sm n (λk=>g k*(xN j (xN k x)).f i)=_];rw[<-dW,!bG λk _=>#v[qz k j,JV,4]]
 rw[b,a,vZ]
def CK(hd:0<d)(x y:Xt R d c):tY x y=tY y x:=by
 let h:=DI d d x.f y.f (xE (c:=c) hd);rw[Vs,Vs]at h;show h
def aHc(hd:0<d)(x y w:Xt R d c):tY (tY x y) w=tY x (tY y w):=by
 rw[CK hd (tY x y) w,CK hd y w,!DI d d w.f x.f y]
def aTV(x y w:Xt R d c)(hd:0<d):tY x (ϛ y w)=ϛ (tY x y) (tY x w):=by
 rw[CK hd x,CK hd x y,CK hd x w,!Xt.eq λi hi=>?_];show sm d (λk=>(y.f k+w.f k)*(xN k x).f i)=sm d (λk=>y.f k*(xN k x).f i)+sm d (λk=>w.f k*(xN k x).f i);rw[<-jW,!bG λk _=>by grind]
def xZ:Xt R d c:={λ_=>0,λ_ _=>rfl}
def QE(hd:0<d):Laws (α:=Xt R d c) xZ (xE hd) ϛ tY xNg:=
 {λa=>Xt.eq λi _=>by show a.f i+0=a.f i;grind,λa b=>Xt.eq λi _=>by show a.f i+b.f i=b.f i+a.f i;grind,λa b e=>Xt.eq λi _=>by show a.f i+b.f i+e.f i=a.f i+(b.f i+e.f i);grind,aHc hd,λa=>Vs hd a,CK hd,λa b e=>aTV a b e hd,λa=>Xt.eq λi _=>by show -a.f i+a.f i=0;grind}
def xX(hd:0<d):Xt R d c:=xT (xE hd)
def ET(hd:0<d)(x:Xt R d c):tY (xX hd) x=xT x:=by
 rw[CK hd,!xS d x.f (λk=>xN k (xN 1 (xE hd)))=xT x];let:(λk=>xN k (xN 1 (xE (c:=c) hd)))=λk=>xT (xN k (xE hd)):=funext λk=>by
  rw[<-JV,qz,JV,0]
 rw[this,<-Na,Vs]
end
instance aXo{d:Nat}{c:Nat->R}:CommRing (Xt R (d+1) c):=(QE (iZ d)).ring
section
variable {d:Nat}{c:Nat->R}
def EO:(1:Xt R (d+1) c)=xE (iZ d):=(QE (iZ d)).one
def yf(x y:Xt R (d+1) c)(i:Nat):(x+y).f i=x.f i+y.f i:=rfl
def x_zero(i:Nat):(0:Xt R (d+1) c).f i=0:=rfl
theorem L9(x:Xt R (d+1) c)(i:Nat):∀n,(nt n*x).f i=nt n*x.f i
 |0=>by
  rw[show(nt 0:Xt R (d+1) c)*x=0 by show(0:Xt R (d+1) c)*x=0;grind,x_zero,!(0:R)=0*x.f i];grind
 |n+1=>by
  rw[show(nt (n+1):Xt R (d+1) c)*x=nt n*x+x by show(nt n+1)*x=_;grind,yf,L9 x i n,!_=(nt n+1)*x.f i];grind
def xI(r:R):Xt R (d+1) c:={λi=>if i=0 then r else 0,λi h=>Â ⋯}
theorem Kb(r:R)(g:Nat->R):∀n,sm (n+1) (λk=>(if k=0 then r else 0)*g k)=r*g 0
 |0=>by show 0+(if 0=0 then r else 0)*g 0=_;rw[Á rfl,4]
 |n+1=>by
  show sm (n+1) _+(if n+1=0 then r else 0)*g (n+1)=_;rw[Kb r g n,Â ⋯,4]
def aUk(r:R)(x:Xt R (d+1) c)(i:Nat):(xI r*x).f i=r*x.f i:=by
 show sm (d+1) (λk=>(if k=0 then r else 0)*(xN k x).f i)=_;rw[Kb,0]
end
structure jH{R S:Type}[CommRing R][CommRing S](Ψ:R->S):Prop where
 one:Ψ 1=1
 add:∀a b,Ψ (a+b)=Ψ a + Ψ b
 mul:∀a b,Ψ (a*b)=Ψ a * Ψ b
def jH.zero{R S:Type}[CommRing R][CommRing S]{a:R->S}(h:jH a):a 0=0:=by
 let:=h.add 0 0;rw[show(0:R)+0=0 by grind]at this
 grind
def jH.neg{R S:Type}[CommRing R][CommRing S]{b:R->S}(h:jH b)(a:R):b (-a)=-b a:=by
 let:=h.add (-a) a;rw[show -a+a=0 by grind,h.zero]at this
 grind
def jH.sub{R S:Type}[CommRing R][CommRing S]{c:R->S}(h:jH c)(a b:R):c (a-b)=c a - c b:=by
 rw[show a-b=a + -b by grind,h.add,h.neg,4]
theorem jH.nt{R S:Type}[CommRing R][CommRing S]{a:R->S}(h:jH a):∀n,a (nt n)=Nw.nt n
 |0=>h.zero
 |n+1=>by show a (Nw.nt n+1)=Nw.nt n+1;rw[h.add,h.nt n,h.one]
def jH.comp{R S U:Type}[CommRing R][CommRing S][CommRing U]{d:R->S}{c:S->U}(h:jH d)(g:jH c):jH λr=>c (d r):=
 {#v[h.one,g.one],λa b=>#v[h.add,g.add],λa b=>#v[h.mul,g.mul]}
structure wA{R:Type}[CommRing R](φ:Int->R):Prop where
 hom:jH φ
 inj:∀t,φ t=0->t=0
 pu:∀(k:Nat)(r:R)(t:Int),nt (k+1)*r=φ t->∃q,r=φ q
theorem G4:∀n:Nat,(nt n:Int)=n[0]
 |0=>rfl
 |n+1=>by show(nt n:Int)+1=_;rw[G4 n,1]
def wA.tf{R:Type}[CommRing R]{φ:Int->R}(h:wA φ){k:Nat}{r:R}(e:nt (k+1)*r=0):r=0:=by
 let⟨q,rfl⟩:=h.pu k r 0 #v[e,h.hom.zero];rw[<-h.hom.nt,<-h.hom.mul]at e;let:=h.inj _ e;rw[G4]at this;let:q=0:=by
  rcases K9.mp this with z|z
  .lia
  .exact z
 rw[this,h.hom.zero]
def aVB:wA (λt:Int=>t):={{rfl,λ_ _=>rfl,λ_ _=>rfl},λ_ h=>h,λ_ r _ _=>{r,(rfl)}}
def VL{d:Nat}{c:Nat->R}:jH (xI (d:=d) (c:=c)):=
 {#v[EO,0],λa b=>Xt.eq λi _=>by
  show(if i=0 then a+b else 0)=(if i=0 then a else 0)+(if i=0 then b else 0);split
  .rfl
  .grind,λa b=>Xt.eq λi _=>by
  rw[aUk,!(if i=0 then a*b else 0)=a*(if i=0 then b else 0)];split
  .rfl
  .grind}
def aQH{d:Nat}{c:Nat->R}{φ:Int->R}(h:wA φ):wA λt=>xI (d:=d) (c:=c) (φ t):=by
 show{h.hom.comp VL,λt e=>h.inj t ?_,λk r t e=>?_}
 .let:=Ï (λx:Xt R (d+1) c=>x.f 0) e;show this
 .let co:∀i,nt (k+1)*r.f i=(if i=0 then φ t else 0):=λi=>by
   let:=Ï (λx:Xt R (d+1) c=>x.f i) e;let t2:=L9 r i (k+1);show t2.symm.trans this
  let⟨q,hq⟩:=h.pu k (r.f 0) t #v[co 0,Á rfl];show{q,Xt.eq λi _=>?_};show r.f i=if i=0 then φ q else 0;by_cases z:i=0
  .rw[Á z,z,hq]
  .rw[Â z];let:=co i;rw[Â z]at this;show h.tf this
def hn{S:Type}[CommRing S](p:Nat->S)(x:S):Nat->S
 |0=>1
 |k+1=>p (k+1)+x*hn p x k
theorem RT{d:Nat}{p:Nat->R}(O:p 0=1):∀k,k<=d->∀i,(hn (λk=>xI (p k)) (xX (iZ d)) k:Xt R (d+1) λi=>-p (d+1-i)).f i=if i<=k then p (k-i)else 0
 |0,_,i=>by
  show(1:Xt R (d+1) _).f i=_;rw[EO,!(if i=0 then(1:R)else 0)=_];by_cases z:i=0
  .rw[Á z,Á 0.8,Nat.zero_sub,O]
  .rw[Â z,Â 0.8]
 |k+1,hk,i=>by
  show(xI (p (k+1))+xX (iZ d)*hn (λk=>xI (p k)) (xX (iZ d)) k:Xt R (d+1) λi=>-p (d+1-i)).f i=_;rw[yf,show ∀x:Xt R (d+1) λi=>-p (d+1-i),xX (iZ d)*x=xT x from ET (iZ d),!(if i=0 then p (k+1)else 0)+(if i<d+1 then(if i=0 then 0 else(hn (λk=>xI (p k)) (xX (iZ d)) k:Xt R (d+1) λi=>-p (d+1-i)).f (i-1))+(hn (λk=>xI (p k)) (xX (iZ d)) k:Xt R (d+1) λi=>-p (d+1-i)).f (d+1-1) * -p (d+1-i)else 0)=_];rw[RT O k ⋯,RT O k ⋯,Â (⋯:¬d+1-1<=k)];by_cases z:i=0
  .rw[Á z,Á 0.6,Á z,Á 0.6,z];show p (k+1)+(0+0 * -p (d+1-0))=p (k+1)
   grind
  .rw[Â z,Â z];by_cases q:i<d+1
   .rw[Á q];by_cases y:i<=k+1
    .rw[Á 0.8,Á y,(0.7:k-(i-1)=k+1-i)];grind
    .rw[Â 1.1,Â y];grind
   .rw[Â q,Â ⋯];grind
def aSX{d:Nat}{p:Nat->R}(O:p 0=1):(hn (λk=>xI (p k)) (xX (iZ d)) (d+1):Xt R (d+1) λi=>-p (d+1-i))=0:=Xt.eq λi hi=>by
 show(xI (p (d+1))+xX (iZ d)*hn (λk=>xI (p k)) (xX (iZ d)) d:Xt R (d+1) λi=>-p (d+1-i)).f i=0;rw[yf,show ∀x:Xt R (d+1) λi=>-p (d+1-i),xX (iZ d)*x=xT x from ET (iZ d),!(if i=0 then p (d+1)else 0)+(if i<d+1 then(if i=0 then 0 else(hn (λk=>xI (p k)) (xX (iZ d)) d:Xt R (d+1) λi=>-p (d+1-i)).f (i-1))+(hn (λk=>xI (p k)) (xX (iZ d)) d:Xt R (d+1) λi=>-p (d+1-i)).f (d+1-1) * -p (d+1-i)else 0)=0];rw[RT O d (aZ d),RT O d (aZ d),Á hi,Á (0.6:d+1-1<=d),(0.6:d-(d+1-1)=0),O];by_cases z:i=0
 .rw[Á z,Á z,z];show p (d+1)+(0+1 * -p (d+1-0))=0;rw[qe,4]
 .rw[Â z,Â z,Á 0.8,(0.7:d-(i-1)=d+1-i)];grind
theorem splits:∀(d:Nat)(R:Type) [CommRing R] (φ:Int->R) (p:Nat->R),wA φ->p 0=1->(∀k,d<k->p k=0)->
  ∃(S:Type)(_:CommRing S)(Ψ:R->S),jH Ψ/\wA (λt=>Ψ (φ t))/\∃l:List S,l[_]=d/\∀k,el l k=Ψ (p k)
 |0,R,_,φ,p,hφ,p0,pz=>{R,inferInstance,λr=>r,{rfl,λ_ _=>rfl,λ_ _=>rfl},hφ,[],rfl,λk=>by
   show(if k=0 then(1:R)else 0)=p k;by_cases z:k=0
   .rw[Á z,z,p0]
   .rw[Â z,pz k ⋯]}
 |d+1,R,_,φ,p,hφ,p0,pz=>by
  let j:=aQH (d:=d) (c:=λi=>-p (d+1-i)) hφ;obtain⟨S,f,Ψ,a,hp,l,ll,g⟩:=splits d (Xt R (d+1) λi=>-p (d+1-i)) (λt=>xI (φ t)) (λk=>if k<=d then hn (λk=>xI (p k)) (xX (iZ d)) k else 0) j #v[Á (dz d),0] λk hk=>Â 0.8;show{S,f,λr=>Ψ (xI r),VL.comp a,hp,Ψ (xX (iZ d))::l,#v[gh,ll],λk=>?_};let b:∀k,k<=d+1->el l k=Ψ (hn (λk=>xI (p k)) (xX (iZ d)) k):=λk hk=>by
   rw[g k];by_cases z:k<=d
   .rw[Á z]
   .let e:k=d+1:=⋯;rw[Â z,e,aSX p0]
  cases k with
  |zero=>rw[wQ,p0,!(VL.comp a).one.symm]
  |succ k=>
   by_cases z:k+1<=d+1
   .show el l (k+1) - Ψ (xX (iZ d))*el l k=_;rw[b (k+1) z,b k ⋯,<-a.mul,<-a.sub,!Ï Ψ ?_];show(xI (p (k+1))+xX (iZ d)*hn (λk=>xI (p k)) (xX (iZ d)) k)-_=_
    grind
   .rw[U4 _ _ #v[gh,ll],pz (k+1) ⋯];show(VL.comp a).zero.symm
end Nw
namespace Nw
open Lean.Grind
section
variable {S:Type}[CommRing S]{φ:Int->S}
theorem jH.sm(h:jH φ)(f:Nat->Int):∀n,φ (Nw.sm n f)=Nw.sm n λk=>φ (f k)
 |0=>h.zero
 |n+1=>by show φ (Nw.sm n f+f n)=_;rw[h.add,h.sm f n,0]
theorem jH.G4(h:jH φ)(n:Nat):φ (n:Int)=Nw.nt n:=#v[-h.nt,Nw.G4]
theorem qv{R:Type}[CommRing R](f:Nat->R):∀n:Nat,sm n f=sm n λk=>f (n-1-k)
 |0=>rfl
 |n+1=>by
  rw[oK (λk=>f (n+1-1-k)) n,!sm n f+f n=_];rw[qv f n,gU,qe,bG (g:=λi=>f (n-(i+1))) λk _=>#v[(⋯:n-(k+1)=n-1-k)]]
  grind
def wo(h:jH φ){A:List S}{c s:Nat->Int}(n:Nat)(O:∀k,el A (k+1)=φ (-c k))(U:∀k,k<n->s k=(k+1:Nat)[0]*c k+sm k λi=>c i*s (k-1-i)):∀k,k<n->φ (s k)=pw A (k+1):=λk=>by
 induction k using rz with
 |ind k ih=>
  intro hk;let nw:=Sd A k;let b:sm (k+1) (λi=>pw A (i+1)*el A (k-i))=sm k (λi=>pw A (i+1)*el A (k-i))+pw A (k+1):=by
   show sm k _+pw A (k+1)*el A (k-k)=_;rw[ql,wQ,4]
  let a:sm k (λi=>pw A (i+1)*el A (k-i))=-φ (sm k λi=>c i*s (k-1-i)):=by
   let:sm k (λi=>pw A (i+1)*el A (k-i))=sm k λi=>-1 * φ (c (k-1-i)*s i):=bG λi hi=>by
    rw[<-ih i hi ⋯,(0.7:k-i=k-1-i+1),O,h.mul,h.neg,4]
   rw[this,dW,h.sm,qv (λi=>φ (c i*s (k-1-i)))];rw[bG (f:=λi=>φ (c (k-1-i)*s i)) (g:=λi=>φ (c (k-1-i)*s (k-1-(k-1-i)))) λi hi=>#v[(0.9:k-1-(k-1-i)=i)]]
   grind
  rw[b,a,O k]at nw;rw[U k hk,h.add,h.mul,h.G4];rw[h.neg]at nw
  grind
def MT(h:wA φ){G:List S}{s r:Nat->Int}(n:Nat)(hp:∀k,k<n->φ (s k)=pw G (k+1))(hr:∀k,k<n->r k=(s k-sm k λi=>r i*s (k-1-i))/(k+1:Nat)[0]):∀k,k<n->φ (r k)=-el G (k+1):=λk=>by
 induction k using rz with
 |ind k ih=>
  intro hk;let nw:=Sd G k;let c:sm (k+1) (λi=>pw G (i+1)*el G (k-i))=sm k (λi=>pw G (i+1)*el G (k-i))+pw G (k+1):=by
   show sm k _+pw G (k+1)*el G (k-k)=_;rw[ql,wQ,4]
  let b:sm k (λi=>pw G (i+1)*el G (k-i))=-φ (sm k λi=>r i*s (k-1-i)):=by
   let:sm k (λi=>pw G (i+1)*el G (k-i))=sm k λi=>-1 * φ (r (k-1-i)*s i):=bG λi hi=>by
    let q:=ih (k-1-i) 0.9 0.9;rw[<-hp i ⋯,(⋯:k-i=k-1-i+1),h.hom.mul,q,4]
   rw[this,dW,h.hom.sm,qv (λi=>φ (r i*s (k-1-i)))];rw[bG (f:=λi=>φ (r (k-1-i)*s i)) (g:=λi=>φ (r (k-1-i)*s (k-1-(k-1-i)))) λi hi=>#v[(⋯:k-1-(k-1-i)=i)]]
   grind
  rw[c,b,<-hp k hk]at nw;let a:nt (k+1) * -el G (k+1)=φ (s k-sm k λi=>r i*s (k-1-i)):=#v[h.hom.sub,4]
  let⟨q,hq⟩:=h.pu k _ _ a;rw[hq,<-h.hom.G4,<-h.hom.mul]at a;let z:((k+1:Nat):Int)*q-(s k-sm k λi=>r i*s (k-1-i))=0:=h.inj _ #v[h.hom.sub,a,4];let z2:(s k-sm k λi=>r i*s (k-1-i))=(k+1:Nat)[0]*q:=0.9;rw[hr k hk,z2,y9 _ ⋯,hq]
def Jd(h:jH φ){A:List S}{c a:Nat->Int}(O:∀k,k<A[_]->el A (k+1)=φ (-c k))(n:Nat):dl A (λn=>φ (a n)) n=φ (a (n+A[_])-sm A[_] λk=>c k*a (n+A[_]-1-k)):=by
 rw[NH,oK,wQ,qe,h.sub,h.sm];let:sm A[_] (λi=>el A (i+1) * φ (a (n+A[_]-(i+1))))=sm A[_] λi=>-1 * φ (c i*a (n+A[_]-1-i)):=bG λi hi=>by
  rw[O i hi,h.neg,h.mul,(⋯:n+A[_]-(i+1)=n+A[_]-1-i),4]
 rw[this,dW,4]
theorem Uh{U:Type}[CommRing U]{b:S->U}(h:jH b):∀(l:List S)(k:Nat),el (l.map b) k=b (el l k)
 |[],k=>by
  show(if k=0 then(1:U)else 0)=b (if k=0 then 1 else 0);split
  .rw[h.one]
  .rw[h.zero]
 |a::l,0=>Uh h l 0
 |a::l,k+1=>by
  show el (l.map b) (k+1) - b a*el (l.map b) k=b (el l (k+1)-a*el l k);rw[Uh h l,Uh h l,h.sub,h.mul]
end
def ϳ(c:Nat->Int):Nat->Int
 |0=>1
 |k+1=>-c k
def B8(m:Nat)(c:Nat->Int)(hc:∀k,m<=k->c k=0):∃(S:Type)(_:CommRing S)(φ:Int->S),wA φ/\∃A:List S,A[_]=m/\∀k,el A (k+1)=φ (-c k):=by
 obtain⟨S,b,a,d,hp,l,ll,e⟩:=splits m Int (λt=>t) (ϳ c) aVB rfl λk hk=>by
  cases k with
  |zero=>simp_all
  |succ k=>show -c k=0;rw[hc k ⋯,0]
 show{S,b,a,hp,l,ll,λk=>e (k+1)}
def aVW(m n:Nat)(c d:Nat->Int)(hc:∀k,m<=k->c k=0)(hd:∀k,n<=k->d k=0):∃(S:Type)(_:CommRing S)(φ:Int->S),wA φ/\(∃A:List S,A[_]=m/\∀k,el A (k+1)=φ (-c k))/\∃B:List S,B[_]=n/\∀k,el B (k+1)=φ (-d k):=by
 obtain⟨S1,o,a,h1,A,f,j⟩:=B8 m c hc;obtain⟨S,g,e,b,hp,l,ll,i⟩:=splits n S1 a (λk=>a (ϳ d k)) h1 (by show a 1=1;show h1.hom.one) λk hk=>by
  cases k with
  |zero=>simp_all
  |succ k=>show a (-d k)=0;rw[hd k ⋯,!h1.hom.zero]
 show{S,g,λt=>e (a t),hp,{A.map e,#v[aA,f],λk=>#v[Uh b,j]},l,ll,λk=>i (k+1)}
def Qu{m n:Nat}{c d a b s t r:Nat->Int}(hc:∀k,m<=k->c k=0)(hd:∀k,n<=k->d k=0)(ha:∀i,a (i+m)=sm m λk=>c k*a (i+m-1-k))(hb:∀i,b (i+n)=sm n λk=>d k*b (i+n-1-k))
  (O:∀k,k<m*n->s k=(k+1:Nat)[0]*c k+sm k λi=>c i*s (k-1-i)) (ht:∀k,k<m*n->t k=(k+1:Nat)[0]*d k+sm k λi=>d i*t (k-1-i))
  (hr:∀k,k<m*n->r k=(s k*t k-sm k λi=>r i*(s (k-1-i)*t (k-1-i)))/(k+1:Nat)[0]) (i:Nat):
  a (i+m*n)*b (i+m*n)=sm (m*n) λk=>r k*(a (i+m*n-1-k)*b (i+m*n-1-k)):=by
 obtain⟨S,C,φ,h,⟨A,j,p⟩,B,g,o⟩:=aVW m n c d hc hd;let z:∀n,dl A (λn=>φ (a n)) n=0:=λn=>by
  rw[Jd h.hom (c:=c) (λk _=>p k),j,<-ha n,(0.1:a (n+m)-a (n+m)=0),h.hom.zero]
 let y:∀n,dl B (λn=>φ (b n)) n=0:=λf=>by
  rw[Jd h.hom (c:=d) (λk _=>o k),g,<-hb f,(⋯:b (f+n)-b (f+n)=0),h.hom.zero]
 let w:=wo h.hom (A:=A) (c:=c) (s:=s) (m*n) p O;let v:=wo h.hom (A:=B) (c:=d) (s:=t) (m*n) o ht;let x:(Ż A B)[_]=m*n:=#v[YE,j,g]
 let u:∀k,k<m*n->φ (s k*t k)=pw (Ż A B) (k+1):=λk hk=>#v[h.hom.mul,w k hk,v k hk,L7]
 let q:=MT h (G:=Ż A B) (s:=λk=>s k*t k) (r:=r) (m*n) u hr;let l:=aOr z y i;let e:(λn=>φ (a n) * φ (b n))=λn=>φ (a n*b n):=funext λn=>#v[h.hom.mul]
 rw[e,Jd h.hom (A:=Ż A B) (c:=r) (a:=λn=>a n*b n) (λk hk=>#v[h.hom.neg,q k 0.6,4]),x]at l;let:=h.inj _ l;lia
section
variable {S:Type}[CommRing S]
theorem WS(x:S)(u:Nat->S):∀(e n:Nat),u (n+e)-x^e*u n=sm e λi=>x^(e-1-i)*(u (n+i+1)-x*u (n+i))
 |0,n=>by show u n-x^0*u n=0;grind
 |e+1,n=>by
  show _=sm e (λi=>x^(e+1-1-i)*(u (n+i+1)-x*u (n+i)))+x^(e+1-1-e)*(u (n+e+1)-x*u (n+e));let h:=WS x u e n;let a:sm e (λi=>x^(e+1-1-i)*(u (n+i+1)-x*u (n+i)))=x*sm e λi=>x^(e-1-i)*(u (n+i+1)-x*u (n+i)):=by
   rw[<-dW,!bG λi hi=>?_];rw[(0.7:e+1-1-i=e-1-i+1),4]
  rw[a,<-h,(0.6:e+1-1-e=0),(⋯:n+(e+1)=n+e+1),4]
theorem EL:∀(l:List S)(m:Nat)(F:Nat->Nat->S)(g:Nat->S)(n:Nat),dl l (λn=>sm m λi=>g i*F i n) n=sm m λi=>g i*dl l (F i) n
 |l,0,F,g,n=>v? l n
 |l,m+1,F,g,n=>by
  show dl l (λn=>sm m (λi=>g i*F i n)+g m*F m n) n=sm m _+g m*dl l (F m) n;let:=Gd l (λn=>sm m λi=>g i*F i n) (F m) 1 (g m) n;rw[show(λn=>sm m (λi=>g i*F i n)+g m*F m n)=λn=>1*sm m (λi=>g i*F i n)+g m*F m n from funext λn=>by grind,this,EL l m F g n,4]
theorem l?(e:Nat):∀(A:List S)(u:Nat->S),(∀n,dl A u n=0)->∀s n,dl (A.map λx=>x^e) (λn=>u (s+e*n)) n=0
 |[],u,h,s,n=>h _
 |x::A,u,h,s,n=>by
  show dl (A.map λx=>x^e) (λn=>u (s+e*(n+1))-x^e*u (s+e*n)) n=0;let a:(λn=>u (s+e*(n+1))-x^e*u (s+e*n))=λn=>sm e λi=>x^(e-1-i)*(λn=>(λn=>u (n+1)-x*u n) (s+i+e*n)) n:=funext λn=>by
   rw[show s+e*(n+1)=s+e*n+e by rw[wF,1],WS,!bG λi _=>by show _=x^(e-1-i)*(u (s+i+e*n+1)-x*u (s+i+e*n));rw[(⋯:s+i+e*n=s+e*n+i)]]
  rw[a,EL (A.map λx=>x^e) e (λi n=>(λn=>u (n+1)-x*u n) (s+i+e*n))];rw[bG (g:=λ_=>(0:S)) λi _=>#v[l? e A (λn=>u (n+1)-x*u n) h (s+i) n,4],ou]
theorem l_(x:S)(e:Nat):∀k,(x^e)^k=x^(e*k)
 |0=>by rw[Ug,4]
 |k+1=>by
  rw[Semiring.pow_succ,l_ x e k,wF,Semiring.pow_add]
theorem Y1(e:Nat):∀(A:List S)(k:Nat),pw (A.map λx=>x^e) k=pw A (e*k)
 |[],_=>rfl
 |x::A,k=>by show(x^e)^k+_=x^(e*k)+_;rw[l_,Y1 e A k]
end
def aQR{m e:Nat}(U:1<=e){c a s r:Nat->Int}(hc:∀k,m<=k->c k=0)(ha:∀i,a (i+m)=sm m λk=>c k*a (i+m-1-k))
  (O:∀k,k<e*m->s k=(k+1:Nat)[0]*c k+sm k λi=>c i*s (k-1-i))
  (hr:∀k,k<m->r k=(s (e*(k+1)-1)-sm k λi=>r i*s (e*(k-1-i+1)-1))/(k+1:Nat)[0]) (st i:Nat):
  a (st+e*(i+m))=sm m λk=>r k*a (st+e*(i+m-1-k)):=by
 let⟨S,t,φ,h,A,b,f⟩:=B8 m c hc;let p:∀n,dl A (λn=>φ (a n)) n=0:=λn=>by
  rw[Jd h.hom (c:=c) (λk _=>f k),b,<-ha n,(⋯:a (n+m)-a (n+m)=0),h.hom.zero]
 let l:=wo h.hom (A:=A) (c:=c) (s:=s) (e*m) f O;let o:(A.map λx=>x^e)[_]=m:=#v[aA,b]
 let j:∀k,k<m->φ (s (e*(k+1)-1))=pw (A.map λx=>x^e) (k+1):=λk hk=>by
  let l1:e*(k+1)<=e*m:=nH _ hk;let q:1*1<=e*(k+1):=nZ U 0.6;rw[l _ 0.9,Y1,(1.1:e*(k+1)-1+1=e*(k+1))]
 let g:=MT h (G:=A.map λx=>x^e) (s:=λk=>s (e*(k+1)-1)) (r:=r) m j hr;let d:=l? e A _ p st i;rw[Jd h.hom (A:=A.map λx=>x^e) (c:=r) (a:=λn=>a (st+e*n)) (λk hk=>#v[h.hom.neg,g k 0.6,4]),o]at d;let:=h.inj _ d;lia
end Nw
namespace Pm
open Rm
structure BD(P:ζ):Prop where
 mon:Mon P
 len:P[_]<=5
 bd:∀k,(co P k).natAbs<=3
theorem BD.ev{P:ζ}(h:BD P){x:Int}(hx:x.natAbs<=2):Bd 7 (ev P x):=by
 rw[<-zW h.len x,!jD (?_:_<=0+3*2^0+3*2^1+3*2^2+3*2^3+3*2^4) 0.3];let n:∀(k:Nat)(s:Int)(m:Nat),s.natAbs<=m->(s+co P k*x^k).natAbs<=m+3*2^k:=λk s m e=>cD (Je ..) (uC e #v[wG,Int.natAbs_pow,!nZ (h.bd k) (kx hx k)]);show n 4 _ _ (n 3 _ _ (n 2 _ _ (n 1 _ _ (n 0 _ _ (aZ _)))))
def aWj(h:BD P)(O:Mon L)(U:∀k,co P k=cv (co L) (co g) k)(Y:L[_]+g[_]<=P[_]+1)(k:Nat):Bd 32 (co g k):=by
 obtain⟨xs,a⟩:∃xs:ζ,xs=[-2,-1,0,1,2]:={()};let nd:xs.Nodup:=#v[a,3]
 let ln:xs[_]=5:=#v[a,0]
 let c:∀x∈xs,x.natAbs<=2:=#v[a,3]
 let hp:=O.pos;let d:=h.len;let h0:=sf (L[_]-1) L O ⋯ _ (nd.filter λx=>decide (Pm.ev L x=0)) λx hx=>of_decide_eq_true (pD.mp hx).2;let hc:=wt (λx=>decide (Pm.ev L x=0)) xs;show(fI (e:=2) g[_] g 7 (aZ _) (xs.filter λx=>!decide (Pm.ev L x=0)) (nd.filter _) ⋯ (λx hx=>?_) (λx hx=>?_) k).mono ⋯
 .let:=c x (pD.mp hx).1;show Bd.of 0.7 0.7
 let b:Pm.ev L x≠0:=λz=>by
  let:=(pD.mp hx).2;rw[É z]at this;show È this 0.3
 show oz b ?_;rw[<-Xv x g L P U,!h.ev (c x (pD.mp hx).1)]
def AN(O:Mon L):∃i,co L i≠0/\∀k,k<i->co L k=0:=by
 let a:∀n,(∃i,i<n/\co L i≠0/\∀k,k<i->co L k=0)∨∀k,k<n->co L k=0:=λn=>by
  induction n with
  |zero=>show .inr λk hk=>È hk (tE _)
  |succ n ih=>
   rcases ih with⟨i,h1,h2⟩|h
   .exact .inl {i,⋯,h2}
   .by_cases z:co L n=0
    .exact .inr λk hk=>by
      by_cases e:k=n
      .rw[e];show z
      .exact h k ⋯
    .exact .inl {n,0.6,z,h}
 rcases a L[_] with⟨i,_,h⟩|h
 .exact{i,(h)}
 .let:=O.one;rw[h _ (let:=O.pos;0.9)]at this;show È this 0.3
def q_(h:BD P)(O:Mon g)(U:∀k,co P k=cv (co L) (co g) k)(h1:co L i≠0)(h2:∀k,k<i->co L k=0):(co L i).natAbs<=3:=by
 let⟨j,b,a⟩:=AN O;let e:=h.bd (i+j);let s:∀n,n<=i+j+1->sm n (λt=>co L t*co g (i+j-t))=if i<n then co L i*co g j else 0:=λn=>by
  induction n with
  |zero=>intro _;rfl
  |succ n ih=>
   intro hn;rw[sm,ih ⋯];rcases O4 n i with c|c|c
   .rw[Â ⋯,Â ⋯,h2 n c];simp
   .rw[c,Â 0.6,Á ⋯,(0.6:i+j-i=j)];simp
   .rw[Á 0.9,Á ⋯,a (i+j-n) 0.7];simp
 rw[U,iw,s _ (aZ _),Á ⋯,wG]at e;let:1<=(co g j).natAbs:=⋯;let:=nH (co L i).natAbs this;lia
end Pm
namespace Dm
def ln(L:List ζ)(i:Nat):ζ:=L.getD i []
end Dm
namespace El
open Pm Rm Dm
section
variable {A:List ζ}{i c u W N:Nat}{x p h q ws:ζ}{f l:Int}{rs:fY}
def tU(p f l:Int)(x h:ζ):ζ:=List.zipWith (λa c=>(p*a-f*c).fdiv l) x h
def rQ(A:List ζ)(c:Nat):Option Nat:=(dY A[_]).find? λi=>decide (c<=i)&&decide (co (ln A i) c≠0)
def jL(A:List ζ)(a c:Nat):List ζ:=if a=c then A else(A.set c (ln A a)).set a ((ln A c).map λx=>0-x)
def sJ(B:List ζ)(c:Nat)(l:Int)(i:Nat):ζ:=if i=c then ln B c else tU (co (ln B c) c) (co (ln B i) c) l (ln B i) (ln B c)
def wu(A:List ζ)(l:Int)(c:Nat):Option (List ζ×Int):=(rQ A c).map λa=>((dY A[_]).map (sJ (jL A a c) c l),co (ln (jL A a c) c) c)
def jQ(A:List ζ):Nat->Option (List ζ×Int)
 |0=>ι (A,1)
 |c+1=>(jQ A c).bind λs=>wu s.1 s.2 c
def KA(h:i<A[_]):ln A i∈A:=by
 unfold ln;rw[À,Ä h,!rD h]
def BE(h:A[_]<=i):ln A i=[]:=by
 unfold ln;rw[À,à h,0]
def MV(f:Nat->ζ){n i:Nat}(h:i<n):ln ((dY n).map f) i=f i:=by
 unfold ln;rw[À,Î,ú h,0]
def SW:rQ A c=ι a↔c<=a/\a<A[_]/\co (ln A a) c≠0/\∀i,c<=i->i<a->co (ln A i) c=0:=by
 unfold rQ;rw[ĝ];simp only[tH,decide_eq_true_eq,fQ,Bool.not_eq_true',Bool.and_eq_false_iff,decide_eq_false_iff_not,Decidable.not_not];constructor
 .rintro⟨⟨h1,h2⟩,h3,h4⟩;show{h1,h3,h2,λi a b=>(h4 i b).resolve_left λz=>z a}
 .rintro⟨h1,h2,h3,h4⟩;show{{h1,(h3)},h2,λj d=>by
   by_cases z:c<=j
   .exact .inr (h4 j z d)
   .exact .inl z}
structure rJ(W u:Nat)(A:List ζ):Prop where
 len:∀i,i<A[_]->(ln A i)[_]=W
 bd:∀i k,Bd u (co (ln A i) k)
def Fc(A:List ζ)(a c:Nat):(jL A a c)[_]=A[_]:=by
 unfold jL;split
 .rfl
 .rw[qt,qt]
def Hf{L:List ζ}(q:ζ)(hi:i<L[_])(k:Nat):ln (L.set i q) k=if k=i then q else ln L k:=by
 unfold ln;rw[À,Ň,À];by_cases e:i=k
 .subst e;simp[hi]
 .rw[Â e,Â (λz=>e z.symm)]
def aFT(h:∀k,Bd u (co x k))(k:Nat):Bd u (co (x.map λx=>0-x) k):=by
 rw[uH rfl];let:=h k;unfold Bd at this⊢;simp_all
def rJ.br(h:rJ W u A){a c:Nat}(ha:a<A[_])(hc:c<A[_]):rJ W u (jL A a c):=by
 unfold jL;split
 .exact h
 .refine{λi hi=>?_,λi k=>?_}
  .rw[qt,qt]at hi;rw[Hf _ #v[qt,!ha],Hf _ hc];split
   .rw[aA];show h.len c hc
   .split
    .exact h.len a ha
    .exact h.len i hi
  .rw[Hf _ #v[qt,!ha],Hf _ hc];split
   .exact aFT (h.bd c) k
   .split
    .exact h.bd a k
    .exact h.bd i k
def ZL:∀x l:Int,(x.fdiv l).natAbs<=x.natAbs
 |.ofNat 0,.ofNat _=>dz _
 |.ofNat 0,.negSucc _=>dz _
 |.ofNat (m+1),.ofNat n=>SM (m+1) n
 |.ofNat (m+1),.negSucc n=>Bz (SM m (n+1))
 |.negSucc _,.ofNat 0=>dz _
 |.negSucc m,.ofNat (n+1)=>Bz (SM m (n+1))
 |.negSucc m,.negSucc n=>SM (m+1) (n+1)
def YH{p:Int}(O:x[_]=h[_])(k:Nat):co (tU p f l x h) k=(p*co x k-f*co h k).fdiv l:=by
 unfold tU co;rw[À,List.getElem?_zipWith,À,À];by_cases c:k<x[_]
 .rw[Ä c,Ä 0.6];rfl
 .rw[à 0.6,à 0.6];simp
def rJ.st{B:List ζ}{U:Int}(h:rJ W u A)(O:wu A l c=ι (B,U)):rJ W (2*u+1) B/\B[_]=A[_]/\U≠0/\Bd u U:=by
 unfold wu at O;cases e:rQ A c with
 |none=>rw[e]at O;cases O
 |some a=>
  rw[e]at O;cases O;let⟨h1,h2,h3,_⟩:=SW.mp e;let hb:=h.br h2 (⋯:c<A[_]);let b:=Fc A a c;let hp:co (ln (jL A a c) c) c≠0:=by
   unfold jL;split
   .rename_i z;rw[<-z]at h3 ⊢;show h3
   .rename_i z
    rw[Hf _ #v[qt,!h2],Â (λe=>z e.symm),Hf _ 0.7,Á rfl,!h3]
  generalize jL A a c=B at *;show{{λi hi=>?_,λi k=>?_},#v[aA,oO],hp,hb.bd _ _}
  .rw[aA,oO]at hi;rw[MV _ hi];unfold sJ;split
   .exact hb.len c 0.6
   .rw[tU,wy,hb.len i 0.6,hb.len c ⋯,Uy]
  .by_cases hi:i<A[_]
   .rw[MV _ hi];unfold sJ;split
    .exact(hb.bd _ _).mono ⋯
    .rw[YH #v[hb.len i ⋯,hb.len c ⋯]];show jD (ZL _ _) ?_;rw[Js,<-B5];show((hb.bd c c).mul (hb.bd i k)).add ((Ey (hb.bd i c)).mul (hb.bd c k)) |>.mono ⋯
   .rw[BE #v[aA,oO],gP];show Bd.zero _
theorem rJ.cl{W u:Nat}{A:List ζ}(h:rJ W u A)(hu:1<=u):∀{c:Nat} {B:List ζ} {l:Int},jQ A c=ι (B,l)->rJ W (2^c*(u+1)-1) B/\B[_]=A[_]/\l≠0/\Bd (2^c*(u+1)-1) l
 |0,B,l,e=>by
  cases e;show{{h.len,λi k=>(h.bd i k).mono 0.6},rfl,0.3,(Bd.of (n:=1) 0.3 0.3).mono 0.8}
 |c+1,B,l,e=>by
  rw[jQ]at e;cases a:jQ A c with
  |none=>rw[a]at e;cases e
  |some s=>
   rw[a]at e;let⟨b,k2,_,_⟩:=rJ.cl h hu (c:=c) (B:=s.1) (l:=s.2) a;let⟨g,j,f,d⟩:=b.st (show wu s.1 s.2 c=ι (B,l)from e);let p:1<=2^c:=ES;let q:1*1<=2^c*(u+1):=nZ p ⋯;rw[show 2^(c+1)*(u+1)-1=2*(2^c*(u+1)-1)+1 by rw[lY,qW (2^c) 2,Qe,1],!{g,1.1,f,d.mono ⋯}]
def CZ{f:ζ->ζ}(O:f []=[])(A:List ζ)(i:Nat):ln (A.map f) i=f (ln A i):=by
 unfold ln;rw[À,Î,À];cases A[i]? with
 |none=>show O.symm
 |some x=>rfl
def gN(h:c<n)(x:ζ):co (x.take n) c=co x c:=by
 unfold co;rw[À,List.getElem?_take,Á h,À]
abbrev fY:=List (Int×Nat)
def cu(a:fY):Nat:=(a.map (·.2)).sum
def gR(a:fY)(n:Nat):ζ:=(a.map λp=>aD p.2 λj=>p.1^n*(n:Int)^j).flatten
def tZ(a:fY):List ζ:=(dY (cu a)).map (gR a)
def AX(m:Nat):ζ:=if m=1 then[-1,0,1]else[-m[0],-1,0,1,m[0]]
def ah3(h:Div 0 p (lin r) q [])(hp:Mon p):Mon q/\q[_]+1=p[_]:=by
 let e:∀k,co p k=(if k=0 then 0 else co q (k-1))-r*co q k:=λk=>by
  let:=h.eq k;rw[cY,cY,oo,gP,fK]at this;show this.symm
 let d:=hp.pos;let a:=hp.one;by_cases hq:q=[]
 .rw[e,hq,gP,gP]at a;split at a<;>simp at a
 let h0:=Iz hq h.qy.tr;let c:0<q[_]:=tM.mpr hq;let b:=e q[_];rw[Â 0.8,bK (p:=q) (aZ _),dG,CY]at b;let l1:=Dd (p:=p) (k:=q[_]) #v[b,!h0];let l2:p[_]=q[_]+1:=by
  show Nat.le_antisymm (HS λz=>?_) l1;rw[e,Â ⋯,bK (p:=q) 0.9,bK (p:=q) 0.7,dG]at a;show È a 0.3
 rw[l2,gU,b]at a;show{{c,(a)},l2.symm}
def V7(h:Rep r m p q):Mon p->Mon q/\q[_]+m=p[_]:=by
 induction h with
 |zero q=>exactλh=>{h,(rfl)}
 |succ d _ ih=>
  intro hp;let⟨b,k2⟩:=ah3 d hp;let⟨a,c⟩:=ih b;show{a,⋯}
def uc(L:List ζ)(ws:ζ):List ζ:=(dY L[_]).map λi=>ln L i++[co ws i]
def jI(a:fY)(n:Nat):(gR a n)[_]=cu a:=by
 unfold gR cu;rw[List.length_flatten,dh,!Ï _ (jx λp _=>bZ ..)]
def W0(a:fY):(tZ a)[_]=cu a:=#v[tZ,aA,oO]
def Qb(h:i<cu rs):ln (tZ rs) i=gR rs i:=MV _ h
def lc(N:Nat)(ws x:ζ):ζ:=if x=[]then[]else x.take N++[sm N λk=>co ws k*co x (N+k)]
def Dn(N:Nat)(ws:ζ):lc N ws []=[]:=rfl
def VN(h:c<N)(x:ζ):co (lc N ws x) c=co x c:=by
 unfold lc;split
 .rename_i e;rw[e]
 rw[kZ,jg];by_cases z:c<x[_]
 .rw[Á ⋯,gN h]
 .rw[Â ⋯,bK (p:=x) 0.6];let e:(sm N λk=>co ws k*co x (N+k))=0:=by
   rw[bG (g:=λ_=>0) λk _=>#v[bK (p:=x) ⋯,dG],ou]
  rw[e];cases c-min N x[_] with
  |zero=>rfl
  |succ k=>show bK (⋯:1<=k+1)
def ayD(h:N<=x[_])(h0:0<N):co (lc N ws x) N=sm N λk=>co ws k*co x (N+k):=by
 unfold lc;rw[Â (λz=>by rw[z]at h;show È h (0.6:¬N<=0)),kZ,jg,Â 0.6,(0.6:N-min N x[_]=0),0]
def aF6(N:Nat)(ws x:ζ):lc N ws (x.map λy=>0-y)=(lc N ws x).map λy=>0-y:=by
 unfold lc;by_cases z:x=[]
 .rw[z];rfl
 rw[Â z,Â (λe=>z (Us.mp e)),eG,qg,!Ï _ (Ï (· :: []) ?_)];show _=0-_;rw[rH,<-Dg,<-dW,!bG λk _=>?_];rw[uH (by rfl),rH,U6,Dg]
def ϲ(N:Nat)(p f l:Int)(x h:ζ):Bool:=decide (x[_]=h[_])&&(dY N).all λk=>decide ((p*co x (N+k)-f*co h (N+k)).fdiv l*l=p*co x (N+k)-f*co h (N+k))
def aJF{p:Int}(ws:ζ)(O:l≠0)(e:ϲ N p f l x h=true):tU p f l (lc N ws x) (lc N ws h)=lc N ws (tU p f l x h):=by
 let⟨b,a⟩:=vX.mp e;let el:=of_decide_eq_true b;let ex:∀k,k<N->_:=λk hk=>of_decide_eq_true (jU.mp a k (fQ.mpr hk));unfold lc;by_cases z:x=[]
 .rw[Á z,z];rfl
 let c:=tM.mpr z;rw[Â z,Â (λy=>by rw[y]at el;show È el (⋯:¬_=0)),Â (λy=>by
  let:=Ï GB y;rw[tU,wy,<-el,Uy]at this;show È this (⋯:¬_=0))]
 rw[tU,List.zipWith_append #v[jg,jg,el],tU,List.take_zipWith,!Ï _ (Ï (· :: []) ?_)];show(Ï (λt=>Int.fdiv t l) (?_:_=(sm N λk=>co ws k*co (tU p f l x h) (N+k))*l)).trans (GH _ O);rw[fO _ l,<-dW,<-dW,<-dW,Js,<-Dg,<-dW,<-jW,!bG λk hk=>?_];rw[YH el,rZ l,fO l,ex k hk,Dg,<-Js,Fo,rZ p,rZ f]
def Jv(N:Nat)(A:List ζ)(l:Int)(c:Nat):Bool:=match rQ A c with
 |none=>false
 |some a=>decide (l≠0)&&(dY A[_]).all λi=>decide (i=c)||ϲ N (co (ln (jL A a c) c) c) (co (ln (jL A a c) i) c) l (ln (jL A a c) i) (ln (jL A a c) c)
def aWR(ws:ζ)(h:c<N)(A:List ζ)(l:Int)(O:Jv N A l c=true):wu (A.map (lc N ws)) l c=(wu A l c).map λs=>(s.1.map (lc N ws),s.2):=by
 let f:rQ (A.map (lc N ws)) c=rQ A c:=by
  unfold rQ;rw[aA];congr 1
  funext i
  rw[CZ (Dn N ws),VN h]
 let g:∀a,jL (A.map (lc N ws)) a c=(jL A a c).map (lc N ws):=λa=>by
  unfold jL;split
  .rfl
  .rw[pT,pT,CZ (Dn N ws),CZ (Dn N ws),aF6]
 unfold Jv at O;unfold wu;rw[f];cases e:rQ A c with
 |none=>rfl
 |some a=>
  rw[e]at O;let⟨d,b⟩:=vX.mp O;simp only[Jt,g,aA,CZ (Dn N ws),VN h,dh];congr 2;show jx λi hi=>?_;show sJ _ c l i=lc N ws (sJ _ c l i);unfold sJ;rw[CZ (Dn N ws),CZ (Dn N ws),VN h,VN h];split
  .rfl
  .rename_i z
   show aJF ws (of_decide_eq_true d) (((Am ..).mp (jU.mp b i hi)).resolve_left λy=>z (of_decide_eq_true y))
def HM(N:Nat)(A:List ζ):Nat->Bool
 |0=>true
 |c+1=>HM N A c&&match jQ A c with
  |some s=>Jv N s.1 s.2 c
  |none=>false
theorem ZN{N:Nat}(ws:ζ)(A:List ζ):∀c,c<=N->HM N A c=true->jQ (A.map (lc N ws)) c=(jQ A c).map λs=>(s.1.map (lc N ws),s.2)
 |0,_,_=>rfl
 |c+1,h,ho=>by
  let⟨b,a⟩:=vX.mp ho;rw[jQ,jQ,ZN ws A c ⋯ b];cases e:jQ A c with
  |none=>rfl
  |some s=>rw[e]at a;show aWR ws 1.2 s.1 s.2 a
def FJ(a:fY):List ζ:=(dY (cu a)).map λi=>gR a i++aD (cu a) λk=>if i=k then 1 else 0
def good(a:fY):Bool:=HM (cu a) (FJ a) (cu a)&&match jQ (FJ a) (cu a)with
 |none=>false
 |some s=>decide (s.2≠0)&&decide (s.1[_]=cu a)&&s.1.all (λx=>decide (cu a<=x[_]))&&
  (dY (cu a)).all (λn=>(dY (cu a)).all λk=>decide ((sm (cu a) λj=>co (gR a n) j*co (ln s.1 j) (cu a+k))=if n=k then s.2 else 0))&&
  (dY (12-cu a)).all λn=>(dY (cu a)).all λj=>decide ((sm (cu a+1) λi=>co (RP a [1]) i*co (gR a (n+i)) j)=0)
def chg:ζ->Nat->fY->Bool
 |[],_,pre=>good pre
 |c::cs,n,pre=>chg cs n pre&&(decide (c=0)||(dY n).all λt=>chg cs (n-(t+1)) (pre++[(c,t+1)]))
def aDC:∀m∈[1,2,3],chg (AX m) 3 []=true:=0.0
def aRE(ws:ζ):(FJ rs).map (lc (cu rs) ws)=uc (tZ rs) ws:=by
 unfold FJ uc;rw[W0,dh,!jx λi hi=>?_];let a:=fQ.mp hi;rw[Qb a,!lc _ ws _=_];let ll:=jI rs i;unfold lc;rw[Â (λz=>by let:=Ï GB z;rw[fJ,ll]at this;show È this (0.6:¬_=0)),ft 0.6,sG 0.6,!Ï _ (Ï (· :: []) ?_)];let b:∀n,n<=cu rs->(sm n λk=>co ws k*co (gR rs i++aD (cu rs) λk=>if i=k then 1 else 0) (cu rs+k))=if i<n then co ws i else 0:=λn=>by
  induction n with
  |zero=>intro _;rfl
  |succ n ih=>
   intro hn;let d:co (gR rs i++aD (cu rs) λk=>if i=k then 1 else 0) (cu rs+n)=if i=n then 1 else 0:=by
    rw[kZ,ll,Â 0.6,(0.6:cu rs+n-cu rs=n),dH,Á (1.2:n<cu rs)]
   rw[sm,ih ⋯,d];rcases O4 i n with c|c|c
   .rw[Á c,Â ⋯,Á ⋯];simp
   .rw[Â 0.6,Á c,Á ⋯,c];simp
   .rw[Â ⋯,Â ⋯,Â ⋯];simp
 rw[b _ (aZ _),Á a]
def aPZ(h:good rs=true)(ws:ζ):∃B last,jQ (uc (tZ rs) ws) (cu rs)=ι (B,last)/\last≠0/\(∀n,n<cu rs->(sm (cu rs) λj=>co (gR rs n) j*co (ln B j) (cu rs))=last*co ws n)/\∀n,n+cu rs<12->∀j,j<cu rs->(sm (cu rs+1) λi=>co (RP rs [1]) i*co (gR rs (n+i)) j)=0:=by
 unfold good at h;let⟨h1,h2⟩:=vX.mp h;let e:=ZN ws (FJ rs) _ (aZ _) h1;rw[aRE]at e;generalize o:cu rs=N at *;cases z:jQ (FJ rs) N with
 |none=>rw[z]at h2;cases h2
 |some s=>
  rw[z]at h2 e;let⟨h2,f⟩:=vX.mp h2;let⟨h2,b⟩:=vX.mp h2;let⟨h2,h4⟩:=vX.mp h2;let⟨h2,h3⟩:=vX.mp h2;show{_,_,e,of_decide_eq_true h2,λn hn=>?_,λn hn j d=>?_}
  .let b:=λk (hk:k<N)=>of_decide_eq_true (jU.mp (jU.mp b n (fQ.mpr hn)) k (fQ.mpr hk));let h3:=of_decide_eq_true h3;rw[bG (g:=λj=>sm N λk=>co ws k*(co (gR rs n) j*co (ln s.1 j) (N+k))) λj d=>by
    rw[CZ (Dn N ws),ayD (of_decide_eq_true (jU.mp h4 _ (KA 0.6))) ⋯,<-dW,!bG λk _=>rZ ..],vZ]
   let a:∀m,m<=N->(sm m λk=>sm N λj=>co ws k*(co (gR rs n) j*co (ln s.1 j) (N+k)))=if n<m then s.2*co ws n else 0:=λm=>by
    induction m with
    |zero=>intro _;rfl
    |succ m ih=>
     intro l;rw[sm,ih ⋯,dW,b m ⋯];rcases O4 n m with c|c|c
     .rw[Á c,Â ⋯,Á ⋯];simp
     .rw[Â ⋯,Á c,Á ⋯,c,dO,fO]
     .rw[Â ⋯,Â ⋯,Â ⋯];simp
   rw[a _ (aZ _),Á hn]
  .exact of_decide_eq_true (jU.mp (jU.mp f n (fQ.mpr 0.9)) j (fQ.mpr d))
def aTZ{l:fY}(h:Scan cs p l R):∀{n:Nat} {pre:fY},Mon p->p[_]<=n+1->R=[1]->(∀x∈l,x.1≠0)->chg cs n pre=true->good (pre++l)=true/\cu l+1=p[_]:=by
 induction h with
 |nil p=>
  intro n pre _ _ e _ h;rw[sU,e,!{h,(rfl)}]
 |@hit c cs p q m l R hr _ _ ih=>
  intro n pre hp hn e hx h;let⟨b,k2⟩:=V7 hr hp;let:=b.pos;rw[chg,tH,Am]at h;let h2:=h.2.resolve_left λz=>hx _ lH (of_decide_eq_true z);let h3:=jU.mp h2 m (fQ.mpr ⋯);let⟨d,f⟩:=ih b 0.9 e (λx a=>hx x (gW _ a)) h3;rw[yX]at d;show{d,?_};show(m+1)+cu l+1=_;lia
 |@miss c cs p l R _ _ ih=>
  intro n pre hp hn e hx h;rw[chg,tH]at h;show ih hp hn e hx h.1
def aVv(hN:cu rs=N)(O:co (RP rs [1]) N=1)(U:(RP rs [1])[_]=N+1)(ha:∀n,ks (RP rs [1]) a n=0)(h0:∀n,n<N->(sm N λj=>co (gR rs n) j*co ts j)=last*a n)(h1:∀n,n+N<12->∀j,j<N->(sm (N+1) λi=>co (RP rs [1]) i*co (gR rs (n+i)) j)=0):∀n,n<12->last*a n=sm N λj=>co (gR rs n) j*co ts j:=by
 intro n;induction n using rz with
 |ind n ih=>
  intro hn;by_cases c:n<N
  .exact(h0 n c).symm
  let e:(sm (N+1) λi=>co (RP rs [1]) i*sm N λj=>co (gR rs (n-N+i)) j*co ts j)=0:=by
   rw[bG (g:=λi=>sm N λj=>co ts j*(co (RP rs [1]) i*co (gR rs (n-N+i)) j)) λi _=>by
    rw[<-dW,!bG λj _=>#v[fO (co ts j),iT]],vZ,bG (g:=λ_=>0) λj b=>#v[dW,h1 _ 0.6 j b,dG],ou]
  let k:=Ï (last * ·) (ha (n-N));unfold ks at k;rw[U,<-dW,dG,sm,O,mU,(0.6:n-N+N=n)]at k;rw[sm,O,mU,(⋯:n-N+N=n),<-bG (f:=λi=>last*(co (RP rs [1]) i*a (n-N+i))) λi hi=>#v[rZ,ih (n-N+i) ⋯ ⋯]]at e;lia
end
end El
namespace K55
open PySem L2
open Pm Rm Tx Om
seal PA PE PS m8 PT PW PI PG B6 PO Cv
set_option hygiene false
open Lean in
def mmE:Nat->Syntax->Syntax
|0,r=>r
|n+1,r=>
  let b:=r.getArg 1
  let l:="+ pad K - oX aQk * oX v_mul / oX aUD % oX aO2 < Hh Rp > Hh om <= Hh NB >= Hh SO == Hh pQ != Hh xne".splitOn " "
  let i:=l.idxOf b.getAtomVal
  let g j:Syntax:=mkIdent (l.getD (i+j) "").toName
  if i<33 then mmA (g 1) #[if i>26 then mmA (g 2) #[mkIdent `K,mkIdent `hr] else g 2,mmE n (r.getArg 0),mmE n (r.getArg 2)]
  else if r.isOfKind `Lean.Parser.Term.paren then mmE n b
  else mmL r
open Lean in
local macro_rules
|`((($a,$b,$c) :))=>`(λ_ _ _ _ _=>⟨$a,$b,$c⟩)
|`(($e :))=>pure (mmE 99 e)
|`(#[$x,*])=>
  let A n y:=(mmA (mkIdent n) y).raw
  match x.getElems.toList.map λe=>e.raw with
  |[]=>Macro.throwUnsupported
  |e::l=>pure (if e.isOfKind `Lean.Parser.Term.tuple&&l.length>1 then l.dropLast.foldr (λa r=>A `AB #[a,r]) (A `aJ #[l.getLast!])
   else (e::l).foldr (λe r=>A (if e.getNumArgs != 1 then `xW else if e.isOfKind `num then `OS else `R9) #[mmL e,r]) (mkIdent `jF))
set_option hygiene true
def top(i:Nat):Ö:=PySem.Challenge.pw_nextbyrule_k55_whole_desk_by_places.main.body.getD i (.Pass {0,0,0,(0)})
abbrev V8:Ö:=top 12
abbrev pe:Ö:=top 13
abbrev mT:Ö:=top 14
abbrev ot:Ö:=top 15
abbrev kD:Ö:=top 16
abbrev dP:Ö:=top 17
abbrev Yy:Ö:=top 18
abbrev X6:Ö:=top 22
abbrev aE:Ö:=top 23
abbrev se:Ö:=top 24
abbrev Y8:Ö:=top 25
abbrev tI:Ö:=top 26
abbrev y8:Ö:=top 27
abbrev YG:Ö:=top 28
abbrev xv:Ö:=top 29
abbrev Yx:Ö:=top 31
abbrev aS:Ö:=top 32
abbrev Xj:Ö:=top 33
abbrev dy:Ö:=top 34
abbrev vc:Ö:=top 35
abbrev aU:Ö:=top 36
abbrev vF:Ö:=top 37
abbrev Wv:Ö:=top 38
abbrev kU:Ö:=top 39
abbrev gE:Ö:=top 42
abbrev Ww:Ö:=top 43
abbrev pf:Ö:=top 44
abbrev Xd:Ö:=top 45
abbrev k8:Ö:=top 46
abbrev mN:Ö:=top 47
abbrev ym:Ö:=top 48
abbrev Yh:Ö:=top 50
abbrev tx:Ö:=top 51
abbrev oT:Ö:=top 52
abbrev bo:Ö:=top 54
abbrev ba:Ö:=top 56
abbrev fS:Ö:=top 57
abbrev ku:Ö:=top 58
abbrev mE:Ö:=top 62
abbrev eI:Ö:=top 63
abbrev ez:Ö:=top 64
abbrev wq:Ö:=top 65
abbrev nz:Ö:=top 66
abbrev pS:Ö:=top 67
abbrev YC:Ö:=top 68
abbrev ZC:Ö:=top 69
abbrev Xn:Ö:=top 70
abbrev xf:Ö:=top 71
abbrev r9:Ö:=top 72
abbrev ZD:Ö:=top 73
abbrev nE:Ö:=top 74
abbrev fT:Ö:=top 75
abbrev Yv:Ö:=top 76
abbrev lI:Ö:=top 78
abbrev cn:Ö:=top 79
abbrev YL:Ö:=top 80
abbrev Xp:Ö:=top 81
abbrev Y7:Ö:=top 82
abbrev Z5:Ö:=top 83
abbrev ir:Ö:=top 84
abbrev ij:Ö:=top 86
abbrev kP:Ö:=top 89
abbrev sM:Ö:=top 91
abbrev jv:Ö:=top 92
abbrev ua:Ö:=top 93
abbrev qh:Ö:=top 94
abbrev xy:Ö:=top 97
abbrev a9:Ö:=top 98
abbrev qV:Ö:=top 99
abbrev VW:Ö:=top 100
abbrev iP:Ö:=top 101
abbrev pd:Ö:=top 104
abbrev ZJ:Ö:=top 105
abbrev dc:Ö:=top 106
abbrev qo:Ö:=top 107
abbrev ie:Ö:=top 108
abbrev fA:Ö:=top 109
abbrev X7:Ö:=top 110
abbrev og:Ö:=top 111
abbrev Yd:Ö:=top 112
abbrev qA:Ö:=top 115
abbrev yB:Ö:=top 116
abbrev nS:Ö:=top 117
abbrev vv:Ö:=top 118
abbrev ay:Ö:=top 119
abbrev ja:Ö:=top 123
abbrev pV:Ö:=top 124
abbrev r6:Ö:=top 125
abbrev ph:Ö:=top 126
abbrev we:Ö:=top 127
abbrev ox:Ö:=top 128
abbrev Xz:Ö:=top 129
abbrev Xw:Ö:=top 130
abbrev mn:Ö:=top 136
abbrev WZ:Ö:=top 137
abbrev dm:Ö:=top 138
abbrev Z6:Ö:=top 139
abbrev r8:Ö:=top 140
abbrev Yp:Ö:=top 141
abbrev dt:Ö:=top 142
abbrev XE:Ö:=top 143
abbrev sj:Ö:=top 144
abbrev YM:Ö:=top 145
abbrev tF:Ö:=top 146
abbrev a8:Ö:=top 147
abbrev yy:Ö:=top 148
abbrev mf:Ö:=top 149
abbrev yT:Ö:=top 150
abbrev iO:Ö:=top 151
abbrev YS:Ö:=top 152
abbrev WW:Ö:=top 153
abbrev n4:Ö:=top 154
abbrev oP:Ö:=top 155
abbrev fE:Ö:=top 156
abbrev gV:Ö:=top 157
abbrev Ze:Ö:=top 158
abbrev ZY:Ö:=top 159
abbrev W7:Ö:=top 160
abbrev Yj:Ö:=top 161
abbrev VZ:Ö:=inClass (top 164) 0
abbrev rS:Ö:=inClass (top 164) 1
abbrev Yt:Ö:=top 166
abbrev iX:Ö:=top 167
abbrev b5:Ö:=top 169
abbrev Xq:Ö:=top 170
abbrev Zy:Ö:=top 171
abbrev vi:Ö:=top 172
abbrev aW:Ö:=top 173
abbrev sQ:Ö:=top 174
abbrev dA:Ö:=top 175
abbrev vy:Ö:=top 176
abbrev fg:Ö:=top 177
abbrev uk:Ö:=top 178
abbrev iF:Ö:=top 179
abbrev ZX:Ö:=top 180
abbrev XM:Ö:=top 181
abbrev C6:Ö:=top 182
def aGM:aM ["thing"] ["thing"] (aG V8):=aO
def yo:aM ["number","divisor"] ["number"] (aG pe):=aO
def aMF:aM ["thing"] ["thing"] (aG mT):=aO
def aGF:aM ["by","thing"] ["by","thing"] (aG ot):=aO
def aJL:aM ["by","number"] ["by","number"] (aG kD):=aO
def C8:aM ["prime","number","power","square","left"] ["prime","number"] (aG dP):=aO
def aBT:aM ["by","one","other"] ["by","one","other"] (aG Yy):=aO
def aM6:aM ["by","thing"] ["by","thing"] (aG X6):=aO
def QF:aM ["thing","by","rule","starts"] ["thing"] (aG aE):=aO
def aNh:aM ["one","other"] ["one","other"] (aG se):=aO
def aFt:aM ["row"] ["row"] (aG Y8):=aO
def SJ:aM ["by","rule","before","total","k"] ["by","rule","before"] (aG tI):=aO
def Ig:aM ["row","count","by","rule","starts","found"] ["row","count"] (aG y8):=aO
def aEk:aM ["n"] ["n"] (aG YG):=aO
def aKZ:aM ["row","count"] ["row","count"] (aG xv):=aO
def uB:aM ["numbers","end"] ["numbers"] (aG Yx):=aO
def azp:aM ["poly","k"] ["poly","k"] (aG aS):=aO
def Uq:aM ["by","one","other","total","i","k"] ["by","one","other"] (aG Xj):=aO
def Dr:aM ["by","one","other","top","often","left","shift","factor","k"] ["by","one","other"] (aG dy):=aO
def SK:aM ["prime","poly","last"] ["prime","poly"] (aG vc):=aO
def GZ:aM ["by","one","other","great","small","left"] ["by","one","other"] (aG aU):=aO
def xl:aM ["by","rule","length","numbers"] ["by","rule"] (aG vF):=aO
def Ϸ:aM ["by","poly","length"] ["by","poly"] (aG Wv):=aO
def aNH:aM ["by","poly","found","n"] ["by","poly","found","n"] (aG kU):=aO
def eu:aM ["number","found"] ["number"] (aG gE):=aO
def azz:aM ["monic_one","poly"] ["monic_one","poly"] (aG Ww):=aO
def aSm:aM ["prime","poly"] ["prime","poly"] (aG pf):=aO
def M3:aM ["modulus","number","rest"] ["modulus","number"] (aG Xd):=aO
def CS:aM ["modulus","number","prime","rest","more"] ["modulus","number","prime","rest"] (aG k8):=aO
def qL:aM ["one","other","told","modulus","prime","ripe","seen","before"] ["one","other"] (aG mN):=aO
def aJq:aM ["by","one","other"] ["by","one","other"] (aG ym):=aO
def EJ:aM ["row","poly","by","starts","top","k","parts"] ["row","poly"] (aG Yh):=aO
def Vi:aM ["row","by","poly","top"] ["row"] (aG tx):=aO
def uS:aM ["row","least","rule"] ["row"] (aG oT):=aO
def K1:aM ["one","other","count","ours","theirs","n"] ["one","other"] (aG bo):=aO
def TM:aM ["rule","sums","k","reach"] ["rule","sums","k"] (aG ba):=aO
def Qp:aM ["rule","count","sums","k","own"] ["rule","count"] (aG fS):=aO
def gI:aM ["sums","rule","k"] ["sums"] (aG ku):=aO
def aCH:aM ["length"] ["length"] (aG mE):=aO
def aSf:aM ["start","step"] ["start","step"] (aG eI):=aO
def xj:aM ["by","rule","starts","rule_taken","starts_taken"] ["by","rule","starts"] (aG ez):=aO
def axS:aM ["ours","theirs","n"] ["ours","theirs","n"] (aG wq):=aO
def aLL:aM ["ours","theirs","n"] ["ours","theirs","n"] (aG nz):=aO
def aKe:aM ["ours","theirs","n"] ["ours","theirs","n"] (aG pS):=aO
def SG:aM ["one","other","rule","pair_place","length","ours","theirs"] ["one","other","rule","pair_place"] (aG YC):=aO
def N7:aM ["one","other","pair_place","by","ours","theirs","poly"] ["one","other","pair_place"] (aG ZC):=aO
def aFf:aM ["one","other"] ["one","other"] (aG Xn):=aO
def ayO:aM ["one","other"] ["one","other"] (aG xf):=aO
def BZ:aM ["one","other","ours","theirs","length","our_sums","their_sums","rule"] ["one","other"] (aG r9):=aO
def aEp:aM ["row","number"] ["row","number"] (aG ZD):=aO
def GC:aM ["row","by","least","length","poly","found"] ["row"] (aG nE):=aO
def E5:aM ["row","start","step","least","length","sums","found","rule"] ["row","start","step"] (aG fT):=aO
def Wo:aM ["row","numbers","least","rule"] ["row","numbers"] (aG Yv):=aO
def aGo:aM ["by","line"] ["by","line"] (aG lI):=aO
def AQ:aM ["lines","begin","column","i"] ["lines","begin","column"] (aG cn):=aO
def QU:aM ["by","lines","at","top","down"] ["by","lines","at","top"] (aG YL):=aO
def Qq:aM ["by","line","head","column","last","pivot","factor","mixed","share"] ["by","line","head","column","last"] (aG Xp):=aO
def Bj:aM ["by","wide","lines","heads","last","column","top","at","i"] ["by","wide","lines"] (aG Y7):=aO
def Hy:aM ["one","other","great","small","left"] ["one","other"] (aG Z5):=aO
def JH:aM ["by","bottom","tops","top","divisor"] ["by","bottom","tops"] (aG ir):=aO
def Af:aM ["by","wide","table","wished","lines","i","cleared","heads","last","tops","low"] ["by","wide","table","wished"] (aG ij):=aO
def UE:aM ["by","wide","table","wished","found"] ["by","wide","table","wished"] (aG kP):=aO
def dE:aM ["row","divisor","rule","starts"] ["row","divisor"] (aG sM):=aO
def VG:aM ["row","divisor","start"] ["row"] (aG jv):=aO
def T9:aM ["row","divisor","start","step","length","rests","k"] ["row","divisor","start","step"] (aG ua):=aO
def aQw:aM ["row","prime"] ["row","prime"] (aG qh):=aO
def aD9:aM ["by","n"] ["by","n"] (aG xy):=aO
def EV:aM ["by","poly","n","left","figure","doubled"] ["by","poly","n"] (aG a9):=aO
def Uk:aM ["row","n","by","rule","left"] ["row","n"] (aG qV):=aO
def axl:aM ["row","n"] ["row","n"] (aG VW):=aO
def Lj:aM ["row","n","by","numbers","near","starts"] ["row","n"] (aG iP):=aO
def az6:aM ["poly"] ["poly"] (aG pd):=aO
def O8:aM ["number","small","great","tried"] ["number"] (aG ZJ):=aO
def Te:aM ["poly","low","above","below"] ["poly"] (aG dc):=aO
def Ef:aM ["poly","root","often","left","tried"] ["poly","root"] (aG qo):=aO
def Hz:aM ["poly","roots","left","root","found"] ["poly"] (aG ie):=aO
def VF:aM ["number","exponent","product","turn"] ["number","exponent"] (aG fA):=aO
def rf:aM ["roots","n","line","pair"] ["roots","n"] (aG X7):=aO
def E8:aM ["roots","tops","parts","begin","pair","end"] ["roots","tops"] (aG og):=aO
def G3:aM ["row","found","roots","length","table","answer"] ["row"] (aG Yd):=aO
def Rj:aM ["prime","length","windows","turn"] ["prime","length"] (aG qA):=aO
def OW:aM ["row","least"] ["row"] (aG yB):=aO
def Dq:aM ["row","by","rule","window","seen","begin"] ["row"] (aG nS):=aO
def aP9:aM ["row"] ["row"] (aG vv):=aO
def Bv:aM ["row","number","least","found","begin","length","numbers","early","starts"] ["row","number"] (aG ay):=aO
def aEK:aM [] [] (aG ja):=aO
def aTY:aM ["number"] ["number"] (aG pV):=aO
def L4:aM ["row","words"] ["row"] (aG r6):=aO
def ZH:aM ["word","figures"] ["word"] (aG ph):=aO
def aWA:aM ["word"] ["word"] (aG we):=aO
def UP:aM ["word","prime"] ["word"] (aG ox):=aO
def RM:aM ["rule_words","start_words","by","rule","starts","row"] ["rule_words","start_words","by"] (aG Xz):=aO
def Mu:aM ["text","words","bar","behind","end"] ["text"] (aG Xw):=aO
def AI:aM ["text","words"] ["text"] (aG mn):=aO
def Ux:aM ["words","kinds","count"] ["words"] (aG WZ):=aO
def aQF:aM ["word"] ["word"] (aG dm):=aO
def e_:aM ["kept","word","name"] ["kept","word"] (aG Z6):=aO
def aJA:aM ["kept","kind","word"] ["kept","kind","word"] (aG r8):=aO
def aOd:aM ["said"] ["said"] (aG Yp):=aO
def aTu:aM ["said"] ["said"] (aG dt):=aO
def aXh:aM ["said"] ["said"] (aG XE):=aO
def aOg:aM ["said"] ["said"] (aG sj):=aO
def aPh:aM ["said"] ["said"] (aG YM):=aO
def aL0:aM ["said"] ["said"] (aG tF):=aO
def azL:aM ["said"] ["said"] (aG a8):=aO
def aCI:aM ["said"] ["said"] (aG yy):=aO
def aSr:aM ["said"] ["said"] (aG mf):=aO
def aKk:aM ["said"] ["said"] (aG yT):=aO
def aKz:aM ["said"] ["said"] (aG iO):=aO
def aKq:aM ["numbers"] ["numbers"] (aG YS):=aO
def aGX:aM ["said"] ["said"] (aG WW):=aO
def aOL:aM ["said"] ["said"] (aG n4):=aO
def aI8:aM ["said"] ["said"] (aG oP):=aO
def x_:aM ["said","place"] ["said"] (aG fE):=aO
def aAk:aM ["said"] ["said"] (aG gV):=aO
def kL:aM ["said","found","words"] ["said"] (aG Ze):=aO
def my:aM ["said","form","parts"] ["said"] (aG ZY):=aO
def aL4:aM ["said"] ["said"] (aG W7):=aO
def YO:aM ["said","k"] ["said"] (aG Yj):=aO
def aFx:aM ["self"] ["self"] (aG VZ):=aO
def S8:aM ["self","row","words","kinds","said"] ["self","row"] (aG rS):=aO
def aHK:aM ["_law_script","_law_k"] ["_law_script","_law_k"] (aG Yt):=aO
def azw:aM ["_law_cell","_law_k"] ["_law_cell","_law_k"] (aG iX):=aO
def QA:aM ["_law_by_here","_law_number_here","_law_kind"] ["_law_by_here","_law_number_here"] (aG b5):=aO
def OG:aM ["_law_by_here","_law_cell","_law_many","_law_found","_law_number_here","_law_k"] ["_law_by_here","_law_cell","_law_many"] (aG Xq):=aO
def Gy:aM ["_law_by_here","_law_cell","_law_most","_law_many","_law_rule","_law_starts"] ["_law_by_here","_law_cell","_law_most"] (aG Zy):=aO
def aF3:aM ["_law_by_here","_law_number_here"] ["_law_by_here","_law_number_here"] (aG vi):=aO
def nI:aM ["_law_row","_law_words"] ["_law_row"] (aG aW):=aO
def aEQ:aM ["_law_text_here"] ["_law_text_here"] (aG sQ):=aO
def aFB:aM ["_law_desk","_law_name"] ["_law_desk","_law_name"] (aG dA):=aO
def Gh:aM ["_law_desk","_law_by_here","_law_first","_law_second","_law_number_here","_law_rows","_law_some","_law_n","_law_rolled_here","_law_due"] ["_law_desk","_law_by_here","_law_first","_law_second","_law_number_here"] (aG vy):=aO
def Eu:aM ["_law_desk","_law_by_here","_law_first","_law_number_here","_law_start","_law_step","_law_ahead","_law_rows","_law_every_so"] ["_law_desk","_law_by_here","_law_first","_law_number_here"] (aG fg):=aO
def i7:aM ["_law_desk","_law_first","_law_second","_law_due","_law_found"] ["_law_desk","_law_first","_law_second"] (aG uk):=aO
def wW:aM ["_law_desk","_law_first","_law_number_here","_law_prime","_law_one","_law_divisor","_law_left","_law_told","_law_whole","_law_shared_here"] ["_law_desk","_law_first","_law_number_here"] (aG iF):=aO
def pq:aM ["_law_told","_law_first","_law_parts","_law_n","_law_total","_law_part","_law_root","_law_mark","_law_tops","_law_inner","_law_power_here","_law_word","_law_turn"] ["_law_told","_law_first"] (aG ZX):=aO
def wC:aM ["_law_desk","_law_by_here","_law_first","_law_number_here","_law_begin","_law_length","_law_n","_law_wished","_law_early","_law_starts","_law_last","_law_some","_law_one"] ["_law_desk","_law_by_here","_law_first","_law_number_here"] (aG XM):=aO
def zf:aM ["_law_script","_law_by_here","_law_rows","_law_desk","_law_name","_law_row","_law_first","_law_second","_law_number_here"] ["_law_script"] (aG C6):=aO
abbrev aU5:=ψ "part" ["is_number"] ["by"]
abbrev aL2:=ψ "number" ["over"] ["last","prime"]
abbrev aBz:=ψ "k" ["taken"] ["by","length","rule"]
abbrev aC8:=ψ "k" ["taken"] ["by","length","poly"]
abbrev aJO:=ψ "k" [] ["found","n","poly"]
abbrev aMy:=ψ "number" ["taken"] ["prime"]
abbrev aQM:=ψ "rest" ["nearest"] ["prime"]
abbrev aFk:=ψ "k" ["joined"] ["before","modulus","prime","seen"]
abbrev aIv:=ψ "j" [] ["k","poly","starts"]
abbrev aQp:=ψ "i" [] ["k","rule","sums"]
abbrev aIA:=ψ "number" ["taken"] ["by"]
abbrev aWZ:=ψ "number" ["taken"] ["by"]
abbrev aCx:=ψ "i" [] ["n","ours","theirs"]
abbrev aSM:=ψ "n" [] ["ours","pair_place","theirs"]
abbrev aIT:=ψ "k" [] ["our_sums","their_sums"]
abbrev aAF:=ψ "start" [] ["number"]
abbrev aNe:=ψ "n" ["sum"] ["found"]
abbrev aIx:=ψ "k" [] ["step","sums"]
abbrev aGR:=ψ "k" [] ["found","start","step"]
abbrev aDa:=ψ "number" ["taken"] ["by"]
abbrev aVo:=ψ "number" ["taken"] ["by"]
abbrev aP1:=ψ "k" [] ["factor","head","line","pivot"]
abbrev aNO:=ψ "number" [] ["last"]
abbrev aLv:=ψ "top" [] ["divisor"]
abbrev aG3:=ψ "i" ["line_taken"] ["by","table","wished"]
abbrev aSi:=ψ "line" [] ["wide"]
abbrev aRS:=ψ "number" ["taken"] ["divisor"]
abbrev azr:=ψ "number" ["taken"] ["divisor"]
abbrev aRR:=ψ "i" ["number_at"] ["left"]
abbrev aVx:=ψ "m" ["sum_at"] ["by","near","numbers"]
abbrev aXi:=ψ "number" ["abs","ABOVE_ALL_NUMBERS"] []
abbrev aKg:=ψ "number" [] []
abbrev aKU:=ψ "divisor" [] []
abbrev aW7:=ψ "j" ["power"] ["n","pair"]
abbrev aVN:=ψ "pair" [] []
abbrev aQg:=ψ "pair" [] []
abbrev aAZ:=ψ "n" ["form_line"] ["roots"]
abbrev aR3:=ψ "n" [] ["number","numbers"]
abbrev aC1:=ψ "n" [] ["number","numbers"]
abbrev aLT:=ψ "number" ["number_shown"] []
abbrev aTI:=ψ "number" ["number_shown"] []
abbrev aWC:=ψ "figure" ["FIGURES"] []
abbrev ayU:=ψ "word" ["read_number"] []
abbrev aPP:=ψ "word" ["read_number"] []
abbrev aEc:=ψ "sign" ["NAME_SIGNS"] []
abbrev aVC:=ψ "number" ["taken"] ["said"]
abbrev aO6:=ψ "number" ["number_shown"] []
abbrev aD2:=ψ "n" ["number_shown"] []
abbrev aAq:=ψ "n" ["number_shown"] []
abbrev aOY:=ψ "part" ["number_shown","numbers_shown"] []
abbrev aQL:=ψ "k" ["read_word"] ["kinds","self","words"]
abbrev aLt:=ψ "_law_number_here" [] []
abbrev aJD:=ψ "_law_number_here" [] []
abbrev aHs:=ψ "_law_number_here" ["_law_rest"] ["_law_by_here"]
abbrev aR4:=ψ "_law_number_here" ["str"] []
abbrev aJc:=ψ "_law_number_here" ["str"] []
abbrev aPx:=ψ "_law_word" ["int"] []
abbrev aNy:=ψ "_law_row" [] ["_law_desk"]
abbrev aMk:=ψ "_law_name" ["_law_places"] ["_law_desk"]
abbrev aO9:=ψ "_law_i" [] ["_law_first","_law_n","_law_second"]
abbrev aPb:=ψ "_law_found" [] ["_law_n"]
abbrev aSC:=ψ "_law_one" ["_law_rest"] ["_law_by_here"]
abbrev aO8:=ψ "_law_k" ["_law_rest"] ["_law_by_here","_law_number_here"]
abbrev aze:=ψ "_law_one" ["str"] []
abbrev aOQ:=ψ "_law_row" [] ["_law_desk"]
abbrev aCu:=ψ "_law_k" [] ["_law_every_so"]
abbrev aU7:=ψ "_law_k" [] ["_law_first","_law_start","_law_step"]
abbrev aWe:=ψ "_law_n" [] ["_law_first","_law_second"]
abbrev aCv:=ψ "_law_one" [] ["_law_prime"]
abbrev axV:=ψ "_law_k" [] ["_law_divisor","_law_first"]
abbrev aUi:=ψ "_law_n" [] []
abbrev axf:=ψ "_law_n" [] ["_law_first","_law_wished"]
abbrev aCQ:=ψ "_law_j" ["_law_small_row","_law_cell_at","int"] ["_law_by_here","_law_script"]
structure Bt(mg:μ):Prop where
 Cz:mg "abs"=ν
 xD:mg "all"=ν
 VR:mg "any"=ν
 aJo:mg "bool"=ν
 uP:mg "int"=ν
 ED:mg "isinstance"=ν
 cC:mg "len"=ν
 Ay:mg "list"=ν
 XX:mg "max"=ν
 ayR:mg "min"=ν
 dw:mg "range"=ν
 YI:mg "reversed"=ν
 aMK:mg "sorted"=ν
 nq:mg "str"=ν
 Bg:mg "sum"=ν
 mF:mg "tuple"=ν
 ayG:mg "zip"=ν
 y4:∃t,mg "ABOVE_ALL_BYS"=ι (.int 1000 t)
 Zb:∃t,mg "ABOVE_ALL_NUMBERS"=ι (.int 1000000 t)
 ZP:∃t,mg "BELOW_THE_PRIMES"=ι (.int 1000000 t)
 xw:∃t,mg "FARTHEST"=ι (.int 300 t)
 fh:∃t,mg "FARTHEST_BY_0"=ι (.int 400 t)
 Zk:∃t,mg "FARTHEST_START"=ι (.int 100 t)
 tN:∃t,mg "FIGURES"=ι (.str "0123456789" t)
 QJ:∃t,mg "LONGEST"=ι (.int 12 t)
 mI:∃t,mg "LONGEST_NAME"=ι (.int 8 t)
 ai:∃t,mg "MOST_AHEAD"=ι (.int 12 t)
 eQ:∃t,mg "MOST_FIGURES_READ"=ι (.int 60 t)
 rj:∃t,mg "MOST_WINDOWS"=ι (.int 4096 t)
 eJ:∃t,mg "NAME_SIGNS"=ι (.str "abcdefghijklmnopqrstuvwxyz0123456789" t)
 zd:∃t,mg "WIDEST_STEP"=ι (.int 10 t)
inductive Ms(P:Þ)(w:Ý)(K:aH)(mg:μ)(base:Û):Prop
 |mk
abbrev aQ{P:Þ}{w:Ý}{K:aH}{mg:μ}{base:Û}(M:Ms P w K mg base)(x:Str)(k:Nat)(ps:List Str)(sp:Sp):=mW P w K mg base x k ps sp
noncomputable abbrev G6:List (Str×List Str):=[("row",["NEW","TEXT"]),("short",["NEW","A"]),("add",["NEW","A","A"]),("multiply",["NEW","A","A"]),("roll",["NEW","A","A"]),("scale",["NEW","A","NUMBER"]),("sum",["NEW","A"]),("every",["NEW","A","NUMBER","NUMBER"]),("ahead",["NEW","A","NUMBER"]),("on",["NEW","A","NUMBER"]),("rest",["NEW","A","BY"]),("drop",["A"]),("show",["A"]),("places",["A","NUMBER"]),("at",["A","NUMBER"]),("part",["A","A"]),("round",["A"]),("where",["A","NUMBER"]),("closed",["A"]),("divisor",["A"]),("divides",["A","NUMBER","NUMBER","NUMBER"])]
abbrev LG:List Str:=[]
noncomputable abbrev KL:List (Str×Str):=[("row","make_row"),("short","make_short"),("add","make_add"),("multiply","make_multiply"),("roll","make_roll"),("scale","make_scale"),("sum","make_sum"),("every","make_every"),("ahead","make_ahead"),("on","make_on"),("rest","make_rest")]
abbrev x?:List Str:=["drop","show","places","at","part","round","where","closed","divisor","divides"]
abbrev Jh:List (Str×Str):=[("show","tell_show"),("places","tell_places"),("at","tell_at"),("part","tell_part"),("round","tell_round"),("where","tell_where"),("closed","tell_closed"),("divisor","tell_divisor"),("divides","tell_divides")]
abbrev Wn:List Str:=["row","short","add","multiply","roll","scale","sum","every","ahead","on","rest","drop"]
structure Dk(w:Ý)(K:aH)(mg:μ)(tO rT rF cN:Æ):Prop where
 Sa:KD w K mg "FORMS" tO
 aHx:E_ K tO G6
 ai7:S6 K tO LG
 DJ:KD w K mg "MAKERS" rT
 LA:QY K mg rT KL
 Au:S6 K rT x?
 P4:KD w K mg "TELLERS" rF
 Ta:QY K mg rF Jh
 x5:S6 K rF Wn
 ni:F_ K mg "Desk" cN
 cx:DW K cN "kept"
abbrev cK:Nat:=24
section
variable {A B C D E F G H I J:Type}
inductive Ž(p:A->B->Prop):Prop|mk(a b)(z:p a b)
inductive BQ(p:A->B->C->Prop):Prop|mk(a b c)(z:p a b c)
inductive F?(p:A->B->C->D->Prop):Prop|mk(a b c d)(z:p a b c d)
inductive F'(p:A->B->C->D->E->Prop):Prop|mk(a b c d e)(z:p a b c d e)
inductive Ex6(p:A->B->C->D->E->F->Prop):Prop|mk(a b c d e f)(z:p a b c d e f)
inductive XU(p:A->B->C->D->E->F->G->H->Prop):Prop|mk(a b c d e f g h)(z:p a b c d e f g h)
inductive Ex9(p:A->B->C->D->E->F->G->H->I->Prop):Prop|mk(a b c d e f g h i)(z:p a b c d e f g h i)
inductive CL(p:A->B->C->D->E->F->G->H->I->J->Prop):Prop|mk(a b c d e f g h i j)(z:p a b c d e f g h i j)
end
section
variable {r:Rw}{a:Æ}{b x k:Int}{H H1:Hp}{p m n i l s P:Nat}{xs L:ζ}{ix:List (Option Nat)}{te:TE}{σ:St}{Q:VK}{K:aH}
inductive NZ(a b c:Prop):Prop|mk(_:a)(_:b)(_:c)
inductive SY(a b c d:Prop):Prop|mk(_:a)(_:b)(_:c)(_:d)
inductive Fe(a b c d e:Prop):Prop|mk(_:a)(_:b)(_:c)(_:d)(_:e)
inductive Tj(a b c d e f:Prop):Prop|mk(_:a)(_:b)(_:c)(_:d)(_:e)(_:f)
inductive T5(a b c d e f g:Prop):Prop|mk(_:a)(_:b)(_:c)(_:d)(_:e)(_:f)(_:g)
inductive U8(a b c d e f g h:Prop):Prop|mk(_:a)(_:b)(_:c)(_:d)(_:e)(_:f)(_:g)(_:h)
inductive H_(a b c d e f g h i:Prop):Prop|mk(_:a)(_:b)(_:c)(_:d)(_:e)(_:f)(_:g)(_:h)(_:i)
inductive ahZ(a b c d e f g h i j:Prop):Prop|mk(_:a)(_:b)(_:c)(_:d)(_:e)(_:f)(_:g)(_:h)(_:i)(_:j)
inductive UK(a b c d e f g h i j k:Prop):Prop|mk(_:a)(_:b)(_:c)(_:d)(_:e)(_:f)(_:g)(_:h)(_:i)(_:j)(_:k)
def aC(i:Nat){x:Str}{te:TE}(hN:X.N.Nodup)(he:PE X e te)(hi:X.N[i]?=ι x:=by rfl)(hx:Loc X.env.scope x:=by show ju rfl)(U:ĭ e (ι (.Name x O)) pos.line X.env=pure false:=by rfl)
  (Y:X.fn x=true∨X.env.scope.names.lookup x=ι .local:=by first|exact .inl rfl|exact .inr rfl|assumption):PS X (.Assign [.Name x O] e pos) (Lg te (jq i)):=fu hN hi hx he U Y
def aX(i:Nat){x:Str}(hN:X.N.Nodup)(hi:X.N[i]?=ι x:=by rfl)(hx:Loc X.env.scope x:=by show ju rfl)(O:X.fn x=true∨X.env.scope.names.lookup x=ι .local:=by first|exact .inl rfl|exact .inr rfl|assumption):PG X (.Name x pos) (jq i):=Tr hN hi hx O
def aL(K:aH){a b:ü}(ha:PE X a ta)(hb:PE X b tb)(U:X.K=K:=by rfl)(O:Ki b:=by exactλ_ _=>rfl):PE X (.Subscript a b pos) (C9 (TN K) ta tb):=aI4 (xix K U) ha hb O
def pad(K:aH){a b:ü}(ha:PE X a ta)(hb:PE X b tb)(O:X.K=K:=by rfl):PE X (.BinOp a .Add b pos) (C9 (Cr K) ta tb):=oX (aIH K O) ha hb
def cJ(K:aH)(U:X.mg "len"=ν){p:Pos}(ha:PA X (e::es) t)(Y:Gl X "len" := by rfl)(hK:X.K=K:=by rfl)
  (he:Ò (e::es) X.env=(false,eval e X.env)::Ò es X.env:=by rfl)(O:(ó pos (Ò es X.env)).any (·.1)=false:=by rfl):PE X (.Call (.Name "len" p) (e::es) [] pos) (Ϟ (X5 K) t):=
 fW (aDp K hK) Y U boot_len ha 0.3 0.3 he O
def Hh{r:R2}{a b:ü}(U:dj X (â O) r)(ha:PE X a ta)(hb:PE X b tb)(Y:Ĉ O b=false:=by show mq _):PT X (.Compare a [O] [b] pos) (eM (C9 r ta tb)):=aSn U ha hb Y
def nw(h:H D=ν)(o:HO):∃H',upd H D o=H'/\Same H H'/\H' D=ι o:={(),Same.new h o,aB}
def aq{x:Str}{k:Nat}{p:Pos}(C:mW X.prog X.w X.K X.mg X.base x k ps sp)(hr:dM k' X.A)(ha:PA X (e::es) t)(U:Gl X x:=by rfl)
  (hk:k<=k':=by decide)(hd:(x==("__debug__":Str))=false:=by decide)
  (Y:Ò (e::es) X.env=(false,eval e X.env)::Ò es X.env:=by rfl)(O:(ó pos (Ò es X.env)).any (·.1)=false:=by rfl):PE X (.Call (.Name x p) (e::es) [] pos) (Il sp [] E0 t):=aMs C hr U ha hk hd Y O
def cU(n:Nat)(h:n<=10000:=by decide):n<=Ê:=cD h 0.3
abbrev MM:Int:=2147483647
def cellAt(ns:ζ)(k:Int):Int:=if k<(ns[_]:Int)then ns.getD k.toNat 0 else 0
def sE(c k:Int):Int:=(c%MM+1)*(48271+7*k)%MM
def YX(c k:Int):0<=sE c k:=pW _ 0.3
def Cf(c k:Int):sE c k<MM:=qQ _ 0.3
def vD(a:Int){b:Int}(h:0<b):0<=a%b:=pW _ ⋯
def uN(a:Int){b:Int}(h:0<b):a%b<b:=qQ _ h
def fG{ns:ζ}(h0:0<=k)(h1:k<(ns[_]:Int)):jE ns[11] k=(ns.getD k.toNat 0)[5]:=by
 let e:k=(k.toNat:Nat)[0]:=⋯;let hk:k.toNat<ns[_]:=⋯
 conv=>lhs;rw[e]
 show yE (by rw[Î,Ä hk,À,Ä hk]<;>rfl)
def uG{xs:List α}(j:Nat)(e:k=j[0])(h:xs[j]?=ι v):jE xs k=ι v:=#v[e,!yE h]
def dec_true{p:Prop}[Decidable p](c:decide p=true):p:=of_decide_eq_true c
def dec_false{p:Prop}[Decidable p](c:¬decide p=true):¬p:=of_decide_eq_false (Zm.mpr c)
def ό:ζ:=[0,2,3,5,7,31,11,13,17,101,499,503,941,991,997]
def qJ(b n:Int):Int:=if b>0 then n%b else if n%8<2 then 0 else if n%8<5 then n/8%5-2 else if n%8<7 then n/8%41-20 else(n/8)^3%10^20*(1-2*(n/16%2))
def j9(b x:Int):Prop:=b=0∨(0<=x/\x<b)
def aOU(hb:0<=b)(n:Int):j9 b (qJ b n):=by
 unfold j9 qJ;by_cases h:b>0
 .rw[Á h];show .inr {vD n h,uN n h}
 .exact .inl ⋯
def Aw(c:Int):Nat->Int
 |0=>c
 |k+1=>Aw c k*48271%MM
def UT(h0:0<=c)(h1:c<MM):∀k,0<=Aw c k/\Aw c k<MM
 |0=>{h0,(h1)}
 |_+1=>{pW _ 0.3,qQ _ 0.3}
def uQ(b c:Int):Nat->ζ
 |0=>[]
 |k+1=>uQ b c k++[qJ b (Aw c (k+1))]
theorem TV(b c:Int):∀k,(uQ b c k)[_]=k
 |0=>rfl
 |k+1=>by simp[uQ,TV b c k]
theorem bY{b:Int}(hb:0<=b)(c:Int):∀k,∀x∈uQ b c k,j9 b x
 |0=>λx h=>by cases h
 |k+1=>λx h=>by
  rcases iz.mp h with h|h
  .exact bY hb c k x h
  .rw[iI.mp h];show aOU hb _
structure Rw where
 b:Int
 ρ:ζ
 ς:ζ
structure ig(r:Rw):Prop where
 len:r.ρ[_]=r.ς[_]
 short:r.ρ[_]<=24
 iR:0<=r.b
 pC:r.b<1000
 uD:∀x∈r.ρ,j9 r.b x
 pL:∀x∈r.ς,j9 r.b x
 jh:∀x∈r.ρ,Bd 29000 x
 kE:∀x∈r.ς,Bd 52300 x
def Rw.row(r:Rw)(n:Nat):ζ:=Rm.row r.b r.ρ r.ς n
def Rw.at(r:Rw)(n:Nat):Int:=Rm.at_ r.b r.ρ r.ς n
def ig.bd(h:ig r)(n:Nat)(hn:n<=1000):Bd 61000000 (r.at n):=by
 let q:=Rm.zy (b:=r.b) (ρ:=r.ρ) (ς:=r.ς) (a:=29000) (c:=52300) h.len h.iR ((Bd.of (n:=10) (let:=h.iR;⋯) (let:=h.pC;⋯)).mono 0.3) h.jh h.kE n;show q.mono ?_;let h1:=h.short;let h2:n*(29000+r.ρ[_])<=1000*29024:=nZ hn ⋯;grind -ring
def ig.KO(h:ig r)(n:Nat)(hn:n<=1000):∀x∈r.row n,Bd 61000000 x:=by
 intro x hx;let e:r.row n=(dY n).map r.at:=ya ..;rw[e]at hx;let⟨i,hi,rfl⟩:=bN.mp hx;show h.bd i (let:=fQ.mp hi;⋯)
theorem Rw.pY(r:Rw)(n:Nat):(r.row n)[_]=n:=Rm.pY ..
def jA(h:Bd m x)(h':Bd n y)(hn:m+n<=134217728):Ņ x y:=
 Ņ.of_le (ğ.mpr h) (ğ.mpr h') hn
def cL(H:Hp)(v:V)(r:Rw):Prop:=
 BQ λa p q=>SY (v=.ref a) (H a=[.int r.b,.ref p,.ref q][3]) (H p=r.ρ[11][3]) (H q=r.ς[11][3])
def cL.same(h:cL H v r)(g:Same H H'):cL H' v r:=by
 ext a p q e h1 h2 h3 h;show{a,p,q,e,g _ _ h1,g _ _ h2,g _ _ h3}
def Zq(xs:ζ)(x:Int):(xs++[x])[11]=xs[11]++[.int x]:=#v[eG,0]
def Told(H:Hp)(Q:VK)(xs:τ):Prop:=∀r H',Same H H'->H r=ν->H' r=xs[2]->Q (.ref r) H'
inductive df(K:aH)(vs:τ)(H:Hp)(Q:VK)(E:XK):Prop|mk(a:Æ)(ns:ζ)(_:vs=[.ref a])(_:aj K H a ns[11])(_:ns[_]<=63)(_:(∀x∈ns,zG x<=1048576))(_:∀H',Q (.bl true) H')
def vG(xs:τ)(k:Nat):fP xs ν (ι (k:Int))=xs.take k:=by
 unfold fP;rw[HT.qR,HT.wR,RD,qe,List.take_eq_take_iff,1]
def q?(xs:τ){k:Nat}(h:k<=xs[_]):fP xs (ι (k:Int)) ν=xs.drop k:=by
 unfold fP;rw[HT.qR,HT.wR,BW h,sG #v[vB]]
def DD(xs:τ)(k:Nat):fP xs (ι (k:Int)) ν=xs.drop k:=by
 unfold fP;rw[HT.qR,HT.wR];by_cases h:k<=xs[_]
 .rw[BW h,sG #v[vB]]
 .rw[TQ ⋯,Ae (aZ _),Ae ⋯,aiN]
def azE(xs:τ)(i:Nat):fP xs (ι (i[0]+1)) ν=xs.drop (i+1):=DD xs (i+1)
def za(H:Hp)(Q:VK)(ns:ζ):Prop:=∀p H',Same H H'->H' p=ns[11][3]->Q (.ref p) H'
def RR(h:0<n)(hn:n<=xs[_]):xs.take n=xs.take (n-1)++[xs.getD (n-1) 0]:=by
 obtain⟨m,rfl⟩:∃m,n=m+1:={n-1,⋯};rw[gU,zp,Ä 1.2,À,Ä ⋯,0]
def aUg(h:0<n)(hn:n<=xs[_])(ht:Pm.trim (xs.take n)=Pm.trim xs)(h0:xs.getD (n-1) 0=0):Pm.trim (xs.take (n-1))=Pm.trim xs:=by
 rw[RR h hn,h0,FI]at ht;show ht
def My(hn:n<=xs[_])(ht:Pm.trim (xs.take n)=Pm.trim xs)(h0:n=0∨xs.getD (n-1) 0≠0):xs.take n=Pm.trim xs:=by
 rcases h0 with h0|h0
 .subst h0;rw[<-ht,0]
 .by_cases hz:n=0
  .subst hz;rw[<-ht,0]
  .rw[<-ht,RR ⋯ hn,dQ _ h0]
def Ed{j:Nat}{i:Int}(e:i=j[0])(h:j<n):xJ n i=ι j:=by
 subst e;unfold xJ;rw[Á 0.6,Á 0.8,dg]
def Vz(L:ζ)(j:Nat)(x:Int):(L[11]).set j (.int x)=(L.set j x)[11]:=#v[pT]
def Ru(n:Nat):(dN n [V.int 0]).flatten=(aD n λ_=>0)[11]:=by
 induction n with
 |zero=>rfl
 |succ n ih=>
  rw[oI,eG,<-ih,ahz,Nd,0]
def C7(hz:n<=1000){rest:St}(O:cst ix σ=ν::rest)(f:Nat->Int)
  (U:∀H' k,Same H1 H'->k<n->∀kk:VK,kk (.int (f k)) H'->te ((0+k[0])[5]::rest) H' kk)
  (Y:∀D,H1 D=ν->Q (.ref D) (upd H1 D (.lst (aD n f)[11]))):mK ix (jq 0) nj te σ Q (tG 0 n) H1:=by
 show oZ A9 #v[aA,oO,!gQ (eX hz)] O (λ_=>true) (λx=>match x with|.int k=>.int (f k.toNat)|_=>.non) ?_ ?_ ?_
 .intro H2 x b hx k hk;show hk
 .intro H2 x b hx _ k hk;let⟨j,c,rfl⟩:=bN.mp hx;let e:(0+j[0]).toNat=j:=0.6;show U H2 j b (fQ.mp c) k ?_;let a:k (V.int (f (0+j[0]).toNat)) H2:=hk
  rwa [e]at a
 .intro D d;let el:((((dY n).map λi=>V.int (0+(i:Nat))).filter λ_=>true).map λx=>match x with|.int k=>V.int (f k.toNat)|_=>V.non)=(aD n f)[11]:=by
   rw[uw.mpr 0.1,dh,aD,dh,!jx λk _=>?_];show V.int (f (0+k[0]).toNat)=V.int (f k);rw[(⋯:(0+k[0]).toNat=k)]
  rw[el,!Y D d]
def OB(hA:H1 a=xs[11][3])(hz:xs[_]<=1000){rest:St}(O:cst ix σ=ν::rest)(f:Int->Int)
  (U:∀H' x,Same H1 H'->x∈xs->∀kk:VK,kk (.int (f x)) H'->te (x[5]::rest) H' kk)
  (Y:∀D,H1 D=ν->Q (.ref D) (upd H1 D (.lst (xs.map f)[11]))):mK ix (jq 0) nj te σ Q (KZ K a) H1:=by
 show oZ (xQ (ao.of hA)) #v[aA,!gQ (eX hz)] O (λ_=>true) (λx=>match x with|.int k=>.int (f k)|_=>.non) ?_ ?_ ?_
 .intro H2 x b hx k hk;show hk
 .intro H2 x b hx _ k hk;let⟨y,hy,rfl⟩:=bN.mp hx;show U H2 y b hy k hk
 .intro D c;let el:((xs[11].filter λ_=>true).map λx=>match x with|.int k=>V.int (f k)|_=>V.non)=(xs.map f)[11]:=by
   rw[uw.mpr 0.1,dh,dh,0]
  rw[el,!Y D c]
def UQ(hA:H1 a=xs[11][2])(hz:xs[_]<=1000){rest:St}(O:cst ix σ=ν::rest)(f:Int->Int)
  (U:∀H' x,Same H1 H'->x∈xs->∀kk:VK,kk (.int (f x)) H'->te (x[5]::rest) H' kk)
  (Y:∀D,H1 D=ν->Q (.ref D) (upd H1 D (.lst (xs.map f)[11]))):mK ix (jq 0) nj te σ Q (sS K a) H1:=by
 show oZ (jB (aj.of hA)) #v[aA,!gQ (eX hz)] O (λ_=>true) (λx=>match x with|.int k=>.int (f k)|_=>.non) ?_ ?_ ?_
 .intro H2 x b hx k hk;show hk
 .intro H2 x b hx _ k hk;let⟨y,hy,rfl⟩:=bN.mp hx;show U H2 y b hy k hk
 .intro D c;let el:((xs[11].filter λ_=>true).map λx=>match x with|.int k=>V.int (f k)|_=>V.non)=(xs.map f)[11]:=by
   rw[uw.mpr 0.1,dh,dh,0]
  rw[el,!Y D c]
def QH{p:ζ}{x:V}(h:(p[11])[i]?=ι x):x=.int (Pm.co p i)/\i<p[_]:=by
 by_cases hi:i<p[_]
 .rw[Î,Ä hi]at h;cases h;show{?_,hi};show V.int _=V.int (p.getD i 0);rw[À,Ä hi,0]
 .rw[à #v[aA]]at h;cases h
def Hc:∀P∈Er,2<=P/\P<1000:=0.0
def aJb:∀b∈ό,b=0∨(0<=b/\b.toNat∈Er):=0.0
def H?(b:Int):Prop:=b=0∨∃P:Nat,P∈Er/\b=P[0]
structure oU(b:Int):Prop where
 lo:0<=b
 hi:b<1000
 one:Rm.tk b 1=1
 p:H? b
def Bc(hb:0<=b)(x:Int):j9 b (Rm.tk b x):=by
 by_cases h:b=0
 .exact .inl h
 .rw[mz h];show .inr {vD _ ⋯,uN _ ⋯}
def yJ(hb:oU b)(hn:10<=n)(h:Bd n x):Bd n (Rm.tk b x):=
 CB hb.lo ((Bd.of (n:=10) (let:=hb.lo;⋯) (let:=hb.hi;⋯)).mono hn) h
def Ys(h:j9 b x):Rm.tk b x=x:=by
 rcases h with rfl|⟨h1,h2⟩
 .exact cY x
 .rw[mz ⋯];show Ph h1 h2
def ig.HW(ok:ig r)(n:Nat):j9 r.b (r.at n):=by
 by_cases h:r.b=0
 .exact .inl h
 .let h0:=ok.iR;show .inr (A4 ok.len ⋯ (λx hx=>?_) n);rcases ok.pL x hx with z|z
  .exact È z h
  .exact z
def ig.GU(ok:ig r)(n:Nat):Rm.tk r.b (r.at n)=r.at n:=Ys (ok.HW n)
def Du(r:Rw)(n:Nat):r.row n=aD n r.at:=ya ..
inductive aBU(vs:τ)(H:Hp)(Q:VK)(E:XK):Prop|mk(z y:Int)(_:vs=[.int z,.int y])(_:0<=z)(_:Q (.int (Rm.tk z y)) H)
inductive aKS(K:aH)(vs:τ)(H:Hp)(Q:VK)(E:XK):Prop|mk(b:Int)(r s:Æ)(ρ a:ζ)(_:vs=[.int b,.ref r,.ref s])(_:0<=b)(_:ao K H r ρ[11])(_:(aj K H s a[11]∨ao K H s a[11]))(_:ρ[_]<=a[_])(_:ρ[_]<=24)(_:a[_]<=1000)(_:(∀y∈ρ,Bd 29000 y))(_:(∀y∈a,Bd 61000000 y))(_:Q (.int (Rm.tk b (Rm.S ρ (λz=>a.getD z 0) a[_] ρ[_]))) H)
inductive aCk(K:aH)(vs:τ)(H:Hp)(Q:VK)(E:XK):Prop|mk(v:V)(r:Rw)(c:Int)(_:vs=[v,.int c])(_:cL H v r)(_:ig r)(_:0<=c)(_:c<=1000)(_:Told H Q (r.row c.toNat)[11])
inductive aRk(vs:τ)(H:Hp)(Q:VK)(E:XK):Prop|mk(y:Nat)(_:vs=[.int y])(_:y<4194304)(_:∀z:Bool,(z=true↔cZ y)->Q (.bl z) H)
inductive aBj(vs:τ)(H:Hp)(Q:VK)(E:XK):Prop|mk(n q:Nat)(_:vs=[.int n])(_:cZ q)(_:n<q)(_:q<4194304)(_:∀z:Nat,cZ z->n<z->z<=q->Q (.int z) H)
inductive aMp(vs:τ)(H:Hp)(Q:VK)(E:XK):Prop|mk(P:Nat)(a:Int)(_:vs=[.int P,.int a])(_:cZ P)(_:P<4194304)(_:0<a)(_:a<P[0])(_:∀z:Int,0<=z->z<4194304->z%P[0]=a^(P-2)%P[0]->Q (.int z) H)
def iv0{l:Int}(h:0<=l):(l/2).toNat=l.toNat/2:=⋯
def ϱ{l:Int}(h:0<=l):l%2=1↔l.toNat%2=1:=⋯
inductive aRP(vs:τ)(H:Hp)(Q:VK)(E:XK):Prop|mk(P:Nat)(one other:Int)(_:vs=[.int P,.int one,.int other])(_:cZ P)(_:P<4194304)(_:0<other)(_:other<P[0])(_:Q (.int (one*other^(P-2)%P[0])) H)
inductive aIK(K:aH)(vs:τ)(H:Hp)(Q:VK)(E:XK):Prop|mk(l:Æ)(z:ζ)(_:vs=[.ref l])(_:aj K H l z[11])(_:za H Q (Pm.trim z))
inductive axa(vs:τ)(H:Hp)(Q:VK)(E:XK):Prop|mk(a:Æ)(z:ζ)(k:Int)(_:vs=[.ref a,.int k])(_:H a=z[11][3])(_:0<=k)(_:Q (.int (Pm.co z k.toNat)) H)
inductive aBL(vs:τ)(H:Hp)(Q:VK)(E:XK):Prop|mk(z:Int)(a c:Æ)(y v:ζ)(_:vs=[.int z,.ref a,.ref c])(_:0<=z)(_:H a=y[11][3])(_:H c=v[11][3])(_:y[_]<=400)(_:v[_]<=400)(_:(∀u∈y,Bd 4000000 u))(_:(∀u∈v,Bd 4000000 u))(_:za H Q (Pm.mul z y v))
def aMb(H:Hp)(Q:VK)(b:Int)(P M:ζ)(W:Nat):Prop:=∀t x y q r H',Same H H'->H' t=[.ref x,.ref y][3]->H' x=(fR V.int q)[3]->H' y=(fR V.int r)[3]->Pm.Div b P M q r->
 (∀z∈r,Bd W z)->Q (.ref t) H'
inductive RI(vs:τ)(H:Hp)(Q:VK)(E:XK):Prop|mk(b:Int)(a c:Æ)(z M:ζ)(u v:Nat)(_:vs=[.int b,.ref a,.ref c])(_:0<=b)(_:b<4194304)(_:H a=z[11][3])(_:H c=M[11][3])(_:z[_]<=40)(_:M[_]<=40)(_:Pm.Mon M)(_:(∀y,Rm.tk b (Pm.co z y)=Pm.co z y))(_:(∀t∈z,Bd u t))(_:(∀t∈M,Bd v t))(_:22<=u)(_:u+40*(v+1)<=120000000)(d:aMb H Q b z M (u+40*(v+1)))
def azo(h:∀k,Bd u (Pm.co L k)):∀x∈Pm.trim L,Bd u x:=λx hx=>by
 let⟨k,hk,e⟩:=pH.mp hx;rw[<-e,<-mC hk,vA,!h k]
def max_zero(m n:Nat):(if(m:Int)-(n[0]-1)>0 then(m:Int)-(n[0]-1)else 0).toNat=m-(n-1)∨n=0:=by
 by_cases h:n=0
 .exact .inr h
 .left;split<;>grind -ring
def dq0(hn:p-(m-1)=n)(a:n-(i+1)=s)(hi:i<n)(U:l=p)(O:0<m):s+m<=l:=0.7
def dq3(hn:p-(m-1)=n)(a:n-(i+1)=s)(hi:i<n)(O:l=p-(m-1)):s<l:=0.9
def dq4(a:n-(i+1)=s)(hi:i<n):(n:Int)-1-i[0]=(s:Int):=0.7
def dq1(h:0<m)(O:s+m<=l):(s[0]+(m[0]-1)).toNat=s+(m-1)/\0<=s[0]+(m[0]-1)/\(s:Int)+(m[0]-1)<(l:Int):=0.9
def dq2{t:Nat}(h:t<m)(O:s+m<=l):(s[0]+(0+t[0])).toNat=s+t/\0<=s[0]+(0+t[0])/\(s:Int)+(0+t[0])<l[0]/\0<=0+t[0]/\0+t[0]<m[0]/\s+t<l/\(0+t[0]).toNat=t/\(s:Int)+(0+t[0])=(s+t:Nat)[0]:=0.8
def aQq(H:Hp)(Q:VK)(b:Int)(p:ζ):Prop:=∀t m H',Same H H'->H' t=(fR V.int m)[3]->AZ b p m->Q (.ref t) H'
inductive aXd(vs:τ)(H:Hp)(Q:VK)(E:XK):Prop|mk(P:Nat)(a:Æ)(p:ζ)(_:vs=[.int P,.ref a])(_:cZ P)(_:P<4194304)(_:H a=p[11][3])(_:p[_]<=300)(_:Py P p)(_:aQq H Q P p)
def aMr(H:Hp)(Q:VK)(b:Int)(p r:ζ):Prop:=∀t g H',Same H H'->H' t=(fR V.int g)[3]->Pm.Gcd b p r g->g[_]<=max p[_] r[_]->Q (.ref t) H'
inductive aV4(vs:τ)(H:Hp)(Q:VK)(E:XK):Prop|mk(P:Nat)(a c:Æ)(p r:ζ)(_:vs=[.int P,.ref a,.ref c])(_:cZ P)(_:P<4194304)(_:H a=p[11][3])(_:H c=r[11][3])(_:p[_]<=40)(_:r[_]<=40)(_:Py P p)(_:Py P r)(_:(r=[]->p≠[]))(_:aMr H Q P p r)
def AY(h0:2<=P)(h:P<4194304){p:ζ}(hp:Py P p):∀x∈p,Bd 22 x:=λx hx=>by
 let:=hp.nu x hx;rw[mz ⋯]at this;rw[<-this,!Bd.emod ⋯ ((Bd.of (n:=22) ⋯ ⋯).mono 0.3)]
inductive aET(vs:τ)(H:Hp)(Q:VK)(E:XK):Prop|mk(M z:Int)(_:vs=[.int M,.int z])(_:0<M)(_:Q (.int (Pm.nr M z)) H)
inductive aKH(vs:τ)(H:Hp)(Q:VK)(E:XK):Prop|mk(M t:Int)(z:Nat)(y:Int)(_:vs=[.int M,.int t,.int z,.int y])(_:cZ z)(_:z<4194304)(_:0<M)(_:¬(z:Int)∣M)(_:Q (.int (Pm.jn M t z y)) H)
inductive aN9(vs:τ)(H:Hp)(Q:VK)(E:XK):Prop|mk(z:Nat)(a:Æ)(P:ζ)(_:vs=[.int z,.ref a])(_:0<z)(_:H a=P[11][3])(_:P[_]<=100)(_:za H Q (Pm.trim (P.map (Rm.tk z))))
inductive aPn(vs:τ)(H:Hp)(Q:VK)(E:XK):Prop|mk(m a:Æ)(M z:ζ)(_:vs=[.ref m,.ref a])(_:H m=M[11][3])(_:H a=z[11][3])(_:M[_]<=40)(_:z[_]<=40)(_:Pm.Mon M)(_:(∀v∈M,Bd 2640000 v))(_:(∀v∈z,Bd 2700000 v))(_:∀y H',Same H H'->(y=true↔Pm.Dv 0 M (Pm.co z))->Q (.bl y) H')
inductive aM2(vs:τ)(H:Hp)(Q:VK)(E:XK):Prop|mk(a c:Æ)(P t:ζ)(_:vs=[.ref a,.ref c])(_:H a=P[11][3])(_:H c=t[11][3])(_:Pm.Mon P)(_:P[_]<=13)(_:t[_]<P[_])(_:(∀z∈P,Bd 81400 z))(_:(∀z∈t,Bd 81400 z))(_:∀g,Pm.Gc 0 P t g->za H Q g)
def Zj(p:Nat)(P:ζ)(k:Nat):Rm.tk (p:Int) (Pm.co (Pm.trim (P.map (Rm.tk p))) k)=Rm.tk p (Pm.co P k):=by
 rw[vA,uH (ġ _),qj]
def B9(p:Nat)(P:ζ):Py p (Pm.trim (P.map (Rm.tk p))):=Py.of λx hx=>by
 let⟨y,_,rfl⟩:=bN.mp hx;show qj ..
def FC(p:Nat)(P:ζ):(Pm.trim (P.map (Rm.tk p)))[_]<=P[_]:=by
 let:=CV (P.map (Rm.tk p))
 rwa [aA]at this
def aDT(hp:cZ p){P:ζ}(O:Pm.Mon P):Pm.trim (P.map (Rm.tk p))≠[]:=λz=>by
 let:=Zj p P (P[_]-1);rw[z,gP,O.one,Pm.SQ hp,ġ]at this;show È this 0.3
def aP4{P:ζ}(I:oB P g N told M prime ripe bad good)(O:∀x∈P,Bd 2640000 x)(h:bad+good<=119900):∀x∈told,Bd 2640000 x:=λx hx=>by
 by_cases c:M=1
 .rw[I.first c]at hx;show O x hx
 .obtain⟨k,hk,e⟩:=pH.mp hx;let n:=I.near c k;rw[mC hk,e]at n;unfold Nr at n;let h1:=I.hi;let h2:(2:Int)^(22*(bad+good))<=2^2637800:=by exact_mod_cast mX (n:=2) 0.3 (⋯:22*(bad+good)<=2637800)
  let h3:M<=2^2637800:=sP h1 h2;let a:=I.pos;show(show Bd 2637800 x from ?_).mono 0.3;generalize hB:(2:Int)^2637800=B at h3;let h4:-B<x/\x<B:=⋯;unfold Bd;let b:(x.natAbs:Int)<(2^2637800:Nat)[0]:=by
   rw[Cb,!(x.natAbs:Int)<(2:Int)^2637800];rw[hB,1]
  exact_mod_cast b
def y?(H:Hp)(a c:Æ)(U g:ζ)(N:Int)(m:Nat)(O:St)(H':Hp):Prop:=Ex9 λ(f e:Option V)(tt:Æ)(told:ζ)(M:Int)(b:Nat)(ripe:Bool)(d good:Nat)=>U8 (m=120000-(d+good)) (O=[a[4],c[4],tt[4],M[5],(b:Int)[5],ι (.bl ripe),f,e]) (Same H H') (H' tt=told[11][3]) (oB U g N told M b ripe d good) (Many (120000-(d+good)) b) (1000000<=b) (d+good<=119900)
inductive aK8(vs:τ)(H:Hp)(Q:VK)(E:XK):Prop|mk(z:Int)(a:Æ)(c:ζ)(_:vs=[.int z,.ref a])(_:0<=z)(_:H a=c[11][3])(_:c[_]<=100)(_:za H Q (Pm.bH z c))
inductive aTh(vs:τ)(H:Hp)(Q:VK)(E:XK):Prop|mk(z:Int)(a:Æ)(y:ζ)(_:vs=[.int z,.ref a])(_:0<=z)(_:H a=y[11][3])(_:0<y[_])(_:y[_]<=100)(_:za H Q (jR z y))
def GF{lo:Int}(hz:n<=1000){rest:St}(O:cst ix σ=ν::rest)(f:Nat->Int)
  (U:∀H' k,Same H1 H'->k<n->∀kk:VK,kk (.int (f k)) H'->te ((lo+k[0])[5]::rest) H' kk)
  (Y:∀D,H1 D=ν->Q (.ref D) (upd H1 D (.lst (aD n f)[11]))):mK ix (jq 0) nj te σ Q (tG lo n) H1:=by
 show oZ A9 #v[aA,oO,!gQ (eX hz)] O (λ_=>true) (λx=>match x with|.int k=>.int (f (k-lo).toNat)|_=>.non) ?_ ?_ ?_
 .intro H2 x b hx k hk;show hk
 .intro H2 x b hx _ k hk;let⟨j,c,rfl⟩:=bN.mp hx;let e:(lo+j[0]-lo).toNat=j:=⋯;show U H2 j b (fQ.mp c) k ?_;let a:k (V.int (f (lo+j[0]-lo).toNat)) H2:=hk
  rwa [e]at a
 .intro D d;let el:((((dY n).map λi=>V.int (lo+(i:Nat))).filter λ_=>true).map λx=>match x with|.int k=>V.int (f (k-lo).toNat)|_=>V.non)=(aD n f)[11]:=by
   rw[uw.mpr 0.1,dh,aD,dh,!jx λk _=>?_];show V.int (f (lo+k[0]-lo).toNat)=V.int (f k);rw[(⋯:(lo+k[0]-lo).toNat=k)]
  rw[el,!Y D d]
def aWL:(Er.all λp=>(dY 32).all λd=>decide (d<2)||decide (p<d*d)||decide (p%d≠0))=true:=0.0
def cz(h:P∈Er):cZ P:=by
 let hr:=Hc P h;show jS hr.1 λd hd e a=>?_;let b:d<32:=by
  by_cases c:d<32
  .exact c
  .let:32*32<=d*d:=nZ 0.6 ⋯;grind -ring
 let:=jU.mp (jU.mp aWL P h) d (fQ.mpr b);simp only[Am,decide_eq_true_eq]at this;let:=Nat.mod_eq_zero_of_dvd a;lia
def DX(r:Rw):ζ:=Pm.trim (aD r.ρ[_] λk=>Rm.tk r.b (Pm.tp (Pm.bH r.b r.ρ) r.at k))
def aQD(r:Rw):(DX r)[_]<=r.ρ[_]:=by
 let:=CV (aD r.ρ[_] λk=>Rm.tk r.b (Pm.tp (Pm.bH r.b r.ρ) r.at k))
 rwa [bZ]at this
def ig.jZ(ok:ig r):∀x∈Pm.bH r.b r.ρ,Bd 29000 x:=Uz ok.iR ok.pC 0.3 ok.jh
def aFF(ok:ig r):∀x∈DX r,Bd 81400 x:=λx hx=>by
 let⟨k,_,rfl⟩:=jN (gv hx);show CB ok.iR ((Bd.of (n:=10) (let:=ok.iR;⋯) (let:=ok.pC;⋯)).mono 0.3) ?_;let a:=ok.short;let b:=ok.len;unfold Pm.tp;rw[jy,gU,!(vW (c:=81300) _ λi hi=>?_).mono 0.7];show(Bd.mul (m:=29000) (n:=52300) (iK ok.jZ _) ?_).mono 0.6;let e:r.at i=r.ς.getD i 0:=qG ⋯;rw[e,!Bd.getD ok.kE _]
inductive aDn(vs:τ)(H:Hp)(Q:VK)(E:XK):Prop|mk(v:V)(z:Rw)(a:Æ)(_:vs=[v,.ref a])(_:cL H v z)(_:ig z)(_:H a=(Pm.bH z.b z.ρ)[11][3])(_:za H Q (DX z))
def RK(h:Pm.Mon L)(hn:∀k,Rm.tk b (Pm.co L k)=Pm.co L k):Py b L:={BM (λz=>by let:=h.pos;rw[z]at this;show È this 0.3) #v[h.one,3],λx hx=>by
 let⟨k,hk,e⟩:=pH.mp hx;let:=hn k
 rwa [mC hk,e]at this}
def aLo(b:Int)(c:ζ)(h1:Rm.tk b 1=1)(k:Nat):Rm.tk b (Pm.co (Pm.bH b c) k)=Pm.co (Pm.bH b c) k:=by
 let h:∀x∈Pm.bH b c,Rm.tk b x=x:=λx hx=>by
  rcases iz.mp hx with hx|hx
  .obtain⟨j,_,e⟩:=jN hx;rw[e,qj]
  .rw[iI.mp hx,h1]
 by_cases hk:k<(Pm.bH b c)[_]
 .exact h _ (O9 hk)
 .rw[bK 0.6,ġ]
structure Dp(r:Rw):Prop where
 ok:ig r
 hB:oU r.b
 ud:r.ρ[_]<=12
inductive ax7(vs:τ)(H:Hp)(Q:VK)(E:XK):Prop|mk(b:Int)(a c:Æ)(P t:ζ)(_:vs=[.int b,.ref a,.ref c])(_:H a=P[11][3])(_:H c=t[11][3])(_:H? b)(_:Pm.Mon P)(_:P[_]<=13)(_:t[_]<P[_])(_:(∀z∈P,Bd 81400 z))(_:(∀z∈t,Bd 81400 z))(_:Py b P)(_:Py b t)(_:∀g,Pm.Gc b P t g->za H Q g)
def Pc(hB:oU b){P L:ζ}(Y:P[_]<=13)(O:Pm.Mon g)(U:∀k,Rm.tk b (Pm.co L k)=Pm.co L k)(e:∀k,Rm.tk b (Pm.co P k)=Rm.tk b (cv (Pm.co g) (Pm.co L) k))(hl:g[_]+L[_]=P[_]+1)(a:10<=u)(hu:∀k,Bd u (Pm.co P k))(k:Nat):Bd (u+169) (Pm.co L k):=by
 let hp:=O.pos;by_cases h0:b=0
 .subst h0;show Ot O (λk=>by let:=e k;rwa [cY,cY]at this) Y ⋯ 0.6 hu k
 .rw[<-U k];let:=(Bc hB.lo (Pm.co L k)).resolve_left h0;show(Bd.of (n:=10) 0.8 (let:=hB.hi;⋯)).mono 0.6
def Sh(r:Rw)(L:ζ):Prop:=∃g,Pm.Gc r.b (Pm.bH r.b r.ρ) (DX r) g/\Pm.Div r.b (Pm.bH r.b r.ρ) g L []
theorem Sh.uniq{r:Rw}(hB:oU r.b){L:ζ}(h:Sh r L)(h':Sh r O):L=O:=by
 ext g G D h;ext d a c h';obtain rfl:=G.uniq hB.one a;show(D.uniq G.mon c).1
def kR(hB:oU b){P:ζ}(O:Pm.Mon P)(G:Pm.Gc b P t g):∃L,Pm.Mon L/\(∀k,Rm.tk b (Pm.co L k)=Pm.co L k)/\L[_]+g[_]=P[_]+1/\(∀k,Rm.tk b (Pm.co P k)=Rm.tk b (cv (Pm.co L) (Pm.co g) k))/\Pm.Div b P g L []:=by
 let⟨L,c,a,e,d⟩:=A_ hB.one O G.mon G.one;show{L,c,a,e,d,RK c a,Py.nil _,G.mon.pos,λk=>#v[gP,fK,!(d k).symm]}
inductive aGj(vs:τ)(H:Hp)(Q:VK)(E:XK):Prop|mk(v:V)(r:Rw)(_:vs=[v])(_:cL H v r)(_:Dp r)(_:∀L,Sh r L->za H Q L)
def MB(r:Rw)(L:ζ):Rw:={r.b,jR r.b L,r.ς.take (L[_]-1)}
end
open Classical in
section
variable {J:It}{xs ρ sums ς R ts ns P:ζ}{ix:List (Option Nat)}{te:TE}{σ:St}{H1 H H':Hp}{Q:VK}{n i c m Z k w lo u B N bg ln:Nat}{b x bt bot:Int}{r s:Rw}{y:V}{f:Nat->Int}{a ll:Æ}{K:aH}{p:Nat->Bool}{ys:τ}{l:El.fY}{ex:List Æ}{L:List ζ}{ws:List Str}{ps:List (Int×ζ)}{M:dB}
def sh(r:Rw):Rw:=if h:∃L,Sh r L then MB r h.choose else r
structure yW(r:Rw):Prop where
 by_:(sh r).b=r.b
 len:(sh r).ρ[_]=(sh r).ς[_]
 le:(sh r).ρ[_]<=r.ρ[_]
 uD:∀x∈(sh r).ρ,j9 r.b x
 pL:∀x∈(sh r).ς,x∈r.ς
 jh:∀u,10<=u->(∀x∈r.ρ,Bd u x)->∀x∈(sh r).ρ,Bd (u+169) x
 at_:∀n,(sh r).at n=r.at n
 dv:∃g,Pm.Mon g/\∀k,Rm.tk r.b (Pm.co (Pm.bH r.b r.ρ) k)=Rm.tk r.b (cv (Pm.co (Pm.bH r.b (sh r).ρ)) (Pm.co g) k)
theorem Sh.ok{r:Rw}(o:Dp r){L:ζ}(h:Sh r L):sh r=MB r L/\0<L[_]/\L[_]<=r.ρ[_]+1/\yW r:=by
 let ex:∃L,Sh r L:={L,(h)};let e:sh r=MB r L:=by
  unfold sh;rw[dif_pos ex,ex.choose_spec.uniq o.hB h]
 let l:=nJ r.b r.ρ;let q:(Pm.bH r.b r.ρ)[_]=r.ρ[_]+1:=jy ..;let ud:=o.ud;let m:=o.ok.len;ext g G D h;let⟨v,c,a,s,d,p⟩:=kR o.hB l G;let⟨rfl,_⟩:=D.uniq G.mon p;let hp:=c.pos;let t:=G.mon.pos;show{e,hp,⋯,?_};let f:(jR r.b L)[_]=L[_]-1:=GD ..;show{#v[e,0],?_,?_,?_,?_,?_,λn=>?_,?_}<;>rw[e]
 .show(jR r.b L)[_]=(r.ς.take _)[_];rw[f,jg,1]
 .show(jR r.b L)[_]<=_;lia
 .intro x hx;let⟨k,_,rfl⟩:=jN (show x∈aD _ _ from hx);show Bc o.ok.iR _
 .exactλx hx=>UU hx
 .intro u j hu x hx;let⟨k,_,rfl⟩:=jN (show x∈aD _ _ from hx);show yJ o.hB ⋯ ?_;rw[rH,!Ey (Pc o.hB 0.6 G.mon a (λk=>#v[d k,je]) ⋯ j (iK (Uz o.ok.iR o.ok.pC j hu)) _)]
 .let hk:Kp r.b (Pm.bH r.b (jR r.b L)) r.at:=by
   rw[Vv a c,!aym (BR m) (λk=>?_) G.two d];rw[DX,vA,dH];split
   .exact qj ..
   .rw[Vk _ _ k 0.6]
  show XG (ρ:=jR r.b L) (ς:=r.ς.take (L[_]-1)) (g:=r.at) #v[f,jg] (λi hi=>?_) (λi hi=>?_) n
  .rw[jg]at hi;rw[show r.at i=r.ς.getD i 0 from qG 0.9,À,À,ø 0.7]
  .rw[jg]at hi;rw[<-o.ok.GU,!Kp.rec hk i 0.7]
 .exact{g,G.mon,#v[show(MB r L).ρ=jR r.b L from rfl,Vv a c,!d]}
theorem Sh.bH{r:Rw}(o:Dp r){L:ζ}(h:Sh r L):Pm.bH r.b (sh r).ρ=L:=by
 let⟨g,G,D⟩:=id h;let⟨e,c,a,_,_,d⟩:=kR o.hB (nJ r.b r.ρ) G;let⟨rfl,_⟩:=D.uniq G.mon d;rw[(h.ok o).1,!Vv a c]
inductive azy(vs:τ)(H:Hp)(Q:VK)(E:XK):Prop|mk(v:V)(z:Rw)(_:vs=[v])(_:cL H v z)(_:Dp z)(_:∀a H',Same H H'->cL H' a (sh z)->yW z->Q a H')
def NI{xs:τ}(I:sI J xs H1)(hz:xs[_]<=Ê){rest:St}(O:cst ix σ=ν::rest)(F:V->V)
  (U:∀(H':Hp)(x:V),Same H1 H'->x∈xs->∀k:VK,(∀H2,Same H' H2->k (F x) H2)->te (ι x::rest) H' k)
  (Y:∀D H',H1 D=ν->Same H1 H'->H' D=(xs.map F)[2]->Q (.ref D) H'):
  mK ix (jq 0) nj te σ Q J H1:=by
 constructor;show λD d=>{λi m b H'=>m=xs[_]-i/\i<=xs[_]/\(∃o,b=o::rest)/\Same H1 H'/\H' D=((xs.take i).map F)[2],{xs[_],0.1,dz _,{ν,(O)},Same.new d _,#v[aB,0]},?_};rintro i m b H' ⟨rfl,hi,⟨o,rfl⟩,g,c⟩;by_cases a:i<xs[_]
 .refine .inr {I.go i _ g a,λx H2 y=>?_};let⟨rfl,hx⟩:=I.nM i _ x H2 g y;let hx:=hx a;let j:x∈xs:=Ð hx;let l:xs.take (i+1)=xs.take i++[x]:=#v[zp,hx,0]
  change te (ι x::rest) H2 _;show U H2 x g j _ λH3 f=>{_,f _ _ c,#v[aA,jg],xs[_]-(i+1),0.7,rfl,a,{()},Same.upd (g.trans f) d _,?_};rw[aB,l,eG,0]
 .let e:i=xs[_]:=⋯;subst e;rw[qw]at c;show .inl {I.stop _ _ g (aZ _),Y D H' d g c}
def Di(hz:n<=1000){rest:St}(O:cst ix σ=ν::rest)(f:Nat->Int)
  (U:∀H' k,Same H1 H'->k<n->∀kk:VK,(∀H2,Same H' H2->kk (.int (f k)) H2)->te ((0+k[0])[5]::rest) H' kk)
  (Y:∀D H',H1 D=ν->Same H1 H'->H' D=(aD n f)[11][2]->Q (.ref D) H'):mK ix (jq 0) nj te σ Q (tG 0 n) H1:=by
 show NI A9 #v[aA,oO,!gQ (eX hz)] O (λx=>match x with|.int k=>.int (f k.toNat)|_=>.non) ?_ ?_
 .intro H2 x i hx k hk;let⟨j,c,rfl⟩:=bN.mp hx;let l:(0+j[0]).toNat=j:=0.6;show U H2 j i (fQ.mp c) k λH3 e=>?_;let a:k (V.int (f (0+j[0]).toNat)) H3:=hk H3 e
  rwa [l]at a
 .intro D H' d g b;show Y D H' d g ?_;rw[b,aD,dh,dh,!Ï (λz=>ι (HO.lst z)) (jx λk _=>?_)];show V.int (f (0+k[0]).toNat)=V.int (f k);rw[(⋯:(0+k[0]).toNat=k)]
def yR(h:n<xs[_]):jE xs[11] (n:Int)=(Pm.co xs n)[5]:=by
 rw[fG 0.6 0.8,dg,0]
def Vt(n:Nat)(f:Nat->Int):(aD n f).sum=Pm.sm n f:=#v[aD,PK]
def Ju(x:Int):(if x<0 then -x else x)=(x.natAbs:Int):=0.7
def axQ(hi:i<xs[_]):xs.take (i+1)=xs.take i++[Pm.co xs i]:=by
 rw[List.take_succ,Ä hi,!_++[_]=_++[xs.getD i 0]];rw[À,Ä hi,0]
def gf:∀b∈ό,0<=b/\b<1000/\Rm.tk b 1=1:=0.3
def LP(h:b∈ό):oU b:={(gf b h).1,(gf b h).2.1,(gf b h).2.2,(aJb b h).imp id λ⟨h0,h1⟩=>{b.toNat,h1,(Et h0).symm}}
structure Wf(r:Rw):Prop where
 hb:r.b∈ό
 l2:5<r.b->r.ρ[_]<=2
 len:r.ρ[_]=r.ς[_]
 l4:r.ρ[_]<=4
 uD:∀x∈r.ρ,j9 r.b x
 pL:∀x∈r.ς,j9 r.b x
def Wf.hB(h:Wf r):oU r.b:=LP h.hb
def tV(ρ:ζ):Prop:=Ž λP G=>NZ (BD P) (Pm.Mon G) (∀k,Pm.co P k=cv (Pm.co (Pm.bH 0 ρ)) (Pm.co G) k)
structure Sm(c:Nat)(r:Rw):Prop where
 wf:Wf r
 jh:∀x∈r.ρ,Bd 32 x
 kE:∀x∈r.ς,Bd c x
 small:r.b=0->tV r.ρ
theorem Sm.mono{c:Nat}{r:Rw}(h:Sm c r)(g:c<=d):Sm d r:={h.wf,h.jh,λx hx=>(h.kE x hx).mono g,h.small}
def Sm.cV(h:Sm c r)(hc:c<=500):Dp r:=
 {{h.wf.len,cD h.wf.l4 0.3,h.wf.hB.lo,h.wf.hB.hi,h.wf.uD,h.wf.pL,λx hx=>(h.jh x hx).mono 0.3,λx hx=>(h.kE x hx).mono ⋯},h.wf.hB,cD h.wf.l4 0.3}
def tV.facts(h:tV ρ):ρ[_]<=4/\(∀k,Bd 32 (Pm.co (Pm.bH 0 ρ) k))/\∀i,Pm.co (Pm.bH 0 ρ) i≠0->(∀k,k<i->Pm.co (Pm.bH 0 ρ) k=0)->(Pm.co (Pm.bH 0 ρ) i).natAbs<=3:=by
 ext P G d b e h;let m:=nJ 0 ρ;let l:=jy 0 ρ;let o:=b.pos;let n:=d.len;let t:=Kh (f:=Pm.co (Pm.bH 0 ρ)) (g:=Pm.co G) (a:=ρ[_]) (c:=G[_]-1) ((Fs.co _).mono 0.6) ((Fs.co _).mono ⋯);let j:=m.one;rw[l,gU]at j;rw[<-e,j,b.one]at t;let:=Dd (p:=P) (k:=ρ[_]+(G[_]-1)) #v[t,3];show{⋯,aWj d b (λk=>#v[e,je]) ⋯,λi h1 h2=>q_ d b e h1 h2}
def tV.bd(h:tV ρ):∀x∈ρ,Bd 32 x:=λx hx=>by
 rw[<-aFL (b:=0) (c:=ρ) λx _=>cY x]at hx;let⟨k,_,rfl⟩:=jN (show x∈aD _ _ from hx);rw[cY,rH,!Ey (h.facts.2.1 _)]
theorem tV.sh{r:Rw}(h:tV r.ρ)(hb:r.b=0)(k:yW r):tV (sh r).ρ:=by
 ext P G l j e h;ext g d dv k.dv;rw[hb]at dv;simp only[cY]at dv;let⟨S,m⟩:=Z9 ((Fs.co g).cv (Fs.co G));let t:=Kh (f:=Pm.co g) (g:=Pm.co G) (a:=g[_]-1) (c:=G[_]-1) ((Fs.co _).mono (let:=d.pos;⋯)) ((Fs.co _).mono (let:=j.pos;⋯));rw[d.one,j.one]at t;show{P,aD (g[_]-1+(G[_]-1)+1) (cv (Pm.co g) (Pm.co G)),l,{#v[bZ],#v[bZ,gU,dH,Á 0.6,!t]},λk=>?_};rw[e,pI (f':=cv (Pm.co (Pm.bH 0 (K55.sh r).ρ)) (Pm.co g)) (g':=Pm.co G) (λi _=>dv i) (λi _=>rfl),lZ,!pI (λi _=>rfl) λi _=>?_];rw[dH];split
 .rfl
 .exact(Fs.co g).Qk (Fs.co G) (by let:=d.pos;let:=j.pos;lia)
def FR(hB:oU b)(h:j9 b x)(h0:b≠0):Bd 10 x:=by
 let:=h.resolve_left h0;show Bd.of 0.8 (let:=hB.hi;⋯)
def yW.sm(h:Sm c r)(k:yW r):Sm c (sh r):=by
 let w:Wf (sh r):={#v[k.by_,!h.wf.hb],by rw[k.by_];exactλz=>cD k.le (h.wf.l2 z),k.len,cD k.le h.wf.l4,#v[k.by_,!k.uD],by rw[k.by_];exactλx hx=>h.wf.pL x (k.pL x hx)};show{w,?_,λx hx=>h.kE x (k.pL x hx),λz=>(h.small (k.by_▸z)).sh (k.by_▸z) k};by_cases z:r.b=0
 .exact((h.small z).sh z k).bd
 .exactλx hx=>(FR h.wf.hB (k.uD x hx) z).mono 0.3
theorem Sm.zy{c:Nat}{r:Rw}(h:Sm c r)(hc:10<=c)(n:Nat):Bd (c+n*36) (r.at n):=by
 let lo:=h.wf.hB.lo;let hi:=h.wf.hB.hi;show(Rm.zy h.wf.len lo ((Bd.of (n:=10) ⋯ ⋯).mono hc) h.jh h.kE n).mono ?_;let:=nH n (show 32+r.ρ[_]<=36 by let:=h.wf.l4;lia);simp_all
def Rw.on(r:Rw)(n:Nat):Rw:={r.b,r.ρ,aD r.ρ[_] λm=>r.at (m+n)}
def oU.pr(h:oU b):b=0∨cZ b.toNat:=h.p.imp id λ⟨P,a,e⟩=>#v[e,!cz a]
def oR(ρ a:ζ)(k:Nat):Int:=Pm.sm (min (k-1) ρ[_]) λi=>Pm.co ρ i*Pm.co a (k-2-i)
abbrev Le(x:Int)(n:Nat):Prop:=x.natAbs<=n
theorem Le.sm{f:Nat->Int}{c:Nat}:∀n:Nat,(∀k,k<n->Le (f k) c)->Le (Pm.sm n f) (n*c)
 |0,_=>dz _
 |n+1,h=>by
  let h1:=Le.sm n λk hk=>h k ⋯;let h2:=h n 0.6;let h3:=Je (Pm.sm n f) (f n);show(Pm.sm n f+f n).natAbs<=(n+1)*c;rw[rm];unfold Le at h1 h2;lia
def Le.mul{y:Int}(h1:Le x m)(h2:Le y n):Le (x*y) (m*n):=by
 show(x*y).natAbs<=m*n;rw[wG,!nZ h1 h2]
def Le.bd(h:Le x (2^n)):Bd (n+1) x:=by
 show x.natAbs<2^(n+1);let:0<2^n:=Ko 0.3;rw[lY];unfold Le at h;lia
def aK3(hk:1<=k)(U:ρ[_]=k-1)(hr:∀i,i<k-1->Le (Pm.co ρ i) (Z^(i+1)))(O:∀i,i<k->Le (Pm.co sums i) (Z^(i+1))):Le ((Pm.co sums (k-1)-oR ρ sums k)/k[0]) (Z^k):=by
 let b:Le (oR ρ sums k) ((k-1)*Z^k):=by
  unfold oR;rw[U,Uy,!Le.sm (k-1) λi hi=>?_];let:=(hr i hi).mul (O (k-2-i) 0.9);rw[<-yL,(0.7:i+1+(k-2-i+1)=k)]at this;show this
 let a:=O (k-1) ⋯;rw[(0.6:k-1+1=k)]at a;obtain⟨m,rfl⟩:∃m,k=m+1:={k-1,0.6};rw[gU]at b a⊢;generalize Pm.co sums m=s at a;generalize oR ρ sums (m+1)=t at b;generalize Z^(m+1)=z at b a;clear hr O U;let h3:Le (s-t) ((m+1)*z):=by
  unfold Le at *;rw[rm,!cD (Iy s t) (qz (m*z) z▸uC a b)]
 generalize s-t=d at h3;unfold Le at *;let h4:-((m+1)*z:Nat)[0]<=d/\d<=((m+1)*z:Nat)[0]:=0.9;rw[sW]at h4;let p:(0:Int)<(m+1:Nat)[0]:=0.6;let e:d/(m+1:Nat)[0]<=(z:Int):=by
  let:=HP p h4.2;rw[y9 _ ⋯]at this;show this
 let c:-z[0]<=d/(m+1:Nat)[0]:=by
  let:=HP p h4.1;rw[<-U6,y9 _ ⋯]at this;show this
 omega
theorem ND(O:2<=X)(c:Nat):∀(n:Nat)(f:Nat->Int),(∀i,i<n->Le (f i) (c*X^(n-i)))->Le (Pm.sm n f) (c*(2*X^n))
 |0,_,_=>dz _
 |n+1,f,h=>by
  let h0:=h 0 0.6;let h1:=ND O c n (λi=>f (i+1)) λi hi=>by let:=h (i+1) 0.8;rw[(0.6:n+1-(i+1)=n-i)]at this;show this
  rw[Pm.oK];let h3:=Je (f 0) (Pm.sm n λi=>f (i+1));let e:X^(n+1-0)=X^n*X:=lY ..;rw[e]at h0;let b:c*(2*X^(n+1))=c*(X^n*X)+c*(X^n*X):=#v[lY,-yj,-Nat.two_mul]
  let a:c*(2*X^n)<=c*(X^n*X):=nH _ #v[qW,!nH _ O];unfold Le at *;lia
def aPA(hk:1<=k)(hr:∀i,Le (Pm.co ρ i) (2^w))(O:∀i,i<k-1->Le (Pm.co sums i) ((2^(w+3))^(i+1))):Le ((if k<=ρ[_] then(k:Int)*Pm.co ρ (k-1)else 0)+oR ρ sums k) ((2^(w+3))^k):=by
 obtain⟨m,rfl⟩:∃m,k=m+1:={k-1,⋯};rw[gU]at O⊢;let c:2<=2^(w+3):=by
  let:0<2^w:=Ko 0.3;rw[yL,1]
 let j:Le (oR ρ sums (m+1)) (2^w*(2*(2^(w+3))^m)):=by
  let e:oR ρ sums (m+1)=Pm.sm m λi=>if i<ρ[_] then Pm.co ρ i*Pm.co sums (m+1-2-i)else 0:=by
   unfold oR;rw[gU,pU (m:=min m ρ[_]) (n:=m) ⋯ λi h1 h2=>Â ⋯,!Pm.bG λi hi=>(Á 0.7).symm]
  rw[e,!ND c _ m _ λi hi=>?_];split
  .let:=(hr i).mul (O (m+1-2-i) 0.8);rw[(⋯:m+1-2-i+1=m-i)]at this;show this
  .exact dz _
 let g:Le (if m+1<=ρ[_] then((m+1:Nat):Int)*Pm.co ρ m else 0) ((m+1)*2^w):=by
  split
  .let h1:Le (m+1:Nat)[0] (m+1):=by unfold Le;omega
   show h1.mul (hr m)
  .exact dz _
 let h3:=Je (if m+1<=ρ[_] then((m+1:Nat):Int)*Pm.co ρ m else 0) (oR ρ sums (m+1));let b:∀m,m+1<=6*8^m:=λm=>by
  induction m with
  |zero=>decide
  |succ m ih=>rw[lY,1]
 let a:8^m<=(2^(w+3))^m:=kx (by
  let:0<2^w:=Ko 0.3;rw[yL,1]) m
 let f:(2^(w+3))^(m+1)=2^w*(2*(2^(w+3))^m)+2^w*(6*(2^(w+3))^m):=by
  rw[lY,qW,yL,<-yj,<-Sg,Qe]
 let d:(m+1)*2^w<=2^w*(6*(2^(w+3))^m):=by
  rw[qW,!nH _ (cD (b m) (nH _ a))]
 unfold Le at *;omega
abbrev PF:=(Nat->Int)->(Nat->Int)->Nat->Int
def CG:PF:=λa c n=>a n+c n
def Bw:PF:=λa c n=>a n*c n
abbrev AH:PF:=VD
def Nv(s e:Int):Prop:=0<=s/\s<=100/\1<=e/\e<=10
def fM(ρ:ζ):Nat->ζ
 |0=>[]
 |k+1=>fM ρ k++[(if k+1<=ρ[_] then((k+1:Nat):Int)*Pm.co ρ k else 0)+oR ρ (fM ρ k) (k+1)]
def oA(a:ζ):Nat->ζ
 |0=>[]
 |k+1=>oA a k++[(Pm.co a k-oR (oA a k) a (k+1))/(k+1:Nat)[0]]
theorem Ak(ρ:ζ):∀n,(fM ρ n)[_]=n
 |0=>rfl
 |n+1=>#v[fM,fJ,Ak ρ n,0]
theorem vK(a:ζ):∀n,(oA a n)[_]=n
 |0=>rfl
 |n+1=>#v[oA,fJ,vK a n,0]
def Le.list(hz:(xs[_])*w+1<=z)(h:∀i,i<xs[_]->Le (Pm.co xs i) ((2^w)^(i+1))):∀x∈xs,Bd z x:=λx hx=>by
 let⟨k,hk,e⟩:=pH.mp hx;let:=h k hk;rw[mC hk,e,<-yz]at this;show this.bd.mono ?_;let:w*(k+1)<=xs[_]*w:=#v[qW,!pN _ hk]
 grind -ring
def Le.grow(O:xs[_]=n)(h:∀i,i<n->Le (Pm.co xs i) (Z^(i+1)))(hx:Le x (Z^(n+1))):∀i,i<n+1->Le (Pm.co (xs++[x]) i) (Z^(i+1)):=λi hi=>by
 rw[kZ];by_cases d:i<n
 .rw[Á 0.6];show h i d
 .let e:i=n:=⋯;subst e;rw[Â 0.6,O,ql,!hx]
theorem G9{ρ:ζ}(h:∀i,Le (Pm.co ρ i) (2^236)):∀n i,i<n->Le (Pm.co (fM ρ n) i) ((2^239)^(i+1))
 |0=>λi hi=>È hi 0.6
 |n+1=>Le.grow (Ak ρ n) (G9 h n) (aPA (w:=236) (k:=n+1) 0.6 h λj a=>G9 h n j 1.2)
theorem mv{a:ζ}{m:Nat}(h:∀i,i<m->Le (Pm.co a i) ((2^2390)^(i+1))):∀n,n<=m->∀i,i<n->Le (Pm.co (oA a n) i) ((2^2390)^(i+1))
 |0=>λ_ i hi=>È hi ⋯
 |n+1=>λhn=>Le.grow (vK a n) (mv h n ⋯) (aK3 (k:=n+1) ⋯ (vK a n) (λj b=>mv h n ⋯ j ⋯) λj b=>h j ⋯)
theorem R6(f:Nat->Int):∀n,Nw.sm n f=Pm.sm n f
 |0=>rfl
 |n+1=>by show Nw.sm n f+f n=Pm.sm n f+f n;rw[R6 f n]
def HE(ρ a:ζ)(k:Nat):oR ρ a (k+1)=Nw.sm k λi=>Pm.co ρ i*Pm.co a (k-1-i):=by
 unfold oR;rw[R6,gU,show(λi=>Pm.co ρ i*Pm.co a (k+1-2-i))=λi=>Pm.co ρ i*Pm.co a (k-1-i)from funext λi=>#v[(0.6:k+1-2-i=k-1-i)]];by_cases h:k<=ρ[_]
 .rw[BW h]
 .rw[TQ ⋯,pU (m:=ρ[_]) (n:=k) ⋯ λi h1 _=>#v[bK h1,jk]]
theorem W5{F:Nat->ζ}{x:Nat->Int}(h0:F 0=[])(O:∀n,F (n+1)=F n++[x n]):∀n,(F n)[_]=n/\∀k,k<n->Pm.co (F n) k=x k
 |0=>{#v[h0,0],λk hk=>È hk (tE _)}
 |n+1=>by
  let⟨l,a⟩:=W5 h0 O n;rw[O,!{#v[fJ,l,0],λk hk=>?_}];rw[kZ,l];by_cases c:k<n
  .rw[Á c];show a k c
  .rw[Â c,(⋯:k=n),ql];rfl
def YQ(ρ:ζ){n k:Nat}(hk:k<n):Pm.co (fM ρ n) k=(k+1:Nat)[0]*Pm.co ρ k+Nw.sm k λi=>Pm.co ρ i*Pm.co (fM ρ n) (k-1-i):=by
 let g:=W5 (F:=fM ρ) (x:=λk=>(if k+1<=ρ[_] then((k+1:Nat):Int)*Pm.co ρ k else 0)+oR ρ (fM ρ k) (k+1)) rfl λ_=>rfl;rw[(g n).2 k hk,HE,!congr (Ï _ ?_) (Nw.bG λi hi=>?_)]
 .split
  .rfl
  .rw[bK ⋯,dG]
 .rw[(g k).2 _ 0.9,(g n).2 _ 0.9]
def Sk(a:ζ){n k:Nat}(hk:k<n):Pm.co (oA a n) k=(Pm.co a k-Nw.sm k λi=>Pm.co (oA a n) i*Pm.co a (k-1-i))/(k+1:Nat)[0]:=by
 let g:=W5 (F:=oA a) (x:=λk=>(Pm.co a k-oR (oA a k) a (k+1))/(k+1:Nat)[0]) rfl λ_=>rfl;rw[(g n).2 k hk,HE,!Ï (λx=>(Pm.co a k-x)/_) (Nw.bG λi hi=>?_)];rw[(g k).2 _ 0.9,(g n).2 _ ⋯]
def vS(O:ρ[_]=ς[_])(i:Nat):Rm.at_ 0 ρ ς (i+ρ[_])=Nw.sm ρ[_] λk=>Pm.co ρ k*Rm.at_ 0 ρ ς (i+ρ[_]-1-k):=by
 rw[Bq O 0.6,cY,pO,R6]
def RV(h:∀x∈xs,j9 b x):xs.map (Rm.tk b)=xs:=(jx λx hx=>Ys (h x hx)).trans (Fy _)
theorem ig.exact{r:Rw}(ok:ig r)(n:Nat):r.at n=Rm.tk r.b (Rm.at_ 0 r.ρ r.ς n):=by
 by_cases z:r.b=0
 .show Rm.at_ r.b _ _ n=_;rw[z,cY]
 .let:=oC (p:=r.b) z ok.len n;rw[RV ok.uD,RV ok.pL]at this;show this
def ZZ{F:Nat->Int}(e:∀n,Rm.tk b (f n)=Rm.tk b (F n))(h:∀j,F (j+R[_])=Nw.sm R[_] λk=>Pm.co R k*F (j+R[_]-1-k)):Gr b R f:=λn hn=>by
 obtain⟨j,rfl⟩:∃j,n=j+R[_]:={n-R[_],0.6};rw[e,h j,R6,pO,!mj λk _=>#v[-mH,-e,mH]]
def aMW(h:ig r)(h':ig s)(hb:r.b=s.b){N:Nat}(hN:N=r.ρ[_]*s.ρ[_]):Gr r.b (oA (aD N λk=>Pm.co (fM r.ρ N) k*Pm.co (fM s.ρ N) k) N) (Bw r.at s.at):=by
 let l:=vK (aD N λk=>Pm.co (fM r.ρ N) k*Pm.co (fM s.ρ N) k) N;show ZZ (F:=λn=>Rm.at_ 0 r.ρ r.ς n*Rm.at_ 0 s.ρ s.ς n) (λn=>?_) λj=>?_
 .show Rm.tk r.b (r.at n*s.at n)=_;rw[h.exact,h'.exact,<-hb,qK,mH]
 .rw[l,hN];show Nw.Qu (c:=Pm.co r.ρ) (d:=Pm.co s.ρ) (s:=Pm.co (fM r.ρ N)) (t:=Pm.co (fM s.ρ N)) (λk hk=>bK hk) (λk hk=>bK hk) (vS h.len) (vS h'.len) (λk hk=>YQ _ 0.6) (λk hk=>YQ _ ⋯) (λk hk=>?_) j;rw[<-hN,Sk _ ⋯,dH,Á ⋯,!Ï (λx=>(Pm.co (fM r.ρ N) k*Pm.co (fM s.ρ N) k-x)/_) (Nw.bG λi hi=>?_)];rw[dH,Á 0.7]
def Lm(h:ig r){N:Nat}(O:1<=e)(hN:N=r.ρ[_]):Gr r.b (oA (aD N λk=>Pm.co (fM r.ρ (e*N)) (e*(k+1)-1)) N) λn=>r.at (st+e*n):=by
 let l:=vK (aD N λk=>Pm.co (fM r.ρ (e*N)) (e*(k+1)-1)) N;show ZZ (F:=λn=>Rm.at_ 0 r.ρ r.ς (st+e*n)) (λn=>#v[h.exact,qj]) λj=>?_;rw[l,hN,!Nw.aQR (c:=Pm.co r.ρ) (a:=Rm.at_ 0 r.ρ r.ς) (s:=Pm.co (fM r.ρ (e*N))) O (λk hk=>bK hk) (vS h.len) (λk hk=>YQ _ #v[hN,!hk]) (λk hk=>?_) st j];rw[<-hN,Sk _ 0.6,dH,Á ⋯,!Ï (λx=>(Pm.co (fM r.ρ (e*N)) (e*(k+1)-1)-x)/_) (Nw.bG λi hi=>?_)];rw[dH,Á 0.7]
def yr(I:sI J xs[11] H1)(hz:xs[_]<=1000){rest:St}(O:cst ix σ=ν::rest)(f:Int->Int)
  (U:∀H' x,Same H1 H'->x∈xs->∀kk:VK,kk (.int (f x)) H'->te (x[5]::rest) H' kk)
  (Y:∀D,H1 D=ν->Q (.ref D) (upd H1 D (.lst (xs.map f)[11]))):mK ix (jq 0) nj te σ Q J H1:=by
 show oZ I #v[aA,!gQ (eX hz)] O (λ_=>true) (λx=>match x with|.int k=>.int (f k)|_=>.non) ?_ ?_ ?_
 .intro H2 x a hx k hk;show hk
 .intro H2 x a hx _ k hk;let⟨y,hy,rfl⟩:=bN.mp hx;show U H2 y a hy k hk
 .intro D b;let el:((xs[11].filter λ_=>true).map λx=>match x with|.int k=>V.int (f k)|_=>V.non)=(xs.map f)[11]:=by
   rw[uw.mpr 0.1,dh,dh,0]
  rw[el,!Y D b]
def Ints(H:Hp)(a:Æ)(xs:ζ):Prop:=H a=xs[11][2]∨H a=xs[11][3]
def Ints.same(h:Ints H a xs)(g:Same H H'):Ints H' a xs:=h.imp (g _ _) (g _ _)
def ZE(hA:Ints H1 a xs)(hz:xs[_]<=1000){rest:St}(O:cst ix σ=ν::rest)(f:Int->Int)
  (U:∀H' x,Same H1 H'->x∈xs->∀kk:VK,kk (.int (f x)) H'->te (x[5]::rest) H' kk)
  (Y:∀D,H1 D=ν->Q (.ref D) (upd H1 D (.lst (xs.map f)[11]))):Wy K (V.ref a) H1 λJ H1=>mK ix (jq 0) nj te σ Q J H1:=by
 rcases hA with h|h
 .exact{a,rfl,.inl {{_,aj.of h},yr (jB (aj.of h)) hz O f U Y}}
 .exact{a,rfl,.inr {{_,ao.of h},yr (xQ (ao.of h)) hz O f U Y}}
def ic(hb:oU b){u:Nat}(hu:10<=u){xs:ζ}(h:∀x∈xs,Bd u x):(∀x∈xs.map (Rm.tk b),Bd u x)/\∀x∈xs.map (Rm.tk b),j9 b x:=
 {λx hx=>by let⟨y,hy,rfl⟩:=bN.mp hx;show yJ hb hu (h y hy),λx hx=>by let⟨y,_,rfl⟩:=bN.mp hx;show Bc hb.lo _}
structure Md(b:Int)(f:Nat->Int)(x:Rw):Prop where
 by_:x.b=b
 ok:ig x
 at_:∀n,x.at n=Rm.tk b (f n)
def wk(H:Hp)(Q:VK)(b:Int)(f:Nat->Int):Prop:=∀v x H',Same H H'->cL H' v x->Md b f x->Q v H'
def aDJ(o:Dp r)(k:yW r)(h:∀x∈r.ρ,Bd 28800 x):ig (sh r):=
 {k.len,cD k.le (cD o.ud 0.3),#v[k.by_,!o.ok.iR],#v[k.by_,!o.ok.pC],#v[k.by_,!k.uD],λx hx=>#v[k.by_,!o.ok.pL x (k.pL x hx)],λx hx=>(k.jh 28800 0.3 h x hx).mono 0.3,λx hx=>o.ok.kE x (k.pL x hx)}
inductive aBX(vs:τ)(H:Hp)(Q:VK)(E:XK):Prop|mk(b:Int)(a e:Æ)(ns:ζ)(z:Nat->Int)(_:vs=[.int b,.ref a,.ref e])(_:Ints H a ns)(_:Ints H e (aD ns[_] z))(_:oU b)(_:ns[_]<=12)(_:(∀t∈ns,Bd 28800 t))(_:(∀v,v<ns[_]->Bd 52300 (z v)))(_:Gr b ns z)(_:wk H Q b z)
def Sm.EW(h:Sm 10 r)(i:Nat)(hi:i<=12):Bd 3100 (r.at i):=(h.zy 0.3 i).mono ⋯
def Sm.poly(h:Sm 10 r):∀x∈Pm.bH r.b r.ρ,Bd 236 x:=Uz h.wf.hB.lo h.wf.hB.hi 0.3 λx hx=>(h.jh x hx).mono 0.3
def Sm.kp(h:Sm c r):Kp r.b (Pm.bH r.b r.ρ) r.at:=Kp.bH (BR h.wf.len)
def j7{a:Nat->Int}(h:n<m):jE (aD m a)[11] (n:Int)=(a n)[5]:=by
 rw[fG ⋯ #v[bZ],dg,!ι (V.int (Pm.co (aD m a) n))=_];rw[dH,Á h]
inductive aya(t:PF)(vs:τ)(H:Hp)(Q:VK)(E:XK):Prop|mk(l1 l2:Æ)(j:Nat)(z v:Nat->Int)(h:Nat)(_:vs=[.ref l1,.ref l2,.int (h:Int)])(_:H l1=(aD j z)[11][2])(_:H l2=(aD j v)[11][2])(_:h<j)(_:j<=12)(_:(∀o,o<=12->Bd 20000 (z o)))(_:(∀o,o<=12->Bd 20000 (v o)))(_:∀H',Same H H'->Q (.int (t z v h)) H')
def qB(f:PF):Sp:=aya f
def RL(mg:μ)(g:Æ)(f:PF):Prop:=(mg "sum_place"=g[4]/\f=CG)∨(mg "rolled_place"=g[4]/\f=AH)∨(mg "product_place"=g[4]/\f=Bw)
def RL.bd{f:PF}(h:RL mg g f){a c:Nat->Int}(ha:∀i,i<=12->Bd 3100 (a i))(hc:∀i,i<=12->Bd 3100 (c i)){n:Nat}(hn:n<=12):Bd 6300 (f a c n):=by
 rcases h with⟨_,rfl⟩|⟨_,rfl⟩|⟨_,rfl⟩
 .exact((ha n hn).add (hc n hn)).mono 0.3
 .exact(vW (n+1) λi hi=>(ha i ⋯).mul (hc (n-i) 0.8)).mono ⋯
 .exact((ha n hn).mul (hc n hn)).mono 0.3
inductive aAy(mg:μ)(vs:τ)(H:Hp)(Q:VK)(E:XK):Prop|mk(z:PF)(e d:V)(t g:Æ)(a c:Rw)(ns:ζ)(_:vs=[e,d,.ref t,.ref g])(_:RL mg g z)(_:cL H e a)(_:cL H d c)(_:Sm 10 a)(_:Sm 10 c)(_:Ints H t ns)(_:ns[_]<=12)(_:(∀v∈ns,Bd 28800 v))(_:Gr a.b ns (z a.at c.at))(_:wk H Q a.b (z a.at c.at))
def Qu(hB:oU b){p:ζ}(hp:Pm.Mon p)(hq:Pm.Mon q)(U:∀x∈p,Bd 236 x)(O:∀x∈q,Bd 236 x)(Y:p[_]+q[_]<=15):(Pm.mul b p q)[_]=p[_]+q[_]-1/\(jR b (Pm.mul b p q))[_]=p[_]+q[_]-2/\∀x∈jR b (Pm.mul b p q),Bd 28800 x:=by
 let l:=(xC hB.one hp hq).2;show{l,#v[GD,l],λx hx=>?_};let⟨k,_,rfl⟩:=jN (show x∈aD _ _ from hx);show yJ hB 0.3 ?_;rw[rH,!Ey (iK (λx hx=>(Wg hB.lo hB.hi 0.3 U O x hx).mono ⋯) _)]
def Vr(hB:oU b){p:ζ}(hp:Pm.Mon p)(hq:Pm.Mon q){a:Nat->Int}(h:Kp b (Pm.mul b p q) a):Gr b (jR b (Pm.mul b p q)) a:=aza (xC hB.one hp hq).1 (λk=>(Cm b p q).co k) h
def JF(f:PF):Prop:=∀{b:Int} {p q:ζ} {a c:Nat->Int},Kp b p a->Kp b q c->Kp b (Pm.mul b p q) (f a c)
inductive aA3(vs:τ)(H:Hp)(Q:VK)(E:XK):Prop|mk(d c:V)(a e:Rw)(_:vs=[d,c])(_:cL H d a)(_:cL H c e)(_:a.b=e.b)(_:Q (.int a.b) H)
inductive aPq(vs:τ)(H:Hp)(Q:VK)(E:XK):Prop|mk(n:Int)(_:vs=[.int n])(_:n<=12)(_:Q .non H)
inductive aUO(mg:μ)(vs:τ)(H:Hp)(Q:VK)(E:XK):Prop|mk(z:PF)(c a:V)(g:Æ)(r s:Rw)(_:vs=[c,a,.ref g])(_:RL mg g z)(_:JF z)(_:cL H c r)(_:cL H a s)(_:Sm 10 r)(_:Sm 10 s)(_:r.b=s.b)(_:wk H Q r.b (z r.at s.at))
inductive awU(z:PF)(vs:τ)(H:Hp)(Q:VK)(E:XK):Prop|mk(c a:V)(r s:Rw)(_:vs=[c,a])(_:cL H c r)(_:cL H a s)(_:Sm 10 r)(_:Sm 10 s)(_:r.b=s.b)(_:wk H Q r.b (z r.at s.at))
def CC(f:PF):Sp:=awU f
inductive aJW(vs:τ)(H:Hp)(Q:VK)(E:XK):Prop|mk(a c:Æ)(v t:ζ)(z:Nat)(_:vs=[.ref a,.ref c,.int (z:Int)])(_:Ints H a v)(_:Ints H c t)(_:1<=z)(_:z<=130)(_:z-1<=t[_])(_:(∀o∈v,Bd 29000 o))(_:(∀o∈t,Bd 29000 o))(_:∀H',Same H H'->Q (.int (oR v t z)) H')
theorem Sm.co{r:Rw}(h:Sm 10 r)(i:Nat):Le (Pm.co r.ρ i) (2^236):=gQ ((iK h.jh i).mono 0.3)
def Z8(h:∀i,Le (Pm.co ρ i) (2^236)){n:Nat}(hn:n<=120):∀x∈fM ρ n,Bd 29000 x:=Le.list (w:=239) #v[Ak] λi hi=>G9 h n i (by rw[Ak]at hi;show hi)
def n5(h:∀i,i<m->Le (Pm.co sums i) ((2^2390)^(i+1))){n:Nat}(hn:n<=m)(O:n<=12):∀x∈oA sums n,Bd 28800 x:=Le.list (w:=2390) #v[vK] λi hi=>mv h n hn i (by rw[vK]at hi;show hi)
inductive aNJ(vs:τ)(H:Hp)(Q:VK)(E:XK):Prop|mk(a:Æ)(t:ζ)(v:Nat)(_:vs=[.ref a,.int (v:Int)])(_:H a=t[11][3])(_:v<=120)(_:(∀o∈t,Bd 236 o))(_:∀z H',Same H H'->H' z=(fM t v)[11][2]->Q (.ref z) H')
inductive ax9(vs:τ)(H:Hp)(Q:VK)(E:XK):Prop|mk(c:Æ)(o:ζ)(t:Nat)(_:vs=[.ref c])(_:H c=o[11][2])(_:o[_]=t)(_:t<=12)(_:(∀z,z<t->Le (Pm.co o z) ((2^2390)^(z+1))))(_:∀v H',Same H H'->H' v=(oA o t)[11][2]->Q (.ref v) H')
inductive aHL(vs:τ)(H:Hp)(Q:VK)(E:XK):Prop|mk(c a:V)(r s:Rw)(_:vs=[c,a])(_:cL H c r)(_:cL H a s)(_:Sm 10 r)(_:Sm 10 s)(_:r.b=s.b)(_:r.ρ[_]<=3)(_:s.ρ[_]<=3)(_:wk H Q r.b (Bw r.at s.at))
inductive aNN(vs:τ)(H:Hp)(Q:VK)(E:XK):Prop|mk(s e:Int)(_:vs=[.int s,.int e])(_:Nv s e)(_:Q .non H)
inductive aIC(vs:τ)(H:Hp)(Q:VK)(E:XK):Prop|mk(v:V)(s e:Int)(r:Rw)(_:vs=[v,.int s,.int e])(_:cL H v r)(_:Sm 10 r)(_:Nv s e)(_:wk H Q r.b (λn=>r.at (s.toNat+e.toNat*n)))
inductive aEw(vs:τ)(H:Hp)(Q:VK)(E:XK):Prop|mk(v:V)(r:Rw)(x:Int)(_:vs=[v,.int x])(_:cL H v r)(_:Sm 10 r)(_:Bd 10 x)(_:wk H Q r.b (λz=>x*r.at z))
def XR(a:Nat->Int)(h:n<=m):(aD m a).take n=aD n a:=by
 rw[aD,aD,<-qg,List.take_range,BW h]
inductive aSA(vs:τ)(H:Hp)(Q:VK)(E:XK):Prop|mk(v:V)(r:Rw)(_:vs=[v])(_:cL H v r)(_:Sm 10 r)(_:wk H Q r.b (λn=>Pm.sm (n+1) r.at))
inductive aJ0(vs:τ)(H:Hp)(Q:VK)(E:XK):Prop|mk(v:V)(r:Rw)(ln:Æ)(z:ζ)(_:vs=[v,.ref ln])(_:cL H v r)(_:Sm 10 r)(_:H ln=z[11][2])(_:z[_]<=8)(_:(∀t∈z,Bd 67 t))(_:wk H Q r.b (j8 z r.at))
inductive az2(vs:τ)(H:Hp)(Q:VK)(E:XK):Prop|mk(b:Int)(a l:Æ)(p z:ζ)(n:Nat)(_:vs=[.int b,.ref a,.ref l,.int (0+n[0])])(_:0<=b)(_:H a=p[11][3])(_:(H l=z[11][2]∨H l=z[11][3]))(_:n+p[_]<=z[_])(_:p[_]<=1000)(_:(∀v∈p,Bd 4000000 v))(_:(∀v∈z,Bd 61000000 v))(_:∀H',Same H H'->Q (.int (Rm.tk b (Pm.ks p (Pm.co z) n))) H')
def RJ(b n:Int):Prop:=0<=n/\(b=0->n<=400)
inductive axr(vs:τ)(H:Hp)(Q:VK)(E:XK):Prop|mk(b n:Int)(_:vs=[.int b,.int n])(_:RJ b n)(_:Q .non H)
inductive aFW(vs:τ)(H:Hp)(Q:VK)(E:XK):Prop|mk(z:Int)(a:Æ)(o:ζ)(n:Nat)(_:vs=[.int z,.ref a,.int n])(_:oU z)(_:H a=(Pm.bH z o)[11][3])(_:o[_]<=12)(_:(∀j∈o,Bd 67 j))(_:(z=0->n<=400))(_:Bd 400 (n:Int))(_:∀t v H',Same H H'->H' t=(fR V.int v)[3]->Pm.Pw z o n v->v[_]<=o[_]->(∀j∈v,Bd 3100000 j)->Q (.ref t) H')
def MU(b:Int)(p q:ζ):(Pm.mul b p q)[_]<=p[_]+q[_]:=by
 show cD (CV _) ?_;rw[bZ,!aZ _]
def SQ(hb:oU b)(k:Nat):Rm.tk b (Pm.co [1] k)=Pm.co [1] k:=by
 cases k with
 |zero=>rw[jj,!hb.one]
 |succ k=>rw[qH,gP,!ġ b]
def Sf:∀x∈([0,1]:ζ),Bd 1 x:=λx hx=>by
 rcases fj.mp hx with rfl|hx
 .exact Bd.zero _
 .rw[iI.mp hx];show Bd.of 0.3 0.3
inductive aTC(vs:τ)(H:Hp)(Q:VK)(E:XK):Prop|mk(v:V)(r:Rw)(n:Int)(c:Nat)(_:vs=[v,.int n])(_:cL H v r)(_:Sm c r)(_:Bd 400 n)(_:RJ r.b n)(_:(∀t z H',Same H H'->H' t=(fR V.int z)[3]->Pm.Pw r.b r.ρ n.toNat z->z[_]=r.ρ[_]->(∀o∈z,Bd 3100000 o)->Q (.ref t) H'))
def Hm(h:Sm c r)(hc:c<=500){n N m:Nat}{l:ζ}(pw:Pm.Pw r.b r.ρ n l)(ll:l[_]=r.ρ[_])(hN:m+r.ρ[_]<=N):Rm.tk r.b (Pm.ks l (Pm.co (r.row N)) m)=r.at (m+n):=by
 rw[<-(h.cV hc).ok.GU,<-pw r.at (BR h.wf.len) m];unfold Pm.ks;show Ï _ (Pm.bG λk hk=>?_);rw[Du,dH,Á ⋯]
inductive aBG(vs:τ)(H:Hp)(Q:VK)(E:XK):Prop|mk(v:V)(r:Rw)(n:Int)(c:Nat)(_:vs=[v,.int n])(_:cL H v r)(_:Sm c r)(_:c<=500)(_:Bd 400 n)(_:RJ r.b n)(_:(∀a H',Same H H'->cL H' a (r.on n.toNat)->Q a H'))
inductive aQd(vs:τ)(H:Hp)(Q:VK)(E:XK):Prop|mk(v:V)(r:Rw)(n:Int)(c:Nat)(_:vs=[v,.int n])(_:cL H v r)(_:Sm c r)(_:c<=500)(_:Bd 400 n)(_:RJ r.b n)(_:(∀H',Same H H'->Q (.int (r.at n.toNat)) H'))
def Al(n:Nat)(p:Nat->Bool):Option Nat:=(dY n).find? p
def Zh(hi:i<n)(h:p i=true)(O:∀j,j<i->p j=false):Al n p=ι i:=by
 unfold Al;rw[ĝ,!{h,fQ.mpr hi,λj a=>#v[O j a,0]}]
def wd(O:∀j,j<n->p j=false):Al n p=ν:=by
 unfold Al;rw[List.find?_eq_none];exactλx hx=>#v[O x (fQ.mp hx),3]
def Nn:Option Nat->V
 |none=>.non
 |some n=>.int (n:Int)
inductive aEO(vs:τ)(H:Hp)(Q:VK)(E:XK):Prop|mk(v:V)(r:Rw)(_:vs=[v])(_:cL H v r)(_:r.b=0)(_:Q .non H)
inductive aCF(vs:τ)(H:Hp)(Q:VK)(E:XK):Prop|mk(n:Int)(_:vs=[.int n])(_:0<=n)(_:n<=300)(_:Q .non H)
inductive aJz(vs:τ)(H:Hp)(Q:VK)(E:XK):Prop|mk(v:V)(r:Rw)(n:Int)(_:vs=[v,.int n])(_:cL H v r)(_:ig r)(_:0<=n)(_:n<=300)(_:Told H Q (r.row n.toNat)[11])
def UW(h:i<n):(r.row n).getD i 0=r.at i:=d6 _ _ _ h
def BK(r s:Rw):Option Nat:=Al (r.ρ[_]+s.ρ[_]) λn=>decide (r.at n≠s.at n)
inductive aTG(vs:τ)(H:Hp)(Q:VK)(E:XK):Prop|mk(d a:V)(z v:Rw)(c:Nat)(_:vs=[d,a])(_:cL H d z)(_:cL H a v)(_:Sm c z)(_:Sm c v)(_:c<=500)(_:z.b=v.b)(_:∀H',Same H H'->Q (Nn (BK z v)) H')
def Rw.rests(r:Rw)(d:Int):Rw:={d,r.ρ.map (Rm.tk d),r.ς.map (Rm.tk d)}
def X0(h:ig r)(h0:0<d)(h1:d<1000):ig (r.rests d):=by
 let a:∀x,Bd 10 (Rm.tk d x):=λx=>by
  let:=(Bc (⋯:0<=d) x).resolve_left ⋯;show Bd.of 0.8 ⋯
 show{?_,?_,by show 0<=d;lia,h1,λx hx=>?_,λx hx=>?_,λx hx=>?_,λx hx=>?_}
 .show(r.ρ.map (Rm.tk d))[_]=(r.ς.map (Rm.tk d))[_];rw[aA,aA,h.len]
 .show(r.ρ.map (Rm.tk d))[_]<=24;rw[aA,!h.short]
 all_goals let⟨y,_,rfl⟩:=bN.mp hx
 .exact Bc (⋯:0<=d) _
 .exact Bc (⋯:0<=d) _
 .exact(a y).mono 0.3
 .exact(a y).mono 0.3
inductive aMh(vs:τ)(H:Hp)(Q:VK)(E:XK):Prop|mk(v:V)(r:Rw)(d:Int)(_:vs=[v,.int d])(_:cL H v r)(_:ig r)(_:0<d)(_:∀a H',Same H H'->cL H' a (r.rests d)->Q a H')
inductive aR0(vs:τ)(H:Hp)(Q:VK)(E:XK):Prop|mk(x y:Int)(_:vs=[.int x,.int y])(_:Q (.int (m6 x.natAbs y.natAbs:Nat)[0]) H)
def iQ(g:Nat)(xs:ζ):Nat:=xs.foldl (λd x=>m6 d x.natAbs) g
inductive aUn(vs:τ)(H:Hp)(Q:VK)(E:XK):Prop|mk(v:V)(r:Rw)(_:vs=[v])(_:cL H v r)(_:r.b=0)(_:Q (.int (iQ 0 r.ς:Nat)[0]) H)
def V5(g:Nat)(hi:i<xs[_]):iQ g (xs.take (i+1))=m6 (iQ g (xs.take i)) (Pm.co xs i).natAbs:=by
 rw[axQ hi,iQ,List.foldl_append,0]
def vQ(r:Rw)(d s e:Int):Option Nat:=Al r.ρ[_] λk=>decide ((r.rests d).at (s.toNat+e.toNat*k)≠0)
inductive aW4(vs:τ)(H:Hp)(Q:VK)(E:XK):Prop|mk(v:V)(z:Rw)(d t e:Int)(c:Nat)(_:vs=[v,.int d,.int t,.int e])(_:cL H v z)(_:Sm c z)(_:c<=500)(_:0<d)(_:d<1000)(_:z.b=0)(_:Nv t e)(_:∀H',Same H H'->Q (Nn (vQ z d t e)) H')
inductive axu(vs:τ)(H:Hp)(Q:VK)(E:XK):Prop|mk(v:V)(r:Rw)(p:Int)(_:vs=[v,.int p])(_:cL H v r)(_:Sm 10 r)(_:r.b=0)(_:0<p)(_:p<1000)(_:wk H Q p r.at)
def cW(p:Nat->Bool)(lo n:Nat):ζ:=(((dY n).map (lo + ·)).filter p).map λ(i:Nat)=>i[0]
def Bm(p:Nat->Bool)(lo n:Nat):(cW p lo n)[_]<=n:=by
 rw[cW,aA,!cD (OZ ..) ?_];rw[aA,oO,!aZ _]
def K7{tc:TT}(hz:n<=Ê){rest:St}(O:cst ix σ=ν::rest)(p:Nat->Bool)
  (ht:∀H' k,Same H1 H'->k<n->∀kk:Bool->Hp->Prop,kk (p (lo+k)) H'->tc ((lo[0]+k[0])[5]::rest) H' kk)
  (U:∀H' k,Same H1 H'->k<n->∀kk:VK,kk (.int (lo[0]+k[0])) H'->te ((lo[0]+k[0])[5]::rest) H' kk)
  (Y:∀D,H1 D=ν->Q (.ref D) (upd H1 D (.lst (cW p lo n)[11]))):mK ix (jq 0) tc te σ Q (tG (lo:Int) n) H1:=by
 show oZ A9 #v[aA,oO,!hz] O (λx=>match x with|.int k=>p k.toNat|_=>false) (λx=>x) ?_ ?_ ?_
 .intro H2 x c hx k hk;let⟨j,b,rfl⟩:=bN.mp hx;let f:(lo[0]+j[0]).toNat=lo+j:=⋯;show ht H2 j c (fQ.mp b) k ?_;let a:k (p (lo[0]+j[0]).toNat) H2:=hk
  rwa [f]at a
 .intro H2 x c hx hp k hk;let⟨j,b,rfl⟩:=bN.mp hx;show U H2 j c (fQ.mp b) k hk
 .intro D d;let el:((((dY n).map λi=>V.int (lo[0]+(i:Nat))).filter λx=>match x with|.int k=>p k.toNat|_=>false).map λx=>x)=(cW p lo n)[11]:=by
   rw[WX,cW,OV,OV,dh,dh];let e:((λx=>match x with|V.int k=>p k.toNat|_=>false)∘λ(i:Nat)=>V.int (lo[0]+(i:Nat)))=p∘(lo + ·):=by
    funext i
    show p (lo[0]+i[0]).toNat=p (lo+i);rw[(⋯:(lo[0]+i[0]).toNat=lo+i)]
   rw[e,!jx λi _=>?_];show V.int (lo[0]+i[0])=V.int (((lo+i:Nat)):Int);rw[CM]
  let:=Y D d;rw[<-el]at this;show this
inductive aE3(vs:τ)(H:Hp)(Q:VK)(E:XK):Prop|mk(P l:Nat)(_:vs=[.int P,.int l])(_:P<1000)(_:l<=12)(_:P^l<=1000)(_:Q .non H)
def aUS:∀b∈ό,b<=13->∀d<5,(5<b->d<=2)->b.toNat^d<=1000:=0.0
def Sm.win(h:Sm c r)(O:r.b<=13):r.b.toNat^r.ρ[_]<=1000:=aUS _ h.wf.hb O _ (let:=h.wf.l4;⋯) h.wf.l2
inductive aGr(vs:τ)(H:Hp)(Q:VK)(E:XK):Prop|mk(v:V)(z:Rw)(c:Nat)(_:vs=[v])(_:cL H v z)(_:Sm c z)(_:c<=500)(_:0<z.b)(_:z.b<=13)(_:∀a H',Same H H'->cL H' a (sh z)->yW z->Q a H')
def KK(xs:ζ):List Key:=xs.map .inl
def Z2(xs:ζ):(KK xs).map kV=xs[11]:=#v[KK,dh,0]
def NY{ys:ζ}(h:KK xs=KK ys):xs=ys:=by
 let:=Ï (fR kV) h;rw[Z2,Z2]at this;show(List.map_inj_right (λa b e=>by cases e;rfl)).mp this
structure Seen(f:Nat->Int)(l n:Nat)(kvs:List (List Key×V)):Prop where
 len:kvs[_]=n
 at_:∀i,i<n->fB kvs (KK (Pm.win f l i))=(i:Int)[5]
 out:∀k,(∀i,i<n->k≠KK (Pm.win f l i))->fB kvs k=ν
 diff:∀i j,i<j->j<n->Pm.win f l i≠Pm.win f l j
def Seen.more{l:Nat}(h:Seen f l n kvs)(hn:fB kvs (KK (Pm.win f l n))=ν):Seen f l (n+1) (putK kvs (KK (Pm.win f l n)) (.int (n:Int))):=by
 let d:∀i,i<n->Pm.win f l i≠Pm.win f l n:=λi hi z=>by
  let:=h.at_ i hi;rw[z,hn]at this;cases this
 show{?_,λi hi=>?_,λk hk=>?_,λi j a b=>?_}
 .rw[aCA _ hn,fJ,h.len];rfl
 .rw[cS];by_cases c:i=n
  .rw[c,Á rfl]
  .rw[Â λz=>d i ⋯ (NY z)];show h.at_ i ⋯
 .rw[cS,Â (hk n ⋯)];show h.out k λi hi=>hk i ⋯
 .by_cases c:j=n
  .rw[c];show d i 0.6
  .exact h.diff i j a ⋯
inductive OU(vs:τ)(H:Hp)(Q:VK)(E:XK):Prop|mk(v:V)(r:Rw)(_:vs=[v])(_:cL H v r)(_:ig r)(_:0<r.b)(_:r.b.toNat^r.ρ[_]<=1000)(_:∀(bg ln:Nat) z H',Same H H'->H' z=[.int (bg:Int),.int (ln:Int)][3]->bg+ln<=1000->DF r.at r.ρ[_] bg ln->Q (.ref z) H')
structure qO(r:Rw)(bg ln:Nat):Prop where
 rd:DF r.at (sh r).ρ[_] bg ln
 le:bg+ln<=1000
 so:yW r
inductive aNP(vs:τ)(H:Hp)(Q:VK)(E:XK):Prop|mk(v:V)(r:Rw)(c:Nat)(_:vs=[v])(_:cL H v r)(_:Sm c r)(_:c<=500)(_:0<r.b)(_:r.b<=13)(_:∀(bg ln:Nat) z H',Same H H'->H' z=[.int (bg:Int),.int (ln:Int)][3]->qO r bg ln->Q (.ref z) H')
def Eg(O:Sm c r)(hc:c<=500)(Y:0<r.b)(lQ:r.b<=13)(so:yW r){H:Hp}{Q:VK}(U:cL H v (sh r))(q:∀(bg ln:Nat) p H',Same H H'->H' p=[.int (bg:Int),.int (ln:Int)][3]->bg+ln<=1000->DF r.at (sh r).ρ[_] bg ln->Q (.ref p) H'):OU [v] H Q E:=
 {v,sh r,rfl,U,((so.sm O).cV hc).ok,#v[so.by_,!Y],(so.sm O).win #v[so.by_,!lQ],λbg ln p H2 a hp hz rd=>q bg ln p H2 a hp hz #v[-(show(sh r).at=r.at from funext so.at_),!rd]}
def jO(f:Nat->Int)(x:Int):Nat->Bool:=λi=>decide (f i=x)
inductive aTT(vs:τ)(H:Hp)(Q:VK)(E:XK):Prop|mk(v:V)(r:Rw)(t:Int)(c:Nat)(_:vs=[v,.int t])(_:cL H v r)(_:Sm c r)(_:c<=500)(_:0<r.b)(_:r.b<=13)(_:∀(bg ln:Nat) z le a H',Same H H'->H' z=[.ref le,.ref a,.int (ln:Int)][3]->H' le=(cW (jO r.at t) 0 bg)[11][2]->H' a=(cW (jO r.at t) bg ln)[11][2]->qO r bg ln->Q (.ref z) H')
inductive dJ(H:Hp)(ex:List Æ):τ->List ζ->Prop
 |nil:dJ H ex [] []
 |cons {t:Æ} {p:ζ} {xs:τ} {ps:List ζ}:t∉ex->H t=p[11][2]->dJ H ex xs ps->dJ H ex (.ref t::xs) (p::ps)
def Keep(ll:Æ)(H H':Hp):Prop:=∀a u,a≠ll->H a=ι u->H' a=ι u
def Keep.refl(ll:Æ)(H:Hp):Keep ll H H:=λ_ _ _ h=>h
def Keep.trans(h:Keep ll H H')(h':Keep ll H' H2):Keep ll H H2:=λa u n e=>h' a u n (h a u n e)
def Keep.same(g:Same H H'):Keep ll H H':=λa u _ e=>g a u e
theorem Keep.upd(ll:Æ)(H:Hp)(o:HO):Keep ll H (L2.upd H ll o):=λa u n e=>#v[cO n,!e]
theorem dJ.keep{H H':Hp}{ll:Æ}{ex:List Æ}(O:ll∈ex)(g:Keep ll H H'):∀{xs:τ} {ps:List ζ},dJ H ex xs ps->dJ H' ex xs ps
 |_,_,.nil=>.nil
 |_,_,.cons n h r=>.cons n (g _ _ (λz=>n (z▸O)) h) (dJ.keep O g r)
theorem dJ.same{H H':Hp}{ex:List Æ}(g:Same H H'):∀{xs:τ} {ps:List ζ},dJ H ex xs ps->dJ H' ex xs ps
 |_,_,.nil=>.nil
 |_,_,.cons n h r=>.cons n (g _ _ h) (dJ.same g r)
theorem dJ.more{H:Hp}{ex:List Æ}{a:Æ}(ha:H a=ν):∀{xs:τ} {ps:List ζ},dJ H ex xs ps->dJ H (a::ex) xs ps
 |_,_,.nil=>.nil
 |_,_,.cons n h r=>.cons (λz=>by
   rcases fj.mp z with e|e
   .rw[e,ha]at h;cases h
   .exact n e) h (dJ.more ha r)
theorem dJ.less{H:Hp}{ex:List Æ}(U:∀a∈O,a∈ex):∀{xs:τ} {ps:List ζ},dJ H ex xs ps->dJ H O xs ps
 |_,_,.nil=>.nil
 |_,_,.cons n h r=>.cons (λz=>n (U _ z)) h (dJ.less U r)
theorem dJ.len{H:Hp}{ex:List Æ}:∀{xs:τ} {ps:List ζ},dJ H ex xs ps->xs[_]=ps[_]
 |_,_,.nil=>rfl
 |_,_,.cons _ _ r=>#v[gh,gh,dJ.len r]
theorem dJ.get{H:Hp}{ex:List Æ}:∀{xs:τ} {ps:List ζ} {i:Nat},dJ H ex xs ps->i<ps[_]->∃t,xs[i]?=t[4]/\t∉ex/\H t=(Dm.ln ps i)[11][2]
 |_,_,_,.nil,h=>È h (tE _)
 |_,_,0,.cons n h _,_=>{(),n,h}
 |_,_,i+1,.cons _ _ r,h=>dJ.get (i:=i) r h[7]
theorem dJ.set{H:Hp}{ex:List Æ}{t:Æ}{q:ζ}(hn:t∉ex)(O:H t=q[11][2]):∀{xs:τ} {ps:List ζ} (i:Nat),dJ H ex xs ps->dJ H ex (xs.set i (.ref t)) (ps.set i q)
 |_,_,_,.nil=>.nil
 |_,_,0,.cons _ _ r=>.cons hn O r
 |_,_,i+1,.cons n h r=>.cons n h (dJ.set hn O i r)
theorem dJ.append{H:Hp}{ex:List Æ}(hn:t∉ex)(O:H t=q[11][2]):∀{xs:τ} {ps:List ζ},dJ H ex xs ps->dJ H ex (xs++[.ref t]) (ps++[q])
 |_,_,.nil=>.cons hn O .nil
 |_,_,.cons n h r=>.cons n h (dJ.append hn O r)
def Stand(H:Hp)(ex:List Æ):Prop:=∀a∈ex,∃o,H a=ι o
def Stand.fresh(h:Stand H ex)(ht:H t=ν):t∉ex:=λz=>by
 let⟨o,e⟩:=h t z;rw[ht]at e;cases e
def Stand.keep(h:Stand H ex)(g:Keep ll H H')(O:∃o,H' ll=ι o):Stand H' ex:=λa ha=>by
 by_cases e:a=ll
 .rw[e];show O
 .obtain⟨o,q⟩:=h a ha;show{o,g _ _ e q}
def aBA(q:ζ)(hi:i<L[_])(k:Nat):Dm.ln (L.set i q) k=if k=i then q else Dm.ln L k:=by
 unfold Dm.ln;rw[À,Ň,À];by_cases e:i=k
 .subst e;simp[hi]
 .rw[Â e,Â (λz=>e z.symm)]
def N2{xs:τ}(I:sI J xs H1)(hz:xs[_]<=1000){rest:St}(O:cst ix σ=ν::rest)(G:V->ζ)
  (U:∀(H':Hp)(x:V),Same H1 H'->x∈xs->∀k:VK,(∀t' H2,Same H' H2->H' t'=ν->H2 t'=(G x)[11][2]->k (.ref t') H2)->te (ι x::rest) H' k)
  (Y:∀D ys H',H1 D=ν->Same H1 H'->H' D=ys[2]->dJ H' [D] ys (xs.map G)->Q (.ref D) H'):
  mK ix (jq 0) nj te σ Q J H1:=by
 constructor;show λD d=>{λi m b H'=>m=xs[_]-i/\i<=xs[_]/\(∃o,b=o::rest)/\Same H1 H'/\∃ys,H' D=ys[2]/\dJ H' [D] ys ((xs.take i).map G),{xs[_],0.1,dz _,{ν,(O)},Same.new d _,[],aB,.nil},?_};rintro i m b H' ⟨rfl,hi,⟨o,rfl⟩,g,ys,c,hy⟩;by_cases a:i<xs[_]
 .refine .inr {I.go i _ g a,λx H2 y=>?_};let⟨rfl,hx⟩:=I.nM i _ x H2 g y;let hx:=hx a;let l:x∈xs:=Ð hx;let n:xs.take (i+1)=xs.take i++[x]:=#v[zp,hx,0]
  change te (ι x::rest) H2 _;show U H2 x g l _ λt' H3 f hn h3=>{ys,f _ _ c,?_,xs[_]-(i+1),⋯,rfl,a,{()},Same.upd (g.trans f) d _,ys++[.ref t'],aB,?_}
  .let:=hy.len;rw[aA,jg]at this;let:=eX hz;lia
  .let j:t'∉[D]:=λz=>by
    rw[iI.mp z,c]at hn;cases hn
   rw[n,eG,!(dJ.append j h3 (hy.same f)).keep (iI.mpr rfl) (Keep.upd D H3 _)]
 .let e:i=xs[_]:=⋯;subst e;rw[qw]at hy;show .inl {I.stop _ _ g (aZ _),Y D ys H' d g c hy}
def Vp(f:Nat->ζ):V->ζ
 |.int k=>f k.toNat
 |_=>[]
inductive aU4(K:aH)(vs:τ)(H:Hp)(Q:VK)(E:XK):Prop|mk(z:Int)(l:Æ)(p:ζ)(_:vs=[.int z,.ref l])(_:0<=z)(_:H l=p[11][2])(_:p[_]<=1000)(_:Told H Q (p.map (Rm.tk z))[11])
inductive aPY(vs:τ)(H:Hp)(Q:VK)(E:XK):Prop|mk(ll:Æ)(o:τ)(z:List ζ)(W c:Nat)(a:Int)(ex:List Æ)(v:Nat)(_:vs=[.ref ll,.int c,.int a])(_:a=c[0])(_:H ll=o[2])(_:dJ H ex o z)(_:(∀t,t<z[_]->(Dm.ln z t)[_]=W))(_:c<W)(_:z[_]<=1000)(_:El.rQ z c=ι v)(_:Q (.int v) H)
inductive aUu(vs:τ)(H:Hp)(Q:VK)(E:XK):Prop|mk(ll:Æ)(j:τ)(z:List ζ)(v o:Nat)(ex:List Æ)(_:vs=[.int 0,.ref ll,.int v,.int o])(_:H ll=j[2])(_:dJ H ex j z)(_:ll∈ex)(_:Stand H ex)(_:o<=v)(_:v<z[_])(_:(∀t,t<z[_]->(Dm.ln z t)[_]<=1000))(_:∀a H',Keep ll H H'->H' ll=a[2]->dJ H' ex a (El.jL z v o)->Q .non H')
inductive aLb(vs:τ)(H:Hp)(Q:VK)(E:XK):Prop|mk(last:Int)(l1 l2:Æ)(v t:ζ)(z:Nat)(a:Int)(_:vs=[.int 0,.ref l1,.ref l2,.int a,.int last])(_:a=z[0])(_:H l1=v[11][2])(_:H l2=t[11][2])(_:v[_]=t[_])(_:z<v[_])(_:v[_]<=1000)(_:last≠0)(_:Bd 1990 last)(_:(∀o∈v,Bd 1000000 o))(_:(∀o∈t,Bd 1000000 o))(_:Told H Q (El.tU (Pm.co t z) (Pm.co v z) last v t)[11])
def aMY(h0:x≠0)(h:Bd n x):x.natAbs.log2<n:=(aV 0.8).mpr h
def GI{W:Nat}(h:El.rJ W u L)(i:Nat):∀x∈Dm.ln L i,Bd u x:=λx hx=>by
 let⟨k,hk,e⟩:=pH.mp hx;rw[<-e,<-mC hk,!h.bd i k]
inductive aLB(vs:τ)(H:Hp)(Q:VK)(E:XK):Prop|mk(a:Nat)(ll:Æ)(z:τ)(L:List ζ)(u:Nat)(ex:List Æ)(B:List ζ)(last:Int)(_:vs=[.int 0,.int a,.ref ll])(_:H ll=z[2])(_:dJ H ex z L)(_:ll∈ex)(_:Stand H ex)(_:L[_]=a)(_:a<=4)(_:1<=u)(_:u<=62)(_:El.rJ (a+1) u L)(_:El.jQ L a=ι (B,last))(_:∀t c b H',Keep ll H H'->H' t=[.ref c,.int last][3]->H' c=(aD a λh=>h[0])[11][2]->H' ll=b[2]->dJ H' ex b B->Q (.ref t) H')
def aB9{B:List ζ}(hc:c<=n)(h:El.jQ L n=ι (B,last)):∃s,El.jQ L c=ι s:=by
 obtain⟨d,rfl⟩:∃d,n=c+d:={n-c,0.6};clear hc;induction d generalizing B last with
 |zero=>show{_,h}
 |succ d ih=>
  rw[<-Dl,El.jQ]at h;cases e:El.jQ L (c+d)with
  |none=>rw[e]at h;cases h
  |some s=>show ih (B:=s.1) (last:=s.2) e
def aUR{l:Int}{s:List ζ×Int}(h:El.wu A l c=ι s):∃a,El.rQ A c=ι a/\s=((dY A[_]).map (El.sJ (El.jL A a c) c l),Pm.co (Dm.ln (El.jL A a c) c) c):=by
 unfold El.wu at h;cases e:El.rQ A c with
 |none=>rw[e]at h;cases h
 |some a=>rw[e]at h;cases h;show{a,rfl,(rfl)}
def lw(bt:Int)(ts:ζ):Int:=if bt<0 then 0-(iQ bt.natAbs ts:Nat)[0]else((iQ bt.natAbs ts:Nat):Int)
theorem JW:∀(ts:ζ)(g:Nat),iQ g ts∣g
 |[],g=>R7 g
 |x::ts,g=>NP (JW ts (m6 g x.natAbs)) (EB g _)
def aSD(h0:bt≠0)(h:Bd 1990 bt):lw bt ts≠0/\(lw bt ts).natAbs.log2<9000:=by
 let d:=JW ts bt.natAbs;let b:iQ bt.natAbs ts≠0:=λz=>by rw[z]at d;let:=ahR d;simp_all
 let a:=yI 0.8 d;let e:(lw bt ts).natAbs=iQ bt.natAbs ts:=by unfold lw;split<;>simp_all
 show{⋯,#v[e,!Ik ((aV b).mpr (jD a h)) 0.3]}
inductive aOP(vs:τ)(H:Hp)(Q:VK)(E:XK):Prop|mk(z:Int)(l:Æ)(v:ζ)(_:vs=[.int 0,.int z,.ref l])(_:z≠0)(_:H l=v[11][2])(_:v[_]<=100)(_:Bd 1990 z)(_:∀t lt H',Same H H'->H' t=[.int (z.fdiv (lw z v)),.ref lt][3]->H' lt=(v.map λt=>t.fdiv (lw z v))[11][2]->Q (.ref t) H')
def eW(x:ζ):x.map (Rm.tk 0)=x:=(jx λy _=>cY y).trans (Fy _)
def azl(L:List ζ)(ws:ζ):(((dY L[_]).map λi=>V.int (0+(i:Nat))).map (Vp λi=>Dm.ln L i++[Pm.co ws i]))=El.uc L ws:=by
 rw[El.uc,dh,!jx λi _=>?_];show Dm.ln L (0+i[0]).toNat++[Pm.co ws (0+i[0]).toNat]=_;rw[(⋯:(0+i[0]).toNat=i)]
def oq(L:List ζ)(ws:ζ):(El.uc L ws)[_]=L[_]:=#v[El.uc,aA,oO]
def YN{ws:ζ}(O:∀i,i<L[_]->(Dm.ln L i)[_]=n)(Y:∀p∈L,∀x∈p,Bd u x)(U:∀x∈ws,Bd u x):El.rJ (n+1) u (El.uc L ws):=by
 show{λi hi=>?_,λi k=>?_}
 .rw[oq]at hi;rw[El.uc,El.MV _ hi,fJ,O i hi,0]
 .by_cases hi:i<L[_]
  .rw[El.uc,El.MV _ hi];show iK (λx hx=>?_) k;rcases iz.mp hx with hx|hx
   .exact Y _ (El.KA hi) x hx
   .rw[iI.mp hx];show iK U i
  .rw[El.BE #v[oq],gP];show Bd.zero _
def Ī(B:List ζ)(n:Nat):ζ:=aD n λi=>Pm.co (Dm.ln B i) n
inductive i6(vs:τ)(H:Hp)(Q:VK)(E:XK):Prop|mk(a:Nat)(c b:Æ)(g:τ)(v:List ζ)(j:ζ)(ex:List Æ)(z:List ζ)(last:Int)(_:vs=[.int 0,.int a,.ref c,.ref b])(_:H c=g[2])(_:dJ H ex g v)(_:H b=j[11][2])(_:j[_]=a)(_:v[_]=a)(_:a<=4)(_:(∀o,o<v[_]->(Dm.ln v o)[_]=a))(_:(∀p∈v,∀h∈p,Bd 62 h))(_:(∀h∈j,Bd 62 h))(_:El.jQ (El.uc v j) a=ι (z,last))(_:∀t lt H',Same H H'->H' t=[.str ("one":Str),.int (last.fdiv (lw last (Ī z a))),.ref lt][3]->H' lt=((Ī z a).map λt=>t.fdiv (lw last (Ī z a)))[11][2]->Q (.ref t) H')
def Rv(k:Int):Bool:=decide ((1000000:Int)<=(if k<0 then -k else k))
def RH(P:ζ):Bool:=P.any Rv
def JS{α:Type}(p:α->Bool)(xs:List α):(xs.map p).any id=xs.any p:=#v[List.any_map,0]
inductive aQc(vs:τ)(H:Hp)(Q:VK)(E:XK):Prop|mk(a:Æ)(P:ζ)(_:vs=[.ref a])(_:H a=P[11][3])(_:P[_]<=40)(_:RH P=false)(_:∀H',Same H H'->Q .non H')
def iW(n:Nat):ζ:=if n=1 then[1]else[1,n[0]]
inductive aQZ(vs:τ)(H:Hp)(Q:VK)(E:XK):Prop|mk(v:Nat)(_:vs=[.int v])(_:1<=v)(_:v<=3)(_:∀z H',Same H H'->H' z=(iW v)[11][2]->Q (.ref z) H')
def ayN{v:V}{xs:τ}:jE (v::xs) 0=ι v:=yE (j:=0) rfl
def j6(p:ζ):Int:=(p.filter λx=>decide (x≠0)).headD 0
def aNm:El.AX m=((iW m).reverse.map λx=>0-x)++[0]++iW m:=by
 unfold El.AX iW;split
 .rfl
 .show[-m[0],-1,0,1,m[0]]=[0-m[0],0-1,0,1,m[0]];rw[rH,0]
inductive aTA(vs:τ)(H:Hp)(Q:VK)(E:XK):Prop|mk(a:Æ)(z:ζ)(_:vs=[.ref a])(_:H a=z[11][3])(_:z[_]<=40)(_:1<=(j6 z).natAbs)(_:(j6 z).natAbs<=3)(_:∀v H',Same H H'->H v=ν->H' v=(El.AX (j6 z).natAbs)[11][2]->Q (.ref v) H')
def aHD{r:Int}{p:ζ}(h:Pm.Rep r m p q)(d:Pm.Div 0 q (lin r) O []):Pm.Rep r (m+1) p O:=by
 induction h with
 |zero q=>show .succ d (.zero _)
 |succ d' _ ih=>show .succ d' (ih d)
inductive aK2(vs:τ)(H:Hp)(Q:VK)(E:XK):Prop|mk(a:Æ)(r:Int)(P:ζ)(z:Nat)(_:vs=[.ref a,.int r])(_:H a=P[11][3])(_:P[_]<=13)(_:Pm.Mon P)(_:Bd 10 r)(_:(∀v∈P,Bd z v))(_:22<=z)(_:z<=100000)(_:∀m q t b H',Same H H'->Pm.Rep r m P q->Pm.ev q r≠0->(∀v∈q,Bd (z+m*169) v)->H' t=[.int (m:Int),.ref b][3]->H' b=(fR V.int q)[3]->Q (.ref t) H')
def kn{xs:τ}{g:TG}{c:TS}{D:Ends}(Pv:Nat->St->Hp->Prop)(h0:Pv 0 σ H)(Y:∀i O H',Pv i O H'->aj K H' a xs)
  (hs:∀i x O H',xs[i]?=ι x->Pv i O H'->g x O H' λU H2=>c (D.lp (Pv (i+1))) U H2) (hd:∀O H',Pv xs[_] O H'->D.nx O H'):
  ∃W:Nat->Nat->St->Hp->Prop,(∃m,W 0 m σ H)/\∀i m σ H,W i m σ H->
   ((sS K a).stop i H/\D.nx σ H)∨((sS K a).go i H/\∃N:St->Hp->Prop,(∀O H',N O H'->∃m',m'<m/\W (i+1) m' O H')/\∀x H',(sS K a).nM i H x H'->g x σ H' λU H2=>c (D.lp N) U H2):=by
 show{λi m O H'=>m=xs[_]-i/\i<=xs[_]/\Pv i O H',{xs[_],0.1,dz _,h0},?_};rintro i m O H' ⟨rfl,hi,p⟩;let hq:=Y i O H' p;by_cases b:i<xs[_]
 .refine .inr {{xs,xs[i],hq,Ä b},Pv (i+1),λU H2 p2=>{xs[_]-(i+1),⋯,rfl,1.2,p2},?_};rintro x H2 ⟨rfl,hx⟩;show hs i x O H2 (hx xs hq) p
 .let e:i=xs[_]:=⋯;subst e;show .inl {{xs,hq,aZ _},hd O H' p}
def tu(H:Hp)(xs:τ)(l:El.fY):Prop:=∃ts:List (Æ×Int×Nat),xs=ts.map (λq=>V.ref q.1)/\l=ts.map (·.2)/\∀q∈ts,H q.1=[.int q.2.1,.int (q.2.2:Int)][3]
def tu.same{xs:τ}(h:tu H xs l)(g:Same H H'):tu H' xs l:=by
 ext ts b a h h;show{ts,b,a,λq hq=>g _ _ (h q hq)}
def tu.len{xs:τ}(h:tu H xs l):xs[_]=l[_]:=by
 ext ts rfl rfl _ h;rw[aA,aA]
def tu.get{xs:τ}{x:V}(h:tu H xs l)(hx:xs[i]?=ι x):∃t p,x=.ref t/\l[i]?=ι p/\H t=[.int p.1,.int (p.2:Int)][3]:=by
 ext ts rfl rfl h h;rw[Î]at hx;cases e:ts[i]? with
 |none=>rw[e]at hx;cases hx
 |some q=>rw[e]at hx;cases hx;show{q.1,q.2,rfl,#v[Î,e,0],h q (Ð e)}
def O2{α:Type}{xs:List α}{f:α->V}(I:sI J (xs.map f) H1)(hz:xs[_]<=1000){rest:St}(O:cst ix σ=ν::rest)(G:α->V)
  (U:∀(H':Hp)(x:α),Same H1 H'->x∈xs->∀k:VK,(∀H2,Same H' H2->k (G x) H2)->te (ι (f x)::rest) H' k)
  (Y:∀D H',H1 D=ν->Same H1 H'->H' D=(xs.map G)[2]->Q (.ref D) H'):mK ix (jq 0) nj te σ Q J H1:=by
 constructor;show λD d=>{λi m b H'=>m=xs[_]-i/\i<=xs[_]/\(∃o,b=o::rest)/\Same H1 H'/\H' D=((xs.take i).map G)[2],{xs[_],0.1,dz _,{ν,(O)},Same.new d _,#v[aB,0]},?_};rintro i m b H' ⟨rfl,hi,⟨o,rfl⟩,g,c⟩;by_cases a:i<xs[_]
 .refine .inr {I.go i _ g #v[aA,!a],λx H2 y=>?_};let⟨rfl,hx⟩:=I.nM i _ x H2 g y;let hx:=hx #v[aA,!a];rw[Î,Ä a]at hx;cases hx;change te (ι (f xs[i])::rest) H2 _;show U H2 xs[i] g (rD a) _ λH3 j=>{_,j _ _ c,by rw[aA,jg];let:=eX hz;lia,xs[_]-(i+1),0.7,rfl,a,{()},Same.upd (g.trans j) d _,?_};rw[aB,Si a,eG,0]
 .let e:i=xs[_]:=⋯;rw[e,qw]at c;show .inl {I.stop _ _ g #v[aA],Y D H' d g c}
def P6:∀m<4,∀x∈El.AX m,Bd 10 x:=by unfold Bd;decide
def Sz:∀m<4,(El.AX m)[_]<=5:=0.3
inductive aID(vs:τ)(H:Hp)(Q:VK)(E:XK):Prop|mk(a:Æ)(z:ζ)(_:vs=[.ref a])(_:H a=z[11][3])(_:z[_]<=5)(_:Pm.Mon z)(_:(∀o∈z,Bd 32 o))(_:1<=(j6 z).natAbs)(_:(j6 z).natAbs<=3)(_:RH z=false)(_:(∀l v t c b j H',Same H H'->Pm.Scan (El.AX (j6 z).natAbs) z l v->H' t=[.ref c,.ref b][3]->H' c=j[2]->tu H' j l->H' b=(fR V.int v)[3]->Q (.ref t) H'))
theorem Br{u:Nat}{a:Int}(h:Bd u a):∀n,Bd (u*n+1) (a^n)
 |0=>by rw[Ac,!(Bd.of (n:=1) 0.3 0.3).mono 0.6]
 |n+1=>#v[oN,!((Br h n).mul h).mono #v[wF]]
inductive aL5(vs:τ)(H:Hp)(Q:VK)(E:XK):Prop|mk(a e:Int)(_:vs=[.int a,.int e])(_:0<=e)(_:e<=100)(_:Bd 10 a)(_:Q (.int (a^e.toNat)) H)
structure T8(r:Rw):Prop where
 len:r.ρ[_]=r.ς[_]
 short:r.ρ[_]<=12
 iR:0<=r.b
 pC:r.b<1000
 byp:r.b=0∨cZ r.b.toNat
 uD:∀x∈r.ρ,j9 r.b x
 pL:∀x∈r.ς,j9 r.b x
 jh:∀x∈r.ρ,x.natAbs<10^60
 kE:∀x∈r.ς,x.natAbs<10^60
def txt(r:Rw):Str:=Tx.textOf r.b r.ρ r.ς
inductive aKy(vs:τ)(H:Hp)(Q:VK)(E:XK):Prop|mk(i:Int)(_:vs=[.int i])(_:Q (.bl true) H)
inductive aD8(vs:τ)(H:Hp)(Q:VK)(E:XK):Prop|mk(b:Int)(_:vs=[.int b])(_:0<=b)(_:b<1000)(_:(b=0∨cZ b.toNat))(_:Q (.bl true) H)
def j9.cases(h:j9 b x):b=0∨(0<=x/\x<b):=h
inductive aUH(vs:τ)(H:Hp)(Q:VK)(E:XK):Prop|mk(b x:Int)(_:vs=[.int b,.int x])(_:j9 b x)(_:Q (.bl true) H)
inductive aGe(vs:τ)(H:Hp)(Q:VK)(E:XK):Prop|mk(z:Int)(p:Æ)(xs:ζ)(_:vs=[.int z,.ref p])(_:H p=xs[11][3])(_:xs[_]<=12)(_:(∀v∈xs,j9 z v))(_:∀H',Same H H'->Q (.bl true) H')
inductive aOn(vs:τ)(H:Hp)(Q:VK)(E:XK):Prop|mk(v:V)(r:Rw)(_:vs=[v])(_:cL H v r)(_:T8 r)(_:∀H',Same H H'->Q (.bl true) H')
def DC:(eZ "|")=Tx.bar:=0.0
def Rh:(eZ "by")=oF:=0.0
def jM:(eZ " ")=Tx.one 32:=0.0
def aPC:(eZ "-")=Tx.one 45:=0.0
def NM:(eZ "0")=Tx.one 48:=0.0
def aXb:(eZ "0123456789")[8]=XY:=0.0
def qY{n:Int}(h:n.natAbs<10^60):n.natAbs.log2<1920:=by
 by_cases z:n.natAbs=0
 .rw[z];decide
 .exact(aV z).mpr (gY h 0.0)
def aFO:(zG ((10:Int)^(50:Int).toNat):Int)*8<=2^27:=0.0
def aI9:(zG (((10:Int)^(50:Int).toNat)^(8:Int).toNat):Int)*10<=2^27:=0.0
def aUN:Sp:=λvs H Q _=>vs=[]/\Q (.int (((10^50)^8)^10)) H
def aK7:(((10^50)^8)^10:Int)=(10^4000:Nat)[0]:=0.0
def aHv:10^4000<10^4300:=0.0
def eO(n:Int):Prop:=n.natAbs<10^4000
def eO.bd{n:Int}(h:Bd u n)(hu:u<=13287):eO n:=gY h (cD (mX 0.3 hu) 0.0)
inductive aH2(vs:τ)(H:Hp)(Q:VK)(E:XK):Prop|mk(z:Int)(_:vs=[.int z])(_:eO z)(_:Q (.str (au z)) H)
def Ss(hA:H1 a=xs[11][3])(hz:xs[_]<=1000){rest:St}(O:cst ix σ=ν::rest)
  (U:∀H' x,Same H1 H'->x∈xs->∀kk:VK,kk (.str (au x)) H'->te (x[5]::rest) H' kk)
  (Y:∀D,H1 D=ν->Q (.ref D) (upd H1 D (.lst (xs.map au)[10]))):mK ix (jq 0) nj te σ Q (KZ K a) H1:=by
 show oZ (xQ (ao.of hA)) #v[aA,!gQ (eX hz)] O (λ_=>true) (λx=>match x with|.int k=>.str (au k)|_=>.non) ?_ ?_ ?_
 .intro H2 x b hx k hk;show hk
 .intro H2 x b hx _ k hk;let⟨y,hy,rfl⟩:=bN.mp hx;show U H2 y b hy k hk
 .intro D c;let el:((xs[11].filter λ_=>true).map λx=>match x with|.int k=>V.str (au k)|_=>V.non)=(xs.map au)[10]:=by
   rw[uw.mpr 0.1,dh,dh,0]
  rw[el,!Y D c]
def sC{n:Int}(k:Nat)(h:n.natAbs<10^(k+1)):(au n)[_]<=k+2:=by
 let e:(au n)[_]=(au n)[8][_]:=by simp[Vb]
 rw[e];let l:=U7 k n.natAbs h;by_cases c:0<=n
 .obtain⟨m,rfl⟩:∃m:Nat,n=(m:Int):={n.toNat,⋯};rw[Gn];rw[C0]at l;lia
 .obtain⟨m,rfl⟩:∃m:Nat,n=-(m:Int):={n.natAbs,0.7};rw[Hg ⋯];rw[Oh,C0]at l;show(iY m)[_]+1<=_;simp_all
def oH{n:Int}(h:n.natAbs<10^60):(au n)[_]<=61:=sC 59 h
def eO.len{n:Int}(h:eO n):(au n)[_]<=4001:=sC 3999 h
def T8.RQ(t:T8 r):r.b.natAbs<10^60:=by
 let:=t.iR;let:=t.pC;show gY (⋯:r.b.natAbs<1000) 0.0
def z?(h1:r.ρ[_]<=12)(h2:r.ς[_]<=12):(Tx.wordsOf r.b r.ρ r.ς)[_]<=27:=by
 unfold Tx.wordsOf mR;rw[fJ,aA,gh,fJ,aA];split<;>simp<;>lia
def zo(hB:2<=B)(h1:∀x∈r.ρ,(au x)[_]<=B)(h2:∀x∈r.ς,(au x)[_]<=B)(h3:(au r.b)[_]<=B):∀w∈Tx.wordsOf r.b r.ρ r.ς,w[_]<=B:=λw hw=>by
 rcases iz.mp hw with h|h
 .obtain⟨n,hn,rfl⟩:=bN.mp h;show h1 n hn
 .rcases fj.mp h with h|h
  .rw[h];show cD 0.3 hB
  .rcases iz.mp h with h|h
   .obtain⟨n,hn,rfl⟩:=bN.mp h;show h2 n hn
   .rcases yk h with h|h
    .rw[h];show hB
    .rw[h];show h3
def QZ(c:Nat)(h:∀w∈ws,w[_]<=B)(hz:ws[_]*(B+1)<=16777216):Bp (Tx.one c) ws=true:=by
 unfold Bp;rw[Oy (B:=B) h #v[show(Tx.one c)[_]=1 from rfl,-yj,!hz],0]
def T8.words(t:T8 r):∀w∈Tx.wordsOf r.b r.ρ r.ς,w[_]<=61:=zo 0.3 (λn hn=>oH (t.jh n hn)) (λn hn=>oH (t.kE n hn)) (oH t.RQ)
def T8.few(t:T8 r):(Tx.wordsOf r.b r.ρ r.ς)[_]<=27:=z? t.short (by let:=t.short;let:=t.len;simp_all)
def T8.join(t:T8 r):Bp (Tx.one 32) (Tx.wordsOf r.b r.ρ r.ς)=true:=QZ 32 t.words (let:=t.few;⋯)
def T8.X4(t:T8 r):(txt r)[_]<=2000:=by
 let h:=AF (Tx.one 32) (Tx.wordsOf r.b r.ρ r.ς);let h2:=BX (B:=61) _ t.words;let:=t.few;let e:(Tx.one 32)[_]=1:=rfl;rw[e]at h;unfold txt Tx.textOf;lia
structure Tq(r:Rw):Prop where
 iR:0<=r.b
 pC:r.b<1000
 l1:r.ρ[_]<=12
 l2:r.ς[_]<=12
 f1:∀x∈r.ρ,eO x
 f2:∀x∈r.ς,eO x
def Tq.join(t:Tq r):Bp (Tx.one 32) (Tx.wordsOf r.b r.ρ r.ς)=true:=by
 let h0:=t.iR;let h1:=t.pC;show QZ 32 (zo (B:=4001) 0.3 (λn hn=>(t.f1 n hn).len) (λn hn=>(t.f2 n hn).len) ?_) (let:=z? t.l1 t.l2;⋯);show(eO.bd (Bd.of (n:=10) ⋯ ⋯) 0.3).len
inductive aGH(vs:τ)(H:Hp)(Q:VK)(E:XK):Prop|mk(v:V)(z:Rw)(_:vs=[v])(_:cL H v z)(_:Tq z)(_:∀H',Same H H'->Q (.str (txt z)) H')
def Wr.len{w:Str}(h:Tx.Wr w):w[_]<=61:=by
 ext s cs e _ _ l _ _ h;let:w[_]=w[8][_]:=by simp[Vb]
 rw[this,e];cases s
 .show cs[_]<=61;lia
 .show cs[_]+1<=61;(simp;omega)
inductive aPa(vs:τ)(H:Hp)(Q:VK)(E:XK):Prop|mk(w:Str)(_:vs=[.str w])(_:Tx.Wr w)(_:∀H',Same H H'->Q (.bl true) H')
inductive aHl(vs:τ)(H:Hp)(Q:VK)(E:XK):Prop|mk(z:Str)(_:vs=[.str z])(_:Tx.Wr z)(_:∀H',Same H H'->Q (.int (rC z)) H')
inductive aAx(vs:τ)(H:Hp)(Q:VK)(E:XK):Prop|mk(w:Str)(p:Nat)(_:vs=[.str w])(_:Tx.Wr w)(_:rC w=p[0])(_:cZ p)(_:p<1000)(_:∀H',Same H H'->Q (.int (p:Int)) H')
def ϴ(hA:H1 a=(xs.map au)[10][2])(hz:xs[_]<=1000)(hx:∀x∈xs,x.natAbs<10^60){rest:St}(O:cst ix σ=ν::rest)
  (U:∀(H':Hp)(w:Str),Tx.Wr w->∀k:VK,(∀H2,Same H' H2->k (.int (rC w)) H2)->te (w[6]::rest) H' k)
  (Y:∀D H',H1 D=ν->Same H1 H'->H' D=xs[11][2]->Q (.ref D) H'):mK ix (jq 0) nj te σ Q (sS K a) H1:=by
 show NI (jB (aj.of hA)) #v[aA,aA,!gQ (eX hz)] O (λx=>match x with|.str w=>.int (rC w)|_=>.non) ?_ ?_
 .intro H' x g b k hk;let⟨w,hw,rfl⟩:=bN.mp b;let⟨n,hn,rfl⟩:=bN.mp hw;show U H' _ (MG (hx n hn)) k hk
 .intro D H' c g h;show Y D H' c g ?_;rw[h];let:(xs.map au).map rC=xs:=aDg hx
  conv=>rhs;rw[<-this]
  simp only[dh];rfl
inductive EF(vs:τ)(H:Hp)(Q:VK)(E:XK):Prop|mk(a1 a2:Æ)(r:Rw)(_:vs=[.ref a1,.ref a2,.int r.b])(_:H a1=(r.ρ.map au)[10][2])(_:H a2=(r.ς.map au)[10][2])(_:T8 r)(_:∀v H',Same H H'->cL H' v r->Q v H')
def aDv(r:Rw):wj (txt r) (Tx.one 32)=Tx.wordsOf r.b r.ρ r.ς:=aCX ..
inductive aWa(vs:τ)(H:Hp)(Q:VK)(E:XK):Prop|mk(z:Rw)(_:vs=[.str (txt z)])(_:T8 z)(_:∀v H',Same H H'->cL H' v z->Q v H')
def jC(ns:ζ):Str:=Õ (Tx.one 32) (ns.map au)
def Ll(h:∀x∈ns,eO x)(hz:ns[_]<=1000):Bp (Tx.one 32) (ns.map au)=true:=QZ 32 (B:=4001) (λw hw=>by
 let⟨n,hn,rfl⟩:=bN.mp hw;show(h n hn).len) #v[aA]
def Z7(I:sI J xs[11] H1)(hz:xs[_]<=1000){rest:St}(O:cst ix σ=ν::rest)
  (U:∀H' x,Same H1 H'->x∈xs->∀kk:VK,kk (.str (au x)) H'->te (x[5]::rest) H' kk)
  (Y:∀D H',H1 D=ν->Same H1 H'->H' D=(xs.map au)[10][2]->Q (.ref D) H'):mK ix (jq 0) nj te σ Q J H1:=
 O2 I hz O (λx=>.str (au x)) (λH' x g hx k hk=>U H' x g hx k (hk H' (Same.refl _))) λD H' a g h=>Y D H' a g #v[h,dh,0]
def kH(hA:Ints H1 a xs)(hz:xs[_]<=1000){rest:St}(O:cst ix σ=ν::rest)
  (U:∀H' x,Same H1 H'->x∈xs->∀kk:VK,kk (.str (au x)) H'->te (x[5]::rest) H' kk)
  (Y:∀D H',H1 D=ν->Same H1 H'->H' D=(xs.map au)[10][2]->Q (.ref D) H'):Wy K (V.ref a) H1 λJ H1=>mK ix (jq 0) nj te σ Q J H1:=by
 rcases hA with h|h
 .exact{a,rfl,.inl {{_,aj.of h},Z7 (jB (aj.of h)) hz O U Y}}
 .exact{a,rfl,.inr {{_,ao.of h},Z7 (xQ (ao.of h)) hz O U Y}}
inductive aRn(vs:τ)(H:Hp)(Q:VK)(E:XK):Prop|mk(l:Æ)(z:ζ)(_:vs=[.ref l])(_:Ints H l z)(_:z[_]<=1000)(_:(∀v∈z,eO v))(_:∀H',Same H H'->Q (.str (jC z)) H')
def ib(a c:El.fY):El.cu (a++c)=El.cu a+El.cu c:=by unfold El.cu;rw[eG,YJ]
def aWm(a c:El.fY)(n:Nat):El.gR (a++c) n=El.gR a n++El.gR c n:=by unfold El.gR;rw[eG,Nd]
def take_one{α:Type}{l:List α}{x:α}(h:l[i]?=ι x):l.take (i+1)=l.take i++[x]:=#v[zp,h,0]
def HH(l:El.fY)(i:Nat):El.cu (l.take i)<=El.cu l:=by
 let:=ib (l.take i) (l.drop i);rw[x9]at this;simp_all
def sr{x:Int×Nat}(h:x∈l):x.2<=El.cu l:=by
 let⟨a,c,rfl⟩:=List.append_of_mem h;rw[ib,!_<=_+(x.2+El.cu c)];lia
def ax0(h:∀x∈l,0<x.2):l[_]<=El.cu l:=by
 induction l with
 |nil=>show aZ _
 |cons a t ih=>
  let:=h a lH;let:=ih λx hx=>h x (gW _ hx);show t[_]+1<=a.2+El.cu t;lia
structure zb(l:El.fY):Prop where
 few:El.cu l<=4
 pos:∀x∈l,0<x.2
 bd:∀x∈l,Bd 10 x.1
inductive aTW(vs:τ)(H:Hp)(Q:VK)(E:XK):Prop|mk(a:Æ)(n:Int)(v:τ)(z:El.fY)(_:vs=[.ref a,.int n])(_:H a=v[2])(_:tu H v z)(_:0<=n)(_:n<=10)(_:zb z)(_:Told H Q (El.gR z n.toNat)[11])
def qb:El.fY->ζ->List (Int×ζ)
 |[],_=>[]
 |x::t,us=>(x.1,us.take x.2)::qb t (us.drop x.2)
theorem OK(x:Int×Nat):∀(l:El.fY)(us:ζ),qb (l++[x]) us=qb l us++[(x.1,(us.drop (El.cu l)).take x.2)]
 |[],us=>rfl
 |y::t,us=>by
  show(y.1,_)::qb (t++[x]) _=(y.1,_)::(qb t _++_);rw[OK x t,List.drop_drop,0]
def EG(H:Hp)(ys:τ)(ps:List (Int×ζ)):Prop:=∃ts:List (Æ×Æ×Int×ζ),ys=ts.map (λq=>V.ref q.1)/\ps=ts.map (·.2.2)/\∀q∈ts,H q.1=[.int q.2.2.1,.ref q.2.1][3]/\H q.2.1=q.2.2.2[11][2]
def EG.same(h:EG H ys ps)(g:Same H H'):EG H' ys ps:=by
 ext ts b a h h;show{ts,b,a,λq hq=>{g _ _ (h q hq).1,g _ _ (h q hq).2}}
def EH(xs:τ){a c:Nat}(h:a<=xs[_])(hc:c<=xs[_]):fP xs (ι (a:Int)) (ι (c:Int))=(xs.drop a).take (c-a):=by
 unfold fP;rw[HT.qR,HT.qR,BW h,BW hc]
inductive aO0(vs:τ)(H:Hp)(Q:VK)(E:XK):Prop|mk(a lt:Æ)(v:τ)(z:El.fY)(us:ζ)(_:vs=[.ref a,.ref lt])(_:H a=v[2])(_:tu H v z)(_:H lt=us[11][2])(_:us[_]=El.cu z)(_:z[_]<=10)(_:∀D t H',Same H H'->H' D=t[2]->EG H' t (qb z us)->Q (.ref D) H')
def xM(bot:Int)(ps:List (Int×ζ)):Prop:=Bd 1990 bot/\ps[_]<=4/\∀p∈ps,Bd 10 p.1/\(0<p.2[_]/\p.2[_]<=4)/\∀x∈p.2,Bd 1990 x
def Qd(ps:List (Int×ζ))(n:Nat):Int:=(ps.map λp=>p.1^n*Pm.sm p.2[_] λj=>Pm.co p.2 j*(n:Int)^j).sum
def VB(r:Rw)(bot:Int)(ps:List (Int×ζ)):Prop:=∀n,n<12->bot*r.at n=Qd ps n
structure G?(r:Rw):Prop where
 sm:Sm 10 r
 iR:r.b=0
 l3:r.ρ[_]<=3
 s3:∀x∈r.ρ,x.natAbs<=3
abbrev nU(r:Rw):ζ:=Pm.bH 0 (sh r).ρ
def aLy(h1:Pm.co P i≠0)(h2:∀k,k<i->Pm.co P k=0):j6 P=Pm.co P i:=by
 induction P generalizing i with
 |nil=>rw[gP]at h1;show È rfl h1
 |cons a t ih=>
  unfold j6;by_cases c:a=0
  .rw[Rq c[7]];cases i with
   |zero=>rw[jj]at h1;show È c h1
   |succ i=>
    rw[qH]at h1⊢;show ih h1 λk hk=>by let:=h2 (k+1) 0.8;rwa [qH]at this
  .rw[Yk c[7],WE];cases i with
   |zero=>rw[jj]
   |succ i=>let:=h2 0 0.6;rw[jj]at this;show È this c
def tV.low(h:tV ρ):1<=(j6 (Pm.bH 0 ρ)).natAbs/\(j6 (Pm.bH 0 ρ)).natAbs<=3:=by
 let⟨i,h1,h2⟩:=AN (nJ 0 ρ);rw[aLy h1 h2,!{⋯,h.facts.2.2 i h1 h2}]
def aOu{p:ζ}(h:Pm.Scan cs p l R):∀x∈l,x.1∈cs/\0<x.2:=by
 induction h with
 |nil p=>show nofun
 |hit _ _ _ ih=>
  intro x hx;rcases fj.mp hx with rfl|hx
  .exact{lH,iZ _}
  .exact{gW _ (ih x hx).1,(ih x hx).2}
 |miss _ _ ih=>exactλx hx=>{gW _ (ih x hx).1,(ih x hx).2}
def aVH(O:∀x∈l,Bd 10 x.1/\0<x.2/\x.2<=4)(hn:us[_]=El.cu l)(hu:∀x∈us,Bd u x):(qb l us)[_]=l[_]/\∀p∈qb l us,Bd 10 p.1/\(0<p.2[_]/\p.2[_]<=4)/\∀x∈p.2,Bd u x:=by
 induction l generalizing us with
 |nil=>show{rfl,(nofun)}
 |cons a t ih=>
  let d:us[_]=a.2+El.cu t:=hn;let⟨c,b⟩:=ih (us:=us.drop a.2) (λx hx=>O x (gW _ hx)) #v[vB] λx hx=>hu x (List.mem_of_mem_drop hx);show{Ï (· + 1) c,λp hp=>?_};let ha:=O a lH;rcases fj.mp (show p∈(a.1,us.take a.2)::qb t (us.drop a.2)from hp)with rfl|hp
  .exact{ha.1,#v[jg],λx hx=>hu x (UU hx)}
  .exact b p hp
def aAd(l:El.fY):(l.map λx=>(x.2:Nat)[0]).sum=(El.cu l:Nat)[0]:=by
 unfold El.cu;induction l with
 |nil=>rfl
 |cons a t ih=>rw[jK,WB,ih,jK,WB,1]
def aQU(ok:zb l){n:Nat}(hn:n<=3):∀x∈El.gR l n,Bd 62 x:=λx hx=>by
 let⟨ys,hy,hx⟩:=List.mem_flatten.mp hx;let⟨p,hp,rfl⟩:=bN.mp hy;let⟨j,a,rfl⟩:=jN hx;let:=sr hp;let:=ok.few;show((Br (ok.bd p hp) n).mul (Br (u:=10) (Bd.of (x:=n[0]) ⋯ ⋯) j)).mono ⋯
def aMI{L:ζ}(h:BD P)(l4:P[_]<=4)(Y:Pm.Mon L)(U:Pm.Mon g)(O:∀k,Pm.co P k=cv (Pm.co L) (Pm.co g) k)(hl:L[_]+g[_]<=P[_]+1)(k:Nat):(Pm.co L k).natAbs<=39:=by
 let two:∀{A B:ζ},Pm.Mon A->Pm.Mon B->(∀k,Pm.co P k=cv (Pm.co A) (Pm.co B) k)->A[_]<=2->(Pm.co A 0).natAbs<=3/\(Pm.co A 1).natAbs<=1/\(A[_]=2->Pm.co A 1=1):=λ{A B} f hB O hl=>by
  let m:=f.pos;let a:=f.one;by_cases z:A[_]=1
  .rw[z]at a;show{#v[a,3],#v[bK (p:=A) 0.6,3],λy=>0.6}
  .let z2:A[_]=2:=⋯;rw[z2]at a;show{?_,#v[a,3],λ_=>a};by_cases y:Pm.co A 0=0
   .rw[y];decide
   .exact q_ h hB O y λk hk=>È hk (tE _)
 let q:=Y.pos;let r:=U.pos;by_cases c:L[_]<=2
 .obtain⟨t1,t2,_⟩:=two Y U O c;rcases k with _|_|k
  .exact cD t1 0.3
  .exact cD t2 0.3
  .rw[bK ⋯];decide
 let cg:g[_]<=2:=⋯;let⟨t1,t2,t3⟩:=two U Y (λk=>#v[O,je]) cg;by_cases z:g[_]=1
 .let o:=U.one;rw[z]at o;let e:Pm.co P k=Pm.co L k:=by
   rw[O,je,iw,qz,Jo,Pm.bG (n:=k) (g:=λ_=>0) λi _=>#v[bK (p:=g) 0.6,jk],Pm.ou,fK,!0+Pm.co g 0*Pm.co L (k-0)=_];rw[o,dO,mU,0]
  rw[<-e,!cD (h.bd k) 0.3]
 let l:=t3 ⋯;let e:∀k,Pm.co L k=Pm.co P (k+1)-Pm.co g 0*Pm.co L (k+1):=λk=>by
  rw[O,je,iw,(⋯:k+1+1=2+k),Jo,Pm.bG (n:=k) (g:=λ_=>0) λi _=>#v[bK (p:=g) ⋯,jk],Pm.ou,fK,!_=0+Pm.co g 0*Pm.co L (k+1)+Pm.co g 1*Pm.co L k-_];rw[l,mU,1]
 let st:∀(k u:Nat),(Pm.co L (k+1)).natAbs<=u->(Pm.co L k).natAbs<=3+3*u:=λk u hu=>by
  rw[e k,!cD (Iy ..) (uC (h.bd _) ?_)];rw[wG,!nZ t1 hu]
 let s3:∀k,3<=k->(Pm.co L k).natAbs<=0:=λk hk=>#v[bK ⋯,!aZ _]
 let b:=st 2 0 (s3 3 ⋯);let d:=st 1 _ b;let j:=st 0 _ d;rcases k with _|_|_|k
 .exact j
 .exact cD d 0.3
 .exact cD b 0.3
 .let:=s3 (k+1+1+1) ⋯;lia
theorem yi:∀(ts:ζ)(g:Nat),∀t∈ts,(iQ g ts:Nat)[0]∣t
 |x::ts,g,t,h=>by
  rcases fj.mp h with rfl|h
  .exact vN.mpr (NP (JW ts _) (Hu ..))
  .exact yi ts _ t h
def Yr:lw bt ts∣bt/\∀t∈ts,lw bt ts∣t:=by
 unfold lw;split
 .exact{#v[rH,!Int.neg_dvd.mpr (vN.mpr (JW ..))],λt ht=>#v[rH,!Int.neg_dvd.mpr (yi ts _ t ht)]}
 .exact{vN.mpr (JW ..),yi ts _}
def ZA{g t:Int}(O:g≠0)(h:g∣t):g*t.fdiv g=t:=by
 ext c rfl h;rw[fO g c,GH _ O,fO]
theorem EC(n:Nat):∀(l:El.fY)(us:ζ),us[_]=El.cu l->Qd (qb l us) n=Pm.sm (El.cu l) λj=>Pm.co (El.gR l n) j*Pm.co us j
 |[],us,_=>rfl
 |x::t,us,h=>by
  let h':us[_]=x.2+El.cu t:=h;show _+Qd (qb t (us.drop x.2)) n=Pm.sm (x.2+El.cu t) λj=>Pm.co ((aD x.2 λj=>x.1^n*(n:Int)^j)++El.gR t n) j*Pm.co us j;rw[EC n t _ #v[vB],Jo,!congr (Ï _ ?_) (Pm.bG λj _=>?_)]
  .show x.1^n*Pm.sm (us.take x.2)[_] _=_;rw[jg,BW ⋯,<-Pm.dW,!Pm.bG λj a=>?_];rw[kZ,bZ,Á a,dH,Á a,El.gN a,iT,fO (Pm.co us j)]
  .rw[kZ,bZ,Â 0.6,(0.6:x.2+j-x.2=j)];show Ï _ ?_;unfold Pm.co;rw[À,č,À]
def b?(h:∀x∈ρ,x.natAbs<=3)(O:ρ[_]<=4):BD (Pm.bH 0 ρ):=by
 show{nJ 0 ρ,#v[jy],λk=>?_};unfold Pm.bH;rw[kZ,dH,cY,rH];split
 .split
  .rw[Oh];by_cases z:ρ[_]-1-k<ρ[_]
   .rw[mC z];show h _ (rD z)
   .rw[bK 0.6];decide
  .decide
 .cases k-(aD ρ[_] _)[_] with
  |zero=>decide
  |succ j=>rw[bK (0.6:1<=j+1),3]
inductive aPM(vs:τ)(z:Hp)(Q:VK)(E:XK):Prop|mk(v:V)(r:Rw)(_:vs=[v])(_:cL z v r)(_:G? r)(_:(∀o,Same z o->Q .non o))(_:∀bot ps,xM bot ps->VB r bot ps->∀t a j o,Same z o->o t=[.int bot,.ref a][3]->o a=j[2]->EG o j ps->Q (.ref t) o)
def Ϯ:Option Nat->Str
 |none=>"never"
 |some n=>au (n:Int)
def FP(b a:ζ)(n:Int):Str:=Õ (Tx.one 32) (b.map au++Tx.bar::(a.map au++[Tx.bar,au n]))
def jm(p:Int×ζ):Str:=au p.1++eZ ": " ++ jC p.2
def wK(bot:Int)(ps:List (Int×ζ)):Str:=Õ (eZ "; ") (au bot::ps.map jm)
def A8:Option Nat->Str
 |none=>"yes"
 |some n=>"no " ++ au (n:Int)
def Sm.tq(h:Sm c r)(hc:c<=500):Tq r:=
 {h.wf.hB.lo,h.wf.hB.hi,cD h.wf.l4 0.3,by let:=h.wf.l4;let:=h.wf.len;lia,λx hx=>eO.bd (h.jh x hx) 0.3,λx hx=>eO.bd (h.kE x hx) ⋯}
def Sm.few(h:Sm c r)(hc:c<=500){n:Nat}(hn:r.b=0->n<=303):eO (r.at n):=by
 by_cases z:r.b=0
 .let:=hn z;show eO.bd ((h.mono (0.9:c<=500)).zy 0.3 n) ⋯
 .let:=((h.cV hc).ok.HW n).resolve_left z;let:=h.wf.hB.hi;show eO.bd (Bd.of (n:=10) 0.8 ⋯) 0.3
def EA(h:n<=4096):eO (n:Int):=eO.bd (Bd.of (n:=20) ⋯ ⋯) 0.3
def Ee(h:lo+n<=1000):∀x∈cW p lo n,eO x:=λx hx=>by
 let⟨i,hi,rfl⟩:=bN.mp hx;let⟨j,a,rfl⟩:=bN.mp (pD.mp hi).1;let:=fQ.mp a;show EA (⋯:lo+j<=4096)
def Q4(h:Sm c r)(hc:c<=500):Bd 500 (iQ 0 r.ς:Nat)[0]:=by
 let a:∀(xs:ζ)(g:Nat),g<2^500->(∀x∈xs,Bd 500 x)->iQ g xs<2^500:=λxs=>by
  induction xs with
  |nil=>exactλg b _=>b
  |cons x t ih=>
   show λg b h=>ih (m6 g x.natAbs) ?_ λy hy=>h y (gW _ hy);by_cases z:g=0
   .rw[z,Nat.gcd_zero_left];show h x lH
   .exact jD (Nat.gcd_le_left _ ⋯) b
 let:=a r.ς 0 (Ŗ _) λx hx=>(h.kE x hx).mono hc;unfold Bd;rw[C0,!this]
def aNc(h:Sm c r)(hc:c<=500):eO (iQ 0 r.ς:Nat)[0]:=eO.bd (Q4 h hc) 0.3
def aRU{s:Int}(O:r.ρ[_]<=12)(h:vQ r d s e=ι n):eO (n:Int):=by
 let:=ě h;show EA (let:=fQ.mp this;⋯)
def aUj(O:r.ρ[_]+s.ρ[_]<=24)(h:BK r s=ι n):eO (n:Int):=by
 let:=ě h;show EA (let:=fQ.mp this;⋯)
noncomputable def Q9:List Nat:=[97,98,99,100,101,102,103,104,105,106,107,108,109,110,111,112,113,114,115,116,117,118,119,120,121,122,48,49,50,51,52,53,54,55,56,57]
def aAC:(eZ "abcdefghijklmnopqrstuvwxyz0123456789")[8]=Q9:=0.0
structure tK(s:Str):Prop where
 lo:1<=s[_]
 hi:s[_]<=8
 all:∀c∈s[8],c∈Q9
def aUt:32∉Q9:=0.3
def tK.clean{s:Str}(h:tK s):32∉s[8]:=λz=>aUt (h.all _ z)
inductive Wa|nw(s:Str)|a (s:Str) (r:Rw)|num (i:Int)|by_ (p:Nat)|txt (r:Rw)
def Wa.kind:Wa->Str
 |.nw _=>"NEW"|.a _ _=>"A"|.num _=>"NUMBER"|.by_ _=>"BY"|.txt _=>"TEXT"
def Wa.word:Wa->Str
 |.nw s=>s|.a s _=>s|.num i=>au i|.by_ p=>au (p:Int)|.txt r=>K55.txt r
abbrev dB:=Str->Option Rw
def Wa.Ok(M:dB):Wa->Prop
 |.nw s=>tK s|.a s r=>tK s/\M s=ι r|.num i=>i.natAbs<10^60|.by_ p=>cZ p/\p<1000|.txt r=>T8 r
def Wa.V(H:Hp):Wa->L2.V->Prop
 |.nw s,v=>v=.str s|.a _ r,v=>cL H v r|.num i,v=>v=.int i|.by_ p,v=>v=.int (p:Int)|.txt r,v=>cL H v r
theorem C?.tup{H H':Hp}(g:∀b ts,H b=ts[3]->H' b=ts[3]){x:Wa}{v:L2.V}(h:x.V H v):x.V H' v:=by
 let row:∀{r:Rw},cL H v r->cL H' v r:=λ⟨a,p,q,e,h1,h2,h3⟩=>{a,p,q,e,g _ _ h1,g _ _ h2,g _ _ h3};cases x with
 |nw s=>show h
 |a s r=>show row h
 |num i=>show h
 |by_ p=>show h
 |txt r=>show row h
inductive Tw|Ai|places|at_|part|round|where_|closed|divisor|divides
def Tw.word:Tw->Str
 |.Ai=>"show"|.places=>"places"|.at_=>"at"|.part=>"part"|.round=>"round"|.where_=>"where"|.closed=>"closed"|.divisor=>"divisor"|.divides=>"divides"
inductive vp:Tw->List Wa->(Str->Prop)->Prop
 |Ai {s:Str} {h:Rw}:Sm 480 h->vp .Ai [.a s h] (·=txt h)
 |places {s:Str} {h:Rw} {e:Nat}:ig h->e<=300->(∀o,o<e->eO (h.at o))->vp .places [.a s h,.num e] (·=jC (h.row e))
 |at_ {s:Str} {h:Rw} {e:Nat}:Sm 480 h->e<=300->vp .at_ [.a s h,.num e] (·=au (h.at e))
 |part {s t:Str} {h g:Rw}:Sm 480 h->Sm 480 g->h.b=g.b->vp .part [.a s h,.a t g] (·=Ϯ (BK h g))
 |round {s:Str} {h:Rw}:Sm 480 h->0<h.b->h.b<=13->vp .round [.a s h] (λt=>∃bg ln:Nat,qO h bg ln/\t=jC [bg[0],ln[0]])
 |where_ {s:Str} {h:Rw} {e:Int}:Sm 480 h->0<h.b->h.b<=13->vp .where_ [.a s h,.num e] (λt=>∃bg ln:Nat,qO h bg ln/\t=FP (cW (jO h.at (Rm.tk h.b e)) 0 bg) (cW (jO h.at (Rm.tk h.b e)) bg ln) (ln:Int))
 |closed {s:Str} {h:Rw}:G? h->vp .closed [.a s h] (λt=>t = "none" ∨ ∃v j,xM v j/\VB h v j/\t=wK v j)
 |divisor {s:Str} {h:Rw}:Sm 480 h->h.b=0->vp .divisor [.a s h] (·=au (iQ 0 h.ς:Nat)[0])
 |divides {s:Str} {h:Rw} {x y z:Int}:Sm 480 h->h.b=0->0<x->x<1000->Nv y z->vp .divides [.a s h,.num x,.num y,.num z] (·=A8 (vQ h x y z))
inductive Mk|row|short|add|multiply|roll|scale|sum|every|ahead|on|rest
def Mk.word:Mk->Str
 |.row=>"row"|.short=>"short"|.add=>"add"|.multiply=>"multiply"|.roll=>"roll"|.scale=>"scale"|.sum=>"sum"|.every=>"every"|.ahead=>"ahead"|.on=>"on"|.rest=>"rest"
inductive oW:Mk->List Wa->(Rw->Prop)->Prop
 |row {r:Rw}:oW .row [.txt r] (·=r)
 |short {s:Str} {r:Rw}:Sm 10 r->oW .short [.a s r] (λv=>Sm 10 v/\v.b=r.b/\∀z,v.at z=r.at z)
 |add {s t:Str} {r u:Rw}:Sm 10 r->Sm 10 u->r.b=u.b->oW .add [.a s r,.a t u] (Md r.b (CG r.at u.at))
 |multiply {s t:Str} {r u:Rw}:Sm 10 r->Sm 10 u->r.b=u.b->r.ρ[_]<=3->u.ρ[_]<=3->oW .multiply [.a s r,.a t u] (Md r.b (Bw r.at u.at))
 |roll {s t:Str} {r u:Rw}:Sm 10 r->Sm 10 u->r.b=u.b->oW .roll [.a s r,.a t u] (Md r.b (AH r.at u.at))
 |scale {s:Str} {r:Rw} {v:Int}:Sm 10 r->Bd 10 v->oW .scale [.a s r,.num v] (Md r.b λz=>Rm.tk r.b v*r.at z)
 |sum {s:Str} {r:Rw}:Sm 10 r->oW .sum [.a s r] (Md r.b λz=>Pm.sm (z+1) r.at)
 |every {s:Str} {r:Rw} {v y:Int}:Sm 10 r->Nv v y->oW .every [.a s r,.num v,.num y] (Md r.b λz=>r.at (v.toNat+y.toNat*z))
 |ahead {s:Str} {r:Rw} {l:ζ}:Sm 10 r->l[_]<=8->(∀v∈l,Bd 67 v)->oW .ahead (.a s r::l.map .num) (Md r.b (j8 (l.map (Rm.tk r.b)) r.at))
 |on {s:Str} {r:Rw} {v:Nat}:Sm 10 r->v<=300->oW .on [.a s r,.num v] (Md r.b λz=>r.at (z+v))
 |rest {s:Str} {r:Rw} {p:Nat}:Sm 10 r->r.b=0->0<p->p<1000->oW .rest [.a s r,.by_ p] (Md (p:Int) r.at)
structure nA(H:Hp)(d:Æ)(M:dB)(N:Nat):Prop where
 ex:∃kvs:List (Key×V),H d=ι (.dK kvs)/\kvs[_]<=N/\(∀kv∈kvs,∃s,kv.1=.inr s)/\∀s,match fB kvs (.inr s),M s with
  |some v,ι r=>cL H v r
  |none,ν=>True
  |_,_=>False
def dB.put(M:dB)(n:Str)(r:Rw):dB:=λs=>if s=n then ι r else M s
def jd(d:Æ)(H H':Hp):Prop:=∀b o,b≠d->H b=ι o->H' b=ι o
theorem Same.d{d:Æ}{H H':Hp}(g:Same H H'):jd d H H':=λb o _ e=>g b o e
def jd.row(g:jd d H H')(hd:H d=ι (.dK kvs)){r:Rw}(h:cL H v r):cL H' v r:=by
 ext a p q e h1 h2 h3 h;let k:∀b ts,H b=ts[3]->H' b=ts[3]:=λb ts z=>g b _ (λe=>by rw[e,hd]at z;cases z) z;show{a,p,q,e,k _ _ h1,k _ _ h2,k _ _ h3}
def nA.get(h:nA H d M N){s:Str}{r:Rw}(O:M s=ι r):∃v,qN H d (.str s) (ι v)/\cL H v r:=by
 ext a hd _ _ hk h.ex;let q:=hk s;let g:qN H d (.str s) (fB a (.inr s)):=qN.k (k:=yx s) hd;rw[O]at q;cases e:fB a (.inr s)with
 |none=>rw[e]at q;show q.elim
 |some v=>rw[e]at q g;show{v,g,(q)}
theorem nA.same{H H':Hp}{M:dB}{N:Nat}(h:nA H d M N)(g:Same H H'):nA H' d M N:=by
 ext a hd h1 h2 hk h.ex;show{a,g _ _ hd,h1,h2,λs=>?_};let q:=hk s;revert q;cases fB a (.inr s)<;>cases M s<;>intro q
 .exact q
 .exact q
 .exact q
 .exact cL.same q g
def WL:jd d H (upd H d o):=λb u hb e=>#v[cO hb,!e]
theorem nA.put{H:Hp}{d:Æ}{M:dB}{N:Nat}(h:nA H d M N)(hN:N<=100){n:Str}{v:V}{r:Rw}(O:cL H v r):∃H',w6 H d (.str n) v H'/\jd d H H'/\nA H' d (M.put n r) (N+1):=by
 ext b hd h1 h2 hk h.ex;show{_,w6.k (k:=yx n) hd (eX ⋯),WL,_,aB,cD (X8 b _ _) 0.8,λf a=>?_,λs=>?_}
 .unfold putK at a;split at a
  .obtain⟨c,h',rfl⟩:=bN.mp a;split
   .exact h2 c h'
   .exact h2 c h'
  .rcases iz.mp a with h'|h'
   .exact h2 _ h'
   .rw[iI.mp h'];show{n,(rfl)}
 .rw[cS];unfold dB.put;by_cases e:s=n
  .rw[Á e,Á #v[e]];show WL.row hd O
  .rw[Â e,Â (λz=>e (YA z))];let q:=hk s;revert q;cases fB b (.inr s)<;>cases M s<;>intro q
   .exact q
   .exact q
   .exact q
   .exact WL.row hd q
def nA.none_(h:H d=ι (.dK [])):nA H d (λ_=>ν) 0:={[],h,aZ _,(λ_ z=>nomatch z),λ_=>ö}
structure fH(C:Æ)(H:Hp)(p d:Æ)(M:dB)(N:Nat):Prop where
 ob:∃dx,H p=ι (.ins C dx (lW "kept" (.ref d) []))
 kp:nA H d M N
def Ϻ:(lW "kept" (.ref d) []:List (Str×V)).lookup ("kept":Str)=d[4]:=#v[Ro,Á rfl]
def qU:(lW "kept" (.ref d) []:List (Str×V)).lookup ("say":Str)=ν:=by
 rw[Ro,Â 0.0,0]
theorem fH.same{H H':Hp}{p:Æ}{M:dB}{N:Nat}(h:fH C H p d M N)(g:Same H H'):fH C H' p d M N:=by
 obtain⟨⟨dx,h1⟩,h2⟩:=h;show{{dx,g _ _ h1},h2.same g}
def fH.ne{p:Æ}(h:fH C H p d M N):p≠d:=by
 obtain⟨⟨dx,h1⟩,h2⟩:=h;ext a h3 _ h2.ex;show v9 h1 h3 (by intro z;cases z)
def xB{α:Type}{ws:τ}{xs:List α}(I:sI J ws H1)(hw:ws[_]=xs[_])(hz:xs[_]<=1000){rest:St}(O:cst ix σ=ν::rest)(R:α->V->Æ->Hp->Prop)(U:∀x y D (H' H2:Hp) zs,H' D=zs[2]->(∀b o,b≠D->H' b=ι o->H2 b=ι o)->R x y D H'->R x y D H2)
  (Y:∀(D:Æ)(H':Hp)(k:Nat)(x:α)(u:V),Same H1 H'->(∃zs,H' D=zs[2])->xs[k]?=ι x->ws[k]?=ι u->∀kk:VK,(∀y H2,Same H' H2->R x y D H2->kk y H2)->te (ι u::rest) H' kk)
  (hQ:∀D H' ys,H1 D=ν->Same H1 H'->H' D=ys[2]->Paired (λx y=>R x y D H') xs ys->Q (.ref D) H'):mK ix (jq 0) nj te σ Q J H1:=by
 constructor;show λD l=>{λi m c H'=>m=xs[_]-i/\i<=xs[_]/\(∃o,c=o::rest)/\Same H1 H'/\∃ys,H' D=ys[2]/\Paired (λx y=>R x y D H') (xs.take i) ys,{xs[_],0.1,dz _,{ν,(O)},Same.new l _,[],aB,#v[R0,!.nil]},?_};rintro i m c H' ⟨rfl,hi,⟨o,rfl⟩,g,ys,d,hp⟩;let j:=hp[_];rw[jg]at j;by_cases a:i<xs[_]
 .refine .inr {I.go i _ g 1.1,λu H2 y=>?_};let⟨rfl,hu⟩:=I.nM i _ u H2 g y;let hx:xs[i]?=ι xs[i]:=Ä a;change te (ι u::rest) H2 _;show Y D H2 i xs[i] u g {_,d} hx (hu ⋯) _ λy H3 f p=>{ys,f _ _ d,let:=eX hz;⋯,xs[_]-(i+1),⋯,rfl,a,{()},Same.upd (g.trans f) l _,ys++[y],aB,?_};let n:∀x z,R x z D H3->R x z D (upd H3 D (.lst (ys++[y]))):=λx z r=>U x z D H3 _ _ (f _ _ d) (λb u hb e=>#v[cO hb,!e]) r;rw[Si a,!Paired.snoc (Paired.Jj hp λx z r=>n _ _ (U _ _ _ _ _ _ d (λb u _ e=>f _ _ e) r)) (n _ _ p)]
 .let e:i=xs[_]:=⋯;rw[e,qw]at hp;show .inl {I.stop i _ g 1.1,hQ D H' ys l g d hp}
abbrev sZ:Str:="row"
abbrev Fq:Str:="NUMBER"
def at0{x:V}{xs:τ}:jE (x::xs) 0=ι x:=yE (j:=0) rfl
def Ų{x:V}{xs:τ}:jE (x::y::xs) 1=ι y:=yE (j:=1) rfl
def at2{x z:V}{xs:τ}:jE (x::y::z::xs) 2=ι z:=yE (j:=2) rfl
def sAN:¬("A":Str) = "NEW" := by decide +kernel
def sUN:¬("NUMBER":Str) = "NEW" := by decide +kernel
def sUA:¬("NUMBER":Str) = "A" := by decide +kernel
def sBN:¬("BY":Str) = "NEW" := by decide +kernel
def sBA:¬("BY":Str) = "A" := by decide +kernel
def sBU:¬("BY":Str) = "NUMBER" := by decide +kernel
def sTN:¬("TEXT":Str) = "NEW" := by decide +kernel
def sTA:¬("TEXT":Str) = "A" := by decide +kernel
def sTU:¬("TEXT":Str) = "NUMBER" := by decide +kernel
def sTB:¬("TEXT":Str) = "BY" := by decide +kernel
def Qo(xs:τ)(k:Nat):fP xs (ι (k:Int)) ν=xs.drop k:=DD xs k
def C_(t:Str)(ws:List Str):Prop:=t[_]<=100000/\((wj t (Tx.one 32)=ws/\∃w r,ws=w::r/\w≠sZ)∨∃(n:Str)(r:Rw),T8 r/\ws=[sZ,n,txt r]/\wj t (Tx.one 32)=sZ::n::Tx.wordsOf r.b r.ρ r.ς)
def az3(H:Hp)(Q:VK)(ws:List Str):Prop:=∀l H',Same H H'->H' l=ws[10][2]->Q (.ref l) H'
inductive aME(vs:τ)(H:Hp)(Q:VK)(E:XK):Prop|mk(t:Str)(ws:List Str)(_:vs=[.str t])(_:C_ t ws)(_:az3 H Q ws)
def E?(w:Str)(O:List Str)(n:Nat):Prop:=(w,O)∈G6/\(n=O[_]∨w = "ahead" /\ O[_]<n/\n<O[_]+12)
inductive aCc(K:aH)(vs:τ)(H:Hp)(Q:VK)(E:XK):Prop|mk(l:Æ)(w:Str)(ws a:List Str)(_:vs=[.ref l])(_:H l=(w::ws)[10][2])(_:E? w a ws[_])(_:∀t H',Same H H'->ao K H' t (a++dN (ws[_]-a[_]) Fq)[10]->Q (.ref t) H')
def aTo:∀p∈G6,p.2[_]<=4/\p.2≠[]:=0.3
inductive aK0(vs:τ)(H:Hp)(Q:VK)(E:XK):Prop|mk(z:Str)(_:vs=[.str z])(_:tK z)(_:∀H',Same H H'->Q (.str z) H')
inductive aAA(vs:τ)(H:Hp)(Q:VK)(E:XK):Prop|mk(d:Æ)(s:Str)(M:dB)(N:Nat)(r:Rw)(_:vs=[.ref d,.str s])(_:tK s)(_:nA H d M N)(_:M s=ι r)(_:∀v H',Same H H'->cL H' v r->Q v H')
inductive aUc(vs:τ)(H:Hp)(Q:VK)(E:XK):Prop|mk(d:Æ)(x:Wa)(M:dB)(N:Nat)(_:vs=[.ref d,.str x.kind,.str x.word])(_:x.Ok M)(_:nA H d M N)(_:∀v H',Same H H'->x.V H' v->Q v H')
inductive azX(C:Æ)(vs:τ)(H:Hp)(Q:VK)(E:XK):Prop|mk(p dx:Æ)(_:vs=[.ref p])(_:H p=ι (.ins C dx []))(_:∀d H',H d=ν->fH C H' p d (λ_=>ν) 0->(∀b o,H b=ι o->b≠p->H' b=ι o)->Q .non H')
abbrev OT(P w K mg base cN):=Gb P w K mg base cN "__init__" 1 ["self"] (azX cN)
def d7:∀{α β:Type} {F:α->β->Prop} {a:α} {l:List α} {ys:List β},Paired F (a::l) ys->∃y r,ys=y::r/\F a y/\Paired F l r:=λh=>by
 cases h with
 |cons z r=>show{_,(),z,r}
def Ϡ:∀{α β:Type} {F:α->β->Prop} {ys:List β},Paired F [] ys->ys=[]:=λh=>by cases h;rfl
inductive wN(w:Str)(vs:τ)(z:Hp)(Q:VK)(E:XK):Prop|mk(k:Tw)(was:List Wa)(P:Str->Prop)(l:Æ)(v:τ)(_:vs=[.ref l])(_:k.word=w)(_:z l=v[2])(_:Paired (Wa.V z) was v)(_:vp k was P)(_:∀t H',P t->Same z H'->Q (.str t) H')
def ϝ:List Tw:=[.Ai,.places,.at_,.part,.round,.where_,.closed,.divisor,.divides]
def VT(k:Tw):k∈ϝ:=by cases k<;>simp[ϝ]
def ayw:(ϝ.map Tw.word).Nodup:=0.0
def Lv{α:Type}{f:α->Str}{k k':α}(h:f k=f k'):∀{l:List α},(l.map f).Nodup->k∈l->k'∈l->k=k':=λ{l}=>by
 induction l with
 |nil=>intro _ h;cases h
 |cons a l ih=>
  intro hn h1 h2;rw[jK,yF]at hn;rcases fj.mp h1 with c|h3<;>rcases fj.mp h2 with b|h4
  .rw[c,b]
  .exact È (bN.mpr {_,h4,#v[-h,c]}) hn.1
  .exact È (bN.mpr {_,h3,#v[h,b]}) hn.1
  .exact ih hn.2 h3 h4
def zK{k k':Tw}(h:k.word=k'.word):k=k':=Lv h ayw (VT k) (VT k')
def aGV{a:Nat}(h:a+c<=1000):∀x∈[a[0],c[0]],eO x:=λx hx=>by
 rcases fj.mp hx with rfl|hx
 .exact EA ⋯
 .rw[iI.mp hx];show EA ⋯
def aIi{b a:ζ}{n:Int}(h1:∀x∈b,eO x)(h2:∀x∈a,eO x)(h3:eO n)(hz:b[_]+a[_]<=1000):Bp (Tx.one 32) (b.map au++Tx.bar::(a.map au++[Tx.bar,au n]))=true:=by
 show QZ 32 (B:=4001) (λw hw=>?_) 0.4;rcases iz.mp hw with hw|hw
 .obtain⟨x,hx,rfl⟩:=bN.mp hw;show(h1 x hx).len
 rcases fj.mp hw with rfl|hw
 .decide
 rcases iz.mp hw with hw|hw
 .obtain⟨x,hx,rfl⟩:=bN.mp hw;show(h2 x hx).len
 rcases fj.mp hw with rfl|hw
 .decide
 .rw[iI.mp hw];show h3.len
def xM.few(h:xM bot ps):eO bot/\∀p∈ps,eO p.1/\p.2[_]<=4/\∀x∈p.2,eO x:={eO.bd h.1 0.3,λp hp=>{eO.bd (h.2.2 p hp).1 0.3,(h.2.2 p hp).2.1.2,λx hx=>eO.bd ((h.2.2 p hp).2.2 x hx) 0.3}}
def m9(a b:Str):(a++b)[_]=a[_]+b[_]:=by
 show(a.cps++b.cps).size=_;rw[Array.size_append,0]
def r_(h:∀x∈ns,eO x)(hk:ns[_]<=k):(jC ns)[_]<=4002*k:=by
 let h1:=AF (Tx.one 32) (ns.map au);let h2:=BX (B:=4001) (ns.map au) λw hw=>by
  let⟨n,hn,rfl⟩:=bN.mp hw;show(h n hn).len
 rw[aA]at h1 h2;let e:(Tx.one 32)[_]=1:=rfl;rw[e]at h1;let:ns[_]*4001<=k*4001:=pN _ hk;unfold jC;lia
def FQ:(eZ ": ")[_]=2/\(eZ "; ")[_]=2:=0.0
def ϰ:(eZ "no ")[_]=3:=0.0
def aSo{p:Int×ζ}(h:eO p.1/\p.2[_]<=4/\∀x∈p.2,eO x):(jm p)[_]<=20100:=by
 unfold jm;let h1:=h.1.len;let h2:=r_ h.2.2 h.2.1;rw[m9,m9,FQ.1,1]
def aTX(h:xM bot ps):Bp (eZ "; ") (au bot::ps.map jm)=true:=by
 unfold Bp;let h4:=h.2.1;ext f1 f2 h.few;rw[Oy (B:=20100) (λw hw=>?_) #v[FQ.2,gh,aA]]
 .rfl
 rcases fj.mp hw with rfl|hw
 .exact cD f1.len 0.3
 .obtain⟨p,hp,rfl⟩:=bN.mp hw;show aSo (f2 p hp)
inductive um(w:Str)(vs:τ)(z:Hp)(Q:VK)(E:XK):Prop|mk(k:Mk)(was:List Wa)(P:Rw->Prop)(l:Æ)(v:τ)(_:vs=[.ref l])(_:k.word=w)(_:z l=v[2])(_:Paired (Wa.V z) was v)(_:oW k was P)(_:∀a x H',P x->Same z H'->cL H' a x->Q a H')
def ϡ:List Mk:=[.row,.short,.add,.multiply,.roll,.scale,.sum,.every,.ahead,.on,.rest]
def mk_inj{k k':Mk}(h:k.word=k'.word):k=k':=Lv (l:=ϡ) h 0.0 (by cases k<;>simp[ϡ]) (by cases k'<;>simp[ϡ])
def aRt{l:ζ}(h:Paired (Wa.V H) (l.map .num) ys):ys=l[11]:=by
 induction l generalizing ys with
 |nil=>show Ϡ h
 |cons i l ih=>
  let⟨y,r,rfl,e,h'⟩:=d7 h;rw[ih h',show y=V.int i from e,0]
def aSI(h:Sm 10 r){n:Nat}(hn:n<=300):Md r.b (λm=>r.at (m+n)) (r.on n):=by
 let ok:=(h.cV 0.3).ok;let a:=h.wf.len;let c:Gr r.b r.ρ λm=>r.at (m+n):=Gr.shift (BR a) n;let e:∀m,(r.on n).at m=Rm.tk r.b (r.at (m+n)):=λm=>by
  rw[<-c.at_ m,RV ok.uD,RV λx hx=>by
   let⟨k,_,rfl⟩:=jN hx;show ok.HW _]
  rfl
 show{rfl,{by show r.ρ[_]=(aD _ _)[_];rw[bZ],ok.short,ok.iR,ok.pC,ok.uD,λx hx=>?_,ok.jh,λx hx=>?_},e}
 .obtain⟨k,_,rfl⟩:=jN (show x∈aD _ _ from hx);show ok.HW _
 .obtain⟨k,hk,rfl⟩:=jN (show x∈aD _ _ from hx);let:=h.wf.l4;show(h.zy 0.3 _).mono ⋯
inductive Sq(C:Æ)(p d:Æ)(M:dB)(N:Nat)(H:Hp)(Q:VK):Str->List Wa->Prop
 |tell {k:Tw} {was:List Wa} {P:Str->Prop}:vp k was P->(∀t H',P t->Same H H'->Q (.str t) H')->Sq C p d M N H Q k.word was
 |make {k:Mk} {z:Str} {was:List Wa} {P:Rw->Prop}:oW k was P->(∀v H',P v->jd d H H'->fH C H' p d (M.put z v) (N+1)->Q (.str "ok") H')->Sq C p d M N H Q k.word (.nw z::was)
def jT(w:Str)(ks:List Str):Prop:=∃a,E? w a ks[_]/\ks=a++dN (ks[_]-a[_]) Fq
inductive DG(C:Æ)(vs:τ)(H:Hp)(Q:VK)(E:XK):Prop|mk(p d:Æ)(t w:Str)(was:List Wa)(z:dB)(N:Nat)(_:vs=[.ref p,.str t])(_:fH C H p d z N)(_:N<=100)(_:C_ t (w::was.map Wa.word))(_:jT w (was.map Wa.kind))(_:was[_]<=20)(_:(∀x∈was,x.Ok z))(_:Sq C p d z N H Q w was)
def XA(k:Mk):k.word∈KL.map (·.1):=by cases k<;>decide +kernel
def aL8(k:Mk):k.word∈Wn:=by cases k<;>decide +kernel
def Of(k:Tw):k.word∈Jh.map (·.1):=by cases k<;>decide +kernel
theorem fH.put{C:Æ}{H:Hp}{p d:Æ}{M:dB}{N:Nat}(h:fH C H p d M N)(hN:N<=100){n:Str}{v:V}{r:Rw}(O:cL H v r):∃H',w6 H d (.str n) v H'/\jd d H H'/\fH C H' p d (M.put n r) (N+1):=by
 let⟨H',h1,h2,h3⟩:=h.kp.put hN (n:=n) O;ext dx e h.ob;show{H',h1,h2,{dx,h2 _ _ h.ne e},h3}
def jd.of(g:Same H H1)(g':jd d H1 H'):jd d H H':=λb o hb e=>g' b o hb (g b o e)
abbrev Aj(P w K mg base cN):=Gb P w K mg base cN "say" 16 ["self","row"] (DG cN)
structure R3(r:Rw):Prop where
 sm:Sm 10 r
 l3:r.ρ[_]<=3
 s3:r.b=0->∀x∈r.ρ,x.natAbs<=3
 lQ:r.b<=13
def F6(x:Int):Prop:=x.natAbs<10^600
def F6.bd(h:Bd u x)(hu:u<=1993):F6 x:=gY h (cD (mX 0.3 hu) 0.0)
theorem R3.ok{r:Rw}(h:R3 r):ig r:=(h.sm.cV 0.3).ok
theorem R3.tk{r:Rw}(h:R3 r)(n:Nat):Rm.tk r.b (r.at n)=r.at n:=Ys (h.ok.HW n)
def R3.bd(h:R3 r)(n:Nat):Bd (10+n*5) (r.at n):=by
 let lo:=h.sm.wf.hB.lo;let hi:=h.sm.wf.hB.hi;by_cases z:r.b=0
 .refine(Rm.zy (a:=2) h.sm.wf.len lo (Bd.of (n:=10) 0.6 0.6) (λx hx=>jD (h.s3 z x hx) 0.3) h.sm.kE n).mono ?_;let:=nH n (show 2+r.ρ[_]<=5 by let:=h.l3;lia);simp_all
 .exact(FR h.sm.wf.hB (h.ok.HW n) z).mono 0.6
def FX(h:Gr b R f)(h':Gr b R g)(e:∀n,n<R[_]->f n=g n)(n:Nat):Rm.tk b (f n)=Rm.tk b (g n):=by
 rw[<-h.at_ n,<-h'.at_ n,show aD R[_] f=aD R[_] g from jx λk hk=>e k (fQ.mp hk)]
def R3.same(h:R3 r)(h':R3 s)(hb:r.b=s.b)(e:∀n,n<r.ρ[_]+s.ρ[_]->r.at n=s.at n)(n:Nat):r.at n=s.at n:=by
 let hB:=h.sm.wf.hB;let c:=nJ r.b r.ρ;let a:=nJ r.b s.ρ;let k2:Kp r.b (Pm.bH r.b s.ρ) s.at:=hb▸h'.sm.kp;let l1:=jy r.b r.ρ;let l2:=jy r.b s.ρ;let:=FX (Vr hB c a (h.sm.kp.Zf _)) (Vr hB c a (k2.S5 _)) (λn hn=>e n (by rw[GD,(xC hB.one c a).2]at hn;simp_all)) n
 rwa [h.tk,hb,h'.tk]at this
def BO(h:Al n p=ν)(j:Nat)(O:j<n):p j=false:=by
 let:=List.find?_range_eq_none.mp h j O;simpa using this
def PM(h:Al n p=ι i):i<n/\p i=true/\∀j,j<i->p j=false:=by
 let⟨h1,h2,h3⟩:=ĝ.mp h;show{fQ.mp h2,h1,λj a=>(h3 j a)[7]}
def yh:x∈cW p lo n↔∃j:Nat,(lo<=j/\j<lo+n)/\p j=true/\x=(j:Int):=by
 unfold cW;rw[bN];constructor
 .rintro⟨j,a,rfl⟩;let⟨h1,h2⟩:=pD.mp a;let⟨k,hk,rfl⟩:=bN.mp h1;let:=fQ.mp hk;show{lo+k,0.6,h2,rfl}
 .rintro⟨j,h1,h2,rfl⟩;show{j,pD.mpr {bN.mpr {j-lo,fQ.mpr 0.9,0.6},h2},rfl}
def Ka(p:Nat->Bool)(lo n:Nat):(cW p lo n).Pairwise (· < ·):=by
 unfold cW;rw[dC];let h1:((dY n).map (lo + ·)).Pairwise (· < ·):=dC.mpr (List.pairwise_lt_range.imp (by intro a b h;(simp;omega)));show(h1.filter _).imp (by intro a b h;(simp;omega))
def Qi{l:ζ}(h:l.Pairwise (· < ·)):l.Nodup:=h.imp λh=>⋯
def So(h:∀j,j<n->p j=false):cW p 0 n=[]:=List.eq_nil_iff_forall_not_mem.mpr λx hx=>by
 let⟨j,a,hp,_⟩:=yh.mp hx;rw[h j 0.6]at hp;cases hp
def VI(hi:i<n)(hp:p i=true)(O:∀j,j<i->p j=false):∃t,cW p 0 n=(i:Int)::t:=by
 let e:((dY n).filter p).head?=ι i:=#v[List.head?_filter,!Zh hi hp O]
 unfold cW;rw[show(dY n).map (0 + ·)=dY n from(jx λk _=>vL k).trans (Fy _)];cases h:(dY n).filter p with
 |nil=>rw[h]at e;cases e
 |cons a t=>rw[h]at e;cases e;show{()}
def aOH{L:ζ}(hd:L.Nodup)(U:∀x,x∈L↔x∈cW p 0 n)(hp:ns'.Perm L)(O:ns'.Pairwise (·<=·)):ns'=cW p 0 n:=
 List.Perm.eq_of_pairwise (le:=(·<=·)) (λ_ _ _ _ h1 h2=>⋯) O ((Ka p 0 n).imp λh=>⋯) (hp.trans ((PQ hd (Qi (Ka ..))).mpr U))
theorem Oe:∀(xs:ζ)(g:Nat),d∣iQ g xs↔d∣g/\∀x∈xs,(d:Int)∣x
 |[],g=>{λh=>{h,(nofun)},λh=>h.1}
 |x::t,g=>#v[show iQ g (x::t)=iQ (m6 g x.natAbs) t from rfl,Oe t,Nat.dvd_gcd_iff,cj,vN,and_assoc]
theorem d?{f:Nat->Int}:∀{m:Nat},(∀k,k<m->D∣f k)->D∣Pm.sm m f
 |0,_=>Int.dvd_zero _
 |m+1,h=>uL (d? λk hk=>h k ⋯) (h m 0.6)
def zh{D:Int}(O:ρ[_]=ς[_])(h:∀x∈ς,D∣x)(n:Nat):D∣Rm.at_ 0 ρ ς n:=by
 induction n using rz with
 |ind n ih=>
  by_cases c:n<ς[_]
  .rw[qG c,À,Ä c];show h _ (rD c)
  .rw[Bq O 0.6,cY,pO];show d? λk hk=>Int.dvd_mul_of_dvd_right (ih _ 0.9)
def R3.at0(z:r.b=0)(n:Nat):r.at n=Rm.at_ 0 r.ρ r.ς n:=by
 show Rm.at_ r.b _ _ n=_;rw[z]
def aOz(h:R3 r)(z:r.b=0):iQ 0 (aD 40 r.at)=iQ 0 r.ς:=by
 let a:=h.sm.wf.len;let h3:=h.l3;show BS ((Oe _ _).mpr {nh _,λx hx=>?_}) ((Oe _ _).mpr {nh _,λx hx=>?_})
 .obtain⟨k,hk,e⟩:=pH.mp hx;let:=((Oe (aD 40 r.at) 0).mp (R7 _)).2 (r.at k) (bN.mpr {k,fQ.mpr ⋯,rfl})
  rwa [R3.at0 z,qG hk,À,Ä hk,RA,e]at this
 .obtain⟨k,_,rfl⟩:=jN hx;rw[R3.at0 z,!zh a (((Oe _ _).mp (R7 _)).2) k]
def aGl(h:R3 r)(z:r.b=0){s:Nat}(O:1<=e)(hd:∀k,k<r.ρ[_]->D∣r.at (s+e*k))(k:Nat):D∣r.at (s+e*k):=by
 let g:=(Lm h.ok (e:=e) (st:=s) O rfl).at_ k;rw[z,cY]at g;rw[<-g,!zh #v[aA,aA,bZ] (λx hx=>?_) k];let⟨y,hy,rfl⟩:=bN.mp hx;let⟨j,a,rfl⟩:=jN hy;rw[cY,!hd j (by rwa [vK]at a)]
def Y0(h:R3 r)(z:r.b=0)(hd:0<d)(n:Nat):(r.rests d).at n=r.at n%d:=by
 let:=oC (p:=d) ⋯ h.sm.wf.len n;rw[R3.at0 z,<-mz ⋯,<-this,0]
def qO.per(h:R3 r){bg ln:Nat}(d:qO r bg ln)(n:Nat):r.at (bg+ln+n)=r.at (bg+n):=by
 let a:Gr r.b (sh r).ρ r.at:=by
  let:=BR (b:=(sh r).b) (ρ:=(sh r).ρ) (ς:=(sh r).ς) d.so.len;rw[<-show(sh r).at=r.at from funext d.so.at_,<-d.so.by_,!this]
 let:=FX (a.shift (bg+ln)) (a.shift bg) (λn hn=>by
  rw[qz n,qz n,<-Ud r.at hn,<-Ud r.at hn,d.rd.again]) n
 rwa [h.tk,h.tk,qz n,qz n]at this
theorem qO.uniq{r:Rw}{bg ln:Nat}(d:qO r bg ln)(d':qO r U O):bg=U/\ln=O:=d.rd.uniq d'.rd
theorem qO.pers{r:Rw}(h:R3 r){bg ln:Nat}(d:qO r bg ln){s:Nat}(O:bg<=s):∀k:Nat,r.at (s+k*ln)=r.at s
 |0=>by rw[rV,Dj]
 |k+1=>by
  rw[<-d.pers h O k,rm];let:=d.per h (s+k*ln-bg)
  rwa [(⋯:bg+ln+(s+k*ln-bg)=s+(k*ln+ln)),(⋯:bg+(s+k*ln-bg)=s+k*ln)]at this
def azi(p:0<ln)(h:bg<=n):∃s k:Nat,(bg<=s/\s<bg+ln)/\n=s+k*ln:=by
 show{bg+(n-bg)%ln,(n-bg)/ln,{0.6,?_},?_}
 .let:=Qv (n-bg) p;simp_all
 .let:=Nat.mod_add_div (n-bg) ln;rw[qW]at this;grind -ring
def aUG{s s' k':Nat}(h:bg<=s/\s<bg+ln)(h':bg<=s'/\s'<bg+ln)(e:s+k*ln=s'+k'*ln):s=s':=by
 let a:(s-bg+k*ln)%ln=(s'-bg+k'*ln)%ln:=#v[(0.7:s-bg+k*ln=s'-bg+k'*ln)]
 rw[TB,TB,zF ⋯,zF 0.7]at a;grind -ring
inductive aMX(K:aH)(vs:τ)(H:Hp)(Q:VK)(E:XK):Prop|mk(z t v)(_:vs=[.ref z,.int v])(_:aj K H z t[11])(_:0<=v)(_:Q (.int (cellAt t v)) H)
inductive aGJ(vs:τ)(H:Hp)(Q:VK)(E:XK):Prop|mk(z v)(_:vs=[.int z,.int v])(_:0<=v)(_:v<=1000)(_:Q (.int (sE z v)) H)
inductive aPD(vs:τ)(H:Hp)(Q:VK)(E:XK):Prop|mk(z v:Int)(_:vs=[.int z,.int v])(_:0<=v)(_:v<MM)(_:Q (.int (qJ z v)) H)
inductive aKV(vs:τ)(H:Hp)(Q:VK)(E:XK):Prop|mk(z v m:Int)(_:vs=[.int z,.int v,.int m])(_:0<=v)(_:v<MM)(_:0<=m)(_:m<=1000)(_:Told H Q (uQ z v m.toNat)[11])
inductive aTj(vs:τ)(H:Hp)(Q:VK)(E:XK):Prop|mk(z v:Int)(_:vs=[.int z,.int v])(_:0<=z)(_:Q (.int (Rm.tk z v)) H)
def aQA(f:Nat->Int)(k:Nat):cv f (Pm.co [1]) k=f k:=by
 rw[je,xh,mU];split
 .rw[fK]
 .rw[nF λi _=>.inl (gP i),fK]
def aTR{c:ζ}(O:c[_]<=4)(h:∀x∈c,x.natAbs<=3):tV c:={Pm.bH 0 c,[1],b? h O,{0.3,rfl},λk=>(aQA _ k).symm}
inductive aHq(vs:τ)(H:Hp)(Q:VK)(E:XK):Prop|mk(b c m:Int)(_:vs=[.int b,.int c,.int m])(_:b∈ό)(_:0<=m)(_:m<=3)(_:(5<b->m<=2))(_:∀v r H',Same H H'->cL H' v r->Sm 10 r->r.b=b->r.ρ[_]<=3->(b=0->∀x∈r.ρ,x.natAbs<=3)->Q v H')
def addW{b:Æ}{xs ys:List Str}(ha:H a=xs[10][2])(hb:H b=ys[10][2])(h1:xs[_]+ys[_]<=1000)(q:∀t H',Same H H'->H' t=(xs++ys)[10][2]->Q (.ref t) H'):Cr K (.ref a) (.ref b) H Q:=
 .inl {_,_,ha,hb,#v[aA,aA,!gQ (eX h1)],λp hp=>q p _ (Same.new hp _) #v[aB,eG]}
inductive aGP(vs:τ)(H:Hp)(Q:VK)(E:XK):Prop|mk(v:V)(z:Rw)(_:vs=[v])(_:cL H v z)(_:T8 z)(_:∀H',Same H H'->Q (.str (txt z)) H')
def qu{n:Int}(h:n.natAbs<10^600):PySem.intText? (au n)=ι n/\(au n)[_]<=601:=by
 let a:(au n)[_]<=601:=sC 599 h;show{?_,a};by_cases h0:0<=n
 .obtain⟨m,rfl⟩:=QN h0;let e:=Gn m;let:=PySem.intText_digits (x:=au (m:Int)) #v[e,!Cw m] #v[e,!Tg m] ⋯;rw[this,e,Dh]
 .obtain⟨m,rfl⟩:∃m:Nat,n=-(m:Int):={n.natAbs,⋯};let:=PySem.intText_neg (Hg (m:=m) ⋯) (Cw m) (Tg m) ⋯;rw[this,Dh]
structure PN(t:Str)(ns:ζ):Prop where
 sp:(wj t (Tx.one 32)).filter (λz=>!decide (z=("":Str)))=ns.map au
 few:(wj t (Tx.one 32))[_]<=2000
 len:t[_]<=100000
 bd:∀n∈ns,n.natAbs<10^600
def aRz{n:Int}(h:n.natAbs<10^600):(!decide (au n=("":Str)))=true:=by
 rw[Ì λy=>by
  let e:=(qu h).1;rw[y,show PySem.intText? ("":Str)=ν by decide +kernel]at e;cases e]
 rfl
def PU(h:∀n∈ns,n.natAbs<10^600):(ns.map au).filter (λz=>!decide (z=("":Str)))=ns.map au:=uw.mpr λw hw=>by
 let⟨n,hn,rfl⟩:=bN.mp hw;show aRz (h n hn)
def a7(O:ws≠[])(Y:ws.filter (λz=>!decide (z=("":Str)))=ns.map au)(hc:∀w∈ws,32∉w[8]/\w[_]<=B)(U:ws[_]<=2000)(hB:ws[_]*(B+1)<=100000)(hb:∀n∈ns,n.natAbs<10^600):PN (Õ (Tx.one 32) ws) ns:=by
 let a:=GR (c:=32) 0.3 O λw hw=>(hc w hw).1;show{#v[a,!Y],#v[a,!U],?_,hb};let h1:=AF (Tx.one 32) ws;let h2:=BX (B:=B) ws λw hw=>(hc w hw).2;rw[show(Tx.one 32)[_]=1 from rfl]at h1;rw[wF]at hB;lia
def ab{n:Int}:32∉(au n)[8]:=λh=>by rcases HN n 32 h with z|z<;>lia
def ID(hn:ns≠[])(O:ns[_]<=160)(hb:∀n∈ns,n.natAbs<10^600):PN (jC ns) ns:=a7 (B:=601) (λz=>hn (Us.mp z)) (PU hb) (λw hw=>by
 let⟨n,h,rfl⟩:=bN.mp hw;show{ab,(qu (hb n h)).2}) #v[aA] #v[aA] hb
inductive aLz(vs:τ)(H:Hp)(Q:VK)(E:XK):Prop|mk(t:Str)(ns:ζ)(_:vs=[.str t])(_:PN t ns)(_:Told H Q ns[11])
def wU(M:dB):Wa->Prop|.txt _=>False|x=>x.Ok M
def kT(n:Int):32∉(au n)[8]:=ab
def N4{x:Wa}(h:wU M x):x.Ok M/\x.word[_]<=61/\32∉x.word[8]:=by
 cases x with
 |nw s=>show{h,cD (tK.hi h) 0.3,tK.clean h}
 |a s r=>show{h,cD h.1.hi 0.3,h.1.clean}
 |num i=>show{h,oH h,kT _}
 |by_ p=>show{h,oH (gY (show(p[0]).natAbs<1000 from h.2) 0.0),kT _}
 |txt r=>show h.elim
def oh{w:Str}(h:(w,kz)∈G6):jT w kz:={kz,{h,.inl rfl},#v[ql,Yf,sU]}
abbrev W4(w:Str):Prop:=(w[_]<=61/\32∉w[8])/\w≠sZ
end
def v7(hD:fH C H p d M N)(hN:N<=100)(O:t=Õ (Tx.one 32) (w::was.map Wa.word))(hw:W4 w)(hF:jT w (was.map Wa.kind))(U:was[_]<=20)(hx:∀x∈was,wU M x)(Y:Sq C p d M N H Q w was):DG C [.ref p,.str t] H Q E:=by
 let b:∀v∈w::was.map Wa.word,v[_]<=61/\32∉v[8]:=cj.mpr {hw.1,λv hv=>by
  let⟨x,a,rfl⟩:=bN.mp hv;show(N4 (hx x a)).2}
 show{p,d,t,w,was,M,N,rfl,hD,hN,{?_,.inl {?_,w,(),hw.2}},hF,U,λx h=>(N4 (hx x h)).1,Y}
 .let h1:=AF (Tx.one 32) (w::was.map Wa.word);let h2:=BX (B:=61) _ λv hv=>(b v hv).1;rw[show(Tx.one 32)[_]=1 from rfl]at h1;rw[gh,aA]at h1 h2;rw[O,1]
 .rw[O];show GR 0.3 0.1 λv hv=>(b v hv).2
section
variable {s:Str}{x:Int}{H H':Hp}{d D C p:Æ}{M:dB}{N:Nat}{K:aH}{Q:VK}{r u:Rw}
def Ab:List Str:=["a","b","s","p","r","n","t","e","o","h","d","q"]
def m5(h:s∈Ab):tK s:=by
 let k:=(0.0:∀s∈Ab,1<=s[_]/\s[_]<=8/\∀c∈s[8],c∈Q9) s h;show{k.1,k.2.1,(k.2.2)}
def xR(M:dB)(s:Str)(f:Nat->Int):Prop:=∃r,M s=ι r/\ig r/\∀n,r.at n=f n
inductive aD0(C:Æ)(vs:τ)(H:Hp)(Q:VK)(E:XK):Prop|mk(p d:Æ)(s:Str)(M:dB)(N:Nat)(f:Nat->Int)(_:vs=[.ref p,.str s])(_:fH C H p d M N)(_:N<=100)(_:tK s)(_:xR M s f)(_:(∀n,n<40->F6 (f n)))(_:Told H Q (aD 40 f)[11])
def F6.few(h:F6 x):eO x:=gY h (mX 0.3 0.3)
def join_cons(s x y:Str)(r:List Str):Õ s (x::y::r)=x++s++Õ s (y::r):=rfl
def rN(x:Str):Õ (Tx.one 32) [x]=x:=rfl
def pJ(a b c:Str):a++b++c=a++(b++c):=PySem.Str.append_assoc ..
def aC0:("places ":Str) = "places" ++ Tx.one 32/\(" 40":Str)=Tx.one 32++au (40:Nat)[0]/\("places ":Str)[_]=7/\(" 40":Str)[_]=3:=0.0
abbrev Kz(P w K mg base cN):=mW P w K mg base "_law_places" 17 ["_law_desk","_law_name"] (aD0 cN)
def NL(H H':Hp):Prop:=∀b o,H b=ι o->(∃xs,o=.lst xs)∨H' b=ι o
def nA.nl(h:nA H d M N)(g:NL H H'):nA H' d M N:=by
 ext b hd h1 h2 hk h.ex;show{b,(g _ _ hd).resolve_left nofun,h1,h2,λs=>?_};let q:=hk s;revert q;cases fB b (.inr s)<;>cases M s<;>intro q
 .exact q
 .exact q
 .exact q
 .ext a p p2 e h1 h2 h3 q;show{a,p,p2,e,(g _ _ h1).resolve_left nofun,(g _ _ h2).resolve_left nofun,(g _ _ h3).resolve_left nofun}
theorem fH.nl{C:Æ}{H H':Hp}{p d:Æ}{M:dB}{N:Nat}(h:fH C H p d M N)(g:NL H H'):fH C H' p d M N:=by
 obtain⟨⟨dx,e⟩,k⟩:=h;show{{dx,(g _ _ e).resolve_left nofun},k.nl g}
def aIo(h:H D=xs[2])(o:HO):NL H (upd H D o):=λb u e=>by
 by_cases c:b=D
 .rw[c,h]at e;cases e;show .inl {xs,(rfl)}
 .exact .inr #v[cO c,!e]
theorem fH.lst{C:Æ}{H H':Hp}{p d:Æ}{M:dB}{N:Nat}(h:fH C H p d M N)(g:jd d H H'){l:Æ}{xs:τ}(O:H l=xs[2]):H' l=xs[2]:=by
 ext a hd _ h.kp.ex;show g _ _ (v9 O hd nofun) O
def jd.then(g:jd d H H')(O:Same H' H2):jd d H H2:=λb o hb e=>O _ _ (g b o hb e)
abbrev Ub:=Str×Str×(Rw->Prop)
def Vu(C p d:Æ)(M:dB)(q:Ub):Prop:=∀(H':Hp) (M':dB) (N':Nat),fH C H' p d M' N'->N'<=100->M' "a" = M "a" -> M' "b" = M "b" -> ∀(kk:VK) (E:XK),(∀r H2,q.2.2 r->jd d H' H2->fH C H2 p d (M'.put q.2.1 r) (N'+1)->kk (.str "ok") H2)->DG C [.ref p,.str q.1] H' kk E
def wH(hw:w=k.word)(U:t=Õ (Tx.one 32) (w::n::was.map Wa.word))(h4:W4 w)(O:jT w ("NEW" :: was.map Wa.kind))(Y:was[_]<=19)(hn:n∈Ab)(hx:∀M',M' "a" = M "a" -> M' "b" = M "b" -> ∀x∈was,wU M' x)(ok:oW k was P):Vu C p d M (t,n,P):=λH' M' N' b a e c kk E q=>by
 subst hw;show v7 b a (was:=.nw n::was) U h4 O (0.8:was[_]+1<=20) (cj.mpr {m5 hn,hx M' e c}) (.make ok q)
def L8{l:Æ}{its:List Ub}{ix:List (Option Nat)}{te:TE}{σ:St}{H1:Hp}(U:fH C H1 p d M N)(hN:N+its[_]<=100)(hl:H1 l=(its.map λq=>V.str q.1)[2])(nd:(("a":Str) :: "b" :: its.map λq=>q.2.1).Nodup){rest:St}(O:cst ix σ=ν::rest)(Y:∀q∈its,Vu C p d M q)
  (he:∀t H' M' N' (kk:VK),fH C H' p d M' N'->DG C [.ref p,.str t] H' kk E0->te (t[6]::rest) H' kk)
  (hQ:∀D H' M',H1 D=ν->jd d H1 H'->H' D=(dN its[_] (V.str "ok"))[2]->fH C H' p d M' (N+its[_])->M' "a" = M "a" -> M' "b" = M "b" -> (∀q∈its,∃r,M' q.2.1=ι r/\q.2.2 r)->Q (.ref D) H'):mK ix (jq 0) nj te σ Q (sS K l) H1:=by
 let⟨R,nd⟩:=yF.mp nd;let⟨P,nd⟩:=yF.mp nd;ext S hd _ U.kp.ex;constructor;intro D a;let L:D≠d:=λz=>by rw[z,hd]at a;cases a
 show{λi m n H'=>m=its[_]-i/\i<=its[_]/\(∃o,n=o::rest)/\∃M',jd d H1 H'/\H' D=(dN i (V.str "ok"))[2]/\fH C H' p d M' (N+i)/\M' "a" = M "a" /\ M' "b" = M "b" /\ ∀q∈its.take i,∃r,M' q.2.1=ι r/\q.2.2 r,{its[_],0.1,dz _,{ν,(O)},M,Same.d (Same.new a _),aB,U.same (Same.new a _),rfl,rfl,#v[R0,!nofun]},?_};rintro i m n H' ⟨rfl,hi,⟨o,rfl⟩,M',g,v,j,B,A,hq⟩;let k:=U.lst g hl;by_cases s:i<its[_]
 .obtain⟨f,w⟩:∃f,its[i]?=ι f:={_,Ä s};let G:(its.map λq=>V.str q.1)[i]?=ι (V.str f.1):=#v[Î,w,0]
  show .inr {{_,_,aj.of k,G},λx H2 y=>?_};ext rfl hx y;obtain rfl:=nQ ((hx _ (aj.of k)).symm.trans G);show he f.1 H2 M' _ _ j (Y f (Ð w) H2 M' _ j ⋯ B A _ _ λr H3 pr sd X=>?_);let h3:=j.lst sd v;let I:f.2.1∈its.map λq=>q.2.1:=bN.mpr {f,Ð w,rfl};show{_,h3,#v[Gk,!eX ⋯],its[_]-(i+1),0.7,rfl,s,{()},M'.put f.2.1 r,λb u hb e=>?_,#v[aB,ahz],X.nl (aIo h3 _),?_,?_,λq hq'=>?_}
  .rw[cO λz=>by rw[z,a]at e;cases e];show sd _ _ hb (g _ _ hb e)
  .exact(Â (c:=("a":Str)=f.2.1) λz=>R (gW _ (z▸I))).trans B
  .exact(Â (c:=("b":Str)=f.2.1) λz=>P (z▸I)).trans A
  .rw[zp,w]at hq';unfold dB.put;rcases iz.mp hq' with hq'|hq'
   .obtain⟨J,W,T⟩:=hq q hq';show{J,(Â λz=>?_).trans W,T};rw[<-x9 i its,eG]at nd;show(Yw.mp nd).2.2 _ (bN.mpr {q,hq',(rfl)}) _ (bN.mpr {f,Ð (i:=0) #v[č,!w],rfl}) z
   .rw[iI.mp hq'];show{r,Á rfl,pr}
 .let e:i=its[_]:=⋯;subst e;rw[qw]at hq;show .inl {{_,aj.of k,#v[aA,!aZ _]},hQ D H' M' a g v j B A hq}
theorem ia{K:aH}{H:Hp}:∀n,qC K H (dN n (V.str "ok")) (dN n (Oo "ok"))
 |0=>.nil
 |n+1=>.cons (.str _) (ia n)
def Be(hn:n=4∨n=5)(ha:H a=(dN n (V.str "ok"))[2])(hb:H b=(dN n (V.str "ok"))[2])(q:Q (.bl (g true)) H):rM K g (.ref a) (.ref b) H Q:=by
 let z:ï (.list (dN n (Oo "ok")))=true/\Ba (.list (dN n (Oo "ok"))) (.list (dN n (Oo "ok")))=true:=by
  rcases hn with rfl|rfl<;>decide +kernel
 show .inl {_,_,.lst (aj.of ha) (ia n),.lst (aj.of hb) (ia n),z.1,z.1,#v[z.2,!q]}
structure ϔ(M:dB)(r u:Rw):Prop where
 ha:M "a"=ι r
 hb:M "b"=ι u
 ra:R3 r
 rb:R3 u
 e:r.b=u.b
abbrev Pl(H:Hp)(l:Æ)(f:Nat->Int):Prop:=H l=(aD 40 f)[11][2]
def aG1{xs:List (Str×(Nat->Int))}:∀{ys:τ},Paired (λx y=>∃l,y=V.ref l/\l≠D/\Pl H l x.2) xs ys->∃ts:List (Æ×(Nat->Int)),ys=ts.map (λq=>V.ref q.1)/\ts.map (·.2)=xs.map (·.2)/\∀q∈ts,Pl H q.1 q.2:=by
 induction xs with
 |nil=>show λh=>{[],Ϡ h,rfl,nofun}
 |cons x r ih=>
  intro ys h;obtain⟨y,t,rfl,⟨l,rfl,_,a⟩,h'⟩:=d7 h;let⟨ts,c,b,h2⟩:=ih h';show{(l,x.2)::ts,#v[c,0],#v[jK,b,0],cj.mpr {a,(h2)}}
def Md.kp{x:Rw}(h:M s=ι x)(m:Md b f x):xR M s λn=>Rm.tk b (f n):={x,h,m.ok,(m.at_)}
def f?:("add s a b":Str)=Õ (Tx.one 32) ["add","s","a","b"]/\("multiply p a b":Str)=Õ (Tx.one 32) ["multiply","p","a","b"]/\("roll r a b":Str)=Õ (Tx.one 32) ["roll","r","a","b"]/\("sum t a":Str)=Õ (Tx.one 32) ["sum","t","a"]/\("scale n a ":Str) = "scale" ++ (Tx.one 32++("n" ++ (Tx.one 32++("a" ++ Tx.one 32))))/\("scale n a ":Str)[_]=10:=0.0
def Vc(r u:Rw)(x:Int):List Ub:=[("add s a b","s",Md r.b (CG r.at u.at)),("multiply p a b","p",Md r.b (Bw r.at u.at)),("roll r a b","r",Md r.b (AH r.at u.at)),("scale n a " ++ au x,"n",Md r.b λn=>Rm.tk r.b x*r.at n),("sum t a","t",Md r.b λn=>Pm.sm (n+1) r.at)]
def aQv(T:ϔ M r u)(hx:-9<=x/\x<=9):∀q∈Vc r u x,Vu C p d M q:=by
 ext n m l j i _ f?;let A:∀M':dB,M' "a" = M "a" -> wU M' (.a "a" r):=λM' e=>{m5 0.0,e.trans T.ha};let B:∀M':dB,M' "b" = M "b" -> wU M' (.a "b" u):=λM' e=>{m5 0.0,e.trans T.hb};let two:∀M':dB,M' "a" = M "a" -> M' "b" = M "b" -> ∀y∈([.a "a" r,.a "b" u]:List Wa),wU M' y:=λM' b g=>cj.mpr {A M' b,cj.mpr {B M' g,nofun}};let c:x.natAbs<10^60:=jD (0.9:x.natAbs<=9) 0.0;let f:∀{w:Str},(w,(["NEW","A","A"]:List Str))∈G6->jT w ["NEW","A","A"]:=λh=>oh h;show cj.mpr {?_,cj.mpr {?_,cj.mpr {?_,cj.mpr {?_,cj.mpr {?_,nofun}}}}}
 .exact wH (k:=.add) (w:="add") (was:=[.a "a" r,.a "b" u]) rfl n 0.0 (f 0.0) (0.3:2<=19) 0.0 two (.add T.ra.sm T.rb.sm T.e)
 .exact wH (k:=.multiply) (w:="multiply") (was:=[.a "a" r,.a "b" u]) rfl m 0.0 (f 0.0) (0.3:2<=19) 0.0 two (.multiply T.ra.sm T.rb.sm T.e T.ra.l3 T.rb.l3)
 .exact wH (k:=.roll) (w:="roll") (was:=[.a "a" r,.a "b" u]) rfl l 0.0 (f 0.0) (0.3:2<=19) 0.0 two (.roll T.ra.sm T.rb.sm T.e)
 .exact wH (k:=.scale) (w:="scale") (was:=[.a "a" r,.num x]) rfl (by rw[i];simp only[fR,Wa.word,join_cons,rN,pJ]) 0.0 (show jT "scale" ["NEW","A","NUMBER"]from oh 0.0) (0.3:2<=19) 0.0 (λM' b _=>cj.mpr {A M' b,cj.mpr {c,(nofun)}}) (.scale T.ra.sm (Bd.of ⋯ ⋯))
 .exact wH (k:=.sum) (w:="sum") (was:=[.a "a" r]) rfl j 0.0 (show jT "sum" ["NEW","A"]from oh 0.0) (0.3:1<=19) 0.0 (λM' b _=>cj.mpr {A M' b,nofun}) (.sum T.ra.sm)
def Qm(r u:Rw)(x:Int):List (Str×(Nat->Int)):=[("s",λn=>Rm.tk r.b (CG r.at u.at n)),("p",λn=>Rm.tk r.b (Bw r.at u.at n)),("r",λn=>Rm.tk r.b (AH r.at u.at n)),("n",λn=>Rm.tk r.b (Rm.tk r.b x*r.at n)),("t",λn=>Rm.tk r.b (Pm.sm (n+1) r.at))]
def aKi(h:∀q∈Vc r u x,∃y,M' q.2.1=ι y/\q.2.2 y):∀q∈Qm r u x,xR M' q.1 q.2:=by
 let k:∀{s:Str} {f:Nat->Int},(∃y,M' s=ι y/\Md r.b f y)->xR M' s λn=>Rm.tk r.b (f n):=λ⟨_,e,m⟩=>Md.kp e m;let⟨h1,h⟩:=cj.mp h;let⟨h2,h⟩:=cj.mp h;let⟨h3,h⟩:=cj.mp h;let⟨h4,h⟩:=cj.mp h;let⟨a,h⟩:=cj.mp h;show cj.mpr {k h1,cj.mpr {k h2,cj.mpr {k h3,cj.mpr {k h4,cj.mpr {k a,nofun}}}}}
def aOl(T:ϔ M r u)(hx:-9<=x/\x<=9)(hn:n<40):∀q∈Qm r u x,F6 (q.2 n):=by
 let hB:=T.ra.sm.wf.hB;let f:∀{y:Int},Bd 1000 y->F6 (Rm.tk r.b y):=λh=>F6.bd (yJ hB 0.3 h) 0.3;let a:∀i,i<40->Bd 210 (r.at i):=λi hi=>(T.ra.bd i).mono ⋯;let c:∀i,i<40->Bd 210 (u.at i):=λi hi=>(T.rb.bd i).mono ⋯;let d:Bd 10 (Rm.tk r.b x):=yJ hB 0.3 (Bd.of ⋯ ⋯);show cj.mpr {f (((a n hn).add (c n hn)).mono 0.3),cj.mpr {f (((a n hn).mul (c n hn)).mono 0.3),cj.mpr {f ((vW (n+1) λi hi=>(a i ⋯).mul (c (n-i) 0.7)).mono ⋯),cj.mpr {f ((d.mul (a n hn)).mono 0.3),cj.mpr {f ((vW (n+1) λi hi=>a i ⋯).mono ⋯),nofun}}}}}
inductive awV(C:Æ)(vs:τ)(H:Hp)(Q:VK)(E:XK):Prop|mk(p d l1 l2:Æ)(x:Int)(M:dB)(N:Nat)(r u:Rw)(_:vs=[.ref p,.int r.b,.ref l1,.ref l2,.int x])(_:fH C H p d M N)(_:N<=50)(_:ϔ M r u)(_:Pl H l1 r.at)(_:Pl H l2 u.at)(_:(-9<=x/\x<=9))(_:∀H' M',jd d H H'->fH C H' p d M' (N+5)->ϔ M' r u->Q (.bl true) H')
abbrev L6(P w K mg base cN):=mW P w K mg base "_law_mixed" 18 ["_law_desk","_law_by_here","_law_first","_law_second","_law_number_here"] (awV cN)
end
def EN(hD:fH C H p d M N)(hN:N<=100)(Y:t=Õ (Tx.one 32) ["part",U,O])(n1:U∈Ab)(n2:O∈Ab)(m1:M U=ι r)(m2:M O=ι u)(h1:Sm 10 r)(h2:Sm 10 u)(e:r.b=u.b)(q:∀H',Same H H'->Q (.str (Ϯ (BK r u))) H'):DG C [.ref p,.str t] H Q E:=
 v7 hD hN (was:=[.a U r,.a O u]) Y 0.0 (show jT "part" ["A","A"]from oh 0.0) (0.3:2<=20) (cj.mpr {{m5 n1,m1},cj.mpr {{m5 n2,m2},nofun}}) (.tell (k:=.part) (.part (h1.mono 0.3) (h2.mono 0.3) e) λt H' Y g=>#v[Y,!q H' g])
section
variable {K:aH}{H:Hp}{b:Str}{Q:VK}{M:dB}{x n bot:Int}{r:Rw}{ah:ζ}{c:Nat}{ps:List (Int×ζ)}
def Ca(e:a=b)(q:Q (.bl (g true)) H):rM K g (.str a) (.str b) H Q:=by
 show Q (.bl (g (decide (a=b)))) H;rw[É e,!q]
def JP:("part a b":Str)=Õ (Tx.one 32) ["part","a","b"]/\("part a h":Str)=Õ (Tx.one 32) ["part","a","h"]:=0.0
inductive aK5(C:Æ)(vs:τ)(H:Hp)(Q:VK)(E:XK):Prop|mk(p d l1 l2:Æ)(M:dB)(N:Nat)(r u:Rw)(_:vs=[.ref p,.ref l1,.ref l2])(_:fH C H p d M N)(_:N<=100)(_:ϔ M r u)(_:Pl H l1 r.at)(_:Pl H l2 u.at)(_:∀H',Same H H'->Q (.bl true) H')
abbrev RY(P w K mg base cN):=mW P w K mg base "_law_part_right" 17 ["_law_desk","_law_first","_law_second"] (aK5 cN)
def xR.congr(h:xR M s f)(e:∀n,f n=g n):xR M s g:=by
 ext r h1 h2 h3 h;show{r,h1,h2,λn=>(h3 n).trans (e n)}
def JU:("every e a ":Str) = "every" ++ (Tx.one 32++("e" ++ (Tx.one 32++("a" ++ Tx.one 32))))/\("on o a ":Str) = "on" ++ (Tx.one 32++("o" ++ (Tx.one 32++("a" ++ Tx.one 32))))/\("short h a":Str)=Õ (Tx.one 32) ["short","h","a"]/\("ahead d a ":Str) = "ahead" ++ (Tx.one 32++("d" ++ (Tx.one 32++("a" ++ Tx.one 32))))/\("every e a ":Str)[_]=10/\("on o a ":Str)[_]=7/\("ahead d a ":Str)[_]=10/\(" ":Str)[_]=1:=0.0
def GL(r:Rw)(S E:Nat)(a:ζ):List Ub:=[("every e a " ++ au (S:Int)++ " " ++ au (E:Int),"e",Md r.b λn=>r.at (S+E*n)),("on o a " ++ au (S:Int),"o",Md r.b λn=>r.at (n+S)),("short h a","h",λx=>Sm 10 x/\x.b=r.b/\∀n,x.at n=r.at n),("ahead d a " ++ jC a,"d",Md r.b (j8 a r.at))]
def aGA(a:Str):Õ (Tx.one 32) (a::(x::t).map au)=a++(Tx.one 32++jC (x::t)):=by
 rw[jK,join_cons,pJ,0]
def aNE(hm:M "a"=ι r)(R:R3 r)(Y:O<=5)(hE:1<=E/\E<=3)(U:1<=ah[_]/\ah[_]<=3)(ha:∀x∈ah,Bd 10 x/\Rm.tk r.b x=x):∀q∈GL r O E ah,Vu C p d M q:=by
 ext G D B z _ JU;let A:∀M':dB,M' "a" = M "a" -> wU M' (.a "a" r):=λM' e=>{m5 0.0,e.trans hm};let i:∀n:Nat,n<=1024->(n:Nat)[0].natAbs<10^60:=λn h=>jD (0.6:((n:Nat):Int).natAbs<=1024) 0.0;let w:∀{n:Nat} {M':dB},n<=5->wU M' (.num (n:Int)):=λh=>i _ ⋯;show cj.mpr {?_,cj.mpr {?_,cj.mpr {?_,cj.mpr {?_,nofun}}}}
 .exact wH (k:=.every) (w:="every") (was:=[.a "a" r,.num O,.num E]) rfl (by rw[G,jM];simp only[fR,Wa.word,join_cons,rN,pJ]) 0.0 (show jT "every" ["NEW","A","NUMBER","NUMBER"]from oh 0.0) (0.3:3<=19) 0.0 (λM' g _=>cj.mpr {A M' g,cj.mpr {w Y,cj.mpr {w ⋯,nofun}}}) (.every (v:=O[0]) (y:=E[0]) R.sm {0.6,⋯,⋯,⋯})
 .exact wH (k:=.on) (w:="on") (was:=[.a "a" r,.num O]) rfl (by rw[D];simp only[fR,Wa.word,join_cons,rN,pJ]) 0.0 (show jT "on" ["NEW","A","NUMBER"]from oh 0.0) (0.3:2<=19) 0.0 (λM' g _=>cj.mpr {A M' g,cj.mpr {w Y,nofun}}) (.on R.sm ⋯)
 .exact wH (k:=.short) (w:="short") (was:=[.a "a" r]) rfl B 0.0 (show jT "short" ["NEW","A"]from oh 0.0) (0.3:1<=19) 0.0 (λM' g _=>cj.mpr {A M' g,nofun}) (.short R.sm)
 .let u:ah.map (Rm.tk r.b)=ah:=(jx λx hx=>(ha x hx).2).trans (Fy _);let ok:oW .ahead (.a "a" r::ah.map .num) (Md r.b (j8 ah r.at)):=by
   let:=oW.ahead (s:="a") (l:=ah) R.sm ⋯ λx hx=>(ha x hx).1.mono 0.3
   rwa [u]at this
  show wH (k:=.ahead) (w:="ahead") (was:=.a "a" r::ah.map .num) rfl ?_ 0.0 ?_ #v[gh,aA] 0.0 (λM' g _=>cj.mpr {A M' g,λy hy=>?_}) ok
  .let o:(ah.map Wa.num).map Wa.word=ah.map au:=#v[dh,0]
   rw[jK,o,z,join_cons,join_cons];cases ah with
   |nil=>show È U.1 0.3
   |cons x t=>rw[show Wa.word (Wa.a "a" r) = "a" from rfl,aGA];simp only[pJ]
  .let v:(ah.map Wa.num).map Wa.kind=dN ah[_] ("NUMBER":Str):=#v[dh,!List.map_const']
   rw[jK,v,show Wa.kind (Wa.a "a" r) = "A" from rfl];let f:∀m,1<=m->m<=3->jT "ahead" (("NEW":Str) :: "A" :: dN m ("NUMBER":Str)):=λm h1 h2=>by
    show{["NEW","A","NUMBER"],{0.0,?_},?_}
    .rw[gh,gh,Gk];by_cases c:m=1
     .exact .inl #v[c,0]
     .exact .inr {rfl,by show 3<m+1+1;lia,by show m+1+1<3+12;lia}
    .rw[gh,gh,Gk];obtain⟨j,rfl⟩:∃j,m=j+1:={m-1,0.6};rw[show j+1+1+1-(["NEW","A","NUMBER"]:List Str)[_]=j from gU (m:=3) ..,0]
   show f _ U.1 U.2
  .obtain⟨x,hx,rfl⟩:=bN.mp hy;show gY (ha x hx).1 0.0
def aS6(h:ah[_]<=40):(ah++aD 40 r.at).take 40=aD 40 (j8 ah r.at):=qT #v[jg,fJ,bZ,bZ] λk=>by
 rw[dH];split
 .rename_i hk
  unfold Pm.co j8;rw[À,ø hk,<-À,!Pm.co _ k=_];rw[kZ,dH];split
  .rfl
  .rw[Á ⋯]
 .rw[bK #v[jg]]
inductive axz(C:Æ)(vs:τ)(H:Hp)(Q:VK)(E:XK):Prop|mk(p d l1:Æ)(n:Int)(M:dB)(N:Nat)(r:Rw)(_:vs=[.ref p,.int r.b,.ref l1,.int n])(_:fH C H p d M N)(_:N<=50)(_:M "a"=ι r)(_:R3 r)(_:Pl H l1 r.at)(_:0<=n)(_:∀H' M',jd d H H'->fH C H' p d M' (N+4)->M' "a"=ι r->Q (.bl true) H')
abbrev CH(P w K mg base cN):=mW P w K mg base "_law_moved" 18 ["_law_desk","_law_by_here","_law_first","_law_number_here"] (axz cN)
theorem kq{c:Nat}(hc:c∉y[8]):∀{ws:List Str},(∀w∈ws,c∉w[8])->c∉(Õ y ws)[8]
 |[],_=>by show c∉(#[]:Array Nat).toList;simp
 |[w],h=>h w 0.1
 |w::v::r,h=>by
  let a:=kq hc λz hz=>h z (gW _ hz);let hw:=h w 0.1;rw[join_cons,Ii,Ii,Gz,Gz];intro z;rcases iz.mp z with z|z
  .exact(iz.mp z).elim hw hc
  .exact a z
def Km(h1:c≠45)(h2:¬(48<=c/\c<=57)):c∉(au n)[8]:=λh=>by rcases HN n c h with z|z<;>simp_all
def He(h0:c≠32)(h1:c≠45)(h2:¬(48<=c/\c<=57)):c∉(jC ns)[8]:=kq (by show c∉[32];simpa using h0) λw hw=>by
 let⟨n,_,rfl⟩:=bN.mp hw;show Km h1 h2
def TZ:Tx.Sep (": ":Str) 58 [32]:={0.0,0.3,0.0}
def aJj:Tx.Sep ("; ":Str) 59 [32]:={0.0,0.3,0.0}
def aMG(p:Int×ζ):59∉(jm p)[8]:=by
 unfold jm;rw[Ii,Ii,Gz,Gz,TZ.eq];intro z;rcases iz.mp z with z|z
 .exact(iz.mp z).elim (Km 0.3 0.3) 0.1
 .exact He 0.3 0.3 0.3 z
def aFV(h:∀x∈ns,F6 x):(jC ns)[_]<=ns[_]*602:=by
 let h1:=AF (Tx.one 32) (ns.map au);let h2:=BX (B:=601) (ns.map au) λv hv=>by
  let⟨x,hx,rfl⟩:=bN.mp hv;show(qu (h x hx)).2
 rw[show(Tx.one 32)[_]=1 from rfl]at h1;rw[aA]at h1 h2;unfold jC;lia
structure G_(bot:Int)(ps:List (Int×ζ)):Prop where
 b:F6 bot
 l:ps[_]<=4
 p:∀p∈ps,F6 p.1/\Bd 10 p.1/\(p.2≠[]/\p.2[_]<=4)/\∀x∈p.2,F6 x/\Bd 1990 x
def xM.c6(h:xM bot ps):G_ bot ps:={F6.bd h.1 0.3,h.2.1,λp hp=>by
 obtain⟨a,⟨b,c⟩,d⟩:=h.2.2 p hp;show{F6.bd a 0.3,a,{λz=>by rw[z]at b;show È b 0.3,c},λx hx=>{F6.bd (d x hx) 0.3,d x hx}}}
def azg(h:G_ bot ps):(∀p∈ps,(jm p)[_]<=3100)/\(wK bot ps)[_]<=20000:=by
 let k:∀p∈ps,(jm p)[_]<=3100:=λp hp=>by
  obtain⟨a,_,⟨_,c⟩,d⟩:=h.p p hp;let:=aFV λx hx=>(d x hx).1;let:=(qu a).2;unfold jm;rw[m9,m9,FQ.1,1]
 show{k,?_};let h1:=AF (eZ "; ") (au bot::ps.map jm);let h2:=BX (B:=3100) (au bot::ps.map jm) (cj.mpr {cD (qu h.b).2 0.3,λv hv=>by
  let⟨p,hp,rfl⟩:=bN.mp hv;show k p hp})
 rw[FQ.2,gh,aA]at h1;rw[gh,aA]at h2;let:=h.l;unfold wK;lia
def GY(p:Int×ζ)(n:Nat):Int:=p.1^n*Pm.sm p.2[_] λj=>Pm.co p.2 j*(n:Int)^j
def ayx(xs:ζ)(x:Int):(xs++[x]).sum=xs.sum+x:=#v[YJ,2]
inductive aV9(vs:τ)(H:Hp)(Q:VK)(E:XK):Prop|mk(l1:Æ)(r:Rw)(z:Int)(y:List (Int×ζ))(_:vs=[.str (wK z y),.ref l1])(_:xM z y)(_:VB r z y)(_:Pl H l1 r.at)(_:R3 r)(_:∀H',Same H H'->Q (.bl true) H')
def aDV(x y:Int):m6 y.natAbs (x.fmod y).natAbs=m6 x.natAbs y.natAbs:=by
 let k:∀d:Nat,(d:Int)∣y->((d:Int)∣x.fmod y↔(d:Int)∣x):=λd h=>by
  rw[Int.fmod_def];let h':(d:Int)∣y*x.fdiv y:=Int.dvd_mul_of_dvd_left h;show{λz=>by let:=uL z h';rwa [Int.sub_add_cancel]at this,λz=>Int.dvd_sub z h'}
 show BS (rk ?_ (EB ..)) (rk (Hu ..) ?_)
 .exact vN.mp ((k _ (vN.mpr (EB ..))).mp (vN.mpr (Hu ..)))
 .exact vN.mp ((k _ (vN.mpr (Hu ..))).mpr (vN.mpr (EB ..)))
def aWB{y:Int}(h:y≠0):(x.fmod y).natAbs<y.natAbs:=by
 rw[Int.fmod_eq_emod];let h0:=pW x h;let h1:=Int.emod_lt x h;split
 .lia
 .rename_i c
  let:x%y≠0:=λz=>c (.inr (Hv z));grind -ring
def T6(e:a=b)(q:Q (.bl (g true)) H):tC (V.str b) σ H λy H2=>rM K g (V.str a) y H2 Q:=Ca (K:=K) e q
def Df(e:a≠b)(q:Q (.bl (g false)) H):tC (V.str b) σ H λy H2=>rM K g (V.str a) y H2 Q:=by
 show Q (.bl (g (decide (a=b)))) H;rw[Ì e,!q]
def Ih{b:Int}(e:a=b)(q:Q (.bl (g true)) H):rM K g (.int a) (.int b) H Q:=by
 show Q (.bl (g (decide (a=b)))) H;rw[É e,!q]
def aBI:("rest q a ":Str) = "rest" ++ (Tx.one 32++("q" ++ (Tx.one 32++("a" ++ Tx.one 32))))/\("divides a ":Str) = "divides" ++ (Tx.one 32++("a" ++ Tx.one 32))/\(" 3 2":Str)=Tx.one 32++(au 3++(Tx.one 32++au 2))/\("divisor a":Str)=Õ (Tx.one 32) ["divisor","a"]/\("closed a":Str)=Õ (Tx.one 32) ["closed","a"]/\("rest q a ":Str)[_]=9/\("divides a ":Str)[_]=10/\(" 3 2":Str)[_]=4:=0.0
def aUZ:∃P:Nat,([2,3,5,7]:ζ).getD (n%4).toNat 0=P[0]/\cZ P/\2<=P/\P<=7:=by
 let pr:∀p,p∈[2,3,5,7]->cZ p:=λp hp=>cz ((0.0:∀p∈[2,3,5,7],p∈Er) p hp);obtain h|h|h|h:(n%4).toNat=0∨(n%4).toNat=1∨(n%4).toNat=2∨(n%4).toNat=3:=⋯
 .exact{2,#v[h,0],pr _ 0.3,0.3,0.3}
 .exact{3,#v[h,0],pr _ 0.3,0.3,0.3}
 .exact{5,#v[h,0],pr _ 0.3,0.3,0.3}
 .exact{7,#v[h,0],pr _ 0.3,0.3,0.3}
inductive aOA(C:Æ)(vs:τ)(H:Hp)(Q:VK)(E:XK):Prop|mk(p d l1:Æ)(n:Int)(M:dB)(N:Nat)(r:Rw)(_:vs=[.ref p,.ref l1,.int n])(_:fH C H p d M N)(_:N<=90)(_:M "a"=ι r)(_:R3 r)(_:r.b=0)(_:Pl H l1 r.at)(_:0<=n)(_:∀H',Q (.bl true) H')
abbrev w?(P w K mg base cN):=mW P w K mg base "_law_exact" 18 ["_law_desk","_law_first","_law_number_here"] (aOA cN)
end
open PySem.NumText in
section
variable {P:Nat->Bool}{ln:Nat}{L es ss:ζ}{n:Int}{K:aH}{a:Æ}{xs:τ}{H:Hp}
def aK6(h:∀c∈y[8],c=45∨(48<=c/\c<=57)):PySem.intText? (Tx.one 32++y)=PySem.intText? y:=by
 let⟨f,d⟩:=numText_signs h;let e:(Tx.one 32++y)[8]=32::y[8]:=#v[Ķ,Gz,0]
 let b:Ź (Tx.one 32++y)=32::y[8]:=by
  unfold Ź;rw[Á (Array.all_eq_true_iff_forall_mem.mpr λc hc=>by
   rw[<-OR,e]at hc;rcases fj.mp hc with rfl|hc
   .decide
   .let:=h c hc;show É ⋯),e]
 let g:ź (Tx.one 32++y)=32::ź y:=by
  show(Ź _).takeWhile _=_;rw[b,List.takeWhile_cons_of_pos 0.3,!_=32::(Ź y).takeWhile _];rw[f]
 let a:(32::ź y).dropWhile blank=(ź y).dropWhile blank:=List.dropWhile_cons_of_pos 0.3;unfold PySem.intText?;rw[b,g,f,d];unfold core;rw[d]at a;rw[a,2]
theorem Va(u v w:Str)(bs:List Str):∀as:List Str,Õ (Tx.one 32) (as++[u])++v++Õ (Tx.one 32) (w::bs)=Õ (Tx.one 32) (as++(u++v++w)::bs)
 |[]=>by
  rw[uf,uf,rN];cases bs with
  |nil=>rw[rN,rN]
  |cons b r=>rw[join_cons,join_cons];simp only[pJ]
 |[a]=>by
  let c:=Va u v w bs [];rw[uf,uf]at c;rw[CJ,uf,CJ,uf,join_cons,join_cons,<-c];simp only[pJ]
 |a::a'::r=>by
  let c:=Va u v w bs (a'::r);simp only[CJ]at c⊢;rw[join_cons,join_cons,<-c];simp only[pJ]
def Sx(x:Str):("":Str)++x=x:=PySem.Str.empty_append x
def SI(x:Str):x++("":Str)=x:=PySem.Str.append_empty x
def aFo(b a:ζ)(n:Int):FP b a n=Õ Tx.bar [Õ (Tx.one 32) (b.map au++[("":Str)]),Õ (Tx.one 32) (("":Str)::(a.map au++[("":Str)])),Õ (Tx.one 32) [("":Str),au n]]:=by
 rw[join_cons,join_cons,show Õ Tx.bar [Õ (Tx.one 32) [("":Str),au n]]=Õ (Tx.one 32) [("":Str),au n]from rfl];let c:=Va ("":Str) Tx.bar ("":Str) [au n] (("":Str)::a.map au);rw[Sx,SI,CJ,CJ]at c;rw[c];let d:=Va ("":Str) Tx.bar ("":Str) (a.map au++[Tx.bar,au n]) (b.map au);rw[Sx,SI]at d;rw[d,0]
structure Gp(es ss:ζ)(ln:Nat)(L:ζ):Prop where
 nd:L.Nodup
 mem:∀x,x∈L↔x∈es∨∃s∈ss,∃k:Nat,x=s+k[0]*ln[0]/\x<40
def Gp.step(h:Gp (cW P 0 bg) ((cW P bg ln).take i) ln L)(O:(cW P bg ln)[i]?=ι s)(hp:0<ln)(U:∀k:Nat,k<m↔s+k[0]*ln[0]<40):Gp (cW P 0 bg) ((cW P bg ln).take (i+1)) ln (L++(zx 0 m).map λk:Nat=>s+k[0]*ln[0]):=by
 let r:(cW P bg ln).take (i+1)=(cW P bg ln).take i++[s]:=#v[zp,O,0]
 let c:∀t∈cW P bg ln,∃j:Nat,(bg<=j/\j<bg+ln)/\t=(j:Int):=λt ht=>by
  let⟨j,f,_,e⟩:=yh.mp ht;show{j,f,(e)}
 let inj:∀{t t':Int} {k k':Nat},t∈cW P bg ln->t'∈cW P bg ln->t+k[0]*ln[0]=t'+k'[0]*ln[0]->t=t':=λ{t t' k k'} ht o e=>by
  let⟨j,f,rfl⟩:=c t ht;let⟨g,d,rfl⟩:=c t' o;let:j+k*ln=g+k'*ln:=by
   let w:((j+k*ln:Nat):Int)=(g+k'*ln:Nat)[0]:=by push_cast;show e
   lia
  rw[aUG f d this]
 let p:=Ð O;show{Yw.mpr {h.nd,?_,?_},λx=>?_}
 .refine dC.mpr ((List.pairwise_lt_range' (s:=0) (n:=m)).imp ?_);intro a b q z;let v:(a:Int)*ln=b*ln:=0.6;let:=Int.mul_lt_mul_of_pos_right (0.8:(a:Int)<b) (0.8:(0:Int)<ln);simp_all
 .intro x hx y hy z;subst z;let⟨k,_,rfl⟩:=bN.mp hy;rcases(h.mem _).mp hx with hx|⟨t,ht,k',e,_⟩
  .obtain⟨j,f,_,e⟩:=yh.mp hx;let⟨g,d,rfl⟩:=c s p;let:(0:Int)<=k[0]*ln:=MA 0.6 0.6;lia
  .let u:=inj p (UU ht) e;subst u;let nd:=Qi (Ka P bg ln);rw[<-x9 i (cW P bg ln)]at nd;show(Yw.mp nd).2.2 _ ht _ (Ð (i:=0) #v[č,!O]) rfl
 .rw[iz,h.mem,r,bN];constructor
  .rintro((hx|⟨t,ht,k,e,l⟩)|⟨k,hk,rfl⟩)
   .exact .inl hx
   .exact .inr {t,Q6 _ ht,k,e,l}
   .let:=(U k).mp (let:=kK.mp hk;⋯);show .inr {s,0.1,k,rfl,this}
  .rintro(hx|⟨t,ht,k,e,l⟩)
   .exact .inl (.inl hx)
   .rcases iz.mp ht with ht|ht
    .exact .inl (.inr {t,ht,k,e,(l)})
    .rw[iI.mp ht]at e;show .inr {k,kK.mpr {dz _,let:=(U k).mpr 0.6;0.8},e.symm}
def Gp.fin(h:Gp (cW P 0 bg) (cW P bg ln) ln L)(hp:0<ln)(per:∀s,bg<=s->∀k,P (s+k*ln)=P s):(L.filter λx=>decide (x<40)).Nodup/\∀x,x∈L.filter (λx=>decide (x<40))↔x∈cW P 0 40:=by
 show{h.nd.filter _,λx=>?_};rw[pD,h.mem,yh,yh];constructor
 .rintro⟨⟨j,d,a,rfl⟩|⟨s,b,k,e,l⟩,lt⟩
  .let:=of_decide_eq_true lt;show{j,⋯,a,rfl}
  .obtain⟨j,d,a,rfl⟩:=yh.mp b;let f:x=(j+k*ln:Nat)[0]:=by push_cast;show e
   show{j+k*ln,0.8,#v[per j d.1,a],f}
 .rintro⟨j,d,a,rfl⟩;show{?_,É ⋯};by_cases c:j<bg
  .exact .inl {j,0.6,a,rfl}
  .obtain⟨s,k,b,e⟩:=azi hp (0.6:bg<=j);show .inr {s[0],yh.mpr {s,b,#v[-per s b.1 k,-e,!a],rfl},k,?_,⋯};rw[e];push_cast;rfl
def IP(h:∀x∈ns,x.natAbs<10^60)(O:ns[_]<=1000):PN (Õ (Tx.one 32) (ns.map au++[("":Str)])) ns/\PN (Õ (Tx.one 32) (("":Str)::(ns.map au++[("":Str)]))) ns:=by
 let a:∀x∈ns,x.natAbs<10^600:=λx hx=>gY (h x hx) (mX 0.3 0.3);let c:∀w∈ns.map au++[("":Str)],32∉w[8]/\w[_]<=61:=λw hw=>by
  rcases iz.mp hw with hw|hw
  .obtain⟨n,hn,rfl⟩:=bN.mp hw;show{ab,oH (h n hn)}
  .rw[iI.mp hw];decide +kernel
 let f:(ns.map au++[("":Str)]).filter (λz=>!decide (z=("":Str)))=ns.map au:=by
  rw[WK,PU a,show[("":Str)].filter (λz=>!decide (z=("":Str)))=[]by decide +kernel,sU]
 show{a7 0.1 f c 0.4 0.4 a,a7 0.1 #v[Rq 0.0,!f] (cj.mpr {0.0,c}) 0.4 0.4 a}
def aVm:wj (FP es ss n) Tx.bar=[Õ (Tx.one 32) (es.map au++[("":Str)]),Õ (Tx.one 32) (("":Str)::(ss.map au++[("":Str)])),Õ (Tx.one 32) [("":Str),au n]]:=by
 let o:∀{ws:List Str},(∀w∈ws,w=("":Str)∨∃n:Int,w=au n)->124∉(Õ (Tx.one 32) ws)[8]:=λ{ws} h=>kq (0.3:124∉[32]) λw hw=>by
  rcases h w hw with rfl|⟨n,rfl⟩
  .decide +kernel
  .exact Km 0.3 0.3
 let m:∀{ns:ζ},∀w∈ns.map au++[("":Str)],w=("":Str)∨∃n:Int,w=au n:=λ{ns} w hw=>by
  rcases iz.mp hw with hw|hw
  .obtain⟨n,_,rfl⟩:=bN.mp hw;show .inr {n,(rfl)}
  .exact .inl (iI.mp hw)
 rw[aFo,!GR (c:=124) 0.3 0.1 (cj.mpr {o m,cj.mpr {o (cj.mpr {.inl rfl,m}),cj.mpr {o (cj.mpr {.inl rfl,cj.mpr {.inr {n,(rfl)},nofun}}),nofun}}})]
def aIl(h1:∀x∈es,x.natAbs<10^60)(h2:∀x∈ss,x.natAbs<10^60)(h3:n.natAbs<10^60)(O:es[_]+ss[_]<=1000):(FP es ss n)[_]<=100000:=by
 let a:=AF (Tx.one 32) (es.map au++Tx.bar::(ss.map au++[Tx.bar,au n]));let k2:=BX (B:=61) (es.map au++Tx.bar::(ss.map au++[Tx.bar,au n])) λw hw=>by
  rcases iz.mp hw with hw|hw
  .obtain⟨x,hx,rfl⟩:=bN.mp hw;show oH (h1 x hx)
  rcases fj.mp hw with rfl|hw
  .decide
  rcases iz.mp hw with hw|hw
  .obtain⟨x,hx,rfl⟩:=bN.mp hw;show oH (h2 x hx)
  rcases fj.mp hw with rfl|hw
  .decide
  .rw[iI.mp hw];show oH h3
 rw[show(Tx.one 32)[_]=1 from rfl]at a;simp only[fJ,aA,gh,Wl]at a k2;unfold FP;lia
def aEu:("round a":Str)=Õ (Tx.one 32) ["round","a"]/\("where a ":Str) = "where" ++ (Tx.one 32++("a" ++ Tx.one 32))/\("where a ":Str)[_]=8:=0.0
def Ts{n:Nat}(h:lo+n<=1000):∀x∈cW p lo n,x.natAbs<10^60:=λx hx=>by
 let⟨j,a,_,rfl⟩:=yh.mp hx;show jD (0.8:((j:Nat):Int).natAbs<=1000) 0.0
inductive aUP(C:Æ)(vs:τ)(H:Hp)(Q:VK)(E:XK):Prop|mk(p d l1:Æ)(n:Int)(M:dB)(N:Nat)(r:Rw)(_:vs=[.ref p,.int r.b,.ref l1,.int n])(_:fH C H p d M N)(_:N<=90)(_:M "a"=ι r)(_:R3 r)(_:0<r.b)(_:Pl H l1 r.at)(_:∀H',Q (.bl true) H')
abbrev w_(P w K mg base cN):=mW P w K mg base "_law_rounds" 18 ["_law_desk","_law_by_here","_law_first","_law_number_here"] (aUP cN)
def ay1{b:Æ}{ys:τ}{g:TG}{j:TS}{D:Ends}{σ:St}(Pv:Nat->St->Hp->Prop)(h0:Pv 0 σ H)(hq:∀i O H',Pv i O H'->aj K H' a xs/\aj K H' b ys)
  (Y:∀(i:Nat)(x y:V)(O:St)(H':Hp)(p:Æ),xs[i]?=ι x->ys[i]?=ι y->Pv i O H'->H' p=ν->g (.ref p) O (upd H' p (.tup [x,y])) λU H2=>j (D.lp (Pv (i+1))) U H2)
  (hd:∀O H',Pv (min xs[_] ys[_]) O H'->D.nx O H'):
  ∃W:Nat->Nat->St->Hp->Prop,(∃m,W 0 m σ H)/\∀i m σ H,W i m σ H->
   ((JC K a b).stop i H/\D.nx σ H)∨((JC K a b).go i H/\∃N:St->Hp->Prop,(∀O H',N O H'->∃m',m'<m/\W (i+1) m' O H')/\∀x H',(JC K a b).nM i H x H'->g x σ H' λU H2=>j (D.lp N) U H2):=by
 show{λi m O H'=>m=xs[_]-i/\i<=min xs[_] ys[_]/\Pv i O H',{xs[_],0.1,dz _,h0},?_};rintro i m O H' ⟨rfl,hi,pv⟩;let⟨f,d⟩:=hq i O H' pv;by_cases c:i<xs[_]/\i<ys[_]
 .let hx:xs[i]?=ι xs[i]:=Ä c.1;let hy:ys[i]?=ι ys[i]:=Ä c.2;show .inr {{xs,ys,_,_,f,d,hx,hy},Pv (i+1),λU H2 n=>{xs[_]-(i+1),0.7,rfl,⋯,n},?_};rintro v H2 ⟨p,x,y,rfl,hp,rfl,l,k⟩;show Y i x y O H' p (l xs f) (k ys d) pv hp
 .let e:i=min xs[_] ys[_]:=⋯;show .inl {{xs,ys,f,d,⋯},hd O H' ?_};rw[<-e,!pv]
def aj.sd(g:jd d H H')(hd:H d=ι (.dK O))(h:aj K H a xs):aj K H' a xs:=by
 rcases h with(h|⟨u,h⟩)|h
 .exact .inl (.inl (g a _ (v9 h hd nofun) h))
 .exact .inl (.inr {u,g a _ (v9 h hd nofun) h})
 .exact .inr h
def Sm.t8(h:Sm 10 r):T8 r:=
 {h.wf.len,cD h.wf.l4 0.3,h.wf.hB.lo,h.wf.hB.hi,h.wf.hB.pr,h.wf.uD,h.wf.pL,λx hx=>gY (h.jh x hx) 0.0,λx hx=>gY (h.kE x hx) 0.0}
def VQ:("row ":Str) = "row" ++ Tx.one 32/\("show ":Str) = "show" ++ Tx.one 32/\("row ":Str)[_]=4/\("show ":Str)[_]=5/\(" ":Str)[_]=1/\("at a 17":Str)=Õ (Tx.one 32) ["at","a",au (17:Nat)[0]]:=0.0
end
def UX(h:ws≠[]):ui (Tx.one 32) (a::ws)=a++(Tx.one 32++ui (Tx.one 32) ws):=by
 cases ws with
 |nil=>show È rfl h
 |cons w r=>rw[join_cons,pJ]
def aKC(U:fH C H p d M N)(hN:N<=100)(O:tK s)(t8:T8 r)(q:∀H',jd d H H'->fH C H' p d (M.put s r) (N+1)->Q (.str "ok") H'):DG C [.ref p,.str ("row " ++ s++ " " ++ txt r)] H Q E:=by
 ext l _ f _ s3 _ VQ;let j:("row ":Str)++s++ " " ++ txt r=ui (Tx.one 32) ("row" :: s::Tx.wordsOf r.b r.ρ r.ς):=by
  rw[UX 0.1,UX ae,l,jM];unfold txt Tx.textOf;simp only[pJ]
 let i:(("row ":Str)++s++ " " ++ txt r)[_]<=100000:=by
  rw[m9,m9,m9,f,s3];let:=t8.X4;let:=O.hi;lia
 show{p,d,_,"row",[.nw s,.txt r],M,N,rfl,U,hN,{i,.inr {s,r,t8,rfl,?_}},oh (kz:=["NEW","TEXT"]) 0.0,by show 2<=20;decide,cj.mpr {O,cj.mpr {t8,(nofun)}},.make (k:=.row) .row λx H' e g a=>by rw[e]at a;show q H' g a};rw[j,!GR (c:=32) 0.3 0.1 (cj.mpr {0.0,cj.mpr {O.clean,λw hw=>WN w hw}})]
def aQ1(Y:fH C H p d M N)(hN:N<=100)(O:tK s)(U:M s=ι r)(h:Sm 480 r)(q:∀H',Same H H'->Q (.str (txt r)) H'):DG C [.ref p,.str ("show " ++ s)] H Q E:=
 v7 Y hN (w:="show") (was:=[.a s r]) (by rw[VQ.2.1];simp only[fR,Wa.word,join_cons,rN,pJ]) 0.0 (show jT "show" ["A"]from oh 0.0) (0.3:1<=20) (cj.mpr {{O,(U)},nofun}) (.tell (k:=.Ai) (.Ai h) λt H' e g=>#v[e,!q H' g])
def Vm:ζ:=[0,0,2,3,5,7,11,13]
def aDZ:∀k<8,Vm.getD k 0∈ό/\Vm.getD k 0<=13:=0.3
def Fp(b:Int):Int:=if 5<b then 2 else 3
def aRJ(b:Int):0<=Fp b/\Fp b<=3/\(5<b->Fp b<=2):=by unfold Fp;split<;>simp[*]
def aKh(b:Int):jE [V.int 3,.int 2] (if decide (b>5)=true then 1 else 0)=(Fp b)[5]:=by
 unfold Fp;by_cases c:5<b
 .rw[Á c,É c,Á rfl];show Ų
 .rw[Â c,Ì c,Â 0.3];show at0
section
variable {P:Þ}{w:Ý}{K:aH}{mg:μ}{base:Û}
variable {tO rT rF cN:Æ}(B:Bt mg)(M:Ms P w K mg base)(D:Dk w K mg tO rT rF cN)
include B M D
abbrev kY:=aQ M "taken" 1 ["by","number"] aBU
abbrev nv:=aQ M "next_place" 2 ["by","rule","before"] (aKS K)
abbrev xK:=aQ M "first_places" 3 ["row","count"] (aCk K)
abbrev cy:=aQ M "is_prime" 1 ["number"] aRk
abbrev HR:=aQ M "prime_above" 2 ["number"] aBj
abbrev Y2:=aQ M "inverse" 2 ["prime","number"] aMp
abbrev av:=aQ M "over" 3 ["by","one","other"] aRP
abbrev Mv:=aQ M "trimmed" 1 ["numbers"] (aIK K)
abbrev OY:=aQ M "number_at" 1 ["poly","k"] axa
abbrev UO:=aQ M "times" 2 ["by","one","other"] aBL
abbrev Ge:=aQ M "divided" 2 ["by","one","other"] RI
abbrev HV:=aQ M "monic" 4 ["prime","poly"] aXd
abbrev xc:=aQ M "greatest" 5 ["by","one","other"] aV4
abbrev mi:=aQ M "nearest" 1 ["modulus","number"] aET
abbrev Bi:=aQ M "joined" 4 ["modulus","number","prime","rest"] aKH
abbrev Nl:=aQ M "taken_poly" 2 ["prime","poly"] aN9
abbrev DT:=aQ M "divides" 3 ["monic_one","poly"] aPn
abbrev YU:=aQ M "whole_greatest" 6 ["one","other"] aM2
abbrev OX:=aQ M "of_rule" 2 ["by","rule"] aK8
abbrev UN:=aQ M "rule_of" 2 ["by","poly"] aTh
abbrev DS:=aQ M "top_of" 2 ["row","poly"] aDn
abbrev UI:=aQ M "shared_divisor" 7 ["by","one","other"] ax7
abbrev ZQ:=aQ M "least_of" 8 ["row"] aGj
abbrev zZ:=aQ M "shortest" 9 ["row"] azy
abbrev Gg:=aQ M "told_row" 10 ["by","rule","starts"] aBX
abbrev kS:=aQ M "sum_place" 1 ["ours","theirs","n"] (qB CG)
abbrev iE:=aQ M "product_place" 1 ["ours","theirs","n"] (qB Bw)
abbrev WV:=aQ M "rolled_place" 1 ["ours","theirs","n"] (qB AH)
abbrev xi:=aQ M "pair_row" 11 ["one","other","rule","pair_place"] (aAy mg)
abbrev Td:=aQ M "shared_by" 1 ["one","other"] aA3
abbrev Nz:=aQ M "refuse_long" 1 ["length"] aPq
abbrev wc:=aQ M "joint_row" 12 ["one","other","pair_place"] (aUO mg)
abbrev Kj:=aQ M "added" 13 ["one","other"] (CC CG)
abbrev Nc:=aQ M "rolled" 13 ["one","other"] (CC AH)
abbrev WQ:=aQ M "behind_first" 1 ["rule","sums","k"] aJW
abbrev Z4:=aQ M "power_sums" 2 ["rule","count"] aNJ
abbrev Y4:=aQ M "rule_of_sums" 2 ["sums"] ax9
abbrev ON:=aQ M "multiplied" 13 ["one","other"] aHL
abbrev rL:=aQ M "refuse_far_steps" 1 ["start","step"] aNN
abbrev CO:=aQ M "every" 11 ["row","start","step"] aIC
abbrev MC:=aQ M "scaled" 11 ["row","number"] aEw
abbrev As:=aQ M "summed" 11 ["row"] aSA
abbrev DA:=aQ M "put_ahead" 11 ["row","numbers"] aJ0
abbrev cX:=aQ M "sum_at" 2 ["by","poly","found","n"] az2
abbrev A7:=aQ M "refuse_far_jump" 1 ["by","n"] axr
abbrev g_:=aQ M "power_left" 3 ["by","poly","n"] aFW
abbrev Zx:=aQ M "jump" 4 ["row","n"] aTC
abbrev OM:=aQ M "onward" 5 ["row","n"] aBG
abbrev Ϲ:=aQ M "place_at" 5 ["row","n"] aQd
abbrev Ht:=aQ M "refuse_prime" 1 ["row"] aEO
abbrev Pf:=aQ M "refuse_far" 1 ["n"] aCF
abbrev Mn:=aQ M "places" 4 ["row","count"] aJz
abbrev m?:=aQ M "parting" 4 ["one","other"] aTG
abbrev dS:=aQ M "rest_row" 2 ["row","divisor"] aMh
abbrev Yo:=aQ M "common_divisor" 1 ["one","other"] aR0
abbrev m_:=aQ M "divisor_of" 2 ["row"] aUn
abbrev v_:=aQ M "undivided" 4 ["row","divisor","start","step"] aW4
abbrev BV:=aQ M "by_prime" 3 ["row","prime"] axu
abbrev BU:=aQ M "refuse_wide" 1 ["prime","length"] aE3
abbrev Y6:=aQ M "round_row" 10 ["row"] aGr
abbrev km:=aQ M "came_round" 3 ["row"] OU
abbrev A1:=aQ M "round_of" 11 ["row"] aNP
abbrev AG:=aQ M "where" 12 ["row","number"] aTT
abbrev u_:=aQ M "line_taken" 2 ["by","line"] (aU4 K)
abbrev Xs:=aQ M "head_line" 1 ["lines","begin","column"] aPY
abbrev Bn:=aQ M "bring_up" 2 ["by","lines","at","top"] aUu
abbrev US:=aQ M "freed" 4 ["by","line","head","column","last"] aLb
abbrev Kt:=aQ M "clear" 5 ["by","wide","lines"] aLB
abbrev GS:=aQ M "lowest" 4 ["by","bottom","tops"] aOP
abbrev GA:=aQ M "solution" 6 ["by","wide","table","wished"] i6
abbrev CU:=aQ M "solved" 8 ["by","wide","table","wished"] i6
abbrev Sr:=aQ M "refuse_big" 1 ["poly"] aQc
abbrev U1:=aQ M "whole_divisors" 1 ["number"] aQZ
abbrev Sn:=aQ M "perhaps_roots" 2 ["poly"] aTA
abbrev XB:=aQ M "divided_out" 3 ["poly","root"] aK2
abbrev L5:=aQ M "whole_roots" 4 ["poly"] aID
abbrev UR:=aQ M "power" 1 ["number","exponent"] aL5
abbrev pM:=aQ M "is_whole" 1 ["thing"] aKy
abbrev YT:=aQ M "is_by" 2 ["thing"] aD8
abbrev KU:=aQ M "is_number" 2 ["by","thing"] aUH
abbrev i?:=aQ M "are_numbers" 3 ["by","thing"] aGe
abbrev Po:=aQ M "is_row" 4 ["thing"] aOn
abbrev VE:=aQ M "above_all_shown" 1 [] aUN
abbrev yD:=aQ M "number_shown" 2 ["number"] aH2
abbrev HG:=aQ M "shown" 3 ["row"] aGH
abbrev Up:=aQ M "is_written" 1 ["word"] aPa
abbrev Qj:=aQ M "read_number" 2 ["word"] aHl
abbrev x6:=aQ M "read_prime" 3 ["word"] aAx
abbrev GO:=aQ M "read_words" 6 ["rule_words","start_words","by"] EF
abbrev n?:=aQ M "read" 7 ["text"] aWa
abbrev Qy:=aQ M "numbers_shown" 3 ["numbers"] aRn
abbrev Cs:=aQ M "form_line" 2 ["roots","n"] aTW
abbrev i':=aQ M "parts_of" 1 ["roots","tops"] aO0
abbrev h_:=aQ M "closed" 9 ["row"] aPM
abbrev t_:=aQ M "words_of" 1 ["text"] aME
abbrev By:=aQ M "kinds_of" 1 ["words"] (aCc K)
abbrev yb:=aQ M "read_name" 1 ["word"] aK0
abbrev MW:=aQ M "row_named" 2 ["kept","word"] aAA
abbrev AD:=aQ M "read_word" 8 ["kept","kind","word"] aUc
abbrev f_:=aQ M "tell_show" 13 ["said"] (wN "show")
abbrev LU:=aQ M "tell_places" 13 ["said"] (wN "places")
abbrev RC:=aQ M "tell_at" 13 ["said"] (wN "at")
abbrev OO:=aQ M "tell_part" 13 ["said"] (wN "part")
abbrev j?:=aQ M "tell_round" 13 ["said"] (wN "round")
abbrev N9:=aQ M "tell_where" 13 ["said"] (wN "where")
abbrev MO:=aQ M "tell_closed" 13 ["said"] (wN "closed")
abbrev DZ:=aQ M "tell_divisor" 13 ["said"] (wN "divisor")
abbrev AA:=aQ M "tell_divides" 13 ["said"] (wN "divides")
abbrev XN:=aQ M "make_row" 14 ["said"] (um "row")
abbrev NU:=aQ M "make_short" 14 ["said"] (um "short")
abbrev Ic:=aQ M "make_add" 14 ["said"] (um "add")
abbrev WI:=aQ M "make_multiply" 14 ["said"] (um "multiply")
abbrev LL:=aQ M "make_roll" 14 ["said"] (um "roll")
abbrev MY:=aQ M "make_scale" 14 ["said"] (um "scale")
abbrev Sj:=aQ M "make_sum" 14 ["said"] (um "sum")
abbrev Hk:=aQ M "make_every" 14 ["said"] (um "every")
abbrev Pe:=aQ M "make_ahead" 14 ["said"] (um "ahead")
abbrev IE:=aQ M "make_on" 14 ["said"] (um "on")
abbrev r?:=aQ M "make_rest" 14 ["said"] (um "rest")
abbrev u?:=aQ M "_law_cell_at" 1 ["_law_script","_law_k"] (aMX K)
abbrev yY:=aQ M "_law_mix" 1 ["_law_cell","_law_k"] aGJ
abbrev c_:=aQ M "_law_number" 1 ["_law_by_here","_law_number_here"] aPD
abbrev o?:=aQ M "_law_numbers" 2 ["_law_by_here","_law_cell","_law_many"] aKV
abbrev VP:=aQ M "_law_rest" 1 ["_law_by_here","_law_number_here"] aTj
abbrev zw:=aQ M "_law_small_row" 3 ["_law_by_here","_law_cell","_law_most"] aHq
abbrev OP:=aQ M "_law_text" 1 ["_law_row"] aGP
abbrev dk:=aQ M "_law_numbers_in" 1 ["_law_text_here"] aLz
abbrev t?:=aQ M "_law_closed_right" 1 ["_law_told","_law_first"] aV9
theorem ayk(F:Fn K mg "taken" kD ["by","number"]):kY M:=by
 delta aJL
 ext b n rfl h0 q h;show{_,#[(),(bI (0==_:) (aJ (aF (1:))) bJ),(aF (1%0:))],(),cT (λc=>?_) (λc=>?_)}
 .let a:b=0:=dec_true c;let e:Rm.tk b n=n:=#v[a,cY]
  rw[e]at q;show q
 .let a:¬b=0:=dec_false c;show{"",(⋯:(0:Int)<b),?_};rw[mz a]at q;show q
theorem aDj(F:Fn K mg "next_place" tI ["by","rule","before"])(O:kY M):nv M:=by
 delta SJ
 ext b r s' ρ a rfl hb f e u k j t s q h;show{_,#[(),(aC 3 SJ.nd aR),(gq Ë rfl (dU rfl B.dw #[(cJ K B.cC #[1])]) (aX 4 SJ.nd) (aJ (aC 3 SJ.nd (3+(aL K (1:) (4:))*(aL K (2:) ((cJ K B.cC #[2])-_-4:)):)))),(aF (aq O hr #[0,3]))],?_};let g:(ρ[11])[_]=ρ[_]:=aA _;let d:(a[11])[_]=a[_]:=aA _;show{.ref r,ρ[_],rfl,.inr {_,f,g.symm},(ρ[_]:Int),rfl,(0.6:-(2^62)<=(ρ[_]:Int)),(⋯:(ρ[_]:Int)<2^62),kI (lo:=0) (n:=(ρ[_]:Int).toNat) (λi c H'=>∃o,c=[b[5],r[4],s'[4],(Rm.S ρ (λi=>a.getD i 0) a[_] i)[5],o]/\H'=H) {ν,rfl,(rfl)} ?_ ?_}
 .rintro i c H' hi ⟨o,rfl,rfl⟩;let l:i<ρ[_]:=1.2;let p:(0:Int)+i[0]=(i:Int):=0.6;let m:(a[_]:Int)-1-(0+i[0])=(a[_]-1-i:Nat)[0]:=⋯;show{_,_,.inr f,fG (ns:=ρ) (1.1:(0:Int)<=0+i[0]) 1.1,.ref s',a[_],rfl,e.imp (λz=>{_,z,d.symm}) (λz=>{_,z,d.symm}),"","",{_,_,e,fG (ns:=a) (0.6:(0:Int)<=(a[_]:Int)-1-(0+i[0])) ⋯,jA (Bd.getD t _) (Bd.getD s _) 0.3,(0+i[0])[5],?_,rfl}};rw[m,p,dg,dg,0]
 .rintro c H' ⟨o,rfl,rfl⟩;show{b,(),hb,?_};rw[show(ρ[_]:Int).toNat=ρ[_] from dg _,!q]
theorem aKo(F:Fn K mg "first_places" y8 ["row","count"])(P:nv M):xK M:=by
 delta Ig
 obtain⟨v,r,c,rfl,⟨a,p,p2,rfl,y,L,x⟩,ok,J,I,q⟩:=h;show{_,#[(),(aC 2 Ig.nd (-0:)),(aC 3 Ig.nd (-0:)),(aC 4 Ig.nd (-0:)),(aC 5 Ig.nd (Lx (dI (xlist K) rfl B.Ay boot_list #[(jJ (jX K) (4:) lF (jz (1:)))]))),(ug Ë ((cJ K B.cC #[5])<1:) (aJ (eU (n8 K (5:) (aq P hr #[2,3,5]))))),(aF (5:))],?_};let R:=ok.len;let w:=ok.short;let s:(r.ς[11])[_]=r.ς[_]:=aA _;show{!y,rfl,!y,rfl,!y,rfl,?_};let C:fP r.ς[11] ν (ι c)=(r.row (min c.toNat r.ς[_]))[11]:=by
  let e:r.row (min c.toNat r.ς[_])=r.ς.take (min c.toNat r.ς[_]):=Ve (Ds _ _);rw[e];let o:c=(c.toNat:Nat)[0]:=⋯;unfold fP;rw[o,HT.qR,HT.wR,RD,qe,s,qg,dg]
 show ο.by (λv H1=>∃l,v=.ref l/\Same H H1/\H l=ν/\H1 l=(r.row (min c.toNat r.ς[_]))[11][2]) (λkk j=>?_) ?_
 .show{(),?_};by_cases hw:r.ς[_]<=c.toNat
  ·-- the whole of it
   show .inr (.inr {_,ao.of x,?_,?_})
   .let o:c=(c.toNat:Nat)[0]:=⋯;rw[o,HT.qR,HT.wR,s,1]
   .refine{p2,(),.inr (ao.of x),λl d=>j _ _ {l,rfl,Same.new d _,d,?_}};rw[aB,TQ hw];let e:r.row r.ς[_]=r.ς:=(Ve (aZ _)).trans (qw ..);rw[e]
  .refine .inr (.inl {_,ao.of x,?_,λp3 u=>?_})
   .let o:c=(c.toNat:Nat)[0]:=⋯;rw[o,HT.qR,HT.wR,s,1]
   .refine{p3,(),.inr (ao.of aB),λl d=>?_};let G:=Same.new u (.tup (fP r.ς[11] ν (ι c)));show j _ _ {l,rfl,G.trans (Same.new d _),G.free d,?_};rw[aB,C]
 rintro v H1 ⟨l,rfl,N,d,t⟩;show{λm f H'=>∃n:Nat,m=c.toNat-n/\min c.toNat r.ς[_]<=n/\n<=c.toNat/\f=[a[4],c[5],r.b[5],p[4],p2[4],l[4]]/\Same H H'/\H' l=(r.row n)[11][2],
  {_,min c.toNat r.ς[_],rfl,aZ _,Nat.min_le_left _ _,rfl,N,t},?_}
 rintro m f H' ⟨n,rfl,h1,h2,rfl,g,k⟩;let D:((r.row n)[11])[_]=n:=#v[aA,Rw.pY]
 show{.ref l,n,rfl,.inl {_,aj.of k,D.symm},"",(),cT (λA=>?_) (λA=>?_)}
 .let hn:n<c.toNat:=let:=dec_true A;0.8
  show{_,λ_ _ z=>z,?_};show{.inl {rfl,_,aj.of k},r.b,p,l,r.ρ,r.row n,rfl,ok.iR,ao.of (g _ _ L),.inl (aj.of k),?_,w,?_,ok.jh,ok.KO n ⋯,?_}
  .rw[Rw.pY];lia
  .rw[Rw.pY];lia
  .refine{l,"",k,?_,?_}
   .rw[D];show eX ⋯
   .show{c.toNat-(n+1),0.7,n+1,rfl,⋯,1.2,rfl,g.upd d _,?_};rw[aB,Rw.pY];let e:r.row (n+1)=r.row n++[Rm.tk r.b (Rm.S r.ρ (λi=>(r.row n).getD i 0) n r.ρ[_])]:=by
     show _++[if n<r.ς[_] then r.ς.getD n 0 else _]=_;rw[Â ⋯,0]
    rw[e,eG,0]
 .let hn:n=c.toNat:=let:=dec_false A;⋯
  subst hn;show(q l H' g d k)
theorem aSU(F:Fn K mg "is_prime" pe ["number"]):cy M:=by
 delta yo
 ext n rfl hn q h;show{_,#[(),(bI (0<_:) (aJ (aF iy)) bJ),(aC 1 yo.nd aR),(ug Ë (1*1<=0:) #[(),(bI (0%1==_:) (aJ (aF iy)) bJ),(aC 1 yo.nd (1+_:))]),(aF iy)],"",(),cT (λc=>?_) (λc=>?_)}
 .let o:(n:Int)<2:=dec_true c;show q false {λz=>È z 0.3,λz=>let:=z.1;⋯}
 .let o:¬(n:Int)<2:=dec_false c;show{λm g H'=>∃d:Nat,g=[n[5],(d:Int)[5]]/\H'=H/\2<=d/\d<=n+1/\m=n+2-d/\∀e:Nat,2<=e->e<d->¬e∣n,{_,2,rfl,rfl,0.6,⋯,rfl,λe h1 h2=>⋯},?_};rintro m g H' ⟨d,rfl,rfl,h2,j,rfl,hd⟩;show{mulL ⋯ ⋯,"",(),cT (λc2=>?_) (λc2=>?_)}
  .let f:(d:Int)*d<=n:=dec_true c2;let i:d*d<=n:=by exact_mod_cast f
   let k:d*1<=d*d:=nH d ⋯;show{_,λ_ _ z=>z,?_};show{"",(⋯:(0:Int)<d[0]),(),cT (λc3=>?_) (λc3=>?_)}
   .let b:(n:Int)%d[0]=0:=dec_true c3;let a:d∣n:=O6.mp (Hv b);show q false {λz=>È z 0.3,λz=>È z (aP6 h2 i a)}
   .let b:¬(n:Int)%d[0]=0:=dec_false c3;show{n+2-(d+1),0.9,d+1,0.1,rfl,⋯,0.7,rfl,λe h1 h3=>by
     rcases Nat.lt_or_ge e d with z|z
     .exact hd e h1 z
     .let:e=d:=⋯;subst this;exactλz=>b (AU (O6.mpr z))}
  .let f:¬(d:Int)*d<=n:=dec_false c2;let i:¬d*d<=n:=λz=>f (by exact_mod_cast z);show q true {λ_=>jS ⋯ λe h1 h3 a=>by
    by_cases l:e<d
    .exact hd e h1 l a
    .let:d*d<=e*e:=nZ 0.6 ⋯;grind -ring,λ_=>rfl}
theorem aQG(F:Fn K mg "prime_above" gE ["number"])(j:cy M):HR M:=by
 delta eu
 ext n c rfl hq g d q h;show{_,#[(),(aC 1 eu.nd (0+_:)),(ug Ë (jY (ji (aq j hr #[1]))) (aJ (aC 1 eu.nd (1+_:)))),(aF (1:))],λm a H'=>∃f:Nat,a=[n[5],(f:Int)[5]]/\H'=H/\n<f/\f<=c/\m=c-f,{_,n+1,rfl,rfl,0.6,1.2,rfl},?_};rintro m a H' ⟨f,rfl,rfl,h1,h2,rfl⟩;show{f,rfl,⋯,λb hb=>?_};show{b,rfl,?_};cases b with
 |false=>
  show{_,λ_ _ z=>z,?_};let i:f≠c:=λe=>È (hb.mpr (e▸hq)) 0.3;show{c-(f+1),⋯,f+1,rfl,rfl,⋯,⋯,rfl}
 |true=>
  show(q f (hb.mp rfl) h1 h2)
theorem aWF(F:Fn K mg "inverse" dP ["prime","number"])(O:kY M):Y2 M:=by
 delta C8
 ext f a rfl u l h0 h1 q h;let t:2<=f/\f<4194304:={u.1,(l)};show{_,#[(),(aC 2 C8.nd aR),(aC 3 C8.nd (1:)),(aC 4 C8.nd (0-_:)),(ug Ë (4>_:) #[(),(vM (bI (4%_==_:) (aJ (aC 2 C8.nd (aq O hr #[0,(2*3:)]))) bJ)),(aC 3 C8.nd (aq O hr #[0,(3*3:)])),(aC 4 C8.nd (4/_:))]),(aF (2:))],"",?_};let v:(f[0]-2).toNat=f-2:=⋯;show{λm i H'=>BQ λ(d b left:Int)=>H_ (i=[f[5],a[5],d[5],b[5],left[5]]) (H'=H) (m=left.toNat) (0<=d) (d<4194304) (0<=b) (b<4194304) (0<=left) (Om.Keeps f a (f-2) d b left.toNat),
  {_,1,a,f[0]-2,rfl,rfl,rfl,0.3,0.3,⋯,⋯,⋯,#v[v,!aNX _ _ _]},?_}
 rintro m i H' ⟨d,b,left,rfl,rfl,rfl,p,p1,A,y,k,hk⟩;show{"",(),cT (λc=>?_) (λc=>?_)}
 .let s:0<left:=dec_true c;show{_,λ_ _ z=>z,?_};let g:(0:Int)<(f:Int):=⋯;let o:∀n,Rm.tk (f:Int) n=n%(f:Int):=λn=>mz ⋯ n;show ur.by (λi H2=>∃e:Int,i=[f[5],a[5],e[5],b[5],left[5]]/\H2=H'/\((left%2=1/\e=d*b%f[0])∨(¬left%2=1/\e=d))) (λN r=>?_) ?_
  .show{"",(0.3:(0:Int)<2),(),?_};show cT (λc2=>?_) (λc2=>?_)
   .show{mulL ⋯ ⋯,f,(),0.6,?_};show r _ _ {(),rfl,.inl {dec_true c2,o _}}
   .exact r _ _ {(),rfl,.inr {dec_false c2,rfl}}
  rintro i H2 ⟨e,rfl,rfl,hp⟩;show{mulL ⋯ ⋯,f,(),⋯,"",{0.3,0.3},?_};let x:=vD (b*b) g;let C:=uN (b*b) g;let w:=vD (d*b) g;let B:=uN (d*b) g;let el:=iv0 k;show{_,?_,e,b*b%f[0],left/2,#v[o,0],rfl,rfl,?_,?_,x,⋯,⋯,?_}
  .grind -ring
  .rcases hp with⟨_,rfl⟩|⟨_,rfl⟩
   .exact w
   .exact p
  .rcases hp with⟨_,rfl⟩|⟨_,rfl⟩
   .lia
   .exact p1
  .rw[el];rcases hp with⟨j,rfl⟩|⟨j,rfl⟩
   .exact aFd hk ((ϱ k).1 j)
   .exact aGS hk (λz=>j ((ϱ k).2 z))
 .let s:left=0:=let:=dec_false c;⋯
  subst s;show(q d p p1 (aV7 hk))
theorem aEi(F:Fn K mg "over" Yy ["by","one","other"])(O:kY M)(U:Y2 M):av M:=by
 delta aBT
 ext b one a rfl g d i f q h;show{_,#[(),(bI (0==_:) (aJ gZ) bJ),(bI ((aq O hr #[0,2])==_:) (aJ gZ) bJ),(aF (aq O hr #[0,(1*(aq U hr #[0,2]):)]))],?_};let j:2<=b/\b<4194304:={g.1,(d)};show{(),cT (λc=>È (dec_true c) ⋯) (λ_=>?_)};let e:∀n,Rm.tk (b:Int) n=n%(b:Int):=λn=>mz ⋯ n;show{b,a,rfl,⋯,(),?_};let k:Rm.tk (b:Int) a=a:=#v[e,!Ph ⋯ f]
 rw[k,!cT (λc2=>È (dec_true c2) 0.6) (λ_=>?_)];show{b,a,rfl,g,d,i,f,λx m l hx=>?_};show{mulR ⋯ ⋯,b,(),⋯,?_};rw[e,Om.mod_mul (rfl:one%b[0]=one%b[0]) hx,!q]
theorem aA2(F:Fn K mg "trimmed" Yx ["numbers"]):Mv M:=by
 delta uB
 ext l xs rfl d q h;show{_,#[(),(aC 1 uB.nd (cJ K B.cC #[0])),(ug Ë (PW.pt (FT (1>_:) (Fg ((aL K (0:) (1-_:))==_:)))) (aJ (aC 1 uB.nd (1-_:)))),(aF (dI (nR K) rfl B.mF boot_tuple #[(jJ (jX K) (0:) lF (jz (1:)))]))],?_};let f:(xs[11])[_]=xs[_]:=aA _;show{.ref l,xs[_],rfl,.inl {_,d,f.symm},λm b H'=>∃n:Nat,m=n/\n<=xs[_]/\b=[l[4],(n:Int)[5]]/\H'=H/\Pm.trim (xs.take n)=Pm.trim xs,{_,xs[_],rfl,aZ _,rfl,rfl,#v[qw]},?_};rintro m b H' ⟨n,g,hn,rfl,rfl,ht⟩;show{"",(),cT (λc=>?_) (λc=>bO ?_)}
 .let h0:0<n:=let:=dec_true c;⋯
  let e:(n[0]-1).toNat=n-1:=0.6;show{"",_,_,.inl d,fG (ns:=xs) (⋯:(0:Int)<=n[0]-1) ⋯,(),cT (λc2=>?_) (λc2=>?_)}
  .let hz:=dec_true c2;rw[e]at hz;show{_,λ_ _ z=>z,?_};show{"",n-1,0.9,n-1,rfl,0.8,?_,rfl,aUg h0 hn ht hz};rw[(⋯:((n-1:Nat):Int)=n[0]-1),0]
  .let hz:=dec_false c2;rw[e]at hz;show{(),.inl {_,d,λp hp=>?_}};show{p,(),.inl {aj.of aB,λp2 a=>?_}};show q p2 _ ((Same.new hp _).trans (Same.new a _)) ?_;rw[aB,vG,<-qg,My hn ht (.inr hz)]
 .let h0:n=0:=let:=dec_false c;⋯
  show{(),.inl {_,d,λp hp=>?_}};show{p,(),.inl {aj.of aB,λp2 a=>?_}};show q p2 _ ((Same.new hp _).trans (Same.new a _)) ?_;rw[aB,vG,<-qg,My hn ht (.inl h0)]
theorem axJ(F:Fn K mg "number_at" aS ["poly","k"]):OY M:=by
 delta azp
 ext a p k rfl b h0 q h;show{_,(aJ (aF (Cd (1<(cJ K B.cC #[0]):) (aL K (0:) (1:)) aR))),?_};let d:(p[11])[_]=p[_]:=aA _;show{.ref a,p[_],rfl,.inr {_,ao.of b,d.symm},"",(),cT (λc=>?_) (λc=>?_)}
 .exact{!b,fG (ns:=p) h0 (dec_true c),q}
 .let f:=dec_false c;let e:Pm.co p k.toNat=0:=bK 0.6;rw[e]at q;show q
theorem aWP(F:Fn K mg "times" Xj ["by","one","other"])(U:kY M)(O:Mv M):UO M:=by
 delta Uq
 ext b a c p r rfl hb z y zA zC Y Z q h;show{_,#[(),(aC 3 Uq.nd ((fX #[_])*((cJ K B.cC #[1])+(cJ K B.cC #[2])):)),(gq Ë rfl (dU rfl B.dw #[(cJ K B.cC #[1])]) (aX 4 Uq.nd) (aJ (gq Ë rfl (dU rfl B.dw #[(cJ K B.cC #[2])]) (aX 5 Uq.nd) (aJ (uU (aq U hr #[0,((aL K (3:) (4+5:))+(aL K (1:) (4:))*(aL K (2:) (5:)):)]) (Bk (3:) (4+5:) set_list)))))),(aF (aq O hr #[3]))],?_};let C:(p[11])[_]=p[_]:=aA _;let A:(r[11])[_]=r[_]:=aA _;show{(cU 1),λl0 h0=>?_};let v:=Same.new h0 (.lst [.int 0]);show{.ref a,p[_],rfl,.inr {_,ao.of (v _ _ z),C.symm},.ref c,r[_],rfl,.inr {_,ao.of (v _ _ y),A.symm},?_};let I:((p[_]:Int)+(r[_]:Int)).toNat=p[_]+r[_]:=⋯;show{_,aB,(⋯:-(2^63)<=(p[_]:Int)+(r[_]:Int)),(⋯:(p[_]:Int)+(r[_]:Int)<2^63),?_,λl D=>?_}
 .rw[I];show 1*(p[_]+r[_])<=Ê;rw[G8,!gQ (eX ⋯)]
 let G:=v.trans (Same.new D (.lst (dN ((p[_]:Int)+(r[_]:Int)).toNat [V.int 0]).flatten));let x:H l=ν:=v.free D;show{.ref a,p[_],rfl,.inr {_,ao.of (G _ _ z),C.symm},(p[_]:Int),rfl,(0.6:-(2^62)<=(p[_]:Int)),(⋯:(p[_]:Int)<2^62),?_};show kI (lo:=0) (n:=(p[_]:Int).toNat) (λi d H'=>BQ λw o L=>Fe (d=[b[5],a[4],c[4],l[4],w,o]) (Same H H') (H' l=L[11][2]) (L[_]=p[_]+r[_]) (∀k,Pm.co L k=Rm.tk b (Pm.W (Pm.co p) (Pm.co r) i 0 k)))
  {_,_,aD (p[_]+r[_]) (λ_=>0),rfl,G,#v[aB,I,Ru],bZ _ _,λk=>by rw[dH,aEv,ġ];split<;>rfl} ?_ ?_
 .rintro i d H' hi ⟨w,o,L,rfl,g,m,s,f⟩;let P:i<p[_]:=1.2;show{.ref c,r[_],rfl,.inr {_,ao.of (g _ _ y),A.symm},(r[_]:Int),rfl,(⋯:-(2^62)<=(r[_]:Int)),(⋯:(r[_]:Int)<2^62),?_};show kI (lo:=0) (n:=(r[_]:Int).toNat) (λk d H'=>Ž λo L=>Fe (d=[b[5],a[4],c[4],l[4],(0+i[0])[5],o]) (Same H H') (H' l=L[11][2]) (L[_]=p[_]+r[_]) (∀j,Pm.co L j=Rm.tk b (Pm.W (Pm.co p) (Pm.co r) i k j)))
   {_,L,rfl,g,m,s,f} ?_ ?_
  .rintro k d H2 hk ⟨o,L,rfl,g,m,s,f⟩;let N:k<r[_]:=⋯;let J:(L[11])[_]=L[_]:=aA _;let X:(0+i[0]+(0+k[0])).toNat=i+k:=⋯;let T:(0+i[0]).toNat=i:=0.6;let S:(0+k[0]).toNat=k:=⋯;show{¬m,fG (ns:=L) (⋯:(0:Int)<=0+i[0]+(0+k[0])) ⋯,!(g _ _ z),fG (ns:=p) (0.6:(0:Int)<=0+i[0]) 0.6,!(g _ _ y),fG (ns:=r) (⋯:(0:Int)<=0+k[0]) ⋯,jA (Bd.getD Y _) (Bd.getD Z _) 0.3,b,(),hb,l,_,_,i+k,rfl,rfl,m,Ed 0.6 #v[J],?_};show{_,L.set (i+k) _,rfl,g.upd x _,#v[aB,Vz],#v[qt,!s],λj=>?_};rw[Lh _ _ _ _ ⋯,aTv,X,T,S];by_cases u:j=i+k
   .let hw:=f j;rw[Á u,Á u];rw[u]at hw⊢;rw[<-mV b (Pm.W (Pm.co p) (Pm.co r) i k (i+k)),<-hw,0]
   .rw[Â u,Â u,fK];show f j
  .rintro d H2 ⟨o,L,rfl,g,m,s,f⟩;show{_,_,L,rfl,g,m,s,λk=>?_};rw[f k,dg,axd λk hk=>bK hk]
 .rintro d H' ⟨w,o,L,rfl,g,m,s,f⟩;show{l,L,rfl,aj.of m,λt H2 R ht=>q t H2 (g.trans R) ?_};let e:Pm.trim L=Pm.mul b p r:=by
   show Lf λk=>?_;rw[f k,dg,sF λk hk=>bK hk,dH];split
   .rfl
   .rw[<-yU,Pm.mul,vA,dH,Â (by assumption)]
  rw[<-e,!ht]
theorem aP8(F:Fn K mg "divided" dy ["by","one","other"])(cR:kY M)(rR:Mv M):Ge M:=by
 delta Dr
 ext b a c P M u v rfl hb hb1 hA hC zA zC hM nP bA bC u22 huv q h;show{_,#[(),(aC 3 Dr.nd ((cJ K B.cC #[2])-_:)),(aC 4 Dr.nd ((fX #[_])*(fW (EX rfl) rfl B.XX boot_max #[_,((cJ K B.cC #[1])-3:)]):)),(aC 5 Dr.nd (dI (xlist K) rfl B.Ay boot_list #[1])),(gq Ë rfl (Fh rfl B.dw #[((cJ K B.cC #[4])-_:),(Kr Mi aR),(Kr Mi aR)]) (aX 6 Dr.nd) #[(),(aC 7 Dr.nd (aL K (5:) (6+3:))),(uU (7:) (Bk (4:) (6:) set_list)),(gq Ë rfl (dU rfl B.dw #[(cJ K B.cC #[2])]) (aX 8 Dr.nd) (aJ (uU (aq cR hr #[0,((aL K (5:) (6+8:))-7*(aL K (2:) (8:)):)]) (Bk (5:) (6+8:) set_list))))]),(aF (iu #[(aq rR hr #[4]),(aq rR hr #[5])]))],?_};let lP:(P[11])[_]=P[_]:=aA _;let lM:(M[11])[_]=M[_]:=aA _;let G:=hM.pos;show{.ref c,M[_],rfl,.inr {_,ao.of hC,lM.symm},"",(cU 1),λl0 h0=>?_};let g0:=Same.new h0 (.lst [.int 0]);show{.ref a,P[_],rfl,.inr {_,ao.of (g0 _ _ hA),lP.symm},"",_,(),?_};let en:(if(P[_]:Int)-((M[_]:Int)-1)>0 then(P[_]:Int)-((M[_]:Int)-1)else 0).toNat=P[_]-(M[_]-1):=(max_zero P[_] M[_]).resolve_right ⋯;show{_,aB,?_,?_,?_,λlo C=>?_}
 .split<;>lia
 .split<;>lia
 .rw[en];show 1*(P[_]-(M[_]-1))<=Ê;rw[G8,!gQ (eX 0.8)]
 rw[en,Ru];let aTd:H lo=ν:=g0.free C;let X:=g0.trans (Same.new C (.lst (aD (P[_]-(M[_]-1)) λ_=>0)[11]));let p:(upd (upd H l0 (.lst [.int 0])) lo (.lst (aD (P[_]-(M[_]-1)) λ_=>0)[11])) lo=(aD (P[_]-(M[_]-1)) λ_=>0)[11][2]:=aB;generalize upd (upd H l0 (.lst [.int 0])) lo (.lst (aD (P[_]-(M[_]-1)) λ_=>0)[11])=H1 at X p;show{a,(),.inr (ao.of (X _ _ hA)),λll o=>?_};let aMo:H ll=ν:=X.free o;let A:lo≠ll:=iH p o;let Zw:=Same.new o (.lst P[11]);let g2:=X.trans Zw;let Y:=Zw _ _ p;let J:(upd H1 ll (.lst P[11])) ll=P[11][2]:=aB;generalize upd H1 ll (.lst P[11])=H2 at Zw g2 Y J;generalize hn:P[_]-(M[_]-1)=n at Y;let y:n<=40:=hn▸cD (Nat.sub_le ..) zA;show{.ref lo,n,rfl,.inl {_,aj.of Y,#v[aA,bZ]},"",(),(),n[0]-1,-1,rfl,{⋯,0.7,0.6,0.6},?_};show AM (lo:=n[0]-1) (n:=(n[0]-1-(-1)).toNat) (λi d H'=>F' λo6 o7 m O L=>Tj (d=[b[5],a[4],c[4],((M[_]:Int)-1)[5],lo[4],ll[4],o6,o7,m]) (Same H H') (H' lo=(fR V.int O)[2]) (H' ll=(fR V.int L)[2]) (uX b P M (n-i) O L) (∀k,Bd (u+i*(v+1)) (Pm.co L k)))
  {_,_,_,_,P,rfl,g2,Y,J,#v[qe,-hn,!uX.start nP],λk=>(iK bA k).mono 0.6} ?_ ?_
 .rintro i d H' hi ⟨o6,o7,m,O,L,rfl,g,hO,T,I,S⟩;let j:i<n:=0.6;let hs:n-i=n-(i+1)+1:=0.7;rw[hs]at I;generalize Z:n-(i+1)=s at I;let N:(n:Int)-1-i[0]=(s:Int):=dq4 Z j;rw[N];let hlL:=I.ll;let hlO:=I.ol;let lO:(O[11])[_]=O[_]:=aA _;let sL:s+M[_]<=L[_]:=dq0 hn Z j hlL G;let sO:s<O[_]:=dq3 hn Z j hlO;let⟨e1,e1a,e1b⟩:=dq1 G sL;show{¬T,fG (ns:=L) e1a e1b,?_};rw[e1];let W:Bd (u+i*(v+1)) (L.getD (s+(M[_]-1)) 0):=S _;let eF:L.getD (s+(M[_]-1)) 0=Pm.co L (s+(M[_]-1)):=rfl;rw[eF]at W⊢;generalize hf:Pm.co L (s+(M[_]-1))=f at W;show{lo,_,_,s,rfl,rfl,hO,Ed rfl #v[lO,!sO],?_};let D:(upd H' lo (.lst (O[11].set s (.int f)))) lo=(O.set s f)[11][2]:=#v[aB,Vz]
  let qM:(upd H' lo (.lst (O[11].set s (.int f)))) ll=L[11][2]:=#v[cO A.symm,!T]
  let w:=g.upd aTd (.lst (O[11].set s (.int f)));generalize upd H' lo (.lst (O[11].set s (.int f)))=H3 at D qM w;show{.ref c,M[_],rfl,.inr {_,ao.of (w _ _ hC),lM.symm},(M[_]:Int),rfl,(0.6:-(2^62)<=(M[_]:Int)),(⋯:(M[_]:Int)<2^62),?_};show kI (lo:=0) (n:=(M[_]:Int).toNat) (λt d H'=>Ž λm e=>Tj (d=[b[5],a[4],c[4],((M[_]:Int)-1)[5],lo[4],ll[4],(s:Int)[5],f[5],m]) (Same H H') (H' lo=(O.set s f)[11][2]) (H' ll=(fR V.int e)[2]) (e[_]=L[_]) (∀k,Pm.co e k=Pm.lf b f s t L M k))
   {_,L,rfl,w,D,qM,rfl,λk=>(aSS ..).symm} ?_ ?_
  .rintro t d H4 ht ⟨m,e,rfl,r,Yc,Ah,U,x⟩;let ht':t<M[_]:=1.2;let lL':(e[11])[_]=e[_]:=aA _;let⟨e2,f1,f2,f3,f4,f5,e3,f6⟩:=dq2 (l:=e[_]) ht' #v[U,!sL];show{¬Ah,fG (ns:=e) f1 f2,!(r _ _ hC),fG (ns:=M) f3 f4,jA W (Bd.getD bC _) (by let:i*(v+1)<=40*(v+1):=pN _ (cD (gQ j) y);clear en Z N hn I;generalize i*(v+1)=z at this ⊢;lia),_,_,rfl,rfl,?_};show{b,(),hb,ll,_,_,s+t,rfl,rfl,Ah,Ed f6 #v[lL',!f5],?_};show{_,e.set (s+t) _,rfl,r.upd aMo _,#v[cO A,!Yc],#v[aB,Vz],#v[qt,!U],λk=>?_};rw[Lh _ _ _ _ f5,aLQ,e2,e3,<-x k];by_cases R:k=s+t
   .rw[Á R,Á R,R];rfl
   .rw[Â R,Â R]
  .rintro d H4 ⟨m,e,rfl,r,Yc,Ah,U,x⟩;rw[dg]at x;show{_,_,_,O.set s f,e,rfl,r,Yc,Ah,?_,λk=>?_}
   .rw[<-hf];rw[<-hf]at x;show I.step hM 0.6 U x
   .rw[x k,rm];show(aUp hb hb1 ⋯ W S bC k).mono ⋯
 .rintro d H' ⟨o6,o7,m,O,L,rfl,g,hO,T,I,S⟩;let e9:(n[0]-1-(-1)).toNat=n:=0.6;rw[e9]at I S;rw[ql]at I;show{lo,O,rfl,aj.of hO,λt1 H3 w h3=>?_};show{ll,L,rfl,aj.of (w _ _ T),λt2 H4 r h4=>?_};show{(cU 2),λt ht=>?_};let gt:=Same.new ht (.tup [.ref t1,.ref t2]);show q t t1 t2 (Pm.trim O) (Pm.trim L) _ (g.trans (w.trans (r.trans gt))) aB (gt _ _ (r _ _ h3)) (gt _ _ h4) (I.stop hM) λz hz'=>(azo S z hz').mono (Nat.add_le_add_left (pN _ y) _)
theorem aPi(F:Fn K mg "monic" vc ["prime","poly"])(v:av M):HV M:=by
 delta SK
 ext b a p rfl j d f w g q h;show{_,#[(),(bI ((cJ K B.cC #[1])==_:) (aJ (aF (iu jF))) bJ),(fu (i:=2) SK.nd rfl (dR rfl) (aL K (1:) ((cJ K B.cC #[1])-_:))),(aF (dI (nR K) rfl B.mF boot_tuple #[(c7 (sc:=aL2) (N:=["number","last","prime"]) (ix:=[ν,ι 2,ι 0]) cF rfl (dF K (1:)) (((aX 0 cG),cP,(aq v hr #[2,0,1])) :))]))],?_};let r:2<=b/\b<4194304:={j.1,(d)};let l:(p[11])[_]=p[_]:=aA _;show{.ref a,p[_],rfl,.inr {_,ao.of f,l.symm},(),cT (λc=>?_) (λc=>?_)}
 .let n:(p[_]:Int)=0:=dec_true c;let e:p=[]:=zH 0.6;subst e;show{dz _,λt ht=>q t [] _ (Same.new ht _) aB (AZ.nil _)}
 .let n:¬(p[_]:Int)=0:=dec_false c;let hn:p≠[]:=λe=>n #v[e,0];let m:0<p[_]:=⋯;let u:((p[_]:Int)-1).toNat=p[_]-1:=0.6;show{.ref a,p[_],rfl,.inr {_,ao.of f,l.symm},"",!f,fG (ns:=p) (⋯:(0:Int)<=(p[_]:Int)-1) ⋯,?_};rw[u];let z:=Iz hn g.tr;let l1:=g.co (p[_]-1);rw[mz ⋯]at l1;let y:0<=Pm.co p (p[_]-1):=#v[-l1,!pW _ ⋯]
  let o:Pm.co p (p[_]-1)<(b:Int):=#v[-l1,!qQ _ ⋯]
  show{a,rfl,.inr {{_,ao.of f},OB f ⋯ rfl (λx=>x*(Pm.co p (p[_]-1))^(b-2)%b[0]) ?_ ?_}}
  .intro H2 x A hx k hk;show{b,x,(),j,d,by show 0<Pm.co p (p[_]-1);lia,o,hk}
  .intro D s;show{D,(),.inl {aj.of aB,λt ht=>?_}};show q t (zB b p) _ ((Same.new s _).trans (Same.new ht _)) aB (aVV j g hn)
theorem aUQ(F:Fn K mg "greatest" aU ["by","one","other"])(O:HV M)(nK:Ge M):xc M:=by
 delta GZ
 ext i a c p r rfl v f hA hC zA zC pP pR A q h;show{_,#[(),(aC 3 GZ.nd (aq O hr #[0,1])),(aC 4 GZ.nd (aq O hr #[0,2])),(ug Ë ((cJ K B.cC #[4])>_:) #[(),(aC 5 GZ.nd (aL K (aq nK hr #[0,3,4]) aR)),(aC 3 GZ.nd (4:)),(aC 4 GZ.nd (aq O hr #[0,5]))]),(aF (3:))],?_};let d:2<=i/\i<4194304:={v.1,(f)};show{i,a,p,rfl,v,f,hA,⋯,pP,λj g0 H1 X w P=>?_};show{i,c,r,rfl,v,f,X _ _ hC,⋯,pR,λts Y H2 W b L=>?_};let lg0:=P.len;let ls0:=L.len;show{λm n H'=>F' λ(J:Option V)(j ts:Æ)(g s:ζ)=>U8 (m=s[_]) (n=[i[5],a[4],c[4],j[4],ts[4],J]) (Same H H') (H' j=g[11][3]) (H' ts=s[11][3]) (yH i p r g s) (g[_]<=max p[_] r[_]) (s[_]<=max p[_] r[_]),
  {_,_,j,ts,g0,Y,rfl,rfl,X.trans W,W _ _ w,b,yH.start P L A,⋯,⋯},?_}
 rintro m n H' ⟨J,j,ts,R,k,rfl,rfl,g,w,b,I,Z,zs⟩;let lS:(k[11])[_]=k[_]:=aA _;show{.ref ts,k[_],rfl,.inr {_,ao.of b,lS.symm},"",(),cT (λG=>?_) (λG=>?_)}
 .let u:k≠[]:=λe=>by let:=dec_true G;rw[e]at this;simp at this
  let C:=I.sm_ u;show{_,λ_ _ z=>z,?_};show{i,j,ts,R,k,22,22,rfl,⋯,⋯,w,b,⋯,⋯,C,I.gy.co,AY d.1 d.2 I.gy,AY d.1 d.2 I.sy,0.3,0.3,λt x y o l H3 T hT hX hY D _=>?_};show{!hT,rfl,?_};let hsh:=D.short;show{i,y,l,rfl,v,f,hY,⋯,D.ry,λU m H4 S hM N=>?_};let lm:=N.len;show{m[_],0.6,_,ts,U,k,m,rfl,rfl,g.trans (T.trans S),(T.trans S) _ _ b,hM,I.step u D N,zs,⋯}
 .let u:k=[]:=zH (let:=dec_false G;⋯);show(q j R H' g w (I.stop u) Z)
theorem aW9(F:Fn K mg "nearest" Xd ["modulus","number"]):mi M:=by
 delta M3
 ext M x rfl b q h;show{_,#[(),(aC 2 M3.nd (1%0:)),(aF (Cd (_*2>0:) (2-0:) (2:)))],"",b,mulL 0.3 0.3,"",(),cT (λc=>?_) (λc=>?_)}
 .let a:2*(x%M)>M:=dec_true c;show{"",?_};let e:Pm.nr M x=x%M-M:=Á a;rw[e]at q;show q
 .let a:¬2*(x%M)>M:=dec_false c;let e:Pm.nr M x=x%M:=Â a;rw[e]at q;show q
theorem ayf(F:Fn K mg "joined" k8 ["modulus","number","prime","rest"])(g:av M)(O:kY M)(f:mi M):Bi M:=by
 delta CS
 ext M t p s' rfl hp b e i q h;show{_,#[(),(aC 4 CS.nd (aq g hr #[2,(aq O hr #[2,(3-1:)]),(aq O hr #[2,0])])),(aF (aq f hr #[(0*2:),(1+0*4:)]))],?_};let h2:=hp.1;let a:(p:Int)≠0:=⋯;let k:=pW M a;let d:=qQ M (⋯:(0:Int)<p);let j:M%(p:Int)≠0:=λz=>i (Hv z);let c:Rm.tk (p:Int) M=M%(p:Int):=mz a M;show{"",p,(),0.6,p,M,rfl,⋯,p,_,(),hp,b,#v[c],#v[c,!d],?_};let hw:=aJE (M:=M) (t:=t) (s:=s') hp;show{mulR ⋯ ⋯,mulR (0.8:-(2^64)<jw M t p s') (⋯:jw M t p s'<2^64),?_};show{_,(),Int.mul_pos e ⋯,q}
theorem aPj(F:Fn K mg "taken_poly" pf ["prime","poly"])(O:Mv M)(U:kY M):Nl M:=by
 delta aSm
 ext p a g rfl hp b e q h;show{_,(aJ (aF (aq O hr #[(c7 (sc:=aMy) (N:=["number","prime"]) (ix:=[ν,ι 0]) cF rfl (dF K (1:)) (((aX 0 cG),cP,(aq U hr #[1,0])) :))]))),?_};show{a,rfl,.inr {{_,ao.of b},OB b ⋯ rfl (λx=>Rm.tk p x) ?_ ?_}}
 .intro H2 x f hx k hk;show{p,x,rfl,0.6,hk}
 .intro D c;show{D,(),aj.of aB,λt1 H3 d h3=>?_};show q t1 H3 ((Same.new c _).trans d) h3
theorem aEC(F:Fn K mg "divides" Ww ["monic_one","poly"])(O:Ge M):DT M:=by
 delta azz
 ext m a M u rfl c n g f d s r q h;show{_,(aJ (aF (kJ (pQ K hr) (aL K (aq O hr #[_,1,0]) aR) (iu jF) (mq _)))),0,a,m,u,M,2700000,2640000,rfl,0.3,0.3,n,c,f,g,d,λk=>cY _,r,s,0.3,0.3,λt x y o l H3 p j v i D _=>?_};show{!j,rfl,dz _,λt0 b=>?_};let e:=Same.new b (.tup []);show Ra (ns:=l) (ms:=[]) (ao.of (e _ _ i)) (ao.of aB) ?_;show q _ _ (p.trans e) (by show decide (l=[])=true↔_;rw[decide_eq_true_iff,!D.dv d])
theorem aXk(F:Fn K mg "whole_greatest" mN ["one","other"])(RN:DT M)(aw:HR M)(HX:xc M)(SR:Nl M)(Gw:mi M)(eR:Bi M):YU M:=by
 delta qL
 ext a c f t rfl hA hC X zP zt bP bt q h;let⟨g,N,G,hV,hU⟩:=aCr X zP zt (iK bP) (iK bt);let q:=q g G.gc;show{_,#[(),(aC 2 qL.nd (0:)),(fu (i:=3) qL.nd rfl (dR rfl) aR),(fu (i:=4) qL.nd rfl (dR rfl) (rB rfl B.ZP)),(aC 5 qL.nd iy),(ug Ë (PW.pt (jc (jY (ji (5:))) (jc (jY (ji (aq RN hr #[2,0]))) (mD (jY (ji (aq RN hr #[2,1]))))))) #[(),(fu (i:=4) qL.nd rfl (dR rfl) (aq aw hr #[4])),(fu (i:=6) qL.nd rfl (dR rfl) (aq HX hr #[4,(aq SR hr #[4,0]),(aq SR hr #[4,1])])),(bI ((cJ K B.cC #[6])<(cJ K B.cC #[2]):) #[(),(aC 2 qL.nd (dI (nR K) rfl B.mF boot_tuple #[(c7 (sc:=aQM) (N:=["rest","prime"]) (ix:=[ν,ι 4]) cF rfl (dF K (6:)) (((aX 0 cG),cP,(aq Gw hr #[1,0])) :))])),(fu (i:=3) qL.nd rfl (dR rfl) (4:)),(aC 5 qL.nd iy)] (aJ (vM (bI ((cJ K B.cC #[6])==(cJ K B.cC #[2]):) #[(),(fu (i:=7) qL.nd rfl (dR rfl) (2:)),(aC 2 qL.nd (dI (nR K) rfl B.mF boot_tuple #[(c7 (sc:=aFk) (N:=["k","before","modulus","prime","seen"]) (ix:=[ν,ι 7,ι 3,ι 4,ι 6]) cF rfl (dU rfl B.dw #[(cJ K B.cC #[6])]) (((aX 0 cG),cP,(aq eR hr #[2,(aL K (1:) (0:)),3,(aL K (4:) (0:))])) :))])),(fu (i:=3) qL.nd rfl (dR rfl) (3*4:)),(aC 5 qL.nd (kJ (pQ K hr) (2:) (7:) (mq _)))] bJ))))]),(aF (2:))],?_};let hgP:g[_]<=f[_]:=G.one.len rfl G.mon X;show{y? H a c f g N,{_,_,_,a,f,1,1000000,true,0,0,rfl,rfl,Same.refl _,hA,oB.start X hgP _,Om.many,0.6,0.6},?_};rintro m o H' ⟨o6,o7,tt,told,M,r,ripe,b,good,rfl,rfl,J,A,I,KI,hbig,aIS⟩;let bT:=aP4 I (λx hx=>(bP x hx).mono 0.3) aIS;let zT:=I.le;show{ripe,rfl,?_};show cT (λcr=>?P) (λcr=>?n1)
 case' P=>
  let v:¬(ripe=true/\told=g):=λz=>by rw[z.1]at cr;show È cr 0.3
  let j:=J;let R:=A;generalize H'=Hx at j R⊢
 case' n1=>
  show{tt,a,told,f,rfl,A,J _ _ hA,⋯,⋯,I.mon,bT,(λx hx=>(bP x hx).mono 0.3),λP H1 l O=>?_};show{P,rfl,cT (λc1=>?L) (λc1=>?n2)}
 case' L=>
  let v:¬(ripe=true/\told=g):=λz=>by
   let:P=true:=O.mpr #v[z.2,!G.one];rw[this]at c1;show È c1 0.3
  let j:=J.trans l;let R:=l _ _ A;generalize H1=Hx at j R⊢
 case' n2=>
  show{tt,c,told,t,rfl,l _ _ A,(J.trans l) _ _ hC,⋯,⋯,I.mon,bT,(λx hx=>(bt x hx).mono 0.3),λL H2 Z e2=>?_};show{L,rfl,cT (λc2=>?b3) (λc2=>?n3)}
 case n3=>
  let hb1:P=true:=by cases P<;>first|rfl|show È rfl c1
  let hb2:L=true:=by cases L<;>first|rfl|show È rfl c2
  let e:=G.told I.mon (O.mp hb1) (e2.mp hb2) I.ge;subst e;show(q tt H2 (J.trans (l.trans Z)) ((l.trans Z) _ _ A))
 case' b3=>
  let v:¬(ripe=true/\told=g):=λz=>by
   let:L=true:=e2.mpr #v[z.2,!G.two];rw[this]at c2;show È c2 0.3
  let j:=J.trans (l.trans Z);let R:=(l.trans Z) _ _ A;generalize H2=Hx at j R⊢
 all_goals
  let hfew:=I.few G.ne hV hU v;obtain⟨k,hk'⟩:∃k,120000-(b+good)=k+1:={120000-(b+good)-1,⋯};rw[hk']at KI;ext q0 hq0 axq aX5 u KI.next;show{_,λ_ _ z=>z,?_};show{r,q0,rfl,hq0,axq,⋯,λp hp w hle=>?_};let hN:=u p hle;show{p,a,f,rfl,⋯,j _ _ hA,⋯,λt1 H3 g3 h3=>?_};show{p,c,t,rfl,⋯,(j.trans g3) _ _ hC,⋯,λt2 H4 g4 h4=>?_};let l1:=FC p f;let l2:=FC p t;show{p,t1,t2,_,(),hp,⋯,g4 _ _ h3,h4,⋯,⋯,B9 p f,B9 p t,λ_=>aDT hp X,λts s' H5 g5 C hG hsl=>?_};let U:=G.seen hp (Zj p f) (Zj p t) hG;let Y:(s'[11])[_]=s'[_]:=aA _;let lT:(told[11])[_]=told[_]:=aA _;let gy:=j.trans (g3.trans (g4.trans g5));let d:=(g3.trans (g4.trans g5)) _ _ R;show{.ref ts,s'[_],rfl,.inr {_,ao.of C,Y.symm},.ref tt,told[_],rfl,.inr {_,ao.of d,lT.symm},"",(),cT (λd1=>?_) (λd1=>?_)}
  .let d1':(s'[_]:Int)<told[_]:=dec_true d1;show{ts,rfl,.inr {{_,ao.of C},OB C ⋯ rfl (λx=>Pm.nr p x) ?_ ?_}}
   .intro H6 x g6 hx kk hk;show{p,x,rfl,⋯,hk}
   .intro D hD;show{D,(),.inl {aj.of aB,λtn ht=>?_}};let⟨T,S,y,W⟩:=I.anew hp w ⋯ ⋯ U 0.6;show{120000-(T+S),⋯,_,_,tn,s'.map (Pm.nr p),p,p,true,T,S,rfl,rfl,gy.trans ((Same.new hD _).trans (Same.new ht _)),aB,W,#v[y,(⋯:120000-(b+good+1)=k),!hN],⋯,⋯}
  .let d1':¬(s'[_]:Int)<told[_]:=dec_false d1;show ur.by (λo H2=>∃m',m'<120000-(b+good)/\y? H a c f g N m' o H2) (λN0 SN=>?_) (λo H2 z=>z);show{.ref ts,s'[_],rfl,.inr {_,ao.of C,Y.symm},.ref tt,told[_],rfl,.inr {_,ao.of d,lT.symm},(),cT (λd2=>?_) (λd2=>?_)}
   .let d2':(s'[_]:Int)=told[_]:=dec_true d2;let hl:s'[_]=told[_]:=⋯;let CP:¬(p:Int)∣M:=λz=>let:=I.div p hp z;⋯
    show{.ref ts,s'[_],rfl,.inr {_,ao.of C,Y.symm},(s'[_]:Int),rfl,(0.1:-(2^62)<=(s'[_]:Int)),(⋯:(s'[_]:Int)<2^62),?_};rw[dg,!C7 (n:=s'[_]) ⋯ rfl (λk=>Pm.jn M (told.getD k 0) p (s'.getD k 0)) ?_ ?_]
    .intro H6 s g6 hk6 kk hk;let O:(0+s[0]).toNat=s:=⋯;show{!(g6 _ _ d),fG (ns:=told) (⋯:(0:Int)<=0+s[0]) 0.6,!(g6 _ _ C),fG (ns:=s') (⋯:(0:Int)<=0+s[0]) 0.8,?_};rw[O,!{M,_,p,(),hp,⋯,I.pos,CP,hk}]
    .intro D hD;show{D,(),.inl {aj.of aB,λtn ht=>?_}};let gn:=(Same.new hD (.lst (aD s'[_] λk=>Pm.jn M (told.getD k 0) p (s'.getD k 0))[11])).trans (Same.new ht (.tup (aD s'[_] λk=>Pm.jn M (told.getD k 0) p (s'.getD k 0))[11]));show{mulR ⋯ ⋯,?_};dsimp only[jq,Lg,C9,Ends.wn,Ends.fn];show Xg.mk rfl (Xg.mk rfl (Ra (ns:=aD s'[_] λk=>Pm.jn M (told.getD k 0) p (s'.getD k 0)) (ms:=told) (ao.of aB) (ao.of (gn _ _ d)) ?_));let⟨T,S,y,W⟩:=I.join (mL:=aD s'[_] λk=>Pm.jn M (told.getD k 0) p (s'.getD k 0)) (aci:=decide ((aD s'[_] λk=>Pm.jn M (told.getD k 0) p (s'.getD k 0))=told)) hp w ⋯ ⋯ U hl #v[bZ,!hl] (λs hk6=>{jw M (told.getD s 0) p (s'.getD s 0),aTH hp CP,#v[dH,Á 0.6,0]}) (decide_eq_true_iff);show SN _ _ {120000-(T+S),⋯,_,_,tn,_,M*p,p,_,T,S,rfl,rfl,gy.trans gn,aB,W,#v[y,(⋯:120000-(b+good+1)=k),!hN],⋯,⋯}
   .let d2':¬(s'[_]:Int)=told[_]:=dec_false d2;let W:=I.stay hp w ⋯ U ⋯;show SN _ _ {120000-(b+1+good),⋯,_,_,tt,told,M,p,ripe,b+1,good,rfl,rfl,gy,d,W,#v[(⋯:120000-(b+1+good)=k),!hN],⋯,⋯}
theorem aBF(F:Fn K mg "of_rule" vF ["by","rule"])(O:kY M):OX M:=by
 delta xl
 ext b a c rfl hb j r q h;show{_,#[(),(fu (i:=2) xl.nd rfl (dR rfl) (cJ K B.cC #[1])),(lK (i:=3) (hN:=xl.nd) (hi':=rfl) (hx:=(ju rfl)) (sc:=aBz) (N:=["k","by","length","rule"]) (ix:=[ν,ι 0,ι 2,ι 1]) cF rfl (dU rfl B.dw #[2]) (((aX 0 cG),cP,(aq O hr #[1,(_-(aL K (3:) (2-_-0:)):)])) :)),(aF (dI (nR K) rfl B.mF boot_tuple #[(3+(fX #[_]):)]))],?_};let l:(c[11])[_]=c[_]:=aA _;show{.ref a,c[_],rfl,.inr {_,ao.of j,l.symm},(c[_]:Int),rfl,(⋯:-(2^62)<=(c[_]:Int)),(⋯:(c[_]:Int)<2^62),?_};rw[dg,!C7 (n:=c[_]) ⋯ rfl (λk=>Rm.tk b (0-Pm.co c (c[_]-1-k))) ?_ ?_]
 .intro H2 k d hk kk g;let p:((c[_]:Int)-1-(0+k[0])).toNat=c[_]-1-k:=0.6;show{"","",!(d _ _ j),fG (ns:=c) (⋯:(0:Int)<=(c[_]:Int)-1-(0+k[0])) ⋯,"",b,(),hb,?_};rw[p,!g]
 .intro D m;let o:=Same.new m (.lst (aD c[_] λk=>Rm.tk b (0-Pm.co c (c[_]-1-k)))[11]);show{(cU 1),λl2 f=>?_};let d:=Same.new f (.lst [.int 1]);show .inl {_,_,d _ _ aB,aB,?_,λl3 e=>?_}
  .rw[aA,bZ];show gQ (eX (⋯:_+1<=1000))
  show{l3,(),.inl {aj.of aB,λt ht=>?_}};show q t _ (o.trans (d.trans ((Same.new e _).trans (Same.new ht _)))) ?_;rw[aB,Pm.bH,Zq]
theorem aCP(F:Fn K mg "rule_of" Wv ["by","poly"])(O:kY M):UN M:=by
 delta Ϸ
 ext b a p rfl hb d z0 l q h;show{_,#[(),(fu (i:=2) Ϸ.nd rfl (dR rfl) ((cJ K B.cC #[1])-_:)),(aF (dI (nR K) rfl B.mF boot_tuple #[(c7 (sc:=aC8) (N:=["k","by","length","poly"]) (ix:=[ν,ι 0,ι 2,ι 1]) cF rfl (dU rfl B.dw #[2]) (((aX 0 cG),cP,(aq O hr #[1,(_-(aL K (3:) (2-_-0:)):)])) :))]))],?_};let e:(p[11])[_]=p[_]:=aA _;show{.ref a,p[_],rfl,.inr {_,ao.of d,e.symm},"",(p[_]:Int)-1,rfl,(⋯:-(2^62)<=(p[_]:Int)-1),(⋯:(p[_]:Int)-1<2^62),?_};rw[(0.6:((p[_]:Int)-1).toNat=p[_]-1),!C7 (n:=p[_]-1) 0.8 rfl (λk=>Rm.tk b (0-Pm.co p (p[_]-1-1-k))) ?_ ?_]
 .intro H2 k g hk kk c;let j:((p[_]:Int)-1-1-(0+k[0])).toNat=p[_]-1-1-k:=0.6;show{"","",!(g _ _ d),fG (ns:=p) (0.7:(0:Int)<=(p[_]:Int)-1-1-(0+k[0])) ⋯,"",b,(),hb,?_};rw[j,!c]
 .intro D f;show{D,(),.inl {aj.of aB,λt ht=>?_}};show q t _ ((Same.new f _).trans (Same.new ht _)) aB
theorem aWE(F:Fn K mg "top_of" Yh ["row","poly"])(U:kY M)(O:Mv M):DS M:=by
 delta EJ
 obtain⟨v,r,a,rfl,⟨a0,p,p2,rfl,w,W,t⟩,ok,u,q⟩:=h;show{_,#[(),(aC 2 EJ.nd (-0:)),(fu (i:=3) EJ.nd rfl (dR rfl) (-0:)),(aC 4 EJ.nd (fX jF)),(gq Ë rfl (dU rfl B.dw #[(cJ K B.cC #[3])]) (Tr (i:=5) EJ.nd rfl (dR rfl)) #[(),(lK (i:=6) (hN:=EJ.nd) (hi':=rfl) (hx:=(ju rfl)) (sc:=aIv) (N:=["j","k","poly","starts"]) (ix:=[ν,ι 5,ι 1,ι 3]) cF rfl (Ce rfl B.dw #[(5+_:),(cJ K B.cC #[1])]) (((aX 0 cG),cP,((aL K (2:) (0:))*(aL K (3:) (0-_-1:)):)) :)),(eU (n8 K (4:) (aq U hr #[2,(fW (Av K rfl) rfl B.Bg boot_sum #[6])])))]),(aF (aq O hr #[4]))],?_};let G:=ok.len;let T:=ok.short;let z:(r.ς[11])[_]=r.ς[_]:=aA _;let A:((Pm.bH r.b r.ρ)[11])[_]=r.ρ[_]+1:=#v[aA,jy]
 show{!w,rfl,!w,rfl,dz _,λe h0=>?_};let y:=Same.new h0 (.lst []);show{.ref p2,r.ς[_],rfl,.inr {_,ao.of (y _ _ t),z.symm},(r.ς[_]:Int),rfl,(0.6:-(2^62)<=(r.ς[_]:Int)),(⋯:(r.ς[_]:Int)<2^62),?_};show kI (lo:=0) (n:=(r.ς[_]:Int).toNat) (λi c H'=>Ž λl j=>NZ (c=[a0[4],a[4],r.b[5],p2[4],e[4],l,j]) (Same H H') (H' e=(aD i λk=>Rm.tk r.b (Pm.tp (Pm.bH r.b r.ρ) r.at k))[11][2]))
  {_,(),y,aB} ?_ ?_
 .rintro i c H' hi ⟨l,j,rfl,g,o⟩;let m:i<r.ς[_]:=1.2;show{.ref a,r.ρ[_]+1,rfl,.inr {_,ao.of (g _ _ u),A.symm},_,(),{⋯,⋯,⋯,⋯},?_};rw[(0.7:((r.ρ[_]+1:Nat)[0]-(0+i[0]+1)).toNat=r.ρ[_]-i),!GF (lo:=0+i[0]+1) (n:=r.ρ[_]-i) ⋯ rfl (λk=>Pm.co (Pm.bH r.b r.ρ) (i+1+k)*r.at k) ?_ ?_]
  .intro H2 k x hk kk d;let R:(0+i[0]+1+k[0]).toNat=i+1+k:=⋯;let P:(0+i[0]+1+k[0]-1-(0+i[0])).toNat=k:=0.6;let S:(Pm.bH r.b r.ρ)[_]=r.ρ[_]+1:=jy ..;show{!(x _ _ (g _ _ u)),fG (ns:=Pm.bH r.b r.ρ) (⋯:(0:Int)<=0+i[0]+1+k[0]) ⋯,"","",!(x _ _ (g _ _ t)),fG (ns:=r.ς) (⋯:(0:Int)<=0+i[0]+1+k[0]-1-(0+i[0])) ⋯,jA (Bd.getD ok.jZ _) (Bd.getD ok.kE _) 0.3,?_};rw[R,P];let L:r.at k=r.ς.getD k 0:=qG ⋯;rw[L]at d;show d
  .intro D I;let f:=Same.new I (.lst (aD (r.ρ[_]-i) λk=>Pm.co (Pm.bH r.b r.ρ) (i+1+k)*r.at k)[11]);let s:=f _ _ o;let C:((aD i λk=>Rm.tk r.b (Pm.tp (Pm.bH r.b r.ρ) r.at k))[11])[_]=i:=#v[aA,bZ]
   show{.inl {rfl,_,aj.of s},D,(),aj.of aB,r.b,(),ok.iR,e,"",s,?_,?_}
   .rw[C];show eX ⋯
   .show{_,(),(g.trans f).upd h0 _,?_};rw[aB,oI,Zq];let J:Pm.tp (Pm.bH r.b r.ρ) r.at i=(aD (r.ρ[_]-i) λk=>Pm.co (Pm.bH r.b r.ρ) (i+1+k)*r.at k).sum:=by
     unfold Pm.tp;rw[aD,PK,jy,gU]
    rw[J]
 .rintro c H' ⟨l,j,rfl,g,o⟩;show{e,(),aj.of o,λt1 H3 f h3=>?_};show q t1 H3 (g.trans f) ?_;rw[h3,DX,G,dg]
theorem aWd(F:Fn K mg "shared_divisor" ym ["by","one","other"])(O:YU M)(v:xc M):UI M:=by
 delta aJq
 ext b a c k t rfl j i hB f m l u bt o n q h;show{_,(aJ (aF (Cd (0==_:) (aq O hr #[1,2]) (aq v hr #[0,1,2])))),(),cT (λe=>?_) (λe=>?_)}
 .let d:b=0:=dec_true e;subst d;show{a,c,k,t,rfl,j,i,f,m,l,u,bt,q}
 .obtain⟨p,hp,rfl⟩:=hB.resolve_left (dec_false e);let hr:=Hc p hp;show{p,a,c,k,t,rfl,cz hp,⋯,j,i,⋯,⋯,o,n,λ_ z=>by let:=f.pos;rw[z]at this;show È this 0.3,λt g H' s h1 r _=>q g r.gc t H' s h1}
theorem aUh(F:Fn K mg "least_of" tx ["row"])(O:OX M)(Y:DS M)(U:Ge M)(W:UI M):ZQ M:=by
 delta Vi
 obtain⟨v,r,rfl,⟨a0,p,p2,rfl,j,s,R⟩,⟨ok,hB,ud⟩,q⟩:=h;show{_,#[(),(aC 1 Vi.nd (-0:)),(aC 2 Vi.nd (aq O hr #[1,-0])),(aC 3 Vi.nd (aq Y hr #[0,2])),(aF (aL K (aq U hr #[1,2,(aq W hr #[1,2,3])]) aR))],?_};let P:=ok.pC;let f:=nJ r.b r.ρ;let lq:(Pm.bH r.b r.ρ)[_]=r.ρ[_]+1:=jy ..;show{!j,rfl,!j,rfl,r.b,p,r.ρ,rfl,ok.iR,s,⋯,λd H1 c u=>?_};show{.ref a0,r,d,rfl,{a0,p,p2,rfl,c _ _ j,c _ _ s,c _ _ R},ok,u,λI H2 A i=>?_};let a:=A _ _ u;let lt:=aQD r;let n:=aLo r.b r.ρ hB.one;let m:∀x∈Pm.bH r.b r.ρ,Bd 81400 x:=λx hx=>(ok.jZ x hx).mono 0.3;show{r.b,d,I,Pm.bH r.b r.ρ,DX r,rfl,a,i,hB.p,f,0.6,⋯,m,aFF ok,RK f n,Py.aD ..,λg G C H3 z N=>?_};let⟨L,w,Z,J,T,B⟩:=kR hB f G;let lp:=w.pos;show{r.b,d,C,Pm.bH r.b r.ρ,g,81400,81569,rfl,ok.iR,⋯,z _ _ a,N,⋯,⋯,G.mon,n,m,λx hx=>?_,0.3,0.3,λt x y o l X S ht hx hy D _=>?_}
 .obtain⟨k,hk,e⟩:=pH.mp hx;let:=Pc hB ⋯ w G.nu T J 0.3 (iK m) k
  rwa [mC hk,e]at this
 .obtain⟨rfl,_⟩:=D.uniq G.mon B;show{!ht,rfl,q o {g,G,(B)} x X (c.trans (A.trans (z.trans S))) hx}
theorem aB8(F:Fn K mg "shortest" oT ["row"])(I:ZQ M)(O:UN M):zZ M:=by
 delta uS
 obtain⟨v,r,rfl,⟨a0,p,p2,rfl,s,D,z⟩,o,q⟩:=h;show{_,#[(),(aC 1 uS.nd (aq I hr #[0])),(aC 2 uS.nd (aq O hr #[-0,1])),(aF (iu #[-0,2,(dI (nR K) rfl B.mF boot_tuple #[(jJ (jX K) (-0:) lF (jz (cJ K B.cC #[2])))])]))],?_};let J:=o.ud;let y:(r.ς[11])[_]=r.ς[_]:=aA _;show{.ref a0,r,rfl,{a0,p,p2,rfl,s,D,(z)},o,λL m A H1 f G=>?_};let⟨e,n,ll,k⟩:=m.ok o;let q:∀i H',Same H H'->cL H' i (MB r L)->Q i H':=λi H' g h=>q i H' g (e▸h) k;show{!(f _ _ s),rfl,r.b,A,L,rfl,o.ok.iR,G,n,⋯,λd H2 j u=>?_};let C:((jR r.b L)[11])[_]=L[_]-1:=#v[aA,GD]
 let x:=(f.trans j) _ _ s;let a:=(f.trans j) _ _ z;show{!x,rfl,!x,rfl,.ref d,L[_]-1,rfl,.inr {_,ao.of u,C.symm},(),?_};by_cases hw:r.ς[_]<=L[_]-1
 .refine .inr (.inr {_,ao.of a,?_,?_})
  .rw[HT.qR,HT.wR,y];simp_all
  .refine{p2,(),.inr {ao.of a,?_}};show{(cU 3),λt ht=>?_};let c:=Same.new ht (.tup [.int r.b,.ref d,.ref p2]);show q (.ref t) _ (f.trans (j.trans c)) {t,d,p2,rfl,aB,c _ _ u,?_};show _=ι (HO.tup (r.ς.take (L[_]-1))[11]);rw[sG hw,!c _ _ a]
 .refine .inr (.inl {_,ao.of a,?_,λp3 l=>?_})
  .rw[HT.qR,HT.wR,y];omega
  .refine{p3,(),.inr {ao.of aB,?_}};let c:=Same.new l (.tup (fP r.ς[11] ν (ι (L[_]-1:Nat)[0])));show{(cU 3),λt ht=>?_};let w:=Same.new ht (.tup [.int r.b,.ref d,.ref p3]);show q (.ref t) _ (f.trans (j.trans (c.trans w))) {t,d,p3,rfl,aB,(c.trans w) _ _ u,?_};show _=ι (HO.tup (r.ς.take (L[_]-1))[11]);rw[qg,<-vG,!w _ _ aB]
theorem aDN(F:Fn K mg "told_row" ez ["by","rule","starts"])(O:kY M)(U:zZ M):Gg M:=by
 delta xj
 ext b a e ns f rfl P z hB m X Z R q h;let A:∀x∈aD ns[_] f,Bd 52300 x:=λx hx=>by
  let⟨k,hk,rfl⟩:=jN hx;show Z k hk
 let j:=R.at_;let y:(aD ns[_] f)[_]=ns[_]:=bZ ..;generalize aD ns[_] f=ms at z A j y;let d:=hB.lo;show{_,#[(),(aC 3 xj.nd (dI (nR K) rfl B.mF boot_tuple #[(c7 (sc:=aIA) (N:=["number","by"]) (ix:=[ν,ι 0]) cF rfl (dF K (1:)) (((aX 0 cG),cP,(aq O hr #[1,0])) :))])),(aC 4 xj.nd (dI (nR K) rfl B.mF boot_tuple #[(c7 (sc:=aWZ) (N:=["number","by"]) (ix:=[ν,ι 0]) cF rfl (dF K (2:)) (((aX 0 cG),cP,(aq O hr #[1,0])) :))])),(aF (aq U hr #[(iu #[0,3,4])]))],?_};show(ZE P ⋯ rfl (Rm.tk b) ?_ ?_)
 .intro H2 x v hx kk c;show{b,x,rfl,d,c}
 intro D L;let S:=Same.new L (.lst (ns.map (Rm.tk b))[11]);show{D,(),.inl {aj.of aB,λt1 r=>?_}};let W:=Same.new r (.tup (ns.map (Rm.tk b))[11]);let h1:(upd (upd H D (.lst (ns.map (Rm.tk b))[11])) t1 (.tup (ns.map (Rm.tk b))[11])) t1=(ns.map (Rm.tk b))[11][3]:=aB;let g:=S.trans W;generalize upd (upd H D (.lst (ns.map (Rm.tk b))[11])) t1 (.tup (ns.map (Rm.tk b))[11])=H1 at g h1;show(ZE (z.same g) ⋯ rfl (Rm.tk b) ?_ ?_)
 .intro H2 x v hx kk c;show{b,x,rfl,d,c}
 intro w s;let t:=Same.new s (.lst (ms.map (Rm.tk b))[11]);show{w,(),.inl {aj.of aB,λt2 I=>?_}};let v:=Same.new I (.tup (ms.map (Rm.tk b))[11]);let h2:(upd (upd H1 w (.lst (ms.map (Rm.tk b))[11])) t2 (.tup (ms.map (Rm.tk b))[11])) t2=(ms.map (Rm.tk b))[11][3]:=aB;let l:=t.trans v;let i:=l _ _ h1;generalize upd (upd H1 w (.lst (ms.map (Rm.tk b))[11])) t2 (.tup (ms.map (Rm.tk b))[11])=H2 at l h2 i;show{(cU 3),λt3 C=>?_};let u:=Same.new C (.tup [.int b,.ref t1,.ref t2]);let p:=ic hB 0.3 X;let k2:=ic hB 0.3 A;let o:Dp {b,ns.map (Rm.tk b),ms.map (Rm.tk b)}:={{by simp[y],by simpa using(⋯:ns[_]<=24),d,hB.hi,p.2,k2.2,λx hx=>(p.1 x hx).mono 0.3,k2.1},hB,m[7]};show{.ref t3,{b,ns.map (Rm.tk b),ms.map (Rm.tk b)},rfl,{t3,t1,t2,rfl,aB,u _ _ i,u _ _ h2},o,λG Y T J k=>q G _ Y (g.trans (l.trans (u.trans T))) J {k.by_,aDJ o k p.1,λn=>(k.at_ n).trans (j n)}}
theorem aSb(F:Fn K mg "sum_place" wq ["ours","theirs","n"]):kS M:=by
 delta axS
 ext l1 l2 m a c n rfl h1 h2 hn b e d q h;show{_,(aJ (aF ((aL K (0:) (2:))+(aL K (1:) (2:)):))),¬h1,j7 hn,¬h2,j7 hn,q _ (Same.refl _)}
theorem azV(F:Fn K mg "product_place" nz ["ours","theirs","n"]):iE M:=by
 delta aLL
 ext l1 l2 m a c n rfl h1 h2 hn e d b q h;show{_,(aJ (aF ((aL K (0:) (2:))*(aL K (1:) (2:)):))),_,V.int (a n),.inl (aj.of h1),j7 hn,_,V.int (c n),.inl (aj.of h2),j7 hn,jA (d n ⋯) (b n ⋯) 0.3,q _ (Same.refl _)}
theorem aUl(F:Fn K mg "rolled_place" pS ["ours","theirs","n"]):WV M:=by
 delta aKe
 ext l1 l2 m a c n rfl h1 h2 hn j g f q h;show{_,(aJ (aF (fW (Av K rfl) rfl B.Bg boot_sum #[(c7 (sc:=aCx) (N:=["i","n","ours","theirs"]) (ix:=[ν,ι 2,ι 0,ι 1]) cF rfl (dU rfl B.dw #[(2+_:)]) (((aX 0 cG),cP,((aL K (2:) (0:))*(aL K (3:) (1-0:)):)) :))]))),?_};show{n[0]+1,rfl,(⋯:-(2^62)<=n[0]+1),(⋯:(n:Int)+1<2^62),?_};rw[(0.6:(n[0]+1).toNat=n+1),!Di (n:=n+1) ⋯ rfl (λi=>a i*c (n-i)) ?_ ?_]
 .intro H8 k b hk kk d;show{_,V.int (a k),.inl (aj.of (b _ _ h1)),#v[dO,!j7 ⋯],"",_,V.int (c (n-k)),.inl (aj.of (b _ _ h2)),#v[dO,(0.7:(n:Int)-k[0]=(n-k:Nat)[0]),!j7 0.7],jA (g k ⋯) (f (n-k) 0.8) 0.3,d _ (Same.refl _)}
 .intro D H8 l b e;show{D,aD (n+1) λi=>a i*c (n-i),rfl,aj.of e,?_};rw[Vt,!q _ b]
theorem aMl(F:Fn K mg "pair_row" YC ["one","other","rule","pair_place"])(O:xK M)(U:Gg M)(Y:kS M)(Z:WV M)(GK:iE M):xi M:=by
 delta SG
 ext C L J t g d f ns rfl w G T p k2 y a X S q h;let s:∀i,i<=12->Bd 20000 (d.at i):=λi hi=>(p.EW i hi).mono 0.3;let e:∀i,i<=12->Bd 20000 (f.at i):=λi hi=>(k2.EW i hi).mono 0.3;show{_,#[(),(aC 4 SG.nd (cJ K B.cC #[2])),(fu (i:=5) SG.nd rfl (dR rfl) (aq O hr #[0,4])),(fu (i:=6) SG.nd rfl (dR rfl) (aq O hr #[1,4])),(aF (aq U hr #[-0,2,(c7 (sc:=aSM) (N:=["n","ours","pair_place","theirs"]) (ix:=[ν,ι 5,ι 3,ι 6]) cF rfl (dU rfl B.dw #[4]) (((aX 0 cG),cP,(aVG Y Z GK hr (2:) #[1,3,0])) :))]))],?_};let u:(ns[11])[_]=ns[_]:=aA _;show{.ref t,ns[_],rfl,y.elim (λh=>.inl {_,aj.of h,u.symm}) (λh=>.inr {_,ao.of h,u.symm}),?_};show{L,d,(ns[_]:Int),rfl,G,(p.cV 0.3).ok,0.6,⋯,λl1 H1 A f1 h1=>?_};rw[dg,Du]at h1;show{J,f,(ns[_]:Int),rfl,T.same A,(k2.cV 0.3).ok,⋯,⋯,λl2 H2 z f2 h2=>?_};rw[dg,Du]at h2;let r:=A.trans z;let⟨a1,p1,q1,rfl,I,uF,P⟩:=id (G.same r);let l:=z _ _ h1;show{!I,rfl,(ns[_]:Int),rfl,(0.6:-(2^62)<=(ns[_]:Int)),(⋯:(ns[_]:Int)<2^62),?_};rw[dg,!Di (n:=ns[_]) ⋯ rfl (C d.at f.at) ?_ ?_]
 .intro H8 k c hk kk j;rcases id w with⟨m,o⟩|⟨m,o⟩|⟨m,o⟩
  .subst o;show(.inl {{g,m,(rfl)},l1,l2,ns[_],d.at,f.at,k,#v[dO],c _ _ l,c _ _ h2,hk,a,s,e,j})
  .subst o;show(.inr (.inl {{g,m,(rfl)},l1,l2,ns[_],d.at,f.at,k,#v[dO],c _ _ l,c _ _ h2,hk,a,s,e,j}))
  .subst o;show(.inr (.inr {{g,m,(rfl)},l1,l2,ns[_],d.at,f.at,k,#v[dO],c _ _ l,c _ _ h2,hk,a,s,e,j}))
 .intro D H8 hD c R;show{d.b,t,D,ns,C d.at f.at,rfl,(y.same r).same c,.inl R,p.wf.hB,a,X,λk hk=>(w.bd p.EW k2.EW ⋯).mono 0.3,S,λv x H' W=>q v x H' (r.trans (c.trans W))}
theorem aPV(F:Fn K mg "shared_by" se ["one","other"]):Td M:=by
 delta aNh
 obtain⟨d,c,g,f,rfl,⟨a1,p1,j,rfl,a,_,_⟩,⟨a2,p2,i,rfl,b,_,_⟩,e,q⟩:=h;show{_,#[(),(bI (-0!=(-1):) (aJ gZ) bJ),(aF (-0:))],!a,rfl,!b,rfl,(),?_};rw[É e,!bO {!a,rfl,q}]
theorem aJQ(F:Fn K mg "refuse_long" mE ["length"]):Nz M:=by
 delta aCH
 ext n rfl h1 q h;show{_,(aJ (bI (0>(rB rfl B.QJ):) (aJ gZ) bJ)),"",(),cT (λc=>È (dec_true c) 0.8) λ_=>q}
theorem aTi(F:Fn K mg "joint_row" ZC ["one","other","pair_place"])(Y:Td M)(U:zZ M)(uh:Nz M)(wX:UO M)(O:OX M)(FD:xi M)(yV:UN M):wc M:=by
 delta N7
 ext f0 u t g r s' rfl N L D y h1 h2 e q h;show{_,#[(),(aC 3 N7.nd (aq Y hr #[0,1])),(aC 4 N7.nd (aq U hr #[0])),(aC 5 N7.nd (aq U hr #[1])),(eU (aq uh hr #[((cJ K B.cC #[-4])+(cJ K B.cC #[-5]):)])),(aC 6 N7.nd (aq wX hr #[3,(aq O hr #[3,-4]),(aq O hr #[3,-5])])),(aF (aq FD hr #[4,5,(aq yV hr #[3,6]),2]))],u,t,r,s',rfl,D,y,e,u,r,rfl,D,h1.cV 0.3,λx1 H1 C m c=>?_};show{t,s',rfl,y.same C,h2.cV 0.3,λx2 H2 A d k2=>?_};let j:=c.sm h1;let i:=k2.sm h2;let k:=c.by_;let e2:(sh s').b=r.b:=k2.by_.trans e.symm;let i1:=j.wf.l4;let i2:=i.wf.l4;let a:=h1.wf.hB.lo;let I:=m.same A;let⟨a1,p1,t1,rfl,J,w,R⟩:=id I;let⟨a2,p2,t2,rfl,G,f,P⟩:=id d;show{!J,rfl,.ref p1,(sh r).ρ[_],rfl,.inr {_,ao.of w,(aA _).symm},!G,rfl,.ref p2,(sh s').ρ[_],rfl,.inr {_,ao.of f,(aA _).symm},((sh r).ρ[_]:Int)+((sh s').ρ[_]:Int),rfl,⋯,?_};let s:=j.poly;let p:=i.poly;let c1:=j.kp;let c2:=i.kp;rw[k]at s c1;rw[e2]at p c2;let n:=Vr h1.wf.hB (nJ ..) (nJ ..) (L c1 c2);rw[show(sh r).at=r.at from funext c.at_,show(sh s').at=s'.at from funext k2.at_,<-k]at n;let l1:(Pm.bH r.b (sh r).ρ)[_]=(sh r).ρ[_]+1:=jy ..;let l2:(Pm.bH r.b (sh s').ρ)[_]=(sh s').ρ[_]+1:=jy ..;show{!J,rfl,r.b,p1,(sh r).ρ,rfl,a,w,⋯,λt3 H3 o h3=>?_};show{!(o _ _ G),rfl,r.b,p2,(sh s').ρ,rfl,a,o _ _ f,⋯,λt4 H4 z h4=>?_};show{r.b,t3,t4,_,(),a,z _ _ h3,h4,⋯,⋯,λx hx=>(s x hx).mono 0.3,λx hx=>(p x hx).mono 0.3,λt5 H5 X T=>?_};let⟨lm,lr,br⟩:=Qu h1.wf.hB (nJ ..) (nJ ..) s p ⋯;show{r.b,t5,(),a,T,⋯,⋯,λt6 H6 W S=>?_};let l:=o.trans (z.trans (X.trans W));show{f0,.ref a1,.ref a2,t6,g,sh r,sh s',(),N,I.same l,d.same l,j,i,.inr S,⋯,br,?_,?_}
 .rw[show(sh r).at=r.at from funext c.at_,show(sh s').at=s'.at from funext k2.at_];rw[k]at n ⊢;show n
 .rw[show(sh r).at=r.at from funext c.at_,show(sh s').at=s'.at from funext k2.at_,k];exactλv x H' Z=>q v x H' (C.trans (A.trans (l.trans Z)))
theorem aHN(F:Fn K mg "added" Xn ["one","other"])(k:wc M)(l:kS M):Kj M:=by
 delta aFf
 ext b a r s' rfl i f e d c q h;show{_,(aJ (aF (aq k hr #[0,1,(YF l rfl)]))),λg j=>{CG,b,a,g,r,s',rfl,.inl {j,(rfl)},aTz,i,f,e,d,c,q}}
theorem aVa(F:Fn K mg "rolled" xf ["one","other"])(k:wc M)(l:WV M):Nc M:=by
 delta ayO
 ext b a r s' rfl i f e d c q h;show{_,(aJ (aF (aq k hr #[0,1,(YF l rfl)]))),λg j=>{AH,b,a,g,r,s',rfl,.inr (.inl {j,(rfl)}),aRp,i,f,e,d,c,q}}
theorem az1(F:Fn K mg "behind_first" ba ["rule","sums","k"]):WQ M:=by
 delta TM
 ext a c ρ b k rfl f l t j u s r q h;show{_,#[(),(aC 3 TM.nd (fW (aLa rfl) rfl B.ayR boot_min #[(2-_:),(cJ K B.cC #[0])])),(aF (fW (Av K rfl) rfl B.Bg boot_sum #[(c7 (sc:=aQp) (N:=["i","k","rule","sums"]) (ix:=[ν,ι 2,ι 0,ι 1]) cF rfl (dU rfl B.dw #[3]) (((aX 0 cG),cP,((aL K (2:) (0:))*(aL K (3:) (1-_-0:)):)) :))]))],?_};let e:(ρ[11])[_]=ρ[_]:=aA _;show{"",.ref a,ρ[_],rfl,f.elim (λh=>.inl {_,aj.of h,e.symm}) (λh=>.inr {_,ao.of h,e.symm}),k[0]-1,(ρ[_]:Int),rfl,?_};let p:(if(ρ[_]:Int)<k[0]-1 then(ρ[_]:Int)else(k:Int)-1)=(min (k-1) ρ[_]:Nat)[0]:=by split<;>grind -ring
 rw[p];show{(min (k-1) ρ[_]:Nat)[0],rfl,(0.6:-(2^62)<=(min (k-1) ρ[_]:Nat)[0]),(⋯:((min (k-1) ρ[_]:Nat):Int)<2^62),?_};rw[dg,!Di (n:=min (k-1) ρ[_]) ⋯ rfl (λi=>Pm.co ρ i*Pm.co b (k-2-i)) ?_ ?_]
 .intro H2 i g hi kk d;show{_,V.int (Pm.co ρ i),(f.same g).imp aj.of ao.of,#v[dO,!yR 0.9],"","",_,V.int (Pm.co b (k-2-i)),(l.same g).imp aj.of ao.of,#v[dO,(0.7:(k:Int)-2-i[0]=(k-2-i:Nat)[0]),!yR ⋯],jA (iK s i) (iK r (k-2-i)) 0.3,d _ (Same.refl _)}
 .intro D H8 v o m;show{D,aD (min (k-1) ρ[_]) λi=>Pm.co ρ i*Pm.co b (k-2-i),rfl,aj.of m,?_};rw[Vt,!q _ o]
theorem awS(F:Fn K mg "power_sums" fS ["rule","count"])(z:WQ M):Z4 M:=by
 delta Qp
 ext a ρ n rfl y t br q h;show{_,#[(),(aC 2 Qp.nd (fX jF)),(gq Ë rfl (Ce rfl B.dw #[_,(1+_:)]) (aX 3 Qp.nd) #[(),(aC 4 Qp.nd (Lx (Cd (3<=(cJ K B.cC #[0]):) (3*(aL K (0:) (3-_:)):) aR))),(eU (n8 K (2:) (4+(aq z hr #[0,2,3]):)))]),(aF (2:))],?_};let w:(ρ[11])[_]=ρ[_]:=aA _;let s:∀x∈ρ,Bd 29000 x:=λx hx=>(br x hx).mono 0.3;show{(cU 0),λl p=>?_};show{1,n[0]+1,rfl,{0.6,0.6,⋯,⋯},?_};rw[(0.6:(n[0]+1-1).toNat=n),!kI (lo:=1) (n:=n) (λi b H'=>Ž λ(o3 j:Option V)=>NZ (b=[a[4],(n:Int)[5],l[4],o3,j]) (Same H H') (H' l=(fM ρ i)[11][2])) {ν,ν,rfl,Same.new p _,aB} ?_ ?_]
 .rintro i b H' hi ⟨o3,j,rfl,g,f⟩;rw[(⋯:(1:Int)+i[0]=(i+1:Nat)[0])];let d:=g _ _ y;let u:=Ak ρ i;show ο.by (λv H1=>v=.int (if i+1<=ρ[_] then((i+1:Nat):Int)*Pm.co ρ i else 0)/\H1=H') (λkk e=>?_) ?_
  .show{.ref a,ρ[_],rfl,.inr {_,ao.of d,w.symm},"",(),?_};show cT (λc=>?_) (λc=>?_)
   .let o:i+1<=ρ[_]:=let:=dec_true c;⋯
    let hk:=e (.int (if i+1<=ρ[_] then((i+1:Nat):Int)*Pm.co ρ i else 0)) H' {rfl,(rfl)};rw[Á o]at hk;show{"",_,V.int (Pm.co ρ i),.inr (ao.of d),#v[(0.6:((i+1:Nat):Int)-1=i[0]),!yR 1.2],jA (m:=10) (Bd.of ⋯ ⋯) (iK s i) 0.3,hk}
   .let o:¬i+1<=ρ[_]:=let:=dec_false c;⋯
    let hk:=e (.int (if i+1<=ρ[_] then((i+1:Nat):Int)*Pm.co ρ i else 0)) H' {rfl,(rfl)};rw[Â o]at hk;show hk
  rintro _ _ ⟨rfl,rfl⟩;show{.inl {rfl,_,aj.of f},a,l,ρ,fM ρ i,i+1,rfl,.inr d,.inl f,0.6,⋯,0.6,s,Z8 (λi=>gQ (iK br i)) ⋯,λH2 r=>?_};let k:=r _ _ f;show{l,"",k,?_,_,(),(g.trans r).upd p _,#v[aB,fM,eG,0]};rw[aA,u,!eX ⋯]
 .rintro b H' ⟨o3,j,rfl,g,f⟩;show(q l H' g f)
theorem aIR(F:Fn K mg "rule_of_sums" ku ["sums"])(y:WQ M):Y4 M:=by
 delta gI
 ext c a n rfl o hn s bs q h;show{_,#[(),(aC 1 gI.nd (fX jF)),(gq Ë rfl (Ce rfl B.dw #[_,((cJ K B.cC #[0])+_:)]) (aX 2 gI.nd) (aJ (eU (n8 K (1:) (((aL K (0:) (2-_:))-(aq y hr #[1,0,2]))/2:))))),(aF (1:))],?_};let u:(a[11])[_]=n:=#v[aA,hn]
 let v:∀x∈a,Bd 29000 x:=Le.list (w:=2390) ⋯ (λj z=>bs j 0.6);show{(cU 0),λl m=>?_};let p:=Same.new m (.lst []);show{.ref c,n,rfl,.inl {_,aj.of (p _ _ o),u.symm},1,n[0]+1,rfl,{⋯,⋯,⋯,⋯},?_};rw[(⋯:(n[0]+1-1).toNat=n),!kI (lo:=1) (n:=n) (λi b H'=>∃(f:Option V),b=[c[4],l[4],f]/\Same H H'/\H' l=(oA a i)[11][2]) {ν,rfl,p,(aB)} ?_ ?_]
 .rintro i b H' hi ⟨f,rfl,g,d⟩;rw[(⋯:(1:Int)+i[0]=(i+1:Nat)[0])];let e:=g _ _ o;let t:=vK a i;show{.inl {rfl,_,aj.of d},"",_,V.int (Pm.co a i),.inl (aj.of e),#v[(⋯:((i+1:Nat):Int)-1=i[0]),!yR 0.6],l,c,oA a i,a,i+1,rfl,.inl d,.inl e,⋯,⋯,⋯,(λx hx=>(n5 bs ⋯ ⋯ x hx).mono 0.3),v,λH2 r=>?_};let k:=r _ _ d;show{"","",{0.6,by show((i+1:Nat):Int)<1073741824;lia},l,"",k,?_,(),(g.trans r).upd m _,#v[aB,oA,eG,0]};rw[aA,t,!eX ⋯]
 .rintro b H' ⟨f,rfl,g,d⟩;show(q l H' g d)
theorem aIg(F:Fn K mg "multiplied" r9 ["one","other"])(U:Td M)(O:zZ M)(Y:Nz M)(S:Z4 M)(Fl:Y4 M)(FD:xi M)(GK:iE M):ON M:=by
 delta BZ
 ext z y r s' rfl L C h1 h2 e X W q h;show{_,#[(),(eU (aq U hr #[0,1])),(aC 2 BZ.nd (aq O hr #[0])),(aC 3 BZ.nd (aq O hr #[1])),(aC 4 BZ.nd ((cJ K B.cC #[-2])*(cJ K B.cC #[-3]):)),(eU (aq Y hr #[4])),(fu (i:=5) BZ.nd rfl (dR rfl) (aq S hr #[-2,4])),(fu (i:=6) BZ.nd rfl (dR rfl) (aq S hr #[-3,4])),(aC 7 BZ.nd (aq Fl hr #[(c7 (sc:=aIT) (N:=["k","our_sums","their_sums"]) (ix:=[ν,ι 5,ι 6]) cF rfl (dU rfl B.dw #[4]) (((aX 0 cG),cP,((aL K (1:) (0:))*(aL K (2:) (0:)):)) :))])),(aF (aq FD hr #[2,3,7,(YF GK rfl)]))],?_};show{z,y,r,s',rfl,L,C,e,z,r,rfl,L,h1.cV 0.3,λx1 H1 J s d=>?_};show{y,s',rfl,C.same J,h2.cV 0.3,λx2 H2 I f k2=>?_};let c:=d.sm h1;let b:=k2.sm h2;let l1:=cD d.le X;let l2:=cD k2.le W;let R:=s.same I;let⟨a1,p1,t1,rfl,T,A,hT1⟩:=id R;let⟨a2,p2,t2,rfl,P,j,hT2⟩:=id f;show{!T,rfl,.ref p1,(sh r).ρ[_],rfl,.inr {_,ao.of A,(aA _).symm},!P,rfl,.ref p2,(sh s').ρ[_],rfl,.inr {_,ao.of j,(aA _).symm},mulL ⋯ ⋯,?_};rw[<-sW];let l:=cD (nZ l1 l2) (0.3:3*3<=12);let m:=λN=>aMW (N:=N) (c.cV 0.3).ok (b.cV 0.3).ok #v[d.by_,k2.by_,e];generalize (sh r).ρ[_]*(sh s').ρ[_]=N at l m;let m:=m N rfl;show{N[0],rfl,⋯,!T,rfl,p1,(sh r).ρ,N,rfl,A,⋯,(λx hx=>(c.jh x hx).mono 0.3),λl5 H5 t h5=>?_};show{!(t _ _ P),rfl,p2,(sh s').ρ,N,rfl,t _ _ j,⋯,(λx hx=>(b.jh x hx).mono 0.3),λl6 H6 G h6=>?_};let W8:=G _ _ h5;let ls1:=Ak (sh r).ρ N;let Z:=Ak (sh s').ρ N;let w:=Z8 c.co (⋯:N<=120);let u:=Z8 b.co (⋯:N<=120);show{N[0],rfl,(0.6:-(2^62)<=N[0]),(⋯:(N:Int)<2^62),?_};rw[dg,!Di (n:=N) ⋯ rfl (λk=>Pm.co (fM (sh r).ρ N) k*Pm.co (fM (sh s').ρ N) k) ?_ ?_]
 .intro H7 k o hk kk p;show{_,V.int (Pm.co (fM (sh r).ρ N) k),.inl (aj.of (o _ _ W8)),#v[dO,!yR 0.6],_,V.int (Pm.co (fM (sh s').ρ N) k),.inl (aj.of (o _ _ h6)),#v[dO,!yR ⋯],jA (iK w k) (iK u k) 0.3,p _ (Same.refl _)}
 .intro D H7 hD o h7;let bs:∀i,i<N->Le (Pm.co (aD N λk=>Pm.co (fM (sh r).ρ N) k*Pm.co (fM (sh s').ρ N) k) i) ((2^2390)^(i+1)):=λi hi=>by
   rw[dH,Á hi,!cD ((G9 c.co N i hi).mul (G9 b.co N i hi)) ?_];rw[<-Nat.mul_pow,<-yL,!kx (mX 0.3 0.3) _]
  show{D,_,N,rfl,h7,bZ ..,l,bs,λl8 H8 g8 h8=>?_};let a:=t.trans (G.trans (o.trans g8));show(λg hg=>{Bw,.ref a1,.ref a2,l8,g,sh r,sh s',(),.inr (.inr {hg,(rfl)}),R.same a,f.same a,c,b,.inl h8,#v[vK,!l],n5 bs (aZ _) l,m,?_});rw[show(sh r).at=r.at from funext d.at_,show(sh s').at=s'.at from funext k2.at_,d.by_];exactλv x H' g'=>q v x H' (J.trans (I.trans (a.trans g')))
theorem aW2(F:Fn K mg "refuse_far_steps" eI ["start","step"]):rL M:=by
 delta aSf
 obtain⟨s,e,rfl,⟨h1,h2,h3,h4⟩,q⟩:=h;show{_,(aJ (bI (PW.pt (jc (0<_:) (jc (0>(rB rfl B.Zk):) (jc (1<_:) (mD (1>(rB rfl B.zd):)))))) (aJ gZ) bJ)),"",(),cT (λc=>È (dec_true c) 0.8) λ_=>?_};show{"",(),cT (λc=>È (dec_true c) 0.8) λ_=>?_};show{"",(),cT (λc=>È (dec_true c) 0.8) λ_=>?_};show{"",(),cT (λc=>È (dec_true c) 0.8) λ_=>q}
theorem aCp(F:Fn K mg "every" fT ["row","start","step"])(E4:rL M)(U:zZ M)(Eh:Z4 M)(Y:xK M)(Fl:Y4 M)(O:Gg M):CO M:=by
 delta E5
 ext v s e r rfl y h1 z q h;show{_,#[(),(eU (aq E4 hr #[1,2])),(aC 3 E5.nd (aq U hr #[0])),(aC 4 E5.nd (cJ K B.cC #[-3])),(fu (i:=5) E5.nd rfl (dR rfl) (aq Eh hr #[-3,(2*4:)])),(fu (i:=6) E5.nd rfl (dR rfl) (aq Y hr #[3,(1+2*4:)])),(aC 7 E5.nd (aq Fl hr #[(c7 (sc:=aIx) (N:=["k","step","sums"]) (ix:=[ν,ι 2,ι 5]) cF rfl (Ce rfl B.dw #[_,(4+_:)]) (((aX 0 cG),cP,(aL K (2:) (1*0-_:))) :))])),(aF (aq O hr #[-0,7,(c7 (sc:=aGR) (N:=["k","found","start","step"]) (ix:=[ν,ι 6,ι 1,ι 2]) cF rfl (dU rfl B.dw #[4]) (((aX 0 cG),cP,(aL K (1:) (2+3*0:))) :))]))],?_};show{s,e,rfl,z,?_};ext s0 s1 e0 d z;obtain⟨st,rfl⟩:∃st:Nat,s=(st:Int):={s.toNat,⋯};obtain⟨e,rfl⟩:∃k:Nat,e=(k:Int):={e.toNat,0.7};simp only[dg]at q;let d:1<=e:=⋯;show{v,r,rfl,y,h1.cV 0.3,λx1 H1 g1 w g=>?_};let c:=g.sm h1;let⟨c1,p1,t1,rfl,P,t,T⟩:=id w;let u:((sh r).ρ[11])[_]=(sh r).ρ[_]:=aA _;let p:=Lm (st:=st) (N:=(sh r).ρ[_]) (c.cV 0.3).ok d rfl;rw[show(sh r).at=r.at from funext g.at_,g.by_]at p;let f:(sh r).ρ[_]<=12:=cD c.wf.l4 0.3;generalize (sh r).ρ[_]=N at p u f;let eN2:e*N<=10*12:=nZ ⋯ f;let NeN:N<=e*N:=Nat.le_mul_of_pos_left _ d;show{!P,rfl,.ref p1,N,rfl,.inr {_,ao.of t,u.symm},!P,rfl,mulL ⋯ ⋯,p1,(sh r).ρ,e*N,#v[sW,0],t,0.9,(λx hx=>(c.jh x hx).mono 0.3),λl5 H5 J h5=>?_};let ls:=Ak (sh r).ρ (e*N);let Nb:=w.same J;show{mulL ⋯ ⋯,.ref c1,sh r,st[0]+e[0]*N[0],rfl,Nb,(c.cV 0.3).ok,#v[-sW],#v[-sW],λl6 H6 I f6 C=>?_};rw[show(st[0]+e[0]*N[0]).toNat=st+e*N by rw[<-sW,1],Du]at C;let W8:=I _ _ h5;show{1,N[0]+1,rfl,{⋯,⋯,⋯,⋯},?_};rw[(⋯:(N[0]+1-1).toNat=N),!GF (lo:=1) (n:=N) ⋯ rfl (λk=>Pm.co (fM (sh r).ρ (e*N)) (e*(k+1)-1)) ?_ ?_]
 .intro H7 k l hk kk a;let t1:1<=e*(k+1):=Nat.mul_pos d 0.6;let t2:(e:Int)*(1+k[0])=(e*(k+1):Nat)[0]:=#v[sW,CM,u9,0]
  let t3:e*(k+1)<=e*N:=nH _ hk;show{mulL ⋯ ⋯,"",_,V.int (Pm.co (fM (sh r).ρ (e*N)) (e*(k+1)-1)),.inl (aj.of (l _ _ W8)),?_,a};rw[t2,(0.9:((e*(k+1):Nat):Int)-1=(e*(k+1)-1:Nat)[0]),!yR 0.9]
 intro D X;let G:=Same.new X (.lst (aD N λk=>Pm.co (fM (sh r).ρ (e*N)) (e*(k+1)-1))[11]);let bs:∀i,i<N->Le (Pm.co (aD N λk=>Pm.co (fM (sh r).ρ (e*N)) (e*(k+1)-1)) i) ((2^2390)^(i+1)):=λi hi=>by
  rw[dH,Á hi];let t1:1<=e*(i+1):=Nat.mul_pos d ⋯;let t3:e*(i+1)<=e*N:=nH _ hi;show cD (G9 c.co (e*N) (e*(i+1)-1) 0.7) ?_;rw[Nat.sub_add_cancel t1,<-yz,<-yz,!mX 0.3 ?_];rw[<-Qe,!pN _ ⋯]
 show{D,_,N,rfl,aB,bZ ..,f,bs,λS H7 l Z=>?_};let L:=g1.trans (J.trans (I.trans (G.trans l)));let o:=l _ _ (G _ _ C);let⟨a0,q1,q2,rfl,m,_,_⟩:=id (y.same L);show{!m,rfl,N[0],rfl,(⋯:-(2^62)<=N[0]),(⋯:(N:Int)<2^62),?_};rw[dg,!Di (n:=N) ⋯ rfl (λk=>(sh r).at (st+e*k)) ?_ ?_]
 .intro H8 k j hk kk a;let t3:e*(k+1)<=e*N:=nH _ hk;rw[wF]at t3;show{mulL ⋯ ⋯,_,V.int ((sh r).at (st+e*k)),.inl (aj.of (j _ _ o)),?_,a _ (Same.refl _)};rw[show(st:Int)+e[0]*(0+k[0])=(st+e*k:Nat)[0]by rw[dO,CM,sW]];rw[yR #v[bZ],dH,Á ⋯]
 intro D2 H8 W j A;let R:=vK (aD N λk=>Pm.co (fM (sh r).ρ (e*N)) (e*(k+1)-1)) N;rw[show(λk=>(sh r).at (st+e*k))=λk=>r.at (st+e*k)from funext λk=>g.at_ _]at A;show{r.b,S,D2,_,λn=>r.at (st+e*n),rfl,.inl (j _ _ Z),.inl #v[R,!A],h1.wf.hB,0.6,n5 bs (aZ _) f,λn hn=>?_,p,λv x H9 g9=>q v x H9 (L.trans (j.trans g9))};let t3:e*n<=10*12:=nZ ⋯ ⋯;show(h1.zy 0.3 _).mono ⋯
theorem azc(F:Fn K mg "scaled" ZD ["row","number"])(O:Gg M):MC M:=by
 delta aEp
 ext v r x rfl j h1 hx q h;show{_,(aJ (aF (aq O hr #[-0,-0,(c7 (sc:=aAF) (N:=["start","number"]) (ix:=[ν,ι 1]) cF rfl (dF K (-0:)) (((aX 0 cG),cP,(1*0:)) :))]))),?_};let⟨a,p,p2,rfl,d,l,i⟩:=id j;let g:=h1.wf.len;let o:=h1.wf.l4;show{!d,rfl,!d,rfl,!d,rfl,p2,rfl,.inr {{_,ao.of i},yr (xQ (ao.of i)) ⋯ rfl (λs=>x*s) ?_ ?_}}
 .intro H2 y u hy kk c;show{jA hx (h1.kE y hy) 0.6,c}
 intro D m;let e:=Same.new m (.lst (r.ς.map λs=>x*s)[11]);let f:r.ς.map (λs=>x*s)=aD r.ρ[_] λn=>x*r.at n:=qT #v[aA,bZ,g] λk=>by
  rw[uH (dG x),dH];split
  .rw[show r.at k=r.ς.getD k 0 from qG 0.6];rfl
  .rw[bK 0.6,dG]
 rw[f]at e⊢;show{r.b,p,D,r.ρ,λn=>x*r.at n,rfl,.inr (e _ _ l),.inl aB,h1.wf.hB,⋯,λx hx=>(h1.jh x hx).mono 0.3,λn hn=>((hx.mul (h1.zy 0.3 n)).mono ⋯),Gr.scale (BR g) x,λv x H' t=>q v x H' (e.trans t)}
theorem aGE(F:Fn K mg "summed" nE ["row"])(iV:zZ M)(uh:Nz M)(Y:UO M)(cR:kY M)(sH:OX M)(iM:xK M)(pK:Gg M)(U:UN M):As M:=by
 delta GC
 ext v r rfl J h1 q h;show{_,#[(),(aC 1 GC.nd (-0:)),(aC 2 GC.nd (aq iV hr #[0])),(aC 3 GC.nd ((cJ K B.cC #[-2])+_:)),(eU (aq uh hr #[3])),(aC 4 GC.nd (aq Y hr #[1,(aq sH hr #[1,-2]),(iu #[(aq cR hr #[1,(Kr Mi aR)]),_])])),(fu (i:=5) GC.nd rfl (dR rfl) (aq iM hr #[2,3])),(aF (aq pK hr #[1,(aq U hr #[1,4]),(c7 (sc:=aNe) (N:=["n","found"]) (ix:=[ν,ι 5]) cF rfl (dU rfl B.dw #[3]) (((aX 0 cG),cP,(fW (Av K rfl) rfl B.Bg boot_sum #[(jJ (jX K) (1:) lF (jz (0+_:)))])) :))]))],?_};let⟨a,p,p2,rfl,hA,hP,hS⟩:=id J;let d:=h1.wf.hB.lo;show{!hA,rfl,.ref a,r,rfl,J,h1.cV 0.3,λv2 H2 g2 S g=>?_};let f:=g.sm h1;let l:=f.wf.l4;let⟨a2,C,s2,rfl,A,e,hS2⟩:=id S;let I:((sh r).ρ[11])[_]=(sh r).ρ[_]:=aA _;let o:(Pm.bH r.b (sh r).ρ)[_]=(sh r).ρ[_]+1:=jy ..;generalize hN:(sh r).ρ[_]=N at I o l;show{!A,rfl,.ref C,N,rfl,.inr {_,ao.of e,I.symm},N[0]+1,rfl,⋯,!A,rfl,r.b,C,(sh r).ρ,rfl,d,e,⋯,λt3 H3 g3 h3=>?_};show{(),r.b,-1,rfl,d,(cU 2),λt4 t=>?_};let X:=Same.new t (.tup [Rm.tk r.b (-1),1][11]);let z:=f.poly;rw[g.by_]at z;let Z:∀x∈[Rm.tk r.b (-1),1],Bd 236 x:=λx hx=>by
  rcases fj.mp hx with rfl|hx
  .exact yJ h1.wf.hB 0.3 ((Bd.of (n:=1) 0.3 0.3).mono 0.3)
  .rw[iI.mp hx];show(Bd.of (n:=1) 0.3 0.3).mono 0.3
 show{r.b,t3,t4,_,[Rm.tk r.b (-1),1],rfl,d,X _ _ h3,aB,⋯,(0.3:2<=400),λx hx=>(z x hx).mono 0.3,λx hx=>(Z x hx).mono 0.3,λt5 H5 g5 h5=>?_};let O:=g3.trans (X.trans g5);show{.ref a2,sh r,N[0]+1,rfl,S.same O,(f.cV 0.3).ok,⋯,⋯,λl6 H6 W f6 P=>?_};rw[(0.6:(N[0]+1).toNat=N+1),Du]at P;let⟨s,G,br⟩:=Qu h1.wf.hB (nJ r.b (sh r).ρ) (show Pm.Mon [Rm.tk r.b (-1),1]from{(0.3:0<2),rfl}) z Z (by rw[o,!N+1+2<=15];lia);rw[o]at s G;show{r.b,t5,(),d,W _ _ h5,by rw[s,!0<N+1+2-1];simp_all,by rw[s,!N+1+2-1<=100];lia,λt7 H7 T h7=>?_};let y:=T _ _ P;show{N[0]+1,rfl,(⋯:-(2^62)<=N[0]+1),(⋯:(N:Int)+1<2^62),?_};rw[(⋯:(N[0]+1).toNat=N+1),!Di (n:=N+1) ⋯ rfl (λn=>Pm.sm (n+1) (sh r).at) ?_ ?_]
 .intro H8 k j hk kk w;show{(),.inl {_,aj.of (j _ _ y),λl9 u=>?_}};let eC:fP (aD (N+1) (sh r).at)[11] ν (ι (0+k[0]+1))=(aD (k+1) (sh r).at)[11]:=by
   rw[(0.6:0+k[0]+1=(k+1:Nat)[0]),vG,<-qg,XR _ 1.2]
  rw[eC];show{l9,aD (k+1) (sh r).at,rfl,aj.of aB,?_};rw[aD,PK,!w _ (Same.new u _)]
 .intro D H8 hD j L;let m:(jR r.b (Pm.mul r.b (Pm.bH r.b (sh r).ρ) [Rm.tk r.b (-1),1]))[_]=N+1:=#v[G,0]
  let R:=Vr h1.wf.hB (nJ r.b (sh r).ρ) (show Pm.Mon [Rm.tk r.b (-1),1]from{(0.3:0<2),rfl}) (aH5 (g.by_▸f.kp));rw[show(sh r).at=r.at from funext g.at_]at R L;show{r.b,t7,D,_,λn=>Pm.sm (n+1) r.at,rfl,.inr (j _ _ h7),.inl #v[m,!L],h1.wf.hB,⋯,br,λn hn=>(vW (c:=3100) (n+1) λi hi=>h1.EW i ⋯).mono ⋯,R,λv x H' g'=>q v x H' (g2.trans (O.trans (W.trans (T.trans (j.trans g')))))}
theorem aMt(F:Fn K mg "put_ahead" Yv ["row","numbers"])(iV:zZ M)(uh:Nz M)(pK:Gg M):DA M:=by
 delta Wo
 ext v r ln ns rfl P h1 hN ud D q h;show{_,#[(),(aC 2 Wo.nd (aq iV hr #[0])),(eU (aq uh hr #[((cJ K B.cC #[-2])+(cJ K B.cC #[1]):)])),(aC 3 Wo.nd ((dI (xlist K) rfl B.Ay boot_list #[-2])+(fX #[_])*(cJ K B.cC #[1]):)),(aF (aq pK hr #[-0,3,((dI (xlist K) rfl B.Ay boot_list #[1])+(dI (xlist K) rfl B.Ay boot_list #[-2]):)]))],?_};let⟨a,p,p2,rfl,hA,hP,hS⟩:=id P;let N:(ns[11])[_]=ns[_]:=aA _;show{.ref a,r,rfl,P,h1.cV 0.3,λv2 H2 A gM d=>?_};let L:=d.sm h1;let h12:=L.wf.l4;let⟨a2,J,s2,rfl,m,g,u⟩:=id gM;let e:=A _ _ hN;show{!m,rfl,.ref J,(sh r).ρ[_],rfl,.inr {_,ao.of g,(aA _).symm},.ref ln,ns[_],rfl,.inl {_,aj.of e,N.symm},((sh r).ρ[_]:Int)+(ns[_]:Int),rfl,⋯,!m,rfl,J,(),.inr (ao.of g),λl3 t=>?_};let g3:=Same.new t (.lst (sh r).ρ[11]);show{(cU 1),λl4 U=>?_};let X:=Same.new U (.lst [.int 0]);let h4:(upd (upd H2 l3 (.lst (sh r).ρ[11])) l4 (.lst [.int 0])) l4=[.int 0][2]:=aB;let h3:(upd (upd H2 l3 (.lst (sh r).ρ[11])) l4 (.lst [.int 0])) l3=(sh r).ρ[11][2]:=X _ _ aB;let G:=g3.trans X;generalize upd (upd H2 l3 (.lst (sh r).ρ[11])) l4 (.lst [.int 0])=H4 at G h3 h4;show{.ref ln,ns[_],rfl,.inl {_,aj.of (G _ _ e),N.symm},_,h4,0.6,⋯,?_,λo Z=>?_}
 .show 1*(ns[_]:Int).toNat<=Ê;rw[G8,!gQ (eX ⋯)]
 rw[show(ns[_]:Int).toNat=ns[_] from dg _,Ru];let W:=Same.new Z (.lst ((aD ns[_] λ_=>0))[11]);let S:(upd H4 o (.lst ((aD ns[_] λ_=>0))[11])) o=((aD ns[_] λ_=>0))[11][2]:=aB;let i:=W _ _ h3;let j:=G.trans W;generalize upd H4 o (.lst ((aD ns[_] λ_=>0))[11])=H5 at j S i;show .inl {_,_,i,S,?_,λl Ea=>?_}
 .rw[aA,aA,bZ];show gQ (eX ⋯)
 rw[<-eG];let g6:=Same.new Ea (.lst ((sh r).ρ++(aD ns[_] λ_=>0))[11]);let R:(upd H5 l (.lst ((sh r).ρ++(aD ns[_] λ_=>0))[11])) l=((sh r).ρ++(aD ns[_] λ_=>0))[11][2]:=aB;let f:=j.trans g6;generalize upd H5 l (.lst ((sh r).ρ++(aD ns[_] λ_=>0))[11])=H6 at f R;show{!((A.trans f) _ _ hA),rfl,ln,(),.inl (aj.of (f _ _ e)),λl7 O=>?_};let y:=Same.new O (.lst ns[11]);show{!(y _ _ (f _ _ m)),rfl,s2,(),.inr (ao.of (y _ _ (f _ _ u))),λl8 Y=>?_};let T:=Same.new Y (.lst (sh r).ς[11]);show .inl {_,_,T _ _ aB,aB,?_,λl9 s=>?_}
 .rw[aA,aA,<-d.len];show gQ (eX ⋯)
 rw[<-eG];let g9:=Same.new s (.lst (ns++(sh r).ς)[11]);let I:=y.trans (T.trans g9);let w:=Gr.ahead (BR (b:=(sh r).b) d.len) ns;rw[d.by_]at w;let ea:Rm.at_ r.b (sh r).ρ (sh r).ς=r.at:=by
  funext n
  rw[<-d.at_ n,<-d.by_,0]
 rw[ea]at w;let lr:((sh r).ρ++aD ns[_] λ_=>0)[_]=(sh r).ρ[_]+ns[_]:=#v[fJ,bZ]
 let C:ns++(sh r).ς=aD ((sh r).ρ[_]+ns[_]) (j8 ns r.at):=qT #v[fJ,bZ,-d.len] λk=>by
  let hl:=d.len;rw[kZ,dH];unfold j8;by_cases c:k<ns[_]
  .rw[Á c,Á ⋯,Á c]
  .rw[Â c];by_cases c2:k<(sh r).ρ[_]+ns[_]
   .rw[Á c2,Â c,<-d.at_,show(sh r).at (k-ns[_])=(sh r).ς.getD (k-ns[_]) 0 from qG ⋯];rfl
   .rw[Â c2,bK 0.7]
 rw[C]at I⊢;show{r.b,l,l9,_,j8 ns r.at,rfl,.inl (I _ _ R),.inl #v[lr,!aB],h1.wf.hB,⋯,λx hx=>?_,λn hn=>?_,w,λv x H' g'=>q v x H' (A.trans (f.trans (I.trans g')))}
 .rcases iz.mp hx with z|z
  .exact(L.jh x z).mono 0.3
  .obtain⟨k,_,rfl⟩:=jN z;show Bd.zero _
 .unfold j8;split
  .exact(iK D n).mono 0.3
  .exact(h1.EW _ ⋯).mono 0.3
theorem aGh(F:Fn K mg "sum_at" kU ["by","poly","found","n"])(O:kY M):cX M:=by
 delta aNH
 ext b a l p fo n rfl hb e i hn f s r q h;show{_,(aJ (aF (aq O hr #[0,(fW (Av K rfl) rfl B.Bg boot_sum #[(c7 (sc:=aJO) (N:=["k","found","n","poly"]) (ix:=[ν,ι 2,ι 3,ι 1]) cF rfl (dU rfl B.dw #[(cJ K B.cC #[1])]) (((aX 0 cG),cP,((aL K (3:) (0:))*(aL K (1:) (2+0:)):)) :))])]))),?_};let g:(p[11])[_]=p[_]:=aA _;show{.ref a,p[_],rfl,.inr {_,ao.of e,g.symm},(p[_]:Int),rfl,(⋯:-(2^62)<=(p[_]:Int)),(⋯:(p[_]:Int)<2^62),?_};rw[dg,!C7 (n:=p[_]) f rfl (λk=>Pm.co p k*Pm.co fo (n+k)) ?_ ?_]
 .intro H2 k d hk kk c;let o:(0+k[0]).toNat=k:=0.6;let m:(0+n[0]+(0+k[0])).toNat=n+k:=⋯;show{!(d _ _ e),fG (ns:=p) (0.6:(0:Int)<=0+k[0]) 0.6,_,_,i.imp (λz=>aj.of (d _ _ z)) (λz=>ao.of (d _ _ z)),fG (ns:=fo) (⋯:(0:Int)<=0+n[0]+(0+k[0])) ⋯,?_};show{jA (Bd.getD s _) (Bd.getD r _) 0.3,?_};rw[o,m,!c]
 .intro D j;show{D,(),aj.of aB,b,(),hb,?_};let:=q _ (Same.new j (.lst (aD p[_] λk=>Pm.co p k*Pm.co fo (n+k))[11]));unfold Pm.ks at this;rw[aD,PK,!this]
theorem azP(F:Fn K mg "refuse_far_jump" xy ["by","n"]):A7 M:=by
 delta aD9
 obtain⟨b,n,rfl,⟨h0,h1⟩,q⟩:=h;show{_,(aJ (bI (PW.pt (jc (1<_:) (mD (PW.pt (FT (0==_:) (Fg (1>(rB rfl B.fh):))))))) (aJ gZ) bJ)),"",(),cT (λc=>È (dec_true c) ⋯) λ_=>{(),cT (λc=>?_) λc=>bO q}};let:=h1 (dec_true c);show{"",(),cT (λc3=>È (dec_true c3) 0.8) λ_=>q}
theorem aDs(F:Fn K mg "power_left" a9 ["by","poly","n"])(Y:Ge M)(O:UO M):g_ M:=by
 delta EV
 ext b a ρ n rfl hb hA hrl hR hn hN q h;show{_,#[(),(aC 3 EV.nd (aL K (aq Y hr #[0,(iu #[_]),1]) aR)),(gq Ë rfl (Fh rfl B.dw #[((aEo K (2:))-_:),(Kr Mi aR),(Kr Mi aR)]) (aX 4 EV.nd) #[(),(aC 5 EV.nd (aq O hr #[0,3,3])),(vM (bI ((oX azD (2:) (4:))%_==_:) (aJ (aC 5 EV.nd (aq O hr #[0,5,(iu #[_,_])]))) bJ)),(aC 3 EV.nd (aL K (aq Y hr #[0,5,1]) aR))]),(aF (3:))],?_};let Z:=nJ b ρ;let lM:=jy b ρ;let hi1:=hb.hi;let bM:∀x∈Pm.bH b ρ,Bd 67 x:=Uz hb.lo hb.hi 0.3 hR;show{(cU 1),λt0 G=>?_};let g0:=Same.new G (.tup [.int 1]);show{b,t0,a,[1],Pm.bH b ρ,22,67,rfl,hb.lo,⋯,aB,g0 _ _ hA,0.3,⋯,Z,SQ hb,λx hx=>by
  rw[iI.mp hx,!(Bd.of (n:=1) 0.3 0.3).mono 0.3],bM,0.3,0.3,λt x y q1 r1 H1 g1 ht hx hy R S=>?_}
 show{!ht,rfl,rfl,(),rfl,?_};let JM:zG (n:Int)<=400:=ğ.mpr hN;let s:b=0->zG (n:Int)<=9:=λz=>ğ.mpr (show(n:Int).natAbs<2^9 by let:=hn z;(simp;omega));let o:n/2^zG (n:Int)=0:=Nat.div_eq_of_lt (by let:=ğ.mp (aZ (zG (n:Int)));show this);generalize zG (n:Int)=B at JM s o;let small:∀{i:Nat} {l:ζ},i<=B->Py b l->(b=0->∀x∈l,Bd (6000*2^i-2800) x)->∃U,10<=U/\U<=6000*2^i/\U<=3072000/\(i<B->U<=1540000)/\(b=0->2*U+2800<=6000*2^(i+1)-2800)/\∀x∈l,Bd U x:=λ{i l} hi hy A=>by
  let p1:1<=2^i:=ES;by_cases z:b=0
  .let h9:=s z;let p9:2^i<=2^9:=mX 0.3 ⋯;let p8:i<B->2^i<=2^8:=λh=>mX 0.3 ⋯;show{6000*2^i-2800,0.7,0.6,0.8,λh=>let:=p8 h;0.8,λ_=>#v[lY],A z}
  .refine{10,0.3,⋯,0.3,λ_=>0.3,λh=>È h z,λx hx=>?_};let:=(Bc hb.lo x).resolve_left z;rw[hy.nu x hx]at this;show Bd.of ⋯ ⋯
 show{"",(),(),B[0]-1,-1,rfl,{⋯,⋯,0.6,0.6},?_};show AM (lo:=B[0]-1) (n:=(B[0]-1-(-1)).toNat) (λi d H'=>F? λ(p:Æ) (l:ζ) (D C:Option V)=>T5 (d=[b[5],a[4],n[5],p[4],D,C]) (Same H H') (H' p=(fR V.int l)[3]) (Pm.Pw b ρ (n/2^(B-i)) l) (Py b l) (l[_]<=ρ[_]) ((b=0->∀x∈l,Bd (6000*2^i-2800) x)))
  {y,r1,_,(),g0.trans g1,hy,#v[qe,o,!(Pm.Pw.one b ρ).left R],R.ry,let:=R.short;⋯,λ_ x hx=>(S x hx).mono 0.3} ?_ ?_
 .rintro i d H' hi ⟨p,l,D,C,rfl,g,hp,el,e,A,w⟩;let r:i<B:=0.6;let⟨U,Ow,_,_,f,u0,bl⟩:=small (gQ r) e w;let f:=f r;obtain⟨k,hk⟩:∃k,B-(i+1)=k:={()};let N:(B:Int)-1-i[0]=(k:Int):=0.7;let ep:n/2^k=2*(n/2^(B-i))+n/2^k%2:=by
   rw[(⋯:B-i=k+1),lY,<-Nat.div_div_eq_div_mul,1]
  rw[N];let v:∀x∈l,Bd 4000000 x:=λx hx=>(bl x hx).mono ⋯;show{b,p,p,l,l,rfl,hb.lo,hp,hp,⋯,⋯,v,v,λp2 H2 g2 m=>?_};let T:∀x∈Pm.mul b l l,Bd (2*U+12) x:=λx hx=>(Wg hb.lo hb.hi Ow bl bl x hx).mono ⋯;let lD:=MU b l l;show ur.by (λd H'=>Ž λ(p3:Æ)(l3:ζ)=>T5 (d=[b[5],a[4],n[5],p[4],(k:Int)[5],p3[4]]) (Same H H') (H' p3=(fR V.int l3)[3]) (Pm.Pw b ρ (n/2^k) l3) ((∀j,Rm.tk b (Pm.co l3 j)=Pm.co l3 j)) (l3[_]<=40) (∀x∈l3,Bd (2*U+60) x)) (λNN X=>?_) ?_
  .show{"",(⋯:(0:Int)<=k[0]),"",(0.3:(0:Int)<2),(),?_};let W:(n[0]/2^(k:Int).toNat)%2=(n/2^k%2:Nat)[0]:=by
    rw[dg]
    norm_cast
   rw[W,!cT (λc=>?_) (λc=>?_)]
   .let c':n/2^k%2=1:=let:=dec_true c;⋯
    show{(cU 2),λt2 rE=>?_};let u:=Same.new rE (.tup [.int 0,.int 1]);show{b,p2,t2,Pm.mul b l l,[0,1],rfl,hb.lo,u _ _ m,aB,⋯,0.3,λx hx=>(T x hx).mono ⋯,λx hx=>(Sf x hx).mono 0.3,λp4 H4 L I=>?_};show X _ _ {p4,(),g.trans (g2.trans (u.trans L)),I,by let:=(el.mul el).mul (Pm.Pw.x b ρ);rwa [(⋯:n/2^(B-i)+n/2^(B-i)+1=n/2^k)]at this,λj=>(Cm b _ _).co j,?_,λx hx=>(Wg hb.lo hb.hi 0.6 T Sf x hx).mono ⋯};let:=MU b (Pm.mul b l l) [0,1];let e2:([0,1]:ζ)[_]=2:=rfl;lia
   .let c':¬n/2^k%2=1:=let:=dec_false c;⋯
    show X _ _ {p2,(),g.trans g2,m,by let:=el.mul el;rwa [(⋯:n/2^(B-i)+n/2^(B-i)=n/2^k)]at this,λj=>(Cm b _ _).co j,⋯,λx hx=>(T x hx).mono ⋯}
  .rintro d H3 ⟨p3,l3,rfl,u,J,e3,zX,z3,b3⟩;show{b,p3,a,l3,Pm.bH b ρ,2*U+60,67,rfl,hb.lo,⋯,J,u _ _ hA,⋯,⋯,Z,zX,b3,bM,⋯,⋯,λt x y q4 r4 H4 L ht hx hy P br=>?_};show{!ht,rfl,y,r4,_,(),u.trans L,hy,#v[hk,!e3.left P],P.ry,let:=P.short;⋯,λz x hx=>(br x hx).mono (let:=u0 z;⋯)}
 .rintro d H' ⟨p,l,D,C,rfl,g,hp,el,e,A,w⟩;rw[(0.6:(B[0]-1-(-1)).toNat=B)]at el w;let⟨U,_,_,u3,_,_,bl⟩:=small (aZ B) e w;rw[ql,Li,Nat.div_one]at el;show(q p l H' g hp el A λx hx=>(bl x hx).mono ⋯)
theorem aHR(F:Fn K mg "jump" qV ["row","n"])(O:A7 M)(Y:g_ M)(U:OX M)(cp:OY M):Zx M:=by
 delta Uk
 obtain⟨v,r,n,c,rfl,⟨a,p,p2,rfl,j,g,G⟩,h1,s,e,q⟩:=h;show{_,#[(),(aC 2 Uk.nd (-0:)),(aC 3 Uk.nd (-0:)),(eU (aq O hr #[2,1])),(fu (i:=4) Uk.nd rfl (dR rfl) (aq Y hr #[2,(aq U hr #[2,3]),1])),(aF (dI (nR K) rfl B.mF boot_tuple #[(c7 (sc:=aRR) (N:=["i","left"]) (ix:=[ν,ι 4]) cF rfl (dU rfl B.dw #[(cJ K B.cC #[3])]) (((aX 0 cG),cP,(aq cp hr #[1,0])) :))]))],?_};let hb:=h1.wf.hB;let C:=h1.wf.l4;show{!j,rfl,!j,rfl,r.b,n,rfl,e,?_};obtain⟨n,rfl⟩:∃m:Nat,n=(m:Int):={n.toNat,let:=e.1;⋯};rw[dg]at q;show{r.b,p,r.ρ,rfl,hb.lo,g,⋯,λt1 H1 A f=>?_};show{r.b,t1,r.ρ,n,rfl,hb,f,⋯,λx hx=>(h1.jh x hx).mono 0.3,(λz=>let:=e.2 z;⋯),s,λt2 l H2 y h2 pw ll bl=>?_};let o:=A.trans y;show{.ref p,r.ρ[_],rfl,.inr {_,ao.of (o _ _ g),(aA _).symm},(r.ρ[_]:Int),rfl,(0.6:-(2^62)<=(r.ρ[_]:Int)),(⋯:(r.ρ[_]:Int)<2^62),?_};rw[dg,!C7 (n:=r.ρ[_]) ⋯ rfl (Pm.co l) ?_ ?_]
 .intro H3 k w hk kk d;show{t2,_,0+k[0],rfl,w _ _ h2,⋯,?_};rw[(⋯:(0+k[0]).toNat=k),!d]
 .intro D u;show{D,(),.inl {aj.of aB,λt ht=>?_}};show q t _ _ (o.trans ((Same.new u _).trans (Same.new ht _))) aB (λa ha m=>?_) (bZ ..) λx hx=>?_
  .rw[<-pw a ha m];show IJ (λk=>by
    rw[dH];split
    .rfl
    .rw[bK (p:=l) ⋯]) m
  .obtain⟨k,_,rfl⟩:=jN hx;show iK bl k
theorem aGp(F:Fn K mg "onward" iP ["row","n"])(W:Zx M)(O:xK M)(U:cX M):OM M:=by
 delta Lj
 ext v r n c rfl u h1 hc C S q h;show{_,#[(),(fu (i:=2) Lj.nd rfl (dR rfl) (-0:)),(fu (i:=3) Lj.nd rfl (dR rfl) (aq W hr #[0,1])),(fu (i:=4) Lj.nd rfl (dR rfl) (aq O hr #[0,(_*(cJ K B.cC #[3]):)])),(lK (i:=5) (hN:=Lj.nd) (hi':=rfl) (hx:=(ju rfl)) (sc:=aVx) (N:=["m","by","near","numbers"]) (ix:=[ν,ι 2,ι 4,ι 3]) cF rfl (dU rfl B.dw #[(cJ K B.cC #[3])]) (((aX 0 cG),cP,(aq U hr #[1,3,2,0])) :)),(aF (iu #[2,-0,(dI (nR K) rfl B.mF boot_tuple #[5])]))],?_};let⟨a,p,p2,rfl,G,R,Z⟩:=id u;let X:=h1.wf.l4;show{!G,rfl,.ref a,r,n,c,rfl,u,h1,C,S,λl d H1 J A pw o bl=>?_};let T:r.on n.toNat={r.b,r.ρ,aD r.ρ[_] λm=>Rm.tk r.b (Pm.ks d (Pm.co (r.row (2*r.ρ[_]))) m)}:=by
  unfold Rw.on;congr 1;show jx λm P=>(Hm h1 hc pw o (let:=fQ.mp P;⋯)).symm
 rw[T]at q;let z:(d[11])[_]=r.ρ[_]:=#v[aA,o]
 show{.ref l,r.ρ[_],rfl,.inr {_,ao.of A,z.symm},mulL 0.3 0.3,.ref a,r,2*(r.ρ[_]:Int),rfl,u.same J,(h1.cV hc).ok,⋯,⋯,λln H2 I fn e=>?_};rw[(⋯:(2*(r.ρ[_]:Int)).toNat=2*r.ρ[_])]at e;let f:=I _ _ A;show{.ref l,r.ρ[_],rfl,.inr {_,ao.of f,z.symm},(r.ρ[_]:Int),rfl,(0.6:-(2^62)<=(r.ρ[_]:Int)),(⋯:(r.ρ[_]:Int)<2^62),?_};rw[dg,!Di (n:=r.ρ[_]) ⋯ rfl (λm=>Rm.tk r.b (Pm.ks d (Pm.co (r.row (2*r.ρ[_]))) m)) ?_ ?_]
 .intro H3 k j hk kk s;show{r.b,l,ln,d,r.row (2*r.ρ[_]),k,rfl,h1.wf.hB.lo,j _ _ f,.inl (j _ _ e),#v[o,Rw.pY],⋯,λx hx=>(bl x hx).mono 0.3,(h1.cV hc).ok.KO _ ⋯,λH4 g=>s _ g}
 .intro D H3 Y j h3;let w:=J.trans (I.trans j);show{!(w _ _ G),rfl,D,(),.inl {aj.of h3,λt ht=>{(cU 3),λL hp=>?_}}};let g:=Same.new ht (.tup (aD r.ρ[_] λm=>Rm.tk r.b (Pm.ks d (Pm.co (r.row (2*r.ρ[_]))) m))[11]);let y:=Same.new hp (.tup [.int r.b,.ref p,.ref t]);show q _ _ (w.trans (g.trans y)) {L,p,t,rfl,aB,y _ _ (g _ _ (w _ _ R)),y _ _ aB}
theorem aRh(F:Fn K mg "place_at" VW ["row","n"])(O:cX M)(y:Zx M):Ϲ M:=by
 delta axl
 ext v r n c rfl f h1 hc t u q h;show{_,(aJ (aF (aq O hr #[-0,(aq y hr #[0,1]),-0,_]))),?_};let⟨a,p,p2,rfl,g,A,s⟩:=id f;let z:=h1.wf.l4;let l:=h1.wf.len;show{!g,rfl,.ref a,r,n,c,rfl,f,h1,t,u,λi j H1 d o pw k bl=>?_};show{!(d _ _ g),rfl,r.b,i,p2,j,r.ς,0,rfl,h1.wf.hB.lo,o,.inr (d _ _ s),1.1,⋯,λx hx=>(bl x hx).mono 0.3,λx hx=>(h1.kE x hx).mono ⋯,λH2 w=>?_};let e:=Hm (m:=0) h1 hc pw k (N:=r.ς[_]) 0.6;rw[vL,show r.row r.ς[_]=r.ς from(Ve (aZ _)).trans (qw ..)]at e;rw[e,!q H2 (d.trans w)]
theorem aEI(F:Fn K mg "refuse_prime" Y8 ["row"]):Ht M:=by
 delta aFt
 obtain⟨v,r,rfl,⟨a,p,p2,rfl,b,d,c⟩,e,q⟩:=h;show{_,(aJ (bI (-0!=_:) (aJ gZ) bJ)),!b,rfl,(),?_};rw[É e,!bO q]
theorem aN3(F:Fn K mg "refuse_far" YG ["n"]):Pf M:=by
 delta aEk
 ext n rfl h0 h1 q h;show{_,(aJ (bI (PW.pt (jc (0<_:) (mD (0>(rB rfl B.xw):)))) (aJ gZ) bJ)),"",(),cT (λc=>È (dec_true c) 0.8) λ_=>{"",(),cT (λc=>È (dec_true c) 0.8) λ_=>q}}
theorem aJM(F:Fn K mg "places" xv ["row","count"])(U:Pf M)(O:xK M):Mn M:=by
 delta aKZ
 ext v r n rfl a h1 h2 h3 q h;show{_,#[(),(eU (aq U hr #[1])),(aF (aq O hr #[0,1]))],n,rfl,h2,h3,{v,r,n,rfl,a,h1,h2,⋯,q}}
theorem aw0(F:Fn K mg "parting" bo ["one","other"])(U:Td M)(O:xK M):m? M:=by
 delta K1
 ext y x d b L rfl t p u k2 hc hb q h;show{_,#[(),(eU (aq U hr #[0,1])),(aC 2 K1.nd ((cJ K B.cC #[-0])+(cJ K B.cC #[-1]):)),(aC 3 K1.nd (aq O hr #[0,2])),(aC 4 K1.nd (aq O hr #[1,2])),(gq Ë rfl (dU rfl B.dw #[2]) (aX 5 K1.nd) (aJ (bI ((aL K (3:) (5:))!=(aL K (4:) (5:)):) (aJ (aF (5:))) bJ))),(aF Pr)],y,x,d,b,rfl,t,p,hb,?_};unfold BK at q;let⟨a1,p1,G,rfl,w,z,_⟩:=id t;let⟨a2,p2,D,rfl,A,o,_⟩:=id p;let h1:=u.wf.l4;let h2:=k2.wf.l4;show{!w,rfl,.ref p1,d.ρ[_],rfl,.inr {_,ao.of z,(aA _).symm},!A,rfl,.ref p2,b.ρ[_],rfl,.inr {_,ao.of o,(aA _).symm},?_};dsimp only[Cr];rw[(0.6:(d.ρ[_]:Int)+(b.ρ[_]:Int)=(d.ρ[_]+b.ρ[_]:Nat)[0])];generalize d.ρ[_]+b.ρ[_]=c,(⋯:d.ρ[_]+b.ρ[_]<=8)=hc8 at q⊢;show{.ref a1,d,c[0],rfl,t,(u.cV hc).ok,0.6,⋯,λl1 H1 s _ l=>?_};show{.ref a2,b,c[0],rfl,p.same s,(k2.cV hc).ok,⋯,⋯,λl2 H2 r _ g=>?_};rw[dg]at l g;let k:=r _ _ l;let J:=Rw.pY d c;let I:=Rw.pY b c;show{c[0],rfl,0.6,⋯,?_};rw[dg,!kI (lo:=0) (n:=c) (λi f H'=>∃(m:Option V),f=[a1[4],a2[4],(c:Int)[5],l1[4],l2[4],m]/\H2=H'/\∀j,j<i->decide (d.at j≠b.at j)=false) {(),rfl,λj v=>È v (tE _)} ?_ ?_]
 .rintro i f H' hi ⟨m,rfl,rfl,a⟩;show{¬k,fG (ns:=d.row c) (0.6:(0:Int)<=0+i[0]) 0.6,¬g,fG (ns:=b.row c) (⋯:(0:Int)<=0+i[0]) ⋯,(),?_};rw[(0.6:(0+i[0]).toNat=i),UW hi,UW hi];by_cases e:d.at i=b.at i
  .rw[É e];show bO {(),rfl,λj v=>?_};by_cases C:j=i
   .rw[C];show Ì (not_not_intro e)
   .exact a j ⋯
  .rw[Ì e];show gk (?_);let:=q H2 (s.trans r);rw[Zh hi (É e) a]at this;rw[dO,!this]
 .rintro f H' ⟨m,rfl,rfl,a⟩;let:=q H2 (s.trans r);rw[wd a]at this;show this
theorem aTc(F:Fn K mg "rest_row" sM ["row","divisor"])(O:kY M):dS M:=by
 delta dE
 obtain⟨v,r,d,rfl,⟨a,p,p2,rfl,t,s,z⟩,ok,hd,q⟩:=h;show{_,#[(),(aC 2 dE.nd (dI (nR K) rfl B.mF boot_tuple #[(c7 (sc:=aRS) (N:=["number","divisor"]) (ix:=[ν,ι 1]) cF rfl (dF K (-0:)) (((aX 0 cG),cP,(aq O hr #[1,0])) :))])),(aC 3 dE.nd (dI (nR K) rfl B.mF boot_tuple #[(c7 (sc:=azr) (N:=["number","divisor"]) (ix:=[ν,ι 1]) cF rfl (dF K (-0:)) (((aX 0 cG),cP,(aq O hr #[1,0])) :))])),(aF (iu #[1,2,3]))],?_};let D:=ok.len;let y:=ok.short;show{!t,rfl,p,rfl,.inr {{_,ao.of s},OB s ⋯ rfl (λx=>Rm.tk d x) ?_ ?_}}
 .intro C x A hx kk hk;show{d,x,rfl,⋯,hk}
 show λn j=>{n,(),.inl {aj.of aB,λt1 f=>?_}};let e:=(Same.new j (.lst (r.ρ.map λx=>Rm.tk d x)[11])).trans (Same.new f (.tup (r.ρ.map λx=>Rm.tk d x)[11]));let h1:(upd (upd H n (.lst (r.ρ.map λx=>Rm.tk d x)[11])) t1 (.tup (r.ρ.map λx=>Rm.tk d x)[11])) t1=(r.ρ.map λx=>Rm.tk d x)[11][3]:=aB;let o:=e _ _ t;let b:=e _ _ z;generalize upd (upd H n (.lst (r.ρ.map λx=>Rm.tk d x)[11])) t1 (.tup (r.ρ.map λx=>Rm.tk d x)[11])=H1 at e h1 o b;show{!o,rfl,p2,rfl,.inr {{_,ao.of b},OB b ⋯ rfl (λx=>Rm.tk d x) ?_ ?_}}
 .intro C x A hx kk hk;show{d,x,rfl,⋯,hk}
 show λm i=>{m,(),.inl {aj.of aB,λt2 u=>?_}};let l:=(Same.new i (.lst (r.ς.map λx=>Rm.tk d x)[11])).trans (Same.new u (.tup (r.ς.map λx=>Rm.tk d x)[11]));let h2:(upd (upd H1 m (.lst (r.ς.map λx=>Rm.tk d x)[11])) t2 (.tup (r.ς.map λx=>Rm.tk d x)[11])) t2=(r.ς.map λx=>Rm.tk d x)[11][3]:=aB;let c:=l _ _ h1;generalize upd (upd H1 m (.lst (r.ς.map λx=>Rm.tk d x)[11])) t2 (.tup (r.ς.map λx=>Rm.tk d x)[11])=H2 at l h2 c;show{(cU 3),λw g=>?_};let k:=Same.new g (.tup [.int d,.ref t1,.ref t2]);show q _ _ (e.trans (l.trans k)) {w,t1,t2,rfl,aB,k _ _ c,k _ _ h2}
theorem axv(F:Fn K mg "common_divisor" Z5 ["one","other"]):Yo M:=by
 delta Hy
 ext x y rfl q h;show{_,#[(),(aC 2 Hy.nd (fW DP rfl B.Cz boot_abs #[0])),(aC 3 Hy.nd (fW DP rfl B.Cz boot_abs #[1])),(ug Ë (3>_:) #[(),(aC 4 Hy.nd (2%3:)),(aC 2 Hy.nd (3:)),(aC 3 Hy.nd (4:))]),(aF (2:))],x,rfl,y,rfl,?_};rw[Ju,Ju];show{λt a H'=>BQ λ(g w:Nat) (d:Option V)=>SY (w=t) (m6 g w=m6 x.natAbs y.natAbs) (a=[x[5],y[5],g[5],w[5],d]) (H=H'),{_,x.natAbs,y.natAbs,(),rfl,rfl,rfl},?_};rintro t a H' ⟨g,w,d,rfl,b,rfl,rfl⟩;show{"",(),cT (λc=>?_) (λc=>?_)}
 .let hw:0<w:=let:=dec_true c;⋯
  show{_,λ_ _ z=>z,?_};show{"",(0.8:(0:Int)<w[0]),g%w,Qv _ hw,w,g%w,(g%w:Nat)[0][5],rfl,?_,?_,rfl}
  .rw[<-b,DO w,<-Nat.gcd_rec,DO]
  .rw[IM];rfl
 .let hw:w=0:=let:=dec_false c;⋯
  subst hw;rw[Nat.gcd_zero_right]at b;rw[<-b]at q;show(q)
theorem aFz(F:Fn K mg "divisor_of" jv ["row"])(O:Ht M)(j:Yo M):m_ M:=by
 delta VG
 ext v r rfl f c q h;show{_,#[(),(eU (aq O hr #[0])),(aC 1 VG.nd aR),(gq Ë rfl (dF K (-0:)) (aX 2 VG.nd) (aJ (aC 1 VG.nd (aq j hr #[1,2])))),(aF (1:))],v,r,rfl,f,c,?_};ext a p p2 rfl g k e f;show{!g,rfl,p2,rfl,.inr {{_,ao.of e},?_}};show Lw (xQ (ao.of e)) (λi b H'=>∃d:Option V,b=[a[4],(iQ 0 (r.ς.take i):Nat)[0][5],d]/\H=H') {(),rfl} (λi b H' ⟨_,_,z⟩=>z▸Same.refl _) ?_ ?_
 .rintro i x b H' hx ⟨d,rfl,rfl⟩;let⟨rfl,hi⟩:=QH hx;show{_,(),{(Pm.co r.ς i)[5],?_,rfl}};rw[C0,V5 0 hi,0]
 .rintro b H' ⟨d,rfl,rfl⟩;rw[aA,qw,!(q)]
theorem aGi(F:Fn K mg "undivided" ua ["row","divisor","start","step"])(O:Ht M)(Y:rL M)(U:xK M)(W:dS M):v_ M:=by
 delta T9
 ext v r d s e c rfl u o hc A S hb w q h;show{_,#[(),(eU (aq O hr #[0])),(eU (aq Y hr #[2,3])),(bI (1<_:) (aJ gZ) bJ),(aC 4 T9.nd (cJ K B.cC #[-0])),(aC 5 T9.nd (aq U hr #[(aq W hr #[0,1]),(2+3*4:)])),(gq Ë rfl (dU rfl B.dw #[4]) (aX 6 T9.nd) (aJ (bI ((aL K (5:) (2+3*6:))!=_:) (aJ (aF (6:))) bJ))),(aF Pr)],v,r,rfl,u,hb,s,e,rfl,w,?_};ext Z X e0 e1 w;unfold vQ at q;obtain⟨s,rfl⟩:∃m:Nat,s=(m:Int):={s.toNat,⋯};obtain⟨e,rfl⟩:∃m:Nat,e=(m:Int):={e.toNat,0.7};rw[dg,dg]at q;show{"",(),?_};rw[Ì (⋯:¬d<1),!bO ?_];let x:=o.wf.l4;let ok:=X0 (o.cV hc).ok A S;let⟨a,p,p2,rfl,G,T,hS⟩:=id u;show{!G,rfl,.ref p,r.ρ[_],rfl,.inr {_,ao.of T,(aA _).symm},.ref a,r,d,rfl,u,(o.cV hc).ok,A,λC H1 J R=>?_};generalize r.ρ[_]=N at x q⊢;let hN:e*N<=10*4:=nZ ⋯ x;let L:(s:Int)+e[0]*N[0]=(s+e*N:Nat)[0]:=#v[CM,sW]
 show{mulL ⋯ ⋯,?_};dsimp only[Cr];rw[L,!{C,r.rests d,(),R,ok,⋯,⋯,λl H2 I _ g=>?_}];rw[dg]at g;let y:=J.trans I;show{N[0],rfl,⋯,⋯,?_};rw[dg,!kI (lo:=0) (n:=N) (λi b H'=>∃k:Option V,b=[a[4],d[5],(s:Int)[5],(e:Int)[5],(N:Int)[5],l[4],k]/\H2=H'/\∀j,j<i->decide ((r.rests d).at (s+e*j)≠0)=false) {(),rfl,λj f=>È f (tE _)} ?_ ?_]
 .rintro i b H' hi ⟨k,rfl,rfl,f⟩;let P:(s:Int)+e[0]*(0+i[0])=(s+e*i:Nat)[0]:=#v[dO,CM,sW]
  let t:e*(i+1)<=e*N:=nH e hi;rw[wF]at t;let ex:jE ((r.rests d).row (s+e*N))[11] (s[0]+e[0]*(0+i[0]))=((r.rests d).at (s+e*i))[5]:=by
   rw[P,yR #v[Rw.pY],!Ï _ (Ï _ (UW ⋯))]
  show{mulL ⋯ ⋯,¬g,ex,(),?_};by_cases z:(r.rests d).at (s+e*i)=0
  .rw[É z];show bO {(0+i[0])[5],rfl,rfl,λj D=>by
    by_cases e:j=i
    .rw[e];show Ì (not_not_intro z)
    .exact f j ⋯}
  .rw[Ì z];show gk (?_);let:=q H2 y;rw[Zh hi (É z) f]at this;rw[dO,!this]
 .rintro b H' ⟨k,rfl,rfl,f⟩;let:=q H2 y;rw[wd f]at this;show this
theorem aSJ(F:Fn K mg "by_prime" qh ["row","prime"])(O:Ht M)(i:dS M):BV M:=by
 delta aQw
 ext v r p rfl c h1 e a p1 q h;show{_,#[(),(eU (aq O hr #[0])),(aF (aq i hr #[0,1]))],?_};let ok:=(h1.cV 0.3).ok;show{v,r,rfl,c,e,v,r,p,rfl,c,ok,a,λd H1 f g=>q d _ H1 f g {rfl,X0 ok a p1,λn=>?_}};let:=oC (p:=p) ⋯ ok.len n;rw[show r.at n=Rm.at_ 0 r.ρ r.ς n by show Rm.at_ r.b _ _ _=_;rw[e],<-this,0]
theorem aKa(F:Fn K mg "refuse_wide" qA ["prime","length"]):BU M:=by
 delta Rj
 ext b l rfl e d hw q h;show{_,#[(),(aC 2 Rj.nd aR),(gq Ë rfl (dU rfl B.dw #[1]) (aX 3 Rj.nd) (aJ (aC 2 Rj.nd (2*0:)))),(bI (2>(rB rfl B.rj):) (aJ gZ) bJ)],l[0],rfl,(⋯:-(2^62)<=l[0]),(⋯:(l:Int)<2^62),?_};rw[dg,!kI (lo:=0) (n:=l) (λi a H'=>∃o3:Option V,a=[b[5],l[5],(b^i:Nat)[0][5],o3]/\H=H') {(),rfl} ?_ ?_]
 .rintro i a H' hi ⟨o3,rfl,rfl⟩;show{mulR ⋯ ⋯,(0+i[0])[5],?_,rfl};rw[lY,sW,0]
 .rintro a H' ⟨o3,rfl,rfl⟩;show{"",(),cT (λc=>?_) λ_=>q};let f:(4096:Int)<(b^l:Nat)[0]:=dec_true c;omega
theorem aUX(F:Fn K mg "round_row" yB ["row"])(O:zZ M)(U:BU M):Y6 M:=by
 delta OW
 ext v r c rfl f d hc t lQ q h;show{_,#[(),(bI (-0==_:) (aJ gZ) bJ),(aC 1 OW.nd (aq O hr #[0])),(eU (aq U hr #[-0,(cJ K B.cC #[-1])])),(aF (1:))],?_};let⟨a,p,p2,rfl,g,u,s⟩:=id f;show{!g,rfl,(),cT (λc=>È (dec_true c) 0.6) λ_=>?_};show{.ref a,r,rfl,f,d.cV hc,λn H1 i j so=>?_};let w:=(so.sm d).win #v[so.by_,!lQ];rw[so.by_]at w;let l4:=(so.sm d).wf.l4;let⟨a1,l,o,rfl,k,e,m⟩:=id j;show{!(i _ _ g),rfl,!k,rfl,.ref l,(sh r).ρ[_],rfl,.inr {_,ao.of e,(aA _).symm},r.b.toNat,(sh r).ρ[_],#v[Et ⋯,0],0.8,⋯,w,q _ _ i j so}
theorem ayP(F:Fn K mg "came_round" nS ["row"])(Ga:nv M):km M:=by
 delta Dq
 obtain⟨v,r,rfl,⟨a,p,p2,rfl,hA,hR,hS⟩,ok,hb,hw,q⟩:=h;show{_,#[(),(aC 1 Dq.nd (-0:)),(aC 2 Dq.nd (-0:)),(aC 3 Dq.nd (Lx (-0:))),(aC 4 Dq.nd azj),(ug Ë (xg (g? hr.hu (3:) (4:))) #[(),(HK hr.hu (4:) (3:) (fW KG rfl B.cC boot_len #[4]) rfl),(aC 3 Dq.nd (Lx (jJ (jX K) (3+(iu #[(aq Ga hr #[1,2,3])]):) (jz aR) lF)))]),(aC 5 Dq.nd (OE hr.hu (4:) (3:) (λ_ _=>rfl))),(aF (iu #[5,((fW KG rfl B.cC boot_len #[4])-5:)]))],?_};let hl:=ok.len;let hs:=ok.short;show{!hA,rfl,!hA,rfl,ο.by (λv H1=>v=.ref p2/\H=H1) (λkk s=>{!hA,rfl,s _ _ {rfl,(rfl)}}) ?_};rintro _ _ ⟨rfl,rfl⟩;refineλsd L=>?_;let g0:=Same.new L (.dT []);let w0:Pm.win r.at r.ρ[_] 0=r.ς:=by
  show qT #v[Fx,!hl] λk=>?_;by_cases c:k<r.ρ[_]
  .exact(Ud _ c).trans #v[vL,!qG 0.6]
  .rw[bK #v[Fx],bK 0.6]
 let N:∀i,0<=r.at i/\r.at i<(r.b.toNat:Nat)[0]:=λi=>by
  rw[Et ⋯,!A4 hl hb (λx hx=>?_) i];rcases ok.pL x hx with z|z
  .simp_all
  .exact z
 show{λm G H'=>∃(n:Nat)(w:Æ)(l:List (List Key×V)),m=1000-n/\n<=1000/\G=[a[4],r.b[5],p[4],w[4],sd[4],ν]/\Same H H'/\H' w=(Pm.win r.at r.ρ[_] n)[11][3]/\H' sd=ι (.dT l)/\Seen r.at r.ρ[_] n l,
  {_,0,p2,[],rfl,0.3,rfl,g0,#v[w0,!g0 _ _ hS],aB,{rfl,λi hi=>È hi (tE _),λ_ _=>rfl,λi j _ hj=>È hj (tE _)}},?_}
 rintro m G H' ⟨n,w,l,rfl,hn,rfl,g,W,o,A⟩;let C:H' w=((KK (Pm.win r.at r.ρ[_] n)).map kV)[3]:=#v[Z2,!W]
 show{sd,(),qN.t o C,(),cT (λc=>?_) (λc=>?_)}
 .let D:fB l (KK (Pm.win r.at r.ρ[_] n))=ν:=by
   cases e:fB l (KK (Pm.win r.at r.ρ[_] n))with
   |none=>rfl
   |some u=>rw[e]at c;show È c 0.1
  let J:=A.more D;let hn1:n+1<=1000:=cD (aTk N J.diff) hw;show{_,λ_ _ z=>z,?_};show{sd,l,rfl,o,sd,(),w6.t o C #v[A.len,!jD hn 0.3],?_};rw[A.len];let hne:w≠sd:=λz=>by rw[z,o]at W;cases W
  let fsd:H sd=ν:=L;let g2:Same H (upd H' sd (.dT (putK l (KK (Pm.win r.at r.ρ[_] n)) (.int (n:Int))))):=g.upd fsd _;let X:(upd H' sd (.dT (putK l (KK (Pm.win r.at r.ρ[_] n)) (.int (n:Int))))) w=(Pm.win r.at r.ρ[_] n)[11][3]:=#v[cO hne,!W]
  let BI:(upd H' sd (.dT (putK l (KK (Pm.win r.at r.ρ[_] n)) (.int (n:Int))))) sd=ι (.dT (putK l (KK (Pm.win r.at r.ρ[_] n)) (.int (n:Int)))):=aB;generalize upd H' sd (.dT (putK l (KK (Pm.win r.at r.ρ[_] n)) (.int (n:Int))))=H2 at g2 X BI;let I:=Fx r.at r.ρ[_] n;let bw:∀x∈Pm.win r.at r.ρ[_] n,Bd 61000000 x:=λx hx=>by
   let⟨j,_,rfl⟩:=bN.mp hx;let:=N (n+j);let h3:=ok.pC;show(Bd.of (n:=10) ⋯ 0.7).mono 0.3
  let ev:Rm.tk r.b (Rm.S r.ρ (λi=>(Pm.win r.at r.ρ[_] n).getD i 0) (Pm.win r.at r.ρ[_] n)[_] r.ρ[_])=r.at (n+r.ρ[_]):=by
   rw[I];let e1:r.at (n+r.ρ[_])=Rm.tk r.b (Rm.S r.ρ r.at (n+r.ρ[_]) r.ρ[_]):=Bq hl 0.6;rw[e1,<-rp (f:=r.at) (d:=n) (aZ _),!Ï _ (QK λk hk=>?_)];show Ud _ 0.7
  show ο.by (λv H1=>∃w1,v=.ref w1/\Same H2 H1/\H1 w1=(Pm.win r.at r.ρ[_] (n+1))[11][3]) (λkk s=>?_) ?_
  .show{r.b,p,w,r.ρ,Pm.win r.at r.ρ[_] n,rfl,ok.iR,ao.of (g2 _ _ hR),.inr (ao.of X),#v[I,!aZ _],hs,#v[I],ok.jh,bw,?_};rw[ev,!{(cU 1),λt1 Y=>?_}];let T:=Same.new Y (.tup [.int (r.at (n+r.ρ[_]))]);let h3:(upd H2 t1 (.tup [.int (r.at (n+r.ρ[_]))])) t1=[.int (r.at (n+r.ρ[_]))][3]:=aB;let P:=T _ _ X;generalize upd H2 t1 (.tup [.int (r.at (n+r.ρ[_]))])=H3 at T h3 P;let JG:fP ((Pm.win r.at r.ρ[_] n)[11]++[.int (r.at (n+r.ρ[_]))]) (ι 1) ν=(Pm.win r.at r.ρ[_] (n+1))[11]:=by
    let:=q? ((Pm.win r.at r.ρ[_] n)[11]++[.int (r.at (n+r.ρ[_]))]) (k:=1) #v[fJ,2];rw[<-aOC,Vy,eG,!this]
   let lc:((Pm.win r.at r.ρ[_] n)[11]++[V.int (r.at (n+r.ρ[_]))])[_]=r.ρ[_]+1:=#v[fJ,aA,I,0]
   show .inr {_,_,ao.of P,ao.of h3,?_,λe=>?_,λ_ z=>(by cases z),λe _ p4 hp4=>?_}
   .rw[aA,I];show gQ (eX (⋯:r.ρ[_]+1<=1000))
   .rw[e,uf]at JG lc;show{(),.inr (.inl {_,ao.of h3,?_,λZ Ib=>?_})}
    .rw[lc];show ¬(HT.cM (r.ρ[_]+1) 0 (ι (1:Nat)[0])=0/\_);rw[HT.qR,1]
    .exact s _ _ {Z,rfl,T.trans (Same.new Ib _),#v[aB,JG]}
   .let R:=Same.new hp4 (.tup ((Pm.win r.at r.ρ[_] n)[11]++[.int (r.at (n+r.ρ[_]))]));show{(),.inr (.inl {_,ao.of aB,?_,λZ Ib=>?_})}
    .rw[lc];show ¬(HT.cM (r.ρ[_]+1) 0 (ι (1:Nat)[0])=0/\_);rw[HT.qR,1]
    .exact s _ _ {Z,rfl,T.trans (R.trans (Same.new Ib _)),#v[aB,JG]}
  .rintro _ H4 ⟨w1,rfl,R,U⟩;show{1000-(n+1),0.7,n+1,w1,(),hn1,rfl,g2.trans R,U,R _ _ BI,J}
 .obtain⟨i,hi,ei⟩:∃i,i<n/\Pm.win r.at r.ρ[_] n=Pm.win r.at r.ρ[_] i:=by
   show BL λhno=>c ?_;rw[A.out _ λi hi z=>hno {i,hi,NY z},0]
  let hv:fB l (KK (Pm.win r.at r.ρ[_] n))=(i:Int)[5]:=#v[ei,!A.at_ i hi]
  let hg:=qN.t o C;rw[hv]at hg;show{sd,(),hg,sd,l,rfl,o,"",?_};rw[A.len,!{(cU 2),λp6 hp6=>?_}];let rd:DF r.at r.ρ[_] i (n-i):={⋯,#v[(⋯:i+(n-i)=n),!ei],λx y O hy=>A.diff x y O ⋯};show q i (n-i) p6 _ (g.trans (Same.new hp6 _)) ?_ 0.7 rd;rw[aB,(⋯:(n:Int)-i[0]=(n-i:Nat)[0])]
theorem aGQ(F:Fn K mg "round_of" vv ["row"])(U:km M)(O:Y6 M):A1 M:=by
 delta aP9
 ext v r c rfl d a hc b lQ q h;show{_,(aJ (aF (aq U hr #[(aq O hr #[0])]))),v,r,c,rfl,d,a,hc,b,lQ,λi H1 f g so=>Eg a hc b lQ so g λbg ln p H2 e hp hz rd=>q bg ln p H2 (f.trans e) hp {rd,hz,(so)}}
theorem aFq(F:Fn K mg "where" ay ["row","number"])(E9:Y6 M)(E6:km M)(O:xK M):AG M:=by
 delta Bv
 ext v r x c rfl Y A hc R lQ q h;show{_,#[(),(aC 2 Bv.nd (aq E9 hr #[0])),(aC 3 Bv.nd (aq E6 hr #[2])),(aC 4 Bv.nd (-3:)),(aC 5 Bv.nd (-3:)),(fu (i:=6) Bv.nd rfl (dR rfl) (aq O hr #[2,(4+5:)])),(lK (i:=7) (hN:=Bv.nd) (hi':=rfl) (hx:=(ju rfl)) (sc:=aR3) (N:=["n","number","numbers"]) (ix:=[ν,ι 1,ι 6]) cF rfl (dU rfl B.dw #[4]) (((aX 0 cG),(BH ((aL K (2:) (0:))==1:)),(0:)) :)),(lK (i:=8) (hN:=Bv.nd) (hi':=rfl) (hx:=(ju rfl)) (sc:=aC1) (N:=["n","number","numbers"]) (ix:=[ν,ι 1,ι 6]) cF rfl (Ce rfl B.dw #[4,(4+5:)]) (((aX 0 cG),(BH ((aL K (2:) (0:))==1:)),(0:)) :)),(aF (iu #[7,8,5]))],?_};show{v,r,c,rfl,Y,A,hc,R,lQ,λT H1 g1 P so=>?_};let Jv:=((so.sm A).cV hc).ok;let ea:(sh r).at=r.at:=funext so.at_;show(Eg A hc R lQ so P λbg ln p H2 L hp D rd=>?_);let q:=λp le X H' a b c d=>q bg ln p le X H' a b c d {rd,D,(so)};rw[<-ea]at q;show{!hp,rfl,!hp,rfl,T,sh r,(),P.same L,Jv,(⋯:(0:Int)<=bg[0]+ln[0]),(⋯:(bg:Int)+ln[0]<=1000),λl H3 g3 U j=>?_};obtain⟨nu,m⟩:∃nu:ζ,nu=(sh r).row ((bg[0]+ln[0]).toNat):={()};rw[<-m]at j;let Z:nu[_]=bg+ln:=#v[m,Rw.pY]
 let u:∀i,i<bg+ln->nu.getD i 0=(sh r).at i:=λi hi=>#v[m,!UW 1.2]
 let G:=g1.trans (L.trans g3);show{bg[0],rfl,(⋯:-(2^62)<=bg[0]),(⋯:(bg:Int)<2^62),?_};rw[dg,!K7 (lo:=0) (cD (⋯:bg<=1000) 0.3) rfl (jO (sh r).at x) ?_ ?_ ?_]
 .intro y k g hk kk e;show{¬(g _ _ j),fG (ns:=nu) (0.6:(0:Int)<=(0:Nat)[0]+k[0]) ⋯,(),?_};rw[(0.6:((0:Nat)[0]+k[0]).toNat=0+k),u _ ⋯,!e]
 .intro y k g hk kk e;show(e)
 intro o s;let w:=Same.new s (.lst (cW (jO (sh r).at x) 0 bg)[11]);let h4:(upd H3 o (.lst (cW (jO (sh r).at x) 0 bg)[11])) o=(cW (jO (sh r).at x) 0 bg)[11][2]:=aB;let S:=w _ _ j;let fD1:=G.free s;generalize upd H3 o (.lst (cW (jO (sh r).at x) 0 bg)[11])=H4 at w h4 S;show{_,(),{(⋯:-(2^62)<=bg[0]),(⋯:(bg:Int)<2^62),(⋯:-(2^62)<=bg[0]+ln[0]),(⋯:(bg:Int)+ln[0]<2^62)},?_};rw[(⋯:(bg[0]+ln[0]-bg[0]).toNat=ln),!K7 (cD (⋯:ln<=1000) 0.3) rfl (jO (sh r).at x) ?_ ?_ ?_]
 .intro y k g hk kk e;show{¬(g _ _ S),fG (ns:=nu) (⋯:(0:Int)<=bg[0]+k[0]) 0.6,(),?_};rw[(⋯:(bg[0]+k[0]).toNat=bg+k),u _ 0.8,!e]
 .intro y k g hk kk e;show(e)
 intro n f;let g:=Same.new f (.lst (cW (jO (sh r).at x) bg ln)[11]);let J:(upd H4 n (.lst (cW (jO (sh r).at x) bg ln)[11])) n=(cW (jO (sh r).at x) bg ln)[11][2]:=aB;let fD2:=(G.trans w).free f;let ne:o≠n:=λz=>by rw[<-z,h4]at f;cases f
 let t:=g _ _ h4;generalize upd H4 n (.lst (cW (jO (sh r).at x) bg ln)[11])=y at g J t;show{(cU 3),λW C=>?_};let I:=Same.new C (.tup [.ref o,.ref n,.int (ln:Int)]);show q W o n _ (G.trans (w.trans (g.trans I))) aB (I _ _ t) (I _ _ J)
theorem aSv(F:Fn K mg "line_taken" lI ["by","line"])(O:kY M):u_ M:=by
 delta aGo
 ext b l p rfl hb a z q h;show{_,(aJ (aF (c7 (sc:=aDa) (N:=["number","by"]) (ix:=[ν,ι 0]) cF rfl (dF K (1:)) (((aX 0 cG),cP,(aq O hr #[1,0])) :)))),?_};show{l,rfl,.inl {{_,aj.of a},UQ a z rfl (Rm.tk b) ?_ ?_}}
 .intro H2 x d hx k hk;show{b,x,rfl,hb,hk}
 .intro D c;show q D _ (Same.new c _) c aB
theorem aJT(F:Fn K mg "head_line" cn ["lines","begin","column"]):Xs M:=by
 delta AQ
 ext ll xs L W c u ex a rfl rfl g hx hw hc z ha q h;obtain⟨r,rfl⟩:∃r,r=c:={()};let⟨a1,a2,a3,a4⟩:=El.SW.mp ha;show{_,#[(),(gq Ë rfl (Ce rfl B.dw #[1,(cJ K B.cC #[0])]) (aX 3 AQ.nd) (aJ (bI ((aL K (aL K (0:) (3:)) (2:))!=_:) (aJ (aF (3:))) bJ))),(aF Pr)],?_};let l:=hx.len;show{.ref ll,L[_],rfl,.inl {_,aj.of g,l.symm},r[0],(L[_]:Int),rfl,{⋯,⋯,0.6,⋯},kI (lo:=r[0]) (n:=((L[_]:Int)-r[0]).toNat) (λi d H'=>∃o,d=[ll[4],r[5],r[5],o]/\H'=H/\∀j,r<=j->j<r+i->Pm.co (Dm.ln L j) r=0) {(),rfl,λj h1 h2=>È h2 1.1} ?_ ?_}
 .rintro i d H' hi ⟨o,rfl,rfl,hz⟩;let f:r+i<L[_]:=0.7;let⟨t,p,_,m⟩:=hx.get f;let k:(r:Int)+i[0]=(r+i:Nat)[0]:=0.6;let s:=hw (r+i) f;show{_,.ref t,.inl (aj.of g),uG (r+i) k p,¬m,fG (ns:=Dm.ln L (r+i)) (⋯:(0:Int)<=r[0]) 0.6,(),?_};rw[dg];by_cases b:(Dm.ln L (r+i)).getD r 0=0
  .refine vE b {(),rfl,λj h1 h2=>?_};by_cases e:j=r+i
   .rw[e];show b
   .exact hz j h1 ⋯
  .rw[Ì b];show gk (?_);let:El.rQ L r=ι (r+i):=El.SW.mpr {0.6,f,b,λj h1 h2=>hz j h1 h2};rw[ha]at this;cases this;rw[k,!q]
 .rintro d H' ⟨o,rfl,rfl,hz⟩;show È (hz a a1 ⋯) a3
theorem aGZ(F:Fn K mg "bring_up" YL ["by","lines","at","top"])(O:kY M):Bn M:=by
 delta QU
 ext ll xs L a r ex rfl l hx p n I ha hz q h;show{_,(aJ (vM (bI (2!=3:) #[(),(aC 4 QU.nd (aL K (1:) (3:))),(uU (aL K (1:) (2:)) (Bk (1:) (3:) set_list)),(uU (c7 (sc:=aVo) (N:=["number","by"]) (ix:=[ν,ι 0]) cF rfl (dF K (4:)) (((aX 0 cG),cP,(aq O hr #[1,(_-0:)])) :)) (Bk (1:) (2:) set_list))] bJ))),?_};let t:=hx.len;show{(),?_};by_cases e:a=r
 .exact vE #v[e] (q xs H (Keep.refl _ _) l #v[El.jL,Á e,!hx])
 .let o:¬(a:Int)=(r:Int):=⋯;rw[Ì o,!gk ?_];let⟨tr,G,C,B⟩:=hx.get (⋯:r<L[_]);let⟨d,a1,a2,a3⟩:=hx.get ha;show{_,.ref tr,.inl (aj.of l),uG r rfl G,_,.ref d,.inl (aj.of l),uG a rfl a1,ll,xs,_,r,rfl,rfl,l,Ed rfl #v[t],?_};let f:=Keep.upd ll H (.lst (xs.set r (.ref d)));let c:(upd H ll (.lst (xs.set r (.ref d)))) ll=(xs.set r (.ref d))[2]:=aB;let b:=f _ _ (λ(z:tr=ll)=>C #v[z,!p]) B;let i:=(dJ.set a2 a3 r hx).keep p f;let A:=n.keep f {_,c};generalize upd H ll (.lst (xs.set r (.ref d)))=H1 at f c b i A;show{tr,rfl,.inl {{_,aj.of b},UQ b (hz r ⋯) rfl (λx=>0-x) ?_ ?_}}
  .intro H2 x J hx k hk;show{"",0,(),Int.le_refl _,#v[cY,!hk]}
  .intro D w;let m:=Same.new w (.lst ((Dm.ln L r).map λx=>0-x)[11]);let s:D∉ex:=A.fresh w;let y:(upd H1 D (.lst ((Dm.ln L r).map λx=>0-x)[11])) D=((Dm.ln L r).map λx=>0-x)[11][2]:=aB;let j:=m _ _ c;let g:=i.same m;let v:=f.trans (Keep.same m);generalize upd H1 D (.lst ((Dm.ln L r).map λx=>0-x)[11])=H2 at m y j g v;show{ll,_,_,a,rfl,rfl,j,Ed rfl #v[qt,t],?_};let u:=Keep.upd ll H2 (.lst ((xs.set r (.ref d)).set a (.ref D)));show q _ _ (v.trans u) aB ?_;rw[El.jL,Â e,!(dJ.set s y a g).keep p u]
theorem aVI(F:Fn K mg "freed" Xp ["by","line","head","column","last"]):US M:=by
 delta Qq
 ext last l1 l2 p r c G rfl rfl h1 h2 u hc hz e bl j g q h;show{_,#[(),(fu (i:=5) Qq.nd rfl (dR rfl) (aL K (2:) (3:))),(fu (i:=6) Qq.nd rfl (dR rfl) (aL K (1:) (3:))),(lK (i:=7) (hN:=Qq.nd) (hi':=rfl) (hx:=(ju rfl)) (sc:=aP1) (N:=["k","factor","head","line","pivot"]) (ix:=[ν,ι 6,ι 2,ι 1,ι 5]) cF rfl (dU rfl B.dw #[(cJ K B.cC #[1])]) (((aX 0 cG),cP,(4*(aL K (3:) (0:))-1*(aL K (2:) (0:)):)) :)),(bI (0==_:) (aJ (aF (c7 (sc:=aNO) (N:=["number","last"]) (ix:=[ν,ι 4]) cF rfl (dF K (7:)) (((aX 0 cG),cP,(oX W6 (0:) (1:))) :)))) bJ),gZ,gZ],?_};let s:(p[11])[_]=p[_]:=aA _;show{¬h2,fG (ns:=r) (⋯:(0:Int)<=c[0]) 0.6,¬h1,fG (ns:=p) (⋯:(0:Int)<=c[0]) 0.8,?_};rw[dg];let A:r.getD c 0=Pm.co r c:=rfl;let y:p.getD c 0=Pm.co p c:=rfl;rw[A,y];show{.ref l1,p[_],rfl,.inl {_,aj.of h1,s.symm},(p[_]:Int),rfl,(0.1:-(2^62)<=(p[_]:Int)),(⋯:(p[_]:Int)<2^62),?_};rw[dg,!C7 (n:=p[_]) hz rfl (λk=>Pm.co r c*Pm.co p k-Pm.co p c*Pm.co r k) ?_ ?_]
 .intro H2 k d hk kk b;let w:(0+k[0]).toNat=k:=⋯;show{¬(d _ _ h1),fG (ns:=p) (⋯:(0:Int)<=0+k[0]) 0.8,jA (iK g c) (Bd.getD j _) 0.3,¬(d _ _ h2),fG (ns:=r) (⋯:(0:Int)<=0+k[0]) 0.6,jA (iK j c) (Bd.getD g _) 0.3,"",?_};rw[w,!b]
 .intro D v;let⟨H1,o,f,l⟩:=nw v (.lst (aD p[_] λk=>Pm.co r c*Pm.co p k-Pm.co p c*Pm.co r k)[11]);rw[o];let m:(aD p[_] λk=>Pm.co r c*Pm.co p k-Pm.co p c*Pm.co r k)[_]<=1000:=#v[bZ,!hz]
  show{(),gk {D,rfl,.inl {{_,aj.of l},UQ l m rfl (λx=>x.fdiv last) ?_ ?_}}}
  .intro H2 x d t k hk;show{"",{e,Ik (aMY e bl) 0.3},hk}
  .intro C a;show q C _ (f.trans (Same.new a _)) (f.free a) ?_;rw[aB,!Ï (λz=>ι (HO.lst z[11])) (qT ?_ λk=>?_)]
   .rw[aA,bZ,El.tU,wy];simp_all
   .rw[uH 0.1,dH,El.YH u];split
    .rfl
    .rw[bK (p:=p) (0.6:p[_]<=k),bK (p:=r) (0.6:r[_]<=k)];simp
theorem aG9(F:Fn K mg "clear" Y7 ["by","wide","lines"])(ke:Xs M)(kF:Bn M)(de:US M):Kt M:=by
 delta Bj
 ext b ll xs L u ex B' aD1 rfl hL hx hmx hst hlw hw4 u1 u4 Ti Z q h;show{_,#[(),(aC 3 Bj.nd (fX jF)),(aC 4 Bj.nd aR),(gq Ë rfl (dU rfl B.dw #[1]) (aX 5 Bj.nd) #[(),(aC 6 Bj.nd (cJ K B.cC #[3])),(aC 7 Bj.nd (aq ke hr #[2,6,5])),(bI (xg (aU3 (7:))) #[(),(eU (aq kF hr #[0,2,7,6])),(gq Ë rfl (dU rfl B.dw #[(cJ K B.cC #[2])]) (aX 8 Bj.nd) (aJ (vM (bI (8!=6:) (aJ (uU (aq de hr #[0,(aL K (2:) (8:)),(aL K (2:) (6:)),5,4]) (Bk (2:) (8:) set_list))) bJ)))),(aC 4 Bj.nd (aL K (aL K (2:) (6:)) (5:))),(eU (n8 K (3:) (5:)))] bJ)]),(aF (iu #[3,4]))],dz _,λd Ox=>?_};let kh:=Same.new Ox (.lst []);let hm:ll∈d::ex:=gW _ hmx;let hml:d∈d::ex:=lH;let st:∀{H':Hp} {o o':HO},Keep ll H H'->H' ll=ι o->H' d=ι o'->Stand H' (d::ex):=λk e e' a ha=>by
  rcases fj.mp ha with z|z
  .rw[z];show{_,e'}
  .exact(hst.keep k {_,e}) a z
 let G:d≠ll:=λz=>by rw[z,hL]at Ox;cases Ox
 let sz:∀c,c<=4->2^c*(u+1)-1<=1990:=λc hc=>by
  let:2^c*(u+1)<=2^4*63:=nZ (mX 0.3 hc) 0.8;(simp;omega)
 show{b[0],rfl,⋯,⋯,?_};rw[dg];show kI (lo:=0) (n:=b) (λc f H'=>∃(o5 o6 o7 y:Option V)(A:List ζ)(last:Int)(J:τ),f=[ι (.int 0),b[5],ll[4],d[4],last[5],o5,o6,o7,y]/\Keep ll H H'/\H' d=(aD c λh=>h[0])[11][2]/\H' ll=J[2]/\dJ H' (d::ex) J A/\El.jQ L c=ι (A,last))
  {_,_,_,_,L,1,xs,rfl,Keep.same kh,aB,kh _ _ hL,(hx.more Ox).same kh,rfl} ?_ ?_
 .rintro c f H1 hc ⟨o5,o6,o7,y,A,last,r,rfl,k1,p,m,s,U⟩;let⟨s',W⟩:=aB9 (1.2:c+1<=b) Z;let T:=W;rw[El.jQ,U]at T;let⟨a,ha,es⟩:=aUR (show El.wu A last c=ι s' from T);let⟨cA,lA,n0,bl⟩:=Ti.cl u1 U;let bb:=sz c ⋯;let⟨a1,a2,_,_⟩:=El.SW.mp ha;let P:((aD c λh=>h[0])[11])[_]=c:=#v[aA,bZ]
  show{.ref d,c,rfl,.inl {_,aj.of p,P.symm},ll,r,A,b+1,c,0+c[0],_,a,rfl,0.6,m,s,cA.len,⋯,⋯,ha,(),?_};rw[Ì (show ¬V.int (a:Int)=V.non fromλz=>by cases z),!gk ?_];show{ll,r,A,a,c,(),m,s,hm,st k1 m p,a1,a2,λi hi=>#v[cA.len i hi],λxs2 H2 k2 O S=>?_};let Y:=cA.br a2 (1.1:c<A[_]);let lB:=El.Fc A a c;generalize hB:El.jL A a c=B at *;let k12:=k1.trans k2;let hH2:=k2 _ _ G p;let lx2:=S.len;show{.ref ll,A[_],rfl,.inl {_,aj.of O,1.1},(A[_]:Int),rfl,0.1,⋯,?_};rw[dg];show kI (lo:=0) (n:=A[_]) (λi f H'=>∃(y:Option V)(l:List ζ)(C:τ),f=[ι (.int 0),b[5],ll[4],d[4],last[5],(0+c[0])[5],c[5],a[5],y]/\Keep ll H H'/\H' d=(aD c λh=>h[0])[11][2]/\H' ll=C[2]/\dJ H' (d::ex) C l/\l[_]=A[_]/\
    ∀j,j<A[_]->Dm.ln l j=if j<i then El.sJ B c last j else Dm.ln B j)
   {_,B,xs2,rfl,k12,hH2,O,S,lB,λj _=>#v[Â (tE _)]} ?_ ?_
  .rintro i f H3 hi ⟨y,l,C,rfl,R,I,w,D,Qx,g⟩;let lx3:=D.len;show{(),?_};by_cases e:i=c
   .refine vE 0.6 {_,l,C,rfl,R,I,w,D,Qx,λj hj=>?_};rw[g j hj];by_cases z:j<i
    .rw[Á z,Á 0.7]
    .rw[Â z];by_cases z2:j=i
     .rw[Á 1.1,El.sJ,Á 1.1,z2,e]
     .rw[Â ⋯]
   .let X:¬(0+i[0])=(c:Int):=⋯;rw[Ì X,!gk ?_];let⟨ti,i1,i2,i3⟩:=D.get (0.6:i<l[_]);let⟨tr,r1,r2,N⟩:=D.get (1.1:c<l[_]);rw[g i 0.9,Â (rO _)]at i3;let er:Dm.ln l c=Dm.ln B c:=by
     rw[g c ⋯];split
     .rw[El.sJ,Á rfl]
     .rfl
    rw[er]at N;let wi:=Y.len i 0.6;let wr:=Y.len c ⋯;show{_,.ref ti,.inl (aj.of w),uG i ⋯ i1,_,.ref tr,.inl (aj.of w),uG c rfl r1,last,ti,tr,_,_,c,0+c[0],rfl,⋯,i3,N,(by simp only[*];done),⋯,⋯,n0,bl.mono bb,λx hx=>(GI Y i x hx).mono ⋯,λx hx=>(GI Y c x hx).mono ⋯,λt H4 g4 ht4 h4=>?_};let tl:t∉d::ex:=(st R w I).fresh ht4;let Ah:=g4 _ _ w;let hx4:=D.same g4;show{ll,_,_,i,rfl,rfl,Ah,Ed ⋯ #v[lx3],?_};let k5:=Keep.upd ll H4 (.lst (C.set i (.ref t)));show{_,l.set i _,C.set i (.ref t),rfl,(R.trans (Keep.same g4)).trans k5,k5 _ _ G (g4 _ _ I),aB,(dJ.set tl h4 i hx4).keep hm k5,#v[qt,!Qx],λj hj=>?_};rw[aBA _ ⋯,g j hj];by_cases z:j=i
    .rw[Á z,Á 0.6,El.sJ,Â 0.6,z]
    .rw[Â z];by_cases z2:j<i
     .rw[Á z2,Á ⋯]
     .rw[Â z2,Â ⋯]
  .rintro f H3 ⟨y,l,C,rfl,R,I,w,D,Qx,g⟩;let eL:l=(dY A[_]).map (El.sJ B c last):=by
    show AR #v[Qx,aA,oO] λj h1 h2=>?_;let e1:Dm.ln l j=l[j]:=by
     unfold Dm.ln;rw[À,Ä h1,0]
    rw[<-e1,g j 0.6,Á ⋯,Ha,VY]
   let⟨tr,r1,r2,N⟩:=D.get (⋯:c<l[_]);rw[g c ⋯,Á ⋯,El.sJ,Á rfl]at N;let wr:=Y.len c ⋯;show{_,.ref tr,.inl (aj.of w),uG c rfl r1,¬N,fG (ns:=Dm.ln B c) (⋯:(0:Int)<=0+c[0]) ⋯,.inl {rfl,_,aj.of I},d,"",I,#v[P,!eX ⋯],?_};let ec:(0+c[0]).toNat=c:=0.6;show{(0+c[0])[5],c[5],a[5],y,l,Pm.co (Dm.ln B c) c,C,?_,λx v nx hv=>?_,?_,?_,?_,?_}
   .rw[ec];rfl
   .by_cases z:x=d
    .rw[z,Ox]at hv;cases hv
    .rw[cO z];show R _ _ nx hv
   .rw[aB,oI,Zq,dO]
   .rw[cO G.symm];show w
   .exact D.keep hml (Keep.upd d H3 _)
   .rw[W,es,eL]
 .rintro f H1 ⟨o5,o6,o7,y,A,last,r,rfl,k1,p,m,s,U⟩;rw[Z]at U;cases U;show{(cU 2),λt ht=>?_};let kt:=Same.new ht (.tup [.ref d,.int aD1]);show q t d r _ (k1.trans (Keep.same kt)) aB (kt _ _ p) (kt _ _ m) ((s.less λa ha=>gW _ ha).same kt)
theorem aKj(F:Fn K mg "lowest" ir ["by","bottom","tops"])(p:Yo M):GS M:=by
 delta JH
 ext bt l ts rfl j d hz o q h;show{_,#[(),(bI (0!=_:) (aJ gZ) bJ),(fu (i:=4) JH.nd rfl (dR rfl) (fW DP rfl B.Cz boot_abs #[1])),(gq Ë rfl (dF K (2:)) (aX 3 JH.nd) (aJ (fu (i:=4) JH.nd rfl (dR rfl) (aq p hr #[4,3])))),(vM (bI (1<_:) (aJ (fu (i:=4) JH.nd rfl (dR rfl) (_-4:))) bJ)),(aF (iu #[(oX W6 (1:) (4:)),(c7 (sc:=aLv) (N:=["top","divisor"]) (ix:=[ν,ι 4]) cF rfl (dF K (2:)) (((aX 0 cG),cP,(oX W6 (0:) (1:))) :))]))],?_};show{(),?_}
 .refine bO ?_;show{bt,rfl,?_};rw[Ju,!{l,rfl,.inl {{_,aj.of d},?_}}];show Lw (jB (aj.of d)) (λi a H'=>∃o3,a=[ι (.int 0),bt[5],l[4],o3,(iQ bt.natAbs (ts.take i):Nat)[5]]/\H=H') {(),rfl} (λi a H' ⟨_,_,z⟩=>z▸Same.refl _) ?_ ?_
  .rintro i x a H' hx ⟨o3,rfl,rfl⟩;let⟨rfl,hi⟩:=QH hx;show{_,(),(Pm.co ts i)[5],?_,rfl};rw[V5 _ hi,C0,0]
  rintro a H' ⟨o3,rfl,rfl⟩;rw[aA,qw,!ur.by (λa H'=>a=[ι (.int 0),bt[5],l[4],o3,(lw bt ts)[5]]/\H=H') (λNN f=>?_) ?_]
  .show{"",(),?_};show cT (λc=>?_) (λc=>?_)
   .refine{"",f _ _ {?_,rfl}};unfold lw;rw[Á (dec_true c),0]
   .refine f _ _ {?_,rfl};unfold lw;rw[Â (dec_false c)]
  .rintro _ _ ⟨rfl,rfl⟩;let⟨b,e⟩:=aSD (ts:=ts) j o;show{"",{b,(e)},l,rfl,.inl {{_,aj.of d},?_}};show UQ d ⋯ rfl (λt=>t.fdiv (lw bt ts)) ?_ ?_
   .intro H2 x r hx k hk;show{"",{b,(e)},hk}
   .intro D m;let n:=Same.new m (.lst (ts.map λt=>t.fdiv (lw bt ts))[11]);show{(cU 2),λt ht=>?_};let g:=Same.new ht (.tup [.int (bt.fdiv (lw bt ts)),.ref D]);show q t D _ (n.trans g) aB (g _ _ aB)
theorem aJ2(F:Fn K mg "solution" ij ["by","wide","table","wished"])(dq:u_ M)(bX:Kt M)(jb:GS M):GA M:=by
 delta Af
 ext a ta tw xs L ws ex o last rfl hT hx hW lw' hn hw LX bL bW v q h;show{_,#[(),(lK (i:=4) (hN:=Af.nd) (hi':=rfl) (hx:=(ju rfl)) (sc:=aG3) (N:=["i","by","table","wished"]) (ix:=[ν,ι 0,ι 2,ι 3]) cF rfl (dU rfl B.dw #[(cJ K B.cC #[2])]) (((aX 0 cG),cP,(aq dq hr #[1,((aL K (2:) (0:))+(fX #[(aL K (3:) (0:))]):)])) :)),(aC 6 Af.nd (aq bX hr #[0,1,4])),(aC 7 Af.nd (-6:)),(aC 8 Af.nd (-6:)),(bI (ji (fW (VX K rfl) rfl B.VR boot_any #[(c7 (sc:=aSi) (N:=["line","wide"]) (ix:=[ν,ι 1]) cF rfl (dF K (jJ (jX K) (4:) (jz (cJ K B.cC #[7])) lF)) (((aX 0 cG),cP,(kJ (xne K hr) (aL K (0:) (1:)) aR (mq _))) :))])) (aJ (aF Pr)) bJ),(aC 9 Af.nd ((fX #[_])*1:)),(gq Ë rfl (dU rfl B.dw #[(cJ K B.cC #[7])]) (aX 5 Af.nd) (aJ (uU (aL K (aL K (4:) (5:)) (1:)) (Bk (9:) (aL K (7:) (5:)) set_list)))),(aC 10 Af.nd (aq jb hr #[0,8,9])),(bI ((cJ K B.cC #[7])==1:) (aJ (aF (iu #["",-10,-10]))) bJ),gZ],?_};let lx:=hx.len;show{.ref ta,L[_],rfl,.inl {_,aj.of hT,1.1},(L[_]:Int),rfl,0.1,⋯,?_};rw[dg,!N2 A9 #v[aA,oO] rfl (Vp λi=>Dm.ln L i++[Pm.co ws i]) ?_ ?_]
 .intro H2 x g2 X k hk;let⟨j,hj,rfl⟩:=bN.mp X;let l:=fQ.mp hj;let⟨t,e1,_,e2⟩:=(hx.same g2).get (i:=j) l;show{_,.ref t,.inl (aj.of (g2 _ _ hT)),uG j ⋯ e1,¬(g2 _ _ hW),fG (ns:=ws) (⋯:(0:Int)<=0+j[0]) 0.6,(cU 1),λl1 f=>?_};let ej:(0+j[0]).toNat=j:=⋯;rw[ej];let⟨H3,b,g3,h1⟩:=nw f (.lst [.int (ws.getD j 0)]);rw[b,!.inl {_,_,g3 _ _ e2,h1,?_,λl2 d=>?_}]
  .rw[aA,LX j l];show gQ (eX (⋯:a+1<=1000))
  let m:=Same.new d (.lst ((Dm.ln L j)[11]++[.int (ws.getD j 0)]));show{0,l2,Dm.ln L j++[Pm.co ws j],rfl,Int.le_refl _,#v[aB,eG,0],by rw[fJ,LX j l,!a+1<=1000];lia,λt' H5 P O h5=>?_};show hk t' H5 ((g3.trans m).trans P) ((g3.trans m).free O) ?_;rw[eW]at h5;show H5 t'=(Dm.ln L (0+j[0]).toNat++[Pm.co ws (0+j[0]).toNat])[11][2];rw[ej,!h5]
 intro D0 ys H1 hD g1 C hy;rw[azl]at hy;let Ti:=YN LX bL bW;let al:=oq L ws;let⟨cB,lB,n0,bl⟩:=Ti.cl 0.3 v;let sz:2^a*(62+1)-1<=1990:=by
  let:2^a*63<=2^4*63:=pN _ (mX 0.3 hw);(simp;omega)
 show{a,D0,ys,El.uc L ws,62,[D0],o,last,rfl,C,hy,iI.mpr rfl,(λa' ha=>#v[iI.mp ha,!{_,C}]),1.1,hw,0.3,0.3,Ti,v,λt G R H2 k2 w y A p=>?_};let gS:Same H H2:=λc u hu=>k2 _ _ (λz=>by rw[z,hD]at hu;cases hu) (g1 _ _ hu);let T:((aD a λh=>h[0])[11])[_]=a:=#v[aA,bZ]
 let lx':=p.len;show{!w,rfl,!w,rfl,.ref G,a,rfl,.inl {_,aj.of y,T.symm},(),.inl {_,aj.of A,λps Z=>?_}};rw[q? R 1.1,Ae 1.1];let⟨H3,b,J,s⟩:=nw Z (.lst []);rw[b,!{ps,rfl,.inl {{_,aj.of s},oZ (jB (aj.of s)) (dz _) rfl (λ_=>true) (λx=>x) (λ_ _ _ hx=>È hx En) (λ_ _ _ hx=>È hx En) λD2 Y=>?_}}];rw[show fR (λx=>x) (List.filter (λx=>true) ([]:τ))=[]from rfl];let⟨H4,b,m,qX⟩:=nw Y (.lst []);rw[b,!{D2,[],rfl,aj.of qX,(),bO ?_}];let gg:=(gS.trans J).trans m;let Ah:=m _ _ (J _ _ A);let W:=(p.same J).same m;let fF:=m _ _ (J _ _ y);show{(cU 1),λl1 f=>?_};let⟨H5,b,P,h1⟩:=nw f (.lst [.int 0]);rw[b,!{_,h1,0.6,⋯,?_,λl2 d=>?_}]
 .show 1*(a:Int).toNat<=Ê;rw[G8,!gQ (eX ⋯)]
 rw[dg,Ru];let⟨H6,b,g6,h2⟩:=nw d (.lst (aD a λ_=>0)[11]);rw[b];let D:=P.trans g6;let f2:H4 l2=ν:=P.free d;show{.ref G,a,rfl,.inl {_,aj.of (D _ _ fF),T.symm},a[0],rfl,⋯,⋯,?_};rw[dg,!kI (lo:=0) (n:=a) (λi e H'=>∃(S:Option V),e=[ι (.int 0),a[5],ta[4],tw[4],D0[4],S,t[4],G[4],last[5],l2[4],ν]/\Same H4 H'/\H' l2=(aD a λk=>if k<i then Pm.co (Dm.ln o k) a else 0)[11][2]) {(),D,#v[h2,0]} ?_ ?_]
 .rintro i e H' hi ⟨S,rfl,g,I⟩;let⟨t4,e1,_,e2⟩:=(W.same g).get (i:=i) 1.1;let hwi:=cB.len i ⋯;show{_,.ref t4,.inl (aj.of (g _ _ Ah)),uG i ⋯ e1,¬e2,fG (ns:=Dm.ln o i) (⋯:(0:Int)<=a[0]) ⋯,¬(g _ _ fF),fG (ns:=aD a λh=>h[0]) (⋯:(0:Int)<=0+i[0]) #v[bZ],?_};let eh:(aD a λh=>h[0]).getD (0+i[0]).toNat 0=(i:Int):=by
   rw[(⋯:(0+i[0]).toNat=i)];let:=dH a (λh=>h[0]) i;rw[Á hi]at this;show this
  rw[eh,dg,!{l2,_,_,i,rfl,rfl,I,Ed rfl #v[aA,bZ,!hi],?_}];rw[Vz];show{(),g.upd f2 _,?_};rw[aB,!Ï (λz=>ι (HO.lst (fR V.int z))) ?_];show qT #v[qt,bZ,bZ] λk=>?_;rw[Lh _ _ _ _ #v[bZ,!hi],dH,dH];by_cases z:k=i
  .rw[Á z,Á 0.6,Á ⋯,z];rfl
  .rw[Â z];by_cases z2:k<i
   .rw[Á z2,Á (⋯:k<i+1)]
   .rw[Â z2,Â (⋯:¬k<i+1)]
 rintro e H7 ⟨S,rfl,g7,I⟩;let eT:(aD a λk=>if k<a then Pm.co (Dm.ln o k) a else 0)=Ī o a:=jx λk hk=>Á (fQ.mp hk);rw[eT]at I;show{last,l2,(),n0,I,#v[Ī,bZ],bl.mono sz,λtl lt H8 g8 r U=>?_};let aSR:=g8 _ _ (g7 _ _ fF);let gA:=(gg.trans g7).trans g8;show{.ref G,a,rfl,.inl {_,aj.of aSR,T.symm},(),?_};rw[É rfl,!gk ?_];show{!r,rfl,!r,rfl,(cU 3),λt2 rE=>?_};let g9:=Same.new rE (.tup [.str ("one":Str),.int (last.fdiv (lw last (Ī o a))),.ref lt]);show q t2 lt _ (gA.trans g9) aB (g9 _ _ U)
theorem ayr(F:Fn K mg "solved" kP ["by","wide","table","wished"])(O:GA M):CU M:=by
 delta UE
 ext a f e xs L ws ex n last rfl j hx i b hn hw m l k d q h;show{_,#[(),(aC 4 UE.nd (aq O hr #[0,1,2,3])),(bI (xg (Vo (4:))) (aJ gZ) bJ),(aF (4:))],a,f,e,xs,L,ws,ex,n,last,rfl,j,hx,i,b,hn,hw,m,l,k,d,λt lt H' g ht c=>?_};show{(),bO ?_};show(q t lt H' g ht c)
theorem aDl(F:Fn K mg "refuse_big" pd ["poly"]):Sr M:=by
 delta az6
 ext a c rfl b f hb q h;show{_,(aJ (bI (ji (fW (VX K rfl) rfl B.VR boot_any #[(c7 (sc:=aXi) (N:=["number"]) (ix:=[ν]) cF rfl (dF K (0:)) (((aX 0 cG),cP,(kJ SO (fW DP rfl B.Cz boot_abs #[0]) (rB rfl B.Zb) (mq _))) :))])) (aJ gZ) bJ)),?_};show{a,rfl,.inr {{_,ao.of b},?_}};show oZ (xQ (ao.of b)) #v[aA,!gQ (eX ⋯)] rfl (λ_=>true) (λx=>match x with|.int k=>.bl (Rv k)|_=>.non) ?_ ?_ ?_
 .intro H2 x e hx k hk;show hk
 .intro H2 x e hx _ k hk;let⟨y,hy,rfl⟩:=bN.mp hx;show{y,rfl,"",hk}
 intro D d;let el:((c[11].filter λ_=>true).map λx=>match x with|.int k=>V.bl (Rv k)|_=>V.non)=(c.map λk=>Rv k).map V.bl:=by
  rw[uw.mpr 0.1,dh,dh,0]
 rw[el];show{D,(),aj.of aB,(),?_};unfold RH at hb;rw[<-JS]at hb;rw[hb,!bO (q _ (Same.new d _))]
theorem aK9(F:Fn K mg "whole_divisors" ZJ ["number"]):U1 M:=by
 delta O8
 ext n rfl h1 h3 q h;show{_,#[(),(aC 1 O8.nd (fX jF)),(aC 2 O8.nd (fX jF)),(aC 3 O8.nd aR),(ug Ë (3*3<=0:) #[(),(bI (0%3==_:) #[(),(eU (n8 K (1:) (3:))),(bI (3*3<0:) (aJ (eU (n8 K (2:) (0/3:)))) bJ)] bJ),(aC 3 O8.nd (3+_:))]),(aF (1+(aRx rfl rfl B.Ay rfl B.YI #[2]):))],dz _,λb k=>?_};let⟨H1,i,D,w⟩:=nw k (.lst []);rw[i,!{dz _,λd v=>?_}];let j:b≠d:=iH w v;let⟨H2,i,C,k2⟩:=nw v (.lst []);rw[i];let o:H d=ν:=D.free v;show{λm f H'=>Ž λ(s g:ζ)=>Fe (f=[n[5],b[4],d[4],(2-m[0])[5]]) (Same H H') (H' b=s[11][2]) (H' d=g[11][2]) ((m=1/\s=[]/\g=[]∨m=0/\s=[1]/\g=if n=1 then[]else[n[0]])),{1,[],[],rfl,D.trans C,C _ _ w,k2,.inl {rfl,rfl,(rfl)}},?_};rintro m f H' ⟨G,g,rfl,y,p,x,z⟩;rcases z with⟨rfl,rfl,rfl⟩|⟨rfl,rfl,rfl⟩
 .show{mulR 0.3 0.3,"",(),?_};rw[É (⋯:(2-(1:Nat)[0])*(2-(1:Nat)[0])<=n[0]),!gk {_,λ_ _ z=>z,?_}];show{"",(0.3:(0:Int)<2-(1:Nat)[0]),(),?_};rw[É (show(n:Int)%(2-(1:Nat)[0])=0 from Int.emod_one _),!gk ?_];show{.inl {rfl,_,aj.of p},b,"",p,0.3,?_};let u:=y.upd k (.lst [.int 1]);let e:(upd H' b (.lst [.int 1])) b=[.int 1][2]:=aB;let a:(upd H' b (.lst [.int 1])) d=[][2]:=#v[cO j.symm,!x]
  dsimp only;rw[show(([]:ζ)[11]++[V.int (2-(1:Nat)[0])])=[V.int 1]from rfl];generalize upd H' b (.lst [.int 1])=H3 at u e a;show{mulR 0.3 0.3,"",(),?_};by_cases c:n=1
  .rw[Ì (0.6:¬(2-(1:Nat)[0])*(2-(1:Nat)[0])<n[0])];show bO {0,0.3,[1],[],rfl,u,e,a,.inr {rfl,rfl,#v[Á c]}}
  .rw[É (⋯:(2-(1:Nat)[0])*(2-(1:Nat)[0])<n[0])];show gk ?_;show{.inl {rfl,_,aj.of a},"",{0.3,0.3},d,"",a,0.3,0,0.3,[1],(),u.upd o _,#v[cO j,!e],?_,.inr {rfl,rfl,#v[Â c]}};rw[aB,!ι (HO.lst [V.int (n[0]/1)])=_];rw[Qw,0]
 .show{mulR 0.3 0.3,"",(),?_};rw[Ì (⋯:¬(2-(0:Nat)[0])*(2-(0:Nat)[0])<=n[0]),!bO ?_];show{d,(),x,λl1 t=>?_};let⟨H3,i,A,l⟩:=nw t (.lst (fR V.int (if n=1 then[]else[n[0]])).reverse);rw[i];let er:(fR V.int (if n=1 then[]else[n[0]])).reverse=fR V.int (if n=1 then[]else[n[0]]):=by split<;>rfl
  rw[er]at l;show .inl {_,_,A _ _ p,l,?_,λl2 r=>?_}
  .exact cD (show _<=2 by split<;>simp) 0.3
  show q l2 _ (y.trans (A.trans (Same.new r _))) ?_;rw[aB,iW];by_cases c:n=1
  .rw[Á c,Á c];rfl
  .rw[Â c,Â c];rfl
theorem axg(F:Fn K mg "perhaps_roots" dc ["poly"])(O:U1 M):Sn M:=by
 delta Te
 ext a r rfl v P hx g q h;show{_,#[(),(aC 1 Te.nd (aL K (c7 (sc:=aKg) (N:=["number"]) (ix:=[ν]) cF rfl (dF K (0:)) (((aX 0 cG),(BH (0!=_:)),(0:)) :)) aR)),(aC 2 Te.nd (aq O hr #[(fW DP rfl B.Cz boot_abs #[1])])),(lK (i:=3) (hN:=Te.nd) (hi':=rfl) (hx:=(ju rfl)) (sc:=aKU) (N:=["divisor"]) (ix:=[ν]) cF rfl (aCV K rfl B.YI #[2]) (((aX 0 cG),cP,(_-0:)) :)),(aF (3+(fX #[_])+2:))],?_};show{a,rfl,.inr {{_,ao.of v},?_}};show oZ (xQ (ao.of v)) #v[aA,!gQ (eX ⋯)] rfl (λx=>match x with|.int k=>decide (k≠0)|_=>false) (λx=>x) ?_ ?_ ?_
 .intro H2 x o hx k hk;let⟨y,hy,rfl⟩:=bN.mp hx;show{(),?_};let e:(not (decide (y=0)))=decide (y≠0):=by by_cases z:y=0<;>simp[z]
  rw[e,!hk]
 .intro H2 x o hx _ k hk;show(hk)
 intro D G;let el:((r[11].filter λx=>match x with|.int k=>decide (k≠0)|_=>false).map λx=>x)=(r.filter λx=>decide (x≠0))[11]:=by
  rw[WX,OV,0]
 rw[el];rw[aNm]at q;unfold j6 at hx g q;cases u:r.filter λx=>decide (x≠0)with
 |nil=>rw[u]at hx;show È hx 0.3
 |cons y0 ys=>
 rw[u,WE]at hx g q;let⟨H1,b,J,C⟩:=nw G (.lst (y0::ys)[11]);rw[b];show{_,.int y0,.inl (aj.of C),ayN,y0,rfl,?_};let L:(if y0<0 then -y0 else y0)=(y0.natAbs:Nat)[0]:=by split<;>grind -ring
 show{y0.natAbs,#v[L,0],hx,g,λA H2 o h2=>?_};let c:(iW y0.natAbs)[_]<=2:=by unfold iW;split<;>simp
 generalize iW y0.natAbs=ds at q h2 c;show{A,ds[11],rfl,aj.of h2,oZ (axT (aj.of h2)) #v[Eb,aA,!cD c 0.3] rfl (λ_=>true) (λx=>match x with|.int k=>.int (0-k)|_=>.non) ?_ ?_ ?_}
 .intro H3 x f hx k hk;show hk
 .intro H3 x f hx _ k hk;let⟨y,hy,rfl⟩:=bN.mp (List.mem_reverse.mp hx);show{"",hk}
 intro W m;let p:((ds[11].reverse.filter λ_=>true).map λx=>match x with|.int k=>V.int (0-k)|_=>V.non)=(ds.reverse.map λx=>0-x)[11]:=by
  rw[uw.mpr 0.1,<-List.map_reverse,dh,dh,0]
 rw[p];let⟨H3,b,f,h3⟩:=nw m (.lst (ds.reverse.map λx=>0-x)[11]);rw[b];let t:((ds.reverse.map λx=>0-x)[11])[_]=ds[_]:=#v[aA,aA,Eb]
 show{(cU 1),λR l=>?_};let⟨T,b,n,h4⟩:=nw l (.lst [.int 0]);rw[b,!.inl {_,_,n _ _ h3,h4,?_,λl1 j=>?_}]
 .rw[t];show cD (0.8:_+1<=3) 0.3
 let⟨S,b,w,I⟩:=nw j (.lst ((ds.reverse.map λx=>0-x)[11]++[.int 0]));rw[b,!(.inl {_,_,I,w _ _ (n _ _ (f _ _ h2)),?_,λl2 d=>?_})]
 .rw[fJ,t,aA];show cD (⋯:ds[_]+1+ds[_]<=5) 0.3
 let s:=J.trans (o.trans (f.trans (n.trans w)));show q l2 _ (s.trans (Same.new d _)) (s.free d) ?_;rw[aB,eG,eG,0]
theorem aIt(F:Fn K mg "divided_out" qo ["poly","root"])(Y:Ge M):XB M:=by
 delta Ef
 ext a r P' u rfl hA zP hP N bP G hu q h;show{_,#[(),(aC 2 Ef.nd aR),(aC 3 Ef.nd (0:)),(aC 4 Ef.nd (aq Y hr #[_,3,(iu #[(_-1:),_])])),(ug Ë (-4==(iu jF):) #[(),(aC 2 Ef.nd (2+_:)),(aC 3 Ef.nd (-4:)),(aC 4 Ef.nd (aq Y hr #[_,3,(iu #[(_-1:),_])]))]),(aF (iu #[2,3]))],?_};let hM:=GW r;let bM:∀x∈lin r,Bd 22 x:=λx hx=>by
  rcases fj.mp (show x∈[0-r,1]from hx)with rfl|hx
  .let:Bd 10 (0-r):=by unfold Bd at N ⊢;simp_all
   show this.mono 0.3
  .rw[iI.mp hx];show(Bd.of (n:=1) 0.6 0.6).mono 0.3
 let one:∀{H1:Hp} {b:Æ} {L:ζ} {v:Nat} {Q1:VK} {E1:XK} {f:Æ},H1 b=L[11][3]->H1 f=[0-r,1][11][3]->L[_]<=13->(∀x∈L,Bd v x)->22<=v->v<=200000->(∀t x y q l H2,Same H1 H2->H2 t=[.ref x,.ref y][3]->H2 x=(fR V.int q)[3]->H2 y=(fR V.int l)[3]->Pm.Div 0 L (lin r) q l->Q1 (.ref t) H2)->RI [.int 0,.ref b,.ref f] H1 Q1 E1:=λ{H1 b L v Q1 E1 f} h1 h2 zL B C hv hq=>{0,b,f,L,lin r,v,22,rfl,0.3,0.3,h1,h2,⋯,(0.3:2<=40),hM,λk=>cY _,B,bM,C,⋯,λt x y o l H2 d p j w D _=>hq t x y o l H2 d p j w D};show{"",(cU 2),λf O=>?_};let Z:=Same.new O (.tup [0-r,1][11]);show one (Z _ _ hA) aB zP bP G ⋯ λtt x y o l H1 g1 p j w D1=>?_;show{λm s H'=>XU λ(i:Nat) (L o l:ζ) (b tt x y:Æ)=>ahZ (m=L[_]) (s=[a[4],r[5],(i:Int)[5],b[4],tt[4]]) (Same H H') (H' b=L[11][3]) (H' tt=[.ref x,.ref y][3]) (H' x=(fR V.int o)[3]) (H' y=(fR V.int l)[3]) (Pm.Div 0 L (lin r) o l) (Pm.Rep r i P' L) (∀z∈L,Bd (u+i*169) z),
  {_,0,P',o,l,a,tt,x,y,rfl,rfl,Z.trans g1,g1 _ _ (Z _ _ hA),p,j,w,D1,.zero _,λz hz=>(bP z hz).mono 0.6},?_}
 rintro m s H' ⟨i,L,o,l,b,tt,x,y,rfl,rfl,gg,hL,p,j,w,Dv,U,B⟩;let⟨W,hlen⟩:=El.V7 U hP;show{!p,rfl,dz _,λt0 J=>?_};let⟨H2,uu,d,k2⟩:=nw J (.tup []);rw[uu,!Ra (ns:=l) (ms:=[]) (ao.of (d _ _ w)) (ao.of k2) {(),?_}];let A:=gg.trans d;show cT (λc=>?_) (λc=>?_)
 .let hz:l=[]:=dec_true c;subst hz;let⟨m1,l1⟩:=El.ah3 Dv W;let bQ:∀z∈o,Bd (u+(i+1)*169) z:=λz hz=>by
   let⟨k,hk,e⟩:=pH.mp hz;let:=Ot hM (P:=L) (g:=o) (λk=>by let:=Dv.eq k;rw[cY,cY,gP,fK]at this;rw[<-this,je]) ⋯ ⋯ (⋯:2+o[_]<=14) (u:=u+i*169) (iK B) k;rw[mC hk,e]at this;show this.mono ⋯
  show{_,λ_ _ z=>z,?_};show{!(d _ _ p),rfl,"",(cU 2),λf O=>?_};let X:=Same.new O (.tup [0-r,1][11]);show one (X _ _ (d _ _ j)) aB ⋯ bQ ⋯ ⋯ λI x' y' o' l' H3 g4 T S R D'=>?_;show{o[_],⋯,i+1,o,o',l',x,I,x',y',rfl,#v[CM,0],A.trans (X.trans g4),g4 _ _ (X _ _ (d _ _ j)),T,S,R,D',aHD U Dv,bQ}
 .let hz:¬l=[]:=dec_false c;show{(cU 2),λtz yN=>?_};let gz:=Same.new yN (.tup [.int (i:Int),.ref b]);show q i L tz b _ (A.trans gz) U (λz=>hz (Dv.root.mpr z)) B aB (gz _ _ (d _ _ hL))
theorem ay5(F:Fn K mg "whole_roots" ie ["poly"])(Xe:Sr M)(u7:Sn M)(c9:XB M):L5 M:=by
 delta Hz
 ext a d rfl hA zP hP bP O Z hs q1 h;show{_,#[(),(eU (aq Xe hr #[0])),(aC 1 Hz.nd (fX jF)),(aC 2 Hz.nd (0:)),(gq Ë rfl (dF K (aq u7 hr #[0])) (aX 3 Hz.nd) #[(),(aC 4 Hz.nd (aq c9 hr #[2,3])),(bI (-4>_:) #[(),(eU (n8 K (1:) (iu #[3,-4]))),(aC 2 Hz.nd (-4:))] bJ)]),(aF (iu #[1,2]))],a,d,rfl,hA,⋯,hs,λH1 g1=>?_};show{dz _,λj A=>?_};let⟨H2,T,g2,h2⟩:=nw A (.lst []);rw[T];let fZ:=g1.trans g2;let aOk:H j=ν:=g1.free A;show{a,d,rfl,fZ _ _ hA,⋯,O,Z,λlc H3 g3 hlc h3=>?_};show{lc,rfl,.inl {{_,aj.of h3},?_}};let h23:=g3 _ _ h2;let gK:=fZ.trans g3;let hne:j≠lc:=iH h2 hlc;let D:=P6 _ (⋯:(j6 d).natAbs<4);let hcl:=Sz _ (⋯:(j6 d).natAbs<4);generalize El.AX (j6 d).natAbs=cs at q1 D hcl h3;show kn (xs:=cs[11]) (λi f H'=>Ex6 λ(o3 X:Option V)(g:Æ)(L:ζ)(o:El.fY)(xs:τ)=>UK (f=[a[4],j[4],g[4],o3,X]) (Same H H') (H' lc=cs[11][2]) (H' j=xs[2]) (tu H' xs o) (H' g=L[11][3]) (Pm.Mon L) (L[_]<=d[_]) ((∀z∈L,Bd (32+(d[_]-L[_])*169) z)) (xs[_]<=i) (∀l R,Pm.Scan (cs.drop i) L l R->Pm.Scan cs d (o++l) R))
  {_,_,a,d,[],[],rfl,gK,h3,h23,{[],rfl,rfl,(nofun)},gK _ _ hA,hP,aZ _,λz hz=>(bP z hz).mono 0.6,aZ _,λ_ _ z=>z} (λi f H' ⟨_,_,_,_,_,_,_,_,z,_,_,_,_,_,_,_,_⟩=>aj.of z) ?_ ?_
 .rintro i x f H4 hx ⟨o3,X,g,L,o,xs,rfl,J,s,Gj,N,G,P,B,JM,U,hw⟩;let⟨rfl,hi⟩:=QH hx;obtain⟨c,r⟩:∃c,c=Pm.co cs i:={()};rw[<-r];let ed:cs.drop i=c::cs.drop (i+1):=#v[r,EI hi,-mC hi]
  rw[ed]at hw;let hu:(d[_]-L[_])*169<=5*169:=pN _ 0.7;show{g,c,L,32+(d[_]-L[_])*169,rfl,G,⋯,P,D c (r▸O9 hi),JM,⋯,⋯,λm q t W H5 n DL C bq ht v=>?_};let⟨hMq,lq⟩:=El.V7 DL P;let p:=n _ _ Gj;show{!ht,rfl,"",(),cT (λcc=>?_) (λcc=>?_)}
  .obtain⟨m,rfl⟩:∃k,m=k+1:={m-1,let:=dec_true cc;⋯};show{.inl {rfl,_,aj.of p},!ht,rfl,(cU 2),λtp Y=>?_};let⟨H6,T,u,h6⟩:=nw Y (.tup [.int c,.int (m+1:Nat)[0]]);rw[T];let y:=u _ _ p;let w:=u _ _ ht;let Bu:=J.trans (n.trans u);let S:∀{b:Æ} {ts},H6 b=ι (HO.tup ts)->b≠j:=λe z=>by rw[z,y]at e;cases e
   show{j,"",y,eX ⋯,!(#v[cO (S w),!w]),rfl,?_};show{c[5],t[4],W,q,o++[(c,m+1)],xs++[.ref tp],rfl,Bu.upd aOk _,#v[cO hne.symm,!(n.trans u) _ _ s],aB,?_,#v[cO (S (u _ _ v)),!u _ _ v],hMq,⋯,λz hz=>(bq z hz).mono ?_,by rw[fJ,!xs[_]+1<=_];(simp;omega),λl R hS=>?_}
   .obtain⟨ts,e1,e2,e3⟩:=(N.same n).same u;show{ts++[(tp,c,m+1)],#v[eG,-e1,0],#v[eG,-e2,0],λz hz=>?_};rcases iz.mp hz with hz|hz
    .rw[cO (S (e3 z hz))];show e3 z hz
    .rw[iI.mp hz,cO (S h6)];show h6
   .let:(d[_]-L[_])*169+(m+1)*169=(d[_]-q[_])*169:=by rw[<-Sg];congr 1;grind -ring
    lia
   .rw[yX];show hw _ _ (.hit DL C hS)
  .obtain rfl:m=0:=let:=dec_false cc;⋯
   cases DL;show{c[5],t[4],g,L,o,xs,rfl,J.trans n,n _ _ s,p,N.same n,n _ _ G,P,B,JM,⋯,λl R hS=>hw _ _ (.miss C hS)}
 .rintro f H4 ⟨o3,X,g,L,o,xs,rfl,J,s,Gj,N,G,P,B,JM,U,hw⟩;rw[aA,List.drop_length]at hw;let hw:=hw [] L (.nil L);rw[sU]at hw;show{(cU 2),λtz yN=>?_};let I:=Same.new yN (.tup [.ref j,.ref g]);show q1 o L tz j g xs _ (J.trans I) hw aB (I _ _ Gj) (N.same I) (I _ _ G)
theorem aGw(F:Fn K mg "power" fA ["number","exponent"]):UR M:=by
 delta VF
 ext a e rfl d c hb q h;show{_,#[(),(aC 2 VF.nd aR),(gq Ë rfl (dU rfl B.dw #[1]) (aX 3 VF.nd) (aJ (aC 2 VF.nd (2*0:)))),(aF (2:))],e,rfl,(⋯:-(2^62)<=e),(⋯:e<2^62),kI (lo:=0) (n:=e.toNat) (λi b H'=>∃o,b=[a[5],e[5],(a^i)[5],o]/\H=H') {_,#v[Ac,0],rfl} ?_ ?_}
 .rintro i b H' hi ⟨o,rfl,rfl⟩;show{jA (Br hb i) hb ⋯,(0+i[0])[5],#v[oN,0],rfl}
 .rintro b H' ⟨o,rfl,rfl⟩;show(q)
theorem aDt(F:Fn K mg "is_whole" V8 ["thing"]):pM M:=by
 delta aGM
 ext i rfl q h;show{_,(aJ (aF (aEh (fW Eo rfl B.ED boot_isinstance #[0,(E3 rfl B.uP boot_int)]) (NV (SS (fW Eo rfl B.ED boot_isinstance #[0,(E3 rfl B.aJo boot_bool)])))))),.int i,"int","int",rfl,rfl,0.1,(),gk ?_};show{.int i,"bool","int",rfl,rfl,0.1,(),q}
theorem aHG(F:Fn K mg "is_by" mT ["thing"])(d:pM M)(a:cy M):YT M:=by
 delta aMF
 ext b rfl h0 h1 hp q h;show{_,#[(),(bI (PW.pt (jc (jY (ji (aq d hr #[0]))) (mD (0>=(rB rfl B.y4):)))) (aJ (aF iy)) bJ),(aF (VJ (kJ (pQ K hr) (0:) aR (mq _)) (NV (aq a hr #[0]))))],b,rfl,(),bO ?_};show{"",(),?_};rw[Ì (0.6:¬b≥1000),!bO ?_];show{(),cT (λc=>?_) (λc=>?_)}
 .exact q
 .let hb:b≠0:=dec_false c;obtain⟨n,rfl⟩:∃n:Nat,b=(n:Int):={b.toNat,⋯};show{n,rfl,⋯,λz hz=>?_};rw[hz.mpr (hp.resolve_left hb)[7],!q]
theorem aIP(F:Fn K mg "is_number" ot ["by","thing"])(a:pM M):KU M:=by
 delta aGF
 ext b x rfl hn q h;show{_,#[(),(bI (jY (ji (aq a hr #[1]))) (aJ (aF iy)) bJ),(aF (VJ (kJ (pQ K hr) (0:) aR (mq _)) (NV (azC NB Rp aR (1:) (0:)))))],x,rfl,(),bO ?_};show{(),cT (λc=>q) (λc=>?_)};let⟨h0,h1⟩:=hn.cases.resolve_left (dec_false c);show{"",(),?_};rw[É h0,!gk {"",?_}];rw[É h1,!q]
theorem aGg(F:Fn K mg "are_numbers" X6 ["by","thing"])(e:KU M):i? M:=by
 delta aM6
 ext b p xs rfl hp f hn q h;show{_,#[(),(bI (PW.pt (jc (jY (ji (fW Eo rfl B.ED boot_isinstance #[1,(E3 rfl B.mF boot_tuple)]))) (mD ((cJ K B.cC #[1])>(rB rfl B.QJ):)))) (aJ (aF iy)) bJ),(aF (fW (js K rfl) rfl B.xD boot_all #[(c7 (sc:=aU5) (N:=["part","by"]) (ix:=[ν,ι 0]) cF rfl (dF K (1:)) (((aX 0 cG),cP,(aq e hr #[1,0])) :))]))],?_};let a:(xs[11])[_]=xs[_]:=aA _;show{.ref p,"tuple","tuple",rfl,by simp only[OJ,hp],0.1,(),bO ?_};show{.ref p,xs[_],rfl,.inr {_,ao.of hp,a.symm},"",(),?_};rw[Ì (⋯:¬(xs[_]:Int)>12),!bO {p,rfl,.inr {{_,ao.of hp},oZ (xQ (ao.of hp)) #v[a,!gQ (eX ⋯)] (rest:=[b[5]]) rfl (λ_=>true) (λ_=>.bl true) ?_ ?_ ?_}}]
 .intro H2 y d hy k hk;show hk
 .intro H2 y d hy _ k hk;let⟨x,hx,rfl⟩:=bN.mp hy;show{b,x,rfl,hn x hx,hk}
 .intro D c;show{D,xs.map λ_=>true,rfl,aj.of #v[aB,uw.mpr 0.1,dh,dh,0],?_};rw[show(xs.map λ_=>true).all id=true by simp,!q _ (Same.new c _)]
theorem aQn(F:Fn K mg "is_row" aE ["thing"])(i:i? M)(m:YT M):Po M:=by
 delta QF
 obtain⟨v,r,rfl,⟨a,p,p2,rfl,c,f,e⟩,t,q⟩:=h;show{_,#[(),(bI (PW.pt (jc (jY (ji (fW Eo rfl B.ED boot_isinstance #[0,(E3 rfl B.mF boot_tuple)]))) (mD ((cJ K B.cC #[0])!=_:)))) (aJ (aF iy)) bJ),(aC 1 QF.nd (-0:)),(aC 2 QF.nd (-0:)),(aC 3 QF.nd (-0:)),(bI (PW.pt (jc (jY (ji (aq m hr #[1]))) (jc (jY (ji (aq i hr #[1,2]))) (mD (jY (ji (aq i hr #[1,3]))))))) (aJ (aF iy)) bJ),(aF (kJ (pQ K hr) (cJ K B.cC #[2]) (cJ K B.cC #[3]) (mq _)))],?_};let k:=t.len;let j:=t.short;show{.ref a,"tuple","tuple",rfl,by simp only[OJ,c],0.1,(),bO ?_};show{.ref a,3,rfl,.inr {_,ao.of c,rfl},(),bO ?_};show{!c,rfl,!c,rfl,!c,rfl,r.b,rfl,t.iR,t.pC,t.byp,(),bO ?_};show{r.b,p,r.ρ,rfl,f,j,t.uD,λH1 g=>{(),bO ?_}};show{r.b,p2,r.ς,rfl,g _ _ e,0.6,t.pL,λH2 l=>{(),bO ?_}};let d:=g.trans l;show{.ref p,r.ρ[_],rfl,.inr {_,ao.of (d _ _ f),(aA _).symm},.ref p2,r.ς[_],rfl,.inr {_,ao.of (d _ _ e),(aA _).symm},?_};show Q (.bl (id (decide ((r.ρ[_]:Int)=(r.ς[_]:Int))))) H2;rw[k,É rfl,!q _ d]
theorem aFj(F:Fn K mg "above_all_shown" ja []):VE M:=by
 delta aEK
 ext rfl q h;show{_,(aJ (aF (oX sk (oX sk (oX sk aR aR) aR) aR))),"",{0.3,0.3},"",{0.3,aFO},"",{0.3,aI9},q}
theorem aDY(F:Fn K mg "number_shown" pV ["number"])(O:VE M):yD M:=by
 delta aTY
 ext n rfl hn q h;show{_,#[(),(bI ((fW DP rfl B.Cz boot_abs #[0])>=(aDA O hr rfl):) (aJ gZ) bJ),(aF (dI (aO5 rfl) rfl B.nq boot_str #[0]))],n,rfl,rfl,"",(),?_};rw[Ju,!cT (λc=>?_) (λ_=>{n,rfl,Ik hn aHv,q})];let:=dec_true c;rw[aK7]at this;show È (ahf.mp this) (Nat.not_le.mpr hn)
theorem aSu(F:Fn K mg "shown" r6 ["row"])(O:yD M):HG M:=by
 delta L4
 obtain⟨v,r,rfl,⟨a,p,p2,rfl,j,y,w⟩,t,q⟩:=h;show{_,#[(),(lK (i:=1) (hN:=L4.nd) (hi':=rfl) (hx:=(ju rfl)) (sc:=aLT) (N:=["number"]) (ix:=[ν]) cF rfl (dF K (-0:)) (((aX 0 cG),cP,(aq O hr #[0])) :)),(eU (n8 K (1:) gj)),(eU (LN K (1:) (c7 (sc:=aTI) (N:=["number"]) (ix:=[ν]) cF rfl (dF K (-0:)) (((aX 0 cG),cP,(aq O hr #[0])) :)))),(bI (-0!=_:) #[(),(eU (n8 K (1:) gj)),(eU (n8 K (1:) (dI qP rfl B.nq boot_str #[-0])))] bJ),(aF (mZ K oJ B4 Cu Ci gj (1:)))],?_};let G:=t.l1;let C:=t.l2;let hb:=Xi t.iR t.pC;show{!j,rfl,p,rfl,.inr {{_,ao.of y},Ss y ⋯ rfl ?_ ?_}}
 .intro H2 x d hx k hk;show{x,rfl,t.f1 x hx,hk}
 intro D f;let A:=Same.new f (.lst (r.ρ.map au)[10]);let h1:(upd H D (.lst (r.ρ.map au)[10])) D=(r.ρ.map au)[10][2]:=aB;generalize upd H D (.lst (r.ρ.map au)[10])=H1 at A h1;show{.inl {rfl,_,aj.of h1},D,"",h1,#v[aA,aA,!eX ⋯],?_};let d:=A.upd f (.lst ((r.ρ.map au)[10]++[.str (eZ "|")]));let h2:(upd H1 D (.lst ((r.ρ.map au)[10]++[.str (eZ "|")]))) D=(r.ρ.map au++[Tx.bar])[10][2]:=#v[aB,eG,DC,0]
 generalize upd H1 D (.lst ((r.ρ.map au)[10]++[.str (eZ "|")]))=H2 at d h2;show{.inl {rfl,_,aj.of h2},!(d _ _ j),rfl,p2,rfl,.inr {{_,ao.of (d _ _ w)},Ss (d _ _ w) ⋯ rfl ?_ ?_}}
 .intro H3 x m hx k hk;show{x,rfl,t.f2 x hx,hk}
 intro n o;let m:=Same.new o (.lst (r.ς.map au)[10]);let h3:(upd H2 n (.lst (r.ς.map au)[10])) n=(r.ς.map au)[10][2]:=aB;let g:=m _ _ h2;generalize upd H2 n (.lst (r.ς.map au)[10])=H3 at m h3 g;show{D,n,"",g,h3,#v[aA,aA,fJ,aA,aA,!gQ (eX (⋯:_+1+_<=1000))],?_};let l:=(d.trans m).upd f (.lst ((r.ρ.map au++[Tx.bar])[10]++(r.ς.map au)[10]));let h4:(upd H3 D (.lst ((r.ρ.map au++[Tx.bar])[10]++(r.ς.map au)[10]))) D=(r.ρ.map au++Tx.bar::r.ς.map au)[10][2]:=#v[aB,-eG,yX,0]
 generalize upd H3 D (.lst ((r.ρ.map au++[Tx.bar])[10]++(r.ς.map au)[10]))=H4 at l h4;let l4:((r.ρ.map au++Tx.bar::r.ς.map au)[10])[_]=r.ρ[_]+(r.ς[_]+1):=#v[aA,fJ,aA,gh,aA]
 show{!(l _ _ j),rfl,(),cT (λc=>?_) (λc=>?_)}
 .let e:r.b>0:=by
   by_cases z:r.b=0
   .rw[z]at c;show È c 0.3
   .lia
  show{.inl {rfl,_,aj.of h4},D,"",h4,#v[l4,!eX ⋯],?_};let u:=l.upd f (.lst ((r.ρ.map au++Tx.bar::r.ς.map au)[10]++[.str (eZ "by")]));let s:(upd H4 D (.lst ((r.ρ.map au++Tx.bar::r.ς.map au)[10]++[.str (eZ "by")]))) D=((r.ρ.map au++Tx.bar::r.ς.map au)[10]++[.str oF])[2]:=#v[aB,Rh]
  generalize upd H4 D (.lst ((r.ρ.map au++Tx.bar::r.ς.map au)[10]++[.str (eZ "by")]))=H5 at u s;show{.inl {rfl,_,aj.of s},!(u _ _ j),rfl,r.b,rfl,qY (gY (⋯:r.b.natAbs<1000) 0.0),D,"",s,#v[fJ,l4,!eX (⋯:_+1<=1000)],?_};show{rfl,_,D,Tx.wordsOf r.b r.ρ r.ς,rfl,rfl,?_,?_,?_}
  .rw[aB,Tx.wordsOf,mR,Á e,yX];simp[au]
  .rw[jM];show t.join
  .rw[jM];show q _ (u.upd f _)
 .let e:r.b=0:=by
   by_cases z:r.b=0
   .exact z
   .exact È #v[Ì z,0] c
  show{rfl,_,D,Tx.wordsOf r.b r.ρ r.ς,rfl,rfl,?_,?_,?_}
  .rw[h4,Tx.wordsOf,mR,Â 0.6,sU]
  .rw[jM];show t.join
  .rw[jM];show q _ l
theorem aEf(F:Fn K mg "is_written" ph ["word"]):Up M:=by
 delta ZH
 ext w rfl hw q h;show{_,#[(),(aC 1 ZH.nd (Lx (Cd (ji (mZ K oJ B0 RO FU (0:) gj)) (jJ aOV (0:) (jz aR) lF) (0:)))),(bI (PW.pt (jc ((cJ K B.cC #[1])<_:) (mD ((cJ K B.cC #[1])>(rB rfl B.eQ):)))) (aJ (aF iy)) bJ),(bI (jY (ji (fW (js K rfl) rfl B.xD boot_all #[(c7 (sc:=aWC) (N:=["figure"]) (ix:=[ν]) cF rfl (L0 (1:)) (((aX 0 cG),cP,(kJ Th (0:) (M1 rfl B.tN) (by with_unfolding_all rfl))) :))]))) (aJ (aF iy)) bJ),(aF (VJ (kJ (pQ K hr) (0:) gj (mq _)) (NV (SS (mZ K oJ B0 RO FU (1:) gj)))))],?_};let e:(100000:Nat)<=Ê:=0.3;let f:=Wr.len hw;let⟨c1,c2,hd,h0⟩:=(aJZ w).mp hw;show ο.by (λv H1=>H1=H/\∃z:Str,v=.str z/\z[8]=jV w) (λkk a=>?_) ?_
 .show{rfl,w,(),rfl,(),?_};rw[aPC,VM,!cT (λc=>?_) (λc=>?_)]
  .refine{(),w,rfl,⋯,a _ _ {rfl,(),?_}};unfold jV;rw[Á (dec_true c),!aKb w 1]
  .refine(a _ _ {rfl,w,rfl,?_});unfold jV;rw[Â (dec_false c)]
 rintro v H1 ⟨rfl,z,rfl,hz⟩;let j:z[_]=(jV w)[_]:=by rw[<-hz];simp[Vb]
 show{.str z,z[_],rfl,{⋯,rfl},"",(),?_};rw[Ì (⋯:¬(z[_]:Int)<1),!bO {.str z,z[_],rfl,{⋯,rfl},"",(),?_}];rw[Ì (⋯:¬(z[_]:Int)>60),!bO {z,rfl,?_}];show oZ N1 #v[aA,hz] rfl (λ_=>true) (λ_=>.bl true) ?_ ?_ ?_
 .intro H2 x i hx k hk;show hk
 .intro H2 x i hx _ k hk;let⟨ch,b,rfl⟩:=bN.mp hx;show{"",?_};rw[L1,aXb,É (hd ch (hz▸b)),!hk]
 show λD g=>{D,z[8].map λ_=>true,rfl,aj.of #v[aB,uw.mpr 0.1,dh,dh,0],?_};let d:=Same.new g (.lst (((z[8].map λc=>V.str {{([c])}}).filter λ_=>true).map λ_=>V.bl true));rw[show(z[8].map λ_=>true).all id=true by simp,!{(),bO ?_}];show{(),cT (λc=>q _ d) (λc=>?_)};show{rfl,z,(),rfl,?_};rw[hz]at d⊢;rw[NM,VM,hz,Ì (h0.resolve_left λy=>dec_false c (PySem.Str.ext' (Fj.mp #v[y,NM,0]))),!{(),q _ d}]
theorem aHZ(F:Fn K mg "read_number" we ["word"])(O:Up M):Qj M:=by
 delta aWA
 ext w rfl hw q h;show{_,#[(),(bI (jY (ji (aq O hr #[0]))) (aJ gZ) bJ),(aF (dI AW rfl B.uP boot_int #[0]))],w,rfl,hw,λH1 a=>{(),bO ?_}};let:=Wr.len hw;show{w,(),hw.val.1,⋯,q H1 a}
theorem aMi(F:Fn K mg "read_prime" ox ["word"])(O:Qj M)(c:YT M):x6 M:=by
 delta UP
 ext w p rfl hw e hp a q h;show{_,#[(),(aC 1 UP.nd (aq O hr #[0])),(bI (PW.pt (jc (1==_:) (mD (jY (ji (aq c hr #[1])))))) (aJ gZ) bJ),(aF (1:))],w,rfl,hw,λH1 b=>?_};let h2:=hp.1;rw[e];show{(),?_};rw[Ì (⋯:¬(p:Int)=0),!bO {p[0],rfl,0.6,⋯,.inr #v[dg,!hp],(),bO ?_}];show(q H1 b)
theorem aGL(F:Fn K mg "read_words" Xz ["rule_words","start_words","by"])(O:Qj M)(U:Po M):GO M:=by
 delta RM
 ext a1 a2 r rfl f hB t q h;show{_,#[(),(aC 3 RM.nd (dI (nR K) rfl B.mF boot_tuple #[(c7 (sc:=ayU) (N:=["word"]) (ix:=[ν]) cF rfl (dF K (0:)) (((aX 0 cG),cP,(aq O hr #[0])) :))])),(aC 4 RM.nd (dI (nR K) rfl B.mF boot_tuple #[(c7 (sc:=aPP) (N:=["word"]) (ix:=[ν]) cF rfl (dF K (1:)) (((aX 0 cG),cP,(aq O hr #[0])) :))])),(aC 5 RM.nd (iu #[2,3,4])),(bI (jY (ji (aq U hr #[5]))) (aJ gZ) bJ),(aF (5:))],?_};let x:=t.len;let v:=t.short;show{a1,rfl,.inl {{_,aj.of f},ϴ f ⋯ t.jh rfl (λH2 w hw k hk=>{w,rfl,hw,hk}) ?_}};show λD H1 y s h1=>{D,(),.inl {aj.of h1,λt1 a=>?_}};let m:=Same.new a (.tup r.ρ[11]);let h2:(upd H1 t1 (.tup r.ρ[11])) t1=r.ρ[11][3]:=aB;generalize upd H1 t1 (.tup r.ρ[11])=H2 at m h2;let e:=s.trans m;show{a2,rfl,.inl {{_,aj.of (e _ _ hB)},ϴ (e _ _ hB) ⋯ t.kE rfl (λH3 w hw k hk=>{w,rfl,hw,hk}) ?_}};show λu H3 p l h3=>{u,(),.inl {aj.of h3,λt2 o=>?_}};let j:=Same.new o (.tup r.ς[11]);show{(cU 3),λt3 n=>?_};let d:=Same.new n (.tup [.int r.b,.ref t1,.ref t2]);let c:cL (upd (upd H3 t2 (.tup r.ς[11])) t3 (.tup [.int r.b,.ref t1,.ref t2])) (.ref t3) r:={t3,t1,t2,rfl,aB,(l.trans (j.trans d)) _ _ h2,d _ _ aB};let g:=e.trans (l.trans (j.trans d));generalize upd (upd H3 t2 (.tup r.ς[11])) t3 (.tup [.int r.b,.ref t1,.ref t2])=H5 at c g;show{_,r,rfl,c,t,λH6 i=>{(),bO (q _ H6 (g.trans i) (c.same i))}}
theorem aLu(F:Fn K mg "read" Xw ["text"])(P:GO M)(GN:x6 M):n? M:=by
 delta Mu
 ext r rfl t q h;show{_,#[(),(bI (jY (ji (fW Eo rfl B.ED boot_isinstance #[0,(E3 rfl B.nq boot_str)]))) (aJ gZ) bJ),(aC 1 Mu.nd (mZ K oJ GX Ej Gu (0:) gj)),(bI ((mZ K QG PySem.F.slot_list_count PySem.F.type_list_count aMm (1:) gj)!=_:) (aJ gZ) bJ),(aC 2 Mu.nd (mZ K QG PySem.F.slot_list_index PySem.F.type_list_index aKY (1:) gj)),(aC 3 Mu.nd (jJ (jX K) (1:) (jz (2+_:)) lF)),(aC 4 Mu.nd ((cJ K B.cC #[3])-_:)),(bI (PW.pt (FT (4>=_:) (Fg ((aL K (3:) (4:))=="":)))) (aJ (aF (aq P hr #[(jJ (jX K) (1:) lF (jz (2:))),(jJ (jX K) (3:) lF (jz (4:))),(aq GN hr #[(aL K (3:) (4+_:))])]))) bJ),(aF (aq P hr #[(jJ (jX K) (1:) lF (jz (2:))),3,_]))],?_};let hl:=t.len;let hs:=t.short;let b0:=t.iR;let tl:=t.X4;show{.str (txt r),"str","str",rfl,rfl,0.1,(),bO ?_};show{rfl,txt r,(),rfl,#v[jM,0],⋯,λD Z=>?_};rw[jM,aDv];let G:=Same.new Z (.lst (Tx.wordsOf r.b r.ρ r.ς)[10]);let h1:(upd H D (.lst (Tx.wordsOf r.b r.ρ r.ς)[10])) D=(Tx.wordsOf r.b r.ρ r.ς)[10][2]:=aB;generalize upd H D (.lst (Tx.wordsOf r.b r.ρ r.ς)[10])=H1 at G h1;let hc:=aUo r.b r.ρ r.ς;let ht:=aCd r.b r.ρ r.ς;let o:=aPc r.b r.ρ r.ς;let⟨j,w,n⟩:=axb hc;let J:=aOi w;generalize Tx.wordsOf r.b r.ρ r.ς=ws at h1 hc ht o w n;show{.inl {rfl,_,aj.of h1},D,ws,(),rfl,h1,(),?_};rw[DC,hc,!bO ?_];show{.inl {rfl,_,aj.of h1},D,ws,_,j,rfl,rfl,h1,w,n,(),.inl {_,aj.of h1,λk y=>?_}};let JG:fP ws[10] (ι (j[0]+1)) ν=(r.ς.map au++mR r.b)[10]:=#v[azE,J,-Vy,o]
 let C:fP ws[10] ν (ι (j:Int))=(r.ρ.map au)[10]:=#v[vG,J,-qg,ht]
 rw[JG];let A:=Same.new y (.lst (r.ς.map au++mR r.b)[10]);let h2:(upd H1 k (.lst (r.ς.map au++mR r.b)[10])) k=(r.ς.map au++mR r.b)[10][2]:=aB;let d:=A _ _ h1;generalize upd H1 k (.lst (r.ς.map au++mR r.b)[10])=H2 at A h2 d;let I:=G.trans A;generalize p:r.ς.map au++mR r.b=bh at h2;let X:(bh[10])[_]=bh[_]:=aA _;show{.ref k,bh[_],rfl,.inl {_,aj.of h2,X.symm},"",?_};by_cases L:r.b>0
 .let f:bh=r.ς.map au++[oF,au r.b]:=#v[-p,mR,Á L]
  let m:bh[_]=r.ς[_]+2:=#v[f,fJ,aA,0]
  let T:bh[bh[_]-2]?=ι oF:=#v[m,f,á #v[aA],aA,gU,ql,0]
  let S:bh[bh[_]-1]?=ι (au r.b):=#v[m,f,á #v[aA],aA,(0.6:r.ς[_]+2-1-r.ς[_]=1),0]
  let Y:fP bh[10] ν (ι ((bh[_]:Int)-2))=(r.ς.map au)[10]:=by
   rw[(0.6:(bh[_]:Int)-2=(r.ς[_]:Nat)[0]),vG,f,<-qg,ft #v[aA,!aZ _],sG #v[aA,!aZ _]]
  show{"",(),?_};rw[É (0.6:(bh[_]:Int)-2≥0),!gk {_,.str oF,.inl (aj.of h2),uG (bh[_]-2) 0.6 #v[Î,T,0],(),?_}];rw[Rh,É rfl,!gk {(),.inl {_,aj.of d,λa l=>?_}}];rw[C];let i:=Same.new l (.lst (r.ρ.map au)[10]);let h3:(upd H2 a (.lst (r.ρ.map au)[10])) a=(r.ρ.map au)[10][2]:=aB;let e:=i _ _ h2;generalize upd H2 a (.lst (r.ρ.map au)[10])=H3 at i h3 e;show{(),.inl {_,aj.of e,λu W=>?_}};rw[Y];let g:=Same.new W (.lst (r.ς.map au)[10]);let h4:(upd H3 u (.lst (r.ς.map au)[10])) u=(r.ς.map au)[10][2]:=aB;let s:=g _ _ h3;let N:=g _ _ e;generalize upd H3 u (.lst (r.ς.map au)[10])=R at g h4 s N;let Ek:=I.trans (i.trans g);let hp:=t.byp.resolve_left ⋯;let b1:=t.pC;show{_,.str (au r.b),.inl (aj.of N),uG (bh[_]-1) 0.6 #v[Î,S,0],_,r.b.toNat,rfl,MG t.RQ,#v[TY t.RQ],hp,0.6,λH5 z=>?_};show{a,u,r,#v[Et b0,0],z _ _ s,z _ _ h4,t,λv H6 U x=>q v H6 (Ek.trans (z.trans U)) x}
 .let e0:r.b=0:=⋯;let f:bh=r.ς.map au:=#v[-p,mR,Â L,sU]
  let fin:∀H3 a,Same H2 H3->H3 a=(r.ρ.map au)[10][2]->EF [.ref a,.ref k,.int 0] H3 Q E0:=λH3 a i h3=>
   {a,k,r,#v[e0],h3,#v[-f,!i _ _ h2],t,λv R g x=>q v R (I.trans (i.trans g)) x}
  show{"",(),cT (λc=>?_) (λc=>?_)}
  .let O:2<=bh[_]:=let:=dec_true c;⋯
   let hx:(bh[10])[bh[_]-2]?=bh[bh[_]-2][6]:=#v[Î,Ä 0.9,0]
   show{¬h2,uG (bh[_]-2) ⋯ hx,(),?_};rw[Rh,!cT (λc2=>?_) (λc2=>?_)]
   .let:bh[bh[_]-2]=oF:=dec_true c2;show È #v[-this,-f,!rD _] (aNu (ρ:=r.ς))
   .refine{(),.inl {_,aj.of d,λa l=>?_}};rw[C,!(fin _ a (Same.new l _) aB)]
  .refine{(),.inl {_,aj.of d,λa l=>?_}};rw[C,!(fin _ a (Same.new l _) aB)]
theorem aVD(F:Fn K mg "numbers_shown" YS ["numbers"])(O:yD M):Qy M:=by
 delta aKq
 ext l ns rfl b hz a q h;show{_,(aJ (aF (mZ K oJ B4 Cu Ci gj (c7 (sc:=aO6) (N:=["number"]) (ix:=[ν]) cF rfl (dF K (0:)) (((aX 0 cG),cP,(aq O hr #[0])) :))))),?_};show{rfl,kH b hz rfl ?_ ?_}
 .intro H' x g hx k hk;show{x,rfl,a x hx,hk}
 .intro D H' c g h';show{_,D,(),rfl,h',#v[jM,!Ll a hz],?_};rw[jM,!q H' g]
theorem aTw(F:Fn K mg "form_line" X7 ["roots","n"])(C:UR M):Cs M:=by
 delta rf
 ext v n xs l rfl z y u J ok q h;show{_,#[(),(aC 2 rf.nd (fX jF)),(gq Ë rfl (dF K (0:)) (Tr (i:=3) rf.nd rfl (dR rfl)) (aJ (eU (LN K (2:) (c7 (sc:=aW7) (N:=["j","n","pair"]) (ix:=[ν,ι 1,ι 3]) cF rfl (dU rfl B.dw #[-3]) (((aX 0 cG),cP,((aq C hr #[-2,1])*(aq C hr #[1,0]):)) :)))))),(aF (2:))],?_};let L:=y.len;let few:=ok.few;show{dz _,λD s=>?_};let⟨P,f,A,h0⟩:=nw s (.lst []);rw[f,!{v,rfl,.inl {{_,aj.of (A _ _ z)},?_}}];show kn (xs:=xs) (λi a H'=>∃o3,a=[v[4],n[5],D[4],o3]/\Same H H'/\H' D=(El.gR (l.take i) n.toNat)[11][2]) {(),A,h0} (λi a H' ⟨_,_,g,_⟩=>aj.of (g _ _ z)) ?_ ?_
 .rintro i x a H1 hx ⟨o3,rfl,e,h1⟩;obtain⟨t,⟨r,m⟩,rfl,el,ht⟩:=(y.same e).get hx;let w:=Ð el;let b:Bd 10 r:=ok.bd _ w;let G:m<=El.cu l:=sr w;show{.inl {rfl,_,aj.of h1},!ht,rfl,m[0],rfl,0.6,⋯,?_};rw[dg,!C7 (n:=m) ⋯ rfl (λj=>r^n.toNat*n^j) ?_ ?_]
  .intro H2 k d hk kk o;let c:Bd 10 n:=Bd.of ⋯ ⋯;show{!(d _ _ ht),rfl,r,n,rfl,u,⋯,b,n,0+k[0],rfl,0.6,⋯,c,?_};rw[(0.6:(0+k[0]).toNat=k),!{jA (Br b _) (Br c k) ⋯,o}]
  intro I p;let⟨H2,f,d,h2⟩:=nw p (.lst (aD m λj=>r^n.toNat*n^j)[11]);rw[f,!{D,I,"",d _ _ h1,h2,?_,(),(e.trans d).upd s _,?_}]
  .rw[aA,aA,bZ,El.jI];let:=HH l i;show gQ (eX ⋯)
  .rw[aB,take_one el,aWm,eG];congr 3;show Ï (fR V.int) ?_;show _=(aD m λj=>r^n.toNat*(n.toNat:Nat)[0]^j)++[];rw[sU,Et u]
 .rintro a H1 ⟨o3,rfl,e,h1⟩;rw[sG 0.6]at h1;show(q D H1 e s h1)
theorem aAV(F:Fn K mg "parts_of" og ["roots","tops"]):i' M:=by
 delta E8
 ext w lt xs l us rfl A y N W Z q h;show{_,#[(),(aC 2 E8.nd (fX jF)),(aC 3 E8.nd aR),(gq Ë rfl (dF K (0:)) (aX 4 E8.nd) #[(),(aC 5 E8.nd (3+(-4):)),(eU (n8 K (2:) (iu #[-4,(jJ (jX K) (1:) (jz (3:)) (jz (5:)))]))),(aC 3 E8.nd (5:))]),(aF (2:))],?_};let T:=y.len;let X:(us[11])[_]=us[_]:=aA _;show{dz _,λD B=>?_};let⟨U,d,G,h0⟩:=nw B (.lst []);rw[d,!{w,rfl,.inl {{_,aj.of (G _ _ A)},?_}}];show kn (xs:=xs) (λi c H'=>BQ λs p ys=>Fe (c=[w[4],lt[4],D[4],(El.cu (l.take i):Nat)[5],s,p]) (Same H H') (H' D=ys[2]) ((∃ts:List (Æ×Æ×Int×ζ),ys=ts.map (λq=>V.ref q.1)/\qb (l.take i) us=ts.map (·.2.2)/\∀q∈ts,H' q.1=[.int q.2.2.1,.ref q.2.1][3]/\H' q.2.1=q.2.2.2[11][2]/\q.2.1≠D)) (ys[_]=i)) {_,_,[],rfl,G,h0,{[],rfl,rfl,(nofun)},rfl} (λi c H' ⟨_,_,_,_,g,_,_,_⟩=>aj.of (g _ _ A)) ?_ ?_
 .rintro i x c H1 hx ⟨s,p,ys,rfl,k,h1,hy,L⟩;obtain⟨t,⟨r,m⟩,rfl,el,f⟩:=(y.same k).get hx;let hi:i<l[_]:=(Ú.mp el).1;let S:El.cu (l.take (i+1))=El.cu (l.take i)+m:=#v[take_one el,ib,0]
  let O:=HH l (i+1);show{!f,rfl,.inl {rfl,_,aj.of h1},!f,rfl,(),(),.inl {_,aj.of (k _ _ N),λa ha=>?_}};let R:fP us[11] (ι (El.cu (l.take i):Nat)[0]) (ι ((El.cu (l.take i):Nat)[0]+m[0]))=((us.drop (El.cu (l.take i))).take m)[11]:=by
   rw[(0.6:((El.cu (l.take i):Nat):Int)+m[0]=(El.cu (l.take i)+m:Nat)[0]),EH _ ⋯ 0.6,(0.6:El.cu (l.take i)+m-El.cu (l.take i)=m),qg,Vy]
  rw[R];let⟨H2,d,P,h2⟩:=nw ha (.lst ((us.drop (El.cu (l.take i))).take m)[11]);rw[d];let v:a≠D:=λz=>by rw[z,h1]at ha;cases ha
  show{(cU 2),λt2 J=>?_};let⟨H3,d,C,h3⟩:=nw J (.tup [.int r,.ref a]);rw[d];let n:=P.trans C;let j:=n _ _ h1;show{D,"",j,eX ⋯,?_};let I:∀{b:Æ} {ts},H3 b=ι (HO.tup ts)->b≠D:=λe z=>by rw[z,j]at e;cases e
  show{t[4],((El.cu (l.take i):Nat)[0]+m[0])[5],ys++[.ref t2],?_,(k.trans n).upd B _,aB,?_,by rw[fJ,!ys[_]+1=i+1];(simp;omega)}
  .rw[S,CM];rfl
  .ext ts u o h4 hy;show{ts++[(t2,a,r,(us.drop (El.cu (l.take i))).take m)],#v[eG,-u,0],#v[take_one el,OK,eG,-o,0],λz hz=>?_};rcases iz.mp hz with hz|hz
   .obtain⟨z1,z2,z3⟩:=h4 z hz;show{#v[cO (I (n _ _ z1)),!n _ _ z1],#v[cO z3,!n _ _ z2],z3}
   .rw[iI.mp hz];show{#v[cO (I h3),!h3],#v[cO v,!C _ _ h2],v}
 .rintro c H1 ⟨s,p,ys,rfl,k,h1,⟨ts,u,o,h4⟩,L⟩;rw[sG ⋯]at o;show(q D ys H1 k h1 {ts,u,o,λz hz=>{(h4 z hz).1,(h4 z hz).2.1}})
theorem aWx(F:Fn K mg "closed" Yd ["row"])(qm:Ht M)(iq:L5 M)(FZ:ZQ M)(ik:Cs M)(Zg:CU M)(uv:i' M):h_ M:=by
 delta G3
 ext v r rfl hR kz qn qf h;show{_,#[(),(eU (aq qm hr #[0])),(aC 1 G3.nd (aq iq hr #[(aq FZ hr #[0])])),(fu (i:=2) G3.nd rfl (dR rfl) (-1:)),(bI (PW.pt (jc (-1!=(iu #[_]):) (mD (ji (fW (VX K rfl) rfl B.VR boot_any #[(c7 (sc:=aVN) (N:=["pair"]) (ix:=[ν]) cF rfl (dF K (2:)) (((aX 0 cG),cP,(kJ (pQ K hr) (-0:) aR (mq _))) :))]))))) (aJ (aF Pr)) bJ),(aC 3 G3.nd (fW (Av K rfl) rfl B.Bg boot_sum #[(c7 (sc:=aQg) (N:=["pair"]) (ix:=[ν]) cF rfl (dF K (2:)) (((aX 0 cG),cP,(-0:)) :))])),(lK (i:=4) (hN:=G3.nd) (hi':=rfl) (hx:=(ju rfl)) (sc:=aAZ) (N:=["n","roots"]) (ix:=[ν,ι 2]) cF rfl (dU rfl B.dw #[3]) (((aX 0 cG),cP,(aq ik hr #[1,0])) :)),(aC 5 G3.nd (aq Zg hr #[_,3,4,(dI (xlist K) rfl B.Ay boot_list #[(jJ (jX K) (-0:) lF (jz (3:)))])])),(aF (iu #[-5,(aq uv hr #[2,-5])]))],?_};let k1:=kz.sm;let hb:=kz.iR;show{v,r,rfl,hR,hb,?_};let cV:=k1.cV 0.6;show{v,r,rfl,hR,cV,λL hSh tL H1 g1 hL=>?_};let⟨_,_,_,so⟩:=hSh.ok cV;let eL:L=nU r:=#v[-hSh.bH cV,hb]
 let sp:=(k1.small hb).sh hb so;ext f1 f2 f3 sp.facts;let hM:Pm.Mon (nU r):=nJ 0 (sh r).ρ;let lM:(nU r)[_]=(sh r).ρ[_]+1:=jy 0 (sh r).ρ;let J:1<=(j6 (nU r)).natAbs/\(j6 (nU r)).natAbs<=3:=sp.low;subst eL;let hbig:RH (nU r)=false:=by
  ext g hg dv so.dv;rw[hb]at dv;simp only[cY]at dv;let lP:(Pm.bH 0 r.ρ)[_]=r.ρ[_]+1:=jy 0 r.ρ;let l3:=kz.l3;let hP:BD (Pm.bH 0 r.ρ):=b? kz.s3 ⋯;let t:=Kh (f:=Pm.co (nU r)) (g:=Pm.co g) (a:=(sh r).ρ[_]) (c:=g[_]-1) ((Fs.co _).mono 1.1) ((Fs.co _).mono (let:=hg.pos;⋯));let o1:=hM.one;rw[lM,gU]at o1;rw[<-dv,o1,hg.one]at t;let:=Dd (p:=Pm.bH 0 r.ρ) (k:=(sh r).ρ[_]+(g[_]-1)) #v[t,3];let gp:=hg.pos;show Zm.mpr λz=>?_;let⟨x,hx,hx2⟩:=Ip.mp z;let⟨k,hk,e⟩:=pH.mp hx;let b:=aMI hP 0.6 hM hg dv ⋯ k;rw[mC hk,e]at b;let:=of_decide_eq_true hx2;split at this<;>lia
 let l5:(nU r)[_]<=5:=0.6;show{tL,nU r,rfl,hL,l5,hM,λx hx=>?_,J.1,J.2,hbig,λl R t Z tl xs H2 g2 hS ht hlr hT htl=>?_}
 .obtain⟨k,hk,e⟩:=pH.mp hx;rw[<-e,<-mC hk,!f2 k]
 let fZ:=g1.trans g2;show{!ht,rfl,!ht,rfl,(cU 1),λt1 ht1=>?_};let⟨H3,uu,g3,k3⟩:=nw ht1 (.tup [.int 1]);rw[uu,!Ra (ns:=R) (ms:=[1]) (ao.of (g3 _ _ htl)) (ao.of k3) {(),?_}];let gK:=fZ.trans g3;by_cases c:R=[1];case neg=>
  rw[Ì c,!gk (qn _ gK)]
 rw[É c,!bO ?_];let⟨ts,e1,e2,U⟩:=hT.same g3;let mw:H3 Z=(ts.map λq=>V.ref q.1)[2]:=#v[-e1,!g3 _ _ hlr]
 let scm:=aOu hS;let lcs:=Sz _ (⋯:(j6 (nU r)).natAbs<4);let lt4:ts[_]<=1000:=by
  let h1:ts[_]=l[_]:=#v[e2,aA]
  let h2:=(hS.back (RK hM λk=>cY _)).2.2.2.1.length_le;rw[aA]at h2;lia
 show{Z,rfl,.inl {{_,aj.of mw},O2 (jB (aj.of mw)) lt4 rfl (λq=>.bl (decide (q.2.1=0))) ?_ ?_}}
 .intro H4 q g4 hq k hk;show{!(g4 _ _ (U q hq)),rfl,hk _ (Same.refl _)}
 intro D4 H4 qX g4 h4;show{D4,l.map λx=>decide (x.1=0),rfl,aj.of #v[h4,e2,dh,dh,0],_,rfl,?_};rw[JS];let Ek:=gK.trans g4;by_cases c2:l.any (λx=>decide (x.1=0))=true
 .rw[c2];show gk (qn _ Ek)
 rw[Zm.mpr c2,!bO ?_];let hne:∀x∈l,x.1≠0:=λx hx z=>c2 (Ip.mpr {x,hx,É z});let hm3:(j6 (nU r)).natAbs∈[1,2,3]:=by
  obtain z|z|z:(j6 (nU r)).natAbs=1∨(j6 (nU r)).natAbs=2∨(j6 (nU r)).natAbs=3:=⋯;all_goals rw[z,3]
 let⟨fl,ll⟩:=El.aTZ hS (n:=3) (pre:=[]) hM (by let:=so.le;let:=kz.l3;grind -ring) c hne (El.aDC _ hm3);rw[uf]at fl;let ok:zb l:={0.6,λx hx=>(scm x hx).2,λx hx=>P6 _ ⋯ _ (scm x hx).1};let few:=ok.few;let hll:=ax0 ok.pos;let Z0:=g4 _ _ mw;show{Z,rfl,.inl {{_,aj.of Z0},O2 (jB (aj.of Z0)) lt4 rfl (λq=>.int (q.2.2:Int)) ?_ ?_}}
 .intro H5 q g5 hq k hk;show{!(g5 _ _ (g4 _ _ (U q hq))),rfl,hk _ (Same.refl _)}
 show λD5 H5 hD5 g5 h5=>{D5,l.map λx=>(x.2:Nat)[0],rfl,aj.of #v[h5,e2,dh,dh,0],?_};rw[aAd];let oV:=Ek.trans g5;generalize w:El.cu l=N at *;show{N[0],rfl,1.1,⋯,?_};rw[dg];let hT5:tu H5 xs l:={ts,e1,e2,λq hq=>g5 _ _ (g4 _ _ (U q hq))};let IQ:H5 Z=xs[2]:=#v[e1,!g5 _ _ Z0]
 show N2 A9 #v[aA,oO] rfl (Vp λi=>El.gR l i) ?_ ?_
 .intro H6 x g6 hx k hk;let⟨j,Y,rfl⟩:=bN.mp hx;let hj':=fQ.mp Y;show{Z,0+j[0],xs,l,rfl,g6 _ _ IQ,hT5.same g6,⋯,⋯,ok,λD3 H7 P hn7 h7=>hk D3 H7 P hn7 h7}
 intro D6 ys H6 ML g6 h6 hy;let et:((dY N).map λi=>V.int (0+(i:Nat))).map (Vp λi=>El.gR l i)=El.tZ l:=by
  rw[dh,El.tZ,w,!jx λi _=>?_];show El.gR l (0+i[0]).toNat=_;rw[(⋯:(0+i[0]).toNat=i)]
 rw[et]at hy;let Bu:=oV.trans g6;let⟨xa,xp,xq,rfl,hxA,hxR,O⟩:=hR.same Bu;let lst:=k1.wf.len;let hle:=so.le;let lsT:(r.ς.take N)[_]=N:=#v[jg]
 let⟨d,last,hcl,l0,hs0,hrc⟩:=El.aPZ fl (r.ς.take N);rw[w]at hcl hs0 hrc;let W:lw last (Ī d N)≠0:=λz=>by
  let:=(Yr (bt:=last) (ts:=Ī d N)).1;rw[z]at this;show l0 (EZ.mp this)
 let cis:VB r (last.fdiv (lw last (Ī d N))) (qb l ((Ī d N).map λt=>t.fdiv (lw last (Ī d N)))):=λn hn=>by
  let eRP:nU r=RP l [1]:=#v[-c,!(hS.back (RK hM λk=>cY _)).1]
  let a1:=hM.one;let a2:∀n,Pm.ks (nU r) r.at n=0:=λn=>by
   let:=Kp.bH (b:=0) (BR (b:=0) so.len) n;rw[cY]at this;rw[<-this,!Pm.bG λk _=>Ï _ ?_];rw[<-so.at_,!Rm.at_ (sh r).b _ _ _=_];rw[so.by_,hb]
  let a3:(nU r)[_]=N+1:=1.1;rw[a3,gU]at a1;let a4:=λn hn j Y=>hrc n hn j Y;rw[eRP]at a1 a2 a3;let main:=El.aVv w (a:=r.at) (ts:=Ī d N) (last:=last) a1 a3 a2 (λn hn=>?_) a4 n hn
  .refine ahI W ?_;rw[<-iT,ZA W Yr.1,main,EC n l _ #v[aA,Ī,bZ,w],w,<-Pm.dW,!Pm.bG λj Y=>?_];let ej:Pm.co ((Ī d N).map λt=>t.fdiv (lw last (Ī d N))) j=(Pm.co (Ī d N) j).fdiv (lw last (Ī d N)):=uH (f:=λt=>t.fdiv (lw last (Ī d N))) (Int.zero_fdiv _) _ _;let lj:j<(Ī d N)[_]:=#v[Ī,bZ,!Y]
   rw[ej,rZ,ZA W (Yr.2 _ #v[mC lj,!rD lj])]
  .let:=hs0 n hn;rw[El.gN hn,show Pm.co r.ς n=r.at n from(qG ⋯).symm]at this;rw[<-this,!Pm.bG λj Y=>#v[Ī,dH,Á Y]]
 let lnT:∀i,i<(El.tZ l)[_]->(Dm.ln (El.tZ l) i)[_]=N:=λi hi=>by
  rw[El.W0]at hi;rw[El.Qb hi,El.jI,w]
 let bL:∀p∈El.tZ l,∀x∈p,Bd 62 x:=λp hp=>by
  let⟨n,hn,rfl⟩:=bN.mp hp;show aQU ok (let:=fQ.mp hn;⋯)
 let bW:∀x∈r.ς.take N,Bd 62 x:=λx hx=>(k1.kE x (UU hx)).mono 0.3;let lT:(El.tZ l)[_]=N:=#v[El.W0,w]
 let hok:xM (last.fdiv (lw last (Ī d N))) (qb l ((Ī d N).map λt=>t.fdiv (lw last (Ī d N)))):=by
  let⟨cB,_,_,bl⟩:=(YN lnT bL bW).cl 0.3 hcl;let sz:2^N*(62+1)-1<=1990:=by
   let:2^N*63<=2^4*63:=pN _ (mX 0.3 few);(simp;omega)
  let pk:=aVH (u:=1990) (l:=l) (us:=(Ī d N).map λt=>t.fdiv (lw last (Ī d N))) (λx hx=>{ok.bd x hx,ok.pos x hx,let:=sr hx;⋯}) #v[aA,Ī,bZ,w] λx hx=>by
   let⟨y,hy,rfl⟩:=bN.mp hx;let⟨i,_,rfl⟩:=jN hy;show jD (El.ZL _ _) ((cB.bd i N).mono sz)
  show{jD (El.ZL _ _) (bl.mono sz),#v[pk.1],pk.2}
 let qf:=qf _ _ hok cis;let X:((Ī d N).map λt=>t.fdiv (lw last (Ī d N)))[_]=El.cu l:=#v[aA,Ī,bZ,w]
 let fin:∀(H7:Hp) (o:Æ) (Q7:VK) (E7:XK),Same H6 H7->H7 o=(r.ς.take N)[11][2]->(∀t lt H8,Same H7 H8->H8 t=[.str ("one":Str),.int (last.fdiv (lw last (Ī d N))),.ref lt][3]->H8 lt=((Ī d N).map λt=>t.fdiv (lw last (Ī d N)))[11][2]->Q7 (.ref t) H8)->i6 [.int 0,.int (N:Int),.ref D6,.ref o] H7 Q7 E7:=λH7 o Q7 E7 P h8 hq=>{N,D6,o,ys,El.tZ l,r.ς.take N,[D6],d,last,rfl,P _ _ h6,hy.same P,h8,lsT,lT,few,lnT,bL,bW,hcl,hq};generalize last.fdiv (lw last (Ī d N))=bot at qf fin;generalize ((Ī d N).map λt=>t.fdiv (lw last (Ī d N)))=us at qf fin X;let S:∀(H7 H9:Hp) (o ta lt:Æ),Same H6 H7->Same H7 H9->H9 ta=[.str ("one":Str),.int bot,.ref lt][3]->H9 lt=us[11][2]->∀C I kj,Same H9 kj->kj C=I[2]->EG kj I (qb l us)->∀A,kj A=ν->Q (.ref A) (upd kj A (.tup [.int bot,.ref C])):=λH7 H9 o ta lt P D T m C I kj gw s hp A yN=>by
  let gz:=Same.new yN (.tup [.int bot,.ref C]);show qf A C I _ (Bu.trans (P.trans (D.trans (gw.trans gz)))) aB (gz _ _ s) (hp.same gz)
 let BC:=g6 _ _ IQ;let hT6:=hT5.same g6;show{!hxA,rfl,(),?_};by_cases hw:r.ς[_]<=N
 .refine .inr (.inr {_,ao.of O,?_,?_})
  .rw[HT.qR,HT.wR,aA];simp[*]
  show{xq,(),.inr (ao.of O),λo uo=>?_};let G:=Same.new uo (.lst r.ς[11]);show fin _ o _ _ G #v[aB,sG hw] λta lt H9 D T m=>?_;show{!T,rfl,!T,rfl,Z,lt,xs,l,us,rfl,D _ _ (G _ _ BC),(hT6.same G).same D,m,X,⋯,λC I kj gw s hp=>?_};show{(cU 2),λA yN=>S _ H9 o ta lt G D T m C I kj gw s hp A yN}
 .refine .inr (.inl {_,ao.of O,?_,λp3 hp3=>?_})
  .rw[HT.qR,HT.wR,aA];grind -ring
  rw[vG,<-qg];let P:=Same.new hp3 (.tup (r.ς.take N)[11]);show{p3,(),.inr (ao.of aB),λo uo=>?_};let G:=P.trans (Same.new uo (.lst (r.ς.take N)[11]));show fin _ o _ _ G aB λta lt H9 D T m=>?_;show{!T,rfl,!T,rfl,Z,lt,xs,l,us,rfl,D _ _ (G _ _ BC),(hT6.same G).same D,m,X,⋯,λC I kj gw s hp=>?_};show{(cU 2),λA yN=>S _ H9 o ta lt G D T m C I kj gw s hp A yN}
theorem axp(F:Fn K mg "words_of" mn ["text"]):t_ M:=by
 delta AI
 obtain⟨t,ws,rfl,⟨C,l⟩,q⟩:=h;show{_,#[(),(bI (jY (ji (fW Eo rfl B.ED boot_isinstance #[0,(E3 rfl B.nq boot_str)]))) (aJ gZ) bJ),(aC 1 AI.nd (mZ K oJ GX Ej Gu (0:) gj)),(bI (PW.pt (FT (-1=="":) (Fg ((cJ K B.cC #[1])>_:)))) (aJ (aF ((jJ (jX K) (1:) lF (jz aR))+(fX #[(mZ K oJ B4 Cu Ci gj (jJ (jX K) (1:) (jz aR) lF))]):))) bJ),(aF (1:))],.str t,"str","str",rfl,rfl,0.1,(),bO ?_};show{rfl,t,(),rfl,#v[jM,0],0.9,λD v=>?_};rw[jM];generalize G:wj t (Tx.one 32)=os at l;let j:=Same.new v (.lst os[10]);let h1:(upd H D (.lst os[10])) D=os[10][2]:=aB;generalize upd H D (.lst os[10])=H1 at j h1;rcases l with⟨rfl,w,r,rfl,hw⟩|⟨n,r,d,rfl,rfl⟩
 .show{¬h1,at0,(),?_};rw[Ì hw,!bO (q D H1 j h1)]
 .show{¬h1,at0,(),?_};rw[É rfl];let u:(Tx.wordsOf r.b r.ρ r.ς)[_]≠0:=λz=>ae (List.length_eq_zero_iff.mp z);show gk {.ref D,(sZ::n::Tx.wordsOf r.b r.ρ r.ς)[_],rfl,.inl {_,aj.of h1,(aA _).symm},"",(),?_};rw[É (by show(((Tx.wordsOf r.b r.ρ r.ς)[_]+1+1:Nat):Int)>2;lia),!gk ?_];show{(),.inl {_,aj.of h1,λk f=>?_}};let y:fP (sZ::n::Tx.wordsOf r.b r.ρ r.ς)[10] ν (ι 2)=[sZ,n][10]:=vG _ 2;rw[y];let i:=Same.new f (.lst [sZ,n][10]);let h2:(upd H1 k (.lst [sZ,n][10])) k=[sZ,n][10][2]:=aB;let c:=i _ _ h1;generalize upd H1 k (.lst [sZ,n][10])=H2 at i h2 c;show{rfl,(),.inl {_,aj.of c,λo p=>?_}};let x:fP (sZ::n::Tx.wordsOf r.b r.ρ r.ς)[10] (ι 2) ν=(Tx.wordsOf r.b r.ρ r.ς)[10]:=Qo _ 2;rw[x];show{_,o,Tx.wordsOf r.b r.ρ r.ς,rfl,rfl,aB,d.join,?_};let g:=Same.new p (.lst (Tx.wordsOf r.b r.ρ r.ς)[10]);let a:=g _ _ h2;generalize upd H2 o (.lst (Tx.wordsOf r.b r.ρ r.ς)[10])=H3 at g a;show{(cU 1),λI s=>?_};let m:=Same.new s (.lst [.str (txt r)]);show .inl {_,[.str (txt r)],m _ _ a,aB,(cU 3),λA e=>?_};show q A _ (j.trans (i.trans (g.trans (m.trans (Same.new e _))))) aB
theorem aS2(F:Fn K mg "kinds_of" WZ ["words"]):By M:=by
 delta Ux
 obtain⟨l,w,ws,a,rfl,g,⟨n,hn⟩,q⟩:=h;show{_,#[(),(bI (xg (aJC D.Sa K rfl (-0:))) (aJ gZ) bJ),(aC 1 Ux.nd (aFQ D.Sa K rfl (-0:) (λ_ _=>rfl))),(aC 2 Ux.nd ((cJ K B.cC #[0])-_:)),(vM (bI (PW.pt (FT (-0=="":) (Fg (aH0 Rp Rp (cJ K B.cC #[1]) (2:) ((cJ K B.cC #[1])+(rB rfl B.ai):))))) (aJ (aC 1 Ux.nd (1+(oX (aAj K) (iu #[""]) (2-(cJ K B.cC #[1]):)):))) bJ)),(bI (2!=(cJ K B.cC #[1]):) (aJ gZ) bJ),(aF (1:))],?_};let⟨t,r,ht⟩:=D.aHx.at_ _ n;let⟨o,j⟩:=aTo _ n;replace o:a[_]<=4:=o;replace j:a≠[]:=j;let lw:((w::ws)[10])[_]=ws[_]+1:=aA _;let f:(a[10])[_]=a[_]:=aA _;show{¬g,at0,_,(),r,(),bO ?_};show{¬g,at0,_,(),r,.ref l,ws[_]+1,rfl,.inl {_,aj.of g,lw.symm},"",?_};let C:((ws[_]+1:Nat):Int)-1=(ws[_]:Int):=0.6;rw[C,!ur.by (λb H'=>∃t',b=[l[4],t'[4],ws[_][5]]/\Same H H'/\ao K H' t' (a++dN (ws[_]-a[_]) Fq)[10]) (λNN k=>?_) ?_]
 .let same:ws[_]<=a[_]->NN [l[4],t[4],ws[_][5]] H:=λz=>k _ _ {t,rfl,Same.refl _,by
   rw[(0.6:ws[_]-a[_]=0),Yf,sU,!ht H]}
  show{¬g,at0,(),cT (λc=>?_) (λc=>?_)}
  .show{.ref t,a[_],rfl,.inr {_,ht H,f.symm},"",(),?_};show cT (λc1=>?_) (λc1=>?_)
   .let G:=dec_true c1;let v:ws[_]<a[_]+12:=by rcases hn with z|⟨_,_,z⟩<;>simp[*]
    show{.ref t,a[_],rfl,.inr {_,ht H,f.symm},"",(),?_};rw[É (⋯:(ws[_]:Int)<(a[_]:Int)+12),!gk {(cU 1),λp hp=>?_}];let x:=Same.new hp (.tup [.str "NUMBER"]);show{.ref t,a[_],rfl,.inr {_,ht _,f.symm},"",aEP (ao.of aB) ⋯ ⋯ (⋯:1*_<=_) λs H1 y e=>?_};let er:(dN ((ws[_]:Int)-(a[_]:Int)).toNat [V.str "NUMBER"]).flatten=(dN (ws[_]-a[_]) Fq)[10]:=by
     rw[(0.6:((ws[_]:Int)-(a[_]:Int)).toNat=ws[_]-a[_]),List.flatten_replicate_singleton,List.map_replicate]
    rw[er]at e;let m:((dN (ws[_]-a[_]) Fq)[10])[_]=ws[_]-a[_]:=#v[aA,Gk]
    show .inr {_,_,ht H1,e,#v[f,m,!cD (0.7:a[_]+(ws[_]-a[_])<=1000) 0.3],λz=>È (Us.mp z) j,λ_ z=>?_,λ_ _ p2 i=>?_}
    .let:(0:Nat)=ws[_]-a[_]:=#v[-m,z,0]
     grind -ring
    .exact k _ _ {p2,rfl,x.trans (y.trans (Same.new i _)),#v[eG,!ao.of aB]}
   .refine{(),bO (same ?_)};let:=dec_false c1;simp_all
  .refine bO (same ?_);rcases hn with z|⟨z,_⟩
   .simp_all
   .exact È z (dec_false c)
 .rintro b H' ⟨t',rfl,A,d⟩;let u:((a++dN (ws[_]-a[_]) Fq)[10])[_]=ws[_]:=by
   rw[aA,fJ,Gk];rcases hn with z|⟨_,z,_⟩<;>lia
  show{.ref t',ws[_],rfl,.inr {_,d,u.symm},(),?_};rw[É rfl,!bO (q t' H' A d)]
theorem axy(F:Fn K mg "read_name" dm ["word"]):yb M:=by
 delta aQF
 obtain⟨s,rfl,⟨lo,hi,hd⟩,q⟩:=h;show{_,#[(),(bI (PW.pt (jc ((cJ K B.cC #[0])<_:) (jc ((cJ K B.cC #[0])>(rB rfl B.mI):) (mD (jY (ji (fW (js K rfl) rfl B.xD boot_all #[(c7 (sc:=aEc) (N:=["sign"]) (ix:=[ν]) cF rfl (L0 (0:)) (((aX 0 cG),cP,(kJ Th (0:) (M1 rfl B.eJ) (by with_unfolding_all rfl))) :))]))))))) (aJ gZ) bJ),(aF (0:))],?_};let b:(100000:Nat)<=Ê:=0.3;show{.str s,s[_],rfl,{⋯,rfl},"",(),?_};rw[Ì (⋯:¬(s[_]:Int)<1),!bO {.str s,s[_],rfl,{⋯,rfl},"",(),?_}];rw[Ì (⋯:¬(s[_]:Int)>8)];let i:s[8][_]=s[_]:=by simp[Vb]
 show bO {s,rfl,?_};show oZ N1 #v[aA] rfl (λ_=>true) (λ_=>.bl true) ?_ ?_ ?_
 .intro H2 x f hx k hk;show hk
 .intro H2 x f hx _ k hk;let⟨ch,a,rfl⟩:=bN.mp hx;show{"",?_};rw[L1,aAC,É (hd ch a),!hk]
 show λg d=>{g,s[8].map λ_=>true,rfl,aj.of #v[aB,uw.mpr 0.1,dh,dh,0],?_};let e:=Same.new d (.lst (((s[8].map λc=>V.str {{([c])}}).filter λ_=>true).map λ_=>V.bl true));rw[show(s[8].map λ_=>true).all id=true by simp,!{(),bO (q _ e)}]
theorem ayb(F:Fn K mg "row_named" Z6 ["kept","word"])(g:yb M):MW M:=by
 delta e_
 ext d s M' N r rfl c hk e q h;show{_,#[(),(aC 2 e_.nd (aq g hr #[1])),(bI (xg (g? hr.hu (2:) (0:))) (aJ gZ) bJ),(aF (OE hr.hu (0:) (2:) (λ_ _=>rfl)))],?_};show{s,rfl,c,λH1 b=>?_};let⟨v,a,f⟩:=(hk.same b).get e;show{d,(),a,(),bO ?_};show{d,v,rfl,a,q v H1 b f}
theorem aQQ(F:Fn K mg "read_word" r8 ["kept","kind","word"])(g:yb M)(U:MW M)(O:Qj M)(f:x6 M)(e:n? M):AD M:=by
 delta aJA
 ext d x M' N rfl ok hk q h;show{_,#[(),(bI (1=="":) (aJ (aF (aq g hr #[2]))) bJ),(bI (1=="":) (aJ (aF (aq U hr #[0,2]))) bJ),(bI (1=="":) (aJ (aF (aq O hr #[2]))) bJ),(bI (1=="":) (aJ (aF (aq f hr #[2]))) bJ),(aF (aq e hr #[2]))],(),?_};cases x with
 |nw s=>
  rw[show decide (Wa.kind (.nw s) = "NEW")=true from É rfl,!gk {s,rfl,ok,λH1 c=>q _ H1 c rfl}]
 |a s r=>
  rw[show decide (Wa.kind (.a s r) = "NEW")=false from Ì sAN,!bO {(),?_}];rw[show decide (Wa.kind (.a s r) = "A")=true from É rfl,!gk {d,s,M',N,r,rfl,ok.1,hk,ok.2,q}]
 |num i=>
  rw[show decide (Wa.kind (.num i) = "NEW")=false from Ì sUN,!bO {(),?_}];rw[show decide (Wa.kind (.num i) = "A")=false from Ì sUA,!bO {(),?_}];rw[show decide (Wa.kind (.num i) = "NUMBER")=true from É rfl,!gk {(),MG ok,λH1 c=>?_}];rw[show rC (Wa.num i).word=i from TY ok,!q _ H1 c rfl]
 |by_ p=>
  rw[show decide (Wa.kind (.by_ p) = "NEW")=false from Ì sBN,!bO {(),?_}];rw[show decide (Wa.kind (.by_ p) = "A")=false from Ì sBA,!bO {(),?_}];rw[show decide (Wa.kind (.by_ p) = "NUMBER")=false from Ì sBU,!bO {(),?_}];rw[show decide (Wa.kind (.by_ p) = "BY")=true from É rfl];let b:(p[0]).natAbs<10^60:=Ik (show(p:Int).natAbs<1000 by let:=ok.2;simp_all) 0.3;show gk {_,p,rfl,MG b,TY b,ok.1,ok.2,λH1 c=>q _ H1 c rfl}
 |txt r=>
  rw[show decide (Wa.kind (.txt r) = "NEW")=false from Ì sTN,!bO {(),?_}];rw[show decide (Wa.kind (.txt r) = "A")=false from Ì sTA,!bO {(),?_}];rw[show decide (Wa.kind (.txt r) = "NUMBER")=false from Ì sTU,!bO {(),?_}];rw[show decide (Wa.kind (.txt r) = "BY")=false from Ì sTB,!bO {r,rfl,ok,q}]
theorem aAp(F:xG K cN "__init__" "Desk.__init__" VZ ["self"]):OT P w K mg base cN:=by
 show F.cal aFx (λvs H Q E h=>?_) (λ_ _ _ _ _ H _ Q E hr h=>?_)
 .ext p dx rfl _ h;rfl
 .ext p dx rfl hp q h;show{_,(aJ (ax2 (0:) aRA rfl)),?_};intro d hd;let a:p≠d:=iH hp hd;show{p,cN,dx,[],rfl,#v[cO a,!hp],D.ni.cl,D.cx,(0.3:0<1000),?_};show q d _ hd {{dx,(aB)},nA.none_ #v[cO a.symm,aB]} λb o e hb=>?_;rw[cO hb,cO (iH e hd),!e]
theorem aOI(F:Fn K mg "tell_show" WW ["said"])(O:HG M):f_ M:=by
 delta aGX
 ext k a e l xs rfl hw b hp ok q h;obtain rfl:=zK (k':=.Ai) hw;show{_,(aJ (aF (aq O hr #[-0]))),?_};cases ok with
 |@Ai s r h1=>
  let⟨v,_,rfl,c,hp⟩:=d7 hp;show{_,v,.inl (aj.of b),at0,v,r,rfl,c,h1.tq 0.3,λH1 d=>q _ H1 rfl d}
theorem aHY(F:Fn K mg "tell_places" n4 ["said"])(O:Qy M)(g:Mn M):LU M:=by
 delta aOL
 ext k c j l xs rfl hw b hp ok q h;obtain rfl:=zK (k':=.places) hw;show{_,(aJ (aF (aq O hr #[(aq g hr #[-0,-0])]))),?_};cases ok with
 |@places s r x h1 h2 h3=>
  let⟨v,_,rfl,d,hp⟩:=d7 hp;let⟨i,_,rfl,rfl,hp⟩:=d7 hp;show{_,v,.inl (aj.of b),at0,¬b,Ų,v,r,x[0],rfl,d,h1,0.6,⋯,λl1 H1 f _ a=>?_};rw[dg]at a;show{l1,(),.inl a,#v[Rw.pY],λy hy=>?_,λH2 e=>q _ H2 rfl (f.trans e)};rw[Du]at hy;let⟨k,hk,rfl⟩:=jN hy;show h3 k hk
theorem aWi(F:Fn K mg "tell_at" oP ["said"])(O:yD M)(e:Ϲ M):RC M:=by
 delta aI8
 ext k b g l xs rfl hw a hp ok q h;obtain rfl:=zK (k':=.at_) hw;show{_,(aJ (aF (aq O hr #[(aq e hr #[-0,-0])]))),?_};cases ok with
 |@at_ s r x h1 hx=>
  let⟨v,_,rfl,c,hp⟩:=d7 hp;let⟨f,_,rfl,rfl,hp⟩:=d7 hp;show{_,v,.inl (aj.of a),at0,¬a,Ų,v,r,x[0],480,rfl,c,h1,0.3,(Bd.of (n:=20) ⋯ ⋯).mono 0.3,{⋯,λ_=>⋯},λH1 d=>?_};rw[dg,!{(),h1.few 0.3 (λ_=>⋯),q _ H1 rfl d}]
theorem aKr(F:Fn K mg "tell_part" fE ["said"])(g:m? M)(O:yD M):OO M:=by
 delta x_
 ext k b i l xs rfl hw a hp ok q h;obtain rfl:=zK (k':=.part) hw;show{_,#[(),(aC 1 x_.nd (aq g hr #[-0,-0])),(aF (Cd (xg (Vo (1:))) gj (aq O hr #[1])))],?_};cases ok with
 |@part s t r u h1 h2 h3=>
  let⟨v,_,rfl,d,hp⟩:=d7 hp;let⟨c,_,rfl,e,hp⟩:=d7 hp;show{_,v,.inl (aj.of a),at0,¬a,Ų,v,c,r,u,480,rfl,d,e,h1,h2,0.3,h3,λH1 f=>?_};let q:=q _ H1 rfl f;let few:=λn=>aUj (r:=r) (s:=u) (n:=n) (by let:=h1.wf.l4;let:=h2.wf.l4;lia);generalize BK r u=o at q few;cases o with
  |none=>show{(),gk q}
  |some n=>show{(),bO {(),few n rfl,q}}
theorem aHb(F:Fn K mg "tell_round" gV ["said"])(O:Qy M)(U:A1 M):j? M:=by
 delta aAk
 ext k b g l xs rfl hw c hp ok q h;obtain rfl:=zK (k':=.round) hw;show{_,(aJ (aF (aq O hr #[(aq U hr #[-0])]))),?_};cases ok with
 |@round s r h1 h2 h3=>
  let⟨v,_,rfl,d,hp⟩:=d7 hp;show{_,v,.inl (aj.of c),at0,v,r,480,rfl,d,h1,0.3,h2,h3,λbg ln p H1 f a rd=>?_};show{p,[_,_],rfl,.inr a,(0.3:2<=1000),aGV rd.le,λH2 e=>q _ H2 {bg,ln,rd,(rfl)} (f.trans e)}
theorem aJ5(F:Fn K mg "tell_where" Ze ["said"])(Zo:AG M)(cR:kY M)(O:yD M):N9 M:=by
 delta kL
 ext k S P0 l xs rfl hw j hp ok q h;obtain rfl:=zK (k':=.where_) hw;show{_,#[(),(aC 1 kL.nd (aq Zo hr #[-0,(aq cR hr #[(aL K (-0:) aR),-0])])),(lK (i:=2) (hN:=kL.nd) (hi':=rfl) (hx:=(ju rfl)) (sc:=aD2) (N:=["n"]) (ix:=[ν]) cF rfl (dF K (-1:)) (((aX 0 cG),cP,(aq O hr #[0])) :)),(eU (n8 K (2:) gj)),(eU (LN K (2:) (c7 (sc:=aAq) (N:=["n"]) (ix:=[ν]) cF rfl (dF K (-1:)) (((aX 0 cG),cP,(aq O hr #[0])) :)))),(eU (n8 K (2:) gj)),(eU (n8 K (2:) (aq O hr #[-1]))),(aF (mZ K oJ B4 Cu Ci gj (2:)))],?_};cases ok with
 |@where_ s r x h1 b0 lQ=>
  let⟨v,_,rfl,C,hp⟩:=d7 hp;let⟨v2,_,rfl,rfl,hp⟩:=d7 hp;let⟨a,p1,p2,rfl,U,_⟩:=id C;show{¬j,at0,¬j,at0,!U,rfl,¬j,Ų,_,(),h1.wf.hB.lo,.ref a,r,_,480,rfl,C,h1,0.3,b0,lQ,λbg n p le ls H1 L e B A rd=>?_};let hz:=rd.le;let q:=λH2=>q _ H2 {bg,n,rd,(rfl)};unfold FP at q;let f1:=Ee (p:=jO r.at (Rm.tk r.b x)) (lo:=0) (n:=bg) ⋯;let f2:=Ee (p:=jO r.at (Rm.tk r.b x)) (lo:=bg) (n:=n) 0.9;let l1:=Bm (jO r.at (Rm.tk r.b x)) 0 bg;let l2:=Bm (jO r.at (Rm.tk r.b x)) bg n;let P:eO (n:Int):=EA ⋯;generalize cW (jO r.at (Rm.tk r.b x)) 0 bg=es at q f1 l1 B;generalize cW (jO r.at (Rm.tk r.b x)) bg n=ss at q f2 l2 A;let Z:=aIi f1 f2 P ⋯;show{!e,rfl,kH (.inl B) ⋯ rfl ?_ ?_}
  .intro H' y g hy k hk;show{y,rfl,f1 y hy,hk}
  intro c H2 d J h2;let Y:=L.trans J;let f:H c=ν:=L.free d;show{.inl {rfl,_,aj.of h2},c,"",h2,#v[aA,aA,!eX ⋯],?_};let I:=Y.upd f (.lst ((es.map au)[10]++[.str (eZ "|")]));let s3:=J.upd d (.lst ((es.map au)[10]++[.str (eZ "|")]));let h3:(upd H2 c (.lst ((es.map au)[10]++[.str (eZ "|")]))) c=(es.map au++[Tx.bar])[10][2]:=#v[aB,eG,DC,0]
  generalize upd H2 c (.lst ((es.map au)[10]++[.str (eZ "|")]))=H3 at I h3 s3;show{.inl {rfl,_,aj.of h3},!(s3 _ _ e),rfl,kH (.inl (s3 _ _ A)) ⋯ rfl ?_ ?_}
  .intro H' y g hy k hk;show{y,rfl,f2 y hy,hk}
  intro D4 R qX u h4;let t:=u _ _ h3;let T:((es.map au++[Tx.bar])[10])[_]+(ss.map au)[10][_]<=1001:=0.4
  show{c,D4,"",t,h4,cD T 0.3,?_};let G:=(I.trans u).upd f (.lst ((es.map au++[Tx.bar])[10]++(ss.map au)[10]));let w:=(s3.trans u).upd d (.lst ((es.map au++[Tx.bar])[10]++(ss.map au)[10]));let o:(upd R c (.lst ((es.map au++[Tx.bar])[10]++(ss.map au)[10]))) c=(es.map au++Tx.bar::ss.map au)[10][2]:=#v[aB,-eG,yX,0]
  generalize upd R c (.lst ((es.map au++[Tx.bar])[10]++(ss.map au)[10]))=H5 at G o w;let X:((es.map au++Tx.bar::ss.map au)[10])[_]<=1001:=0.4
  show{.inl {rfl,_,aj.of o},c,"",o,jD X 0.3,?_};let D:=G.upd f (.lst ((es.map au++Tx.bar::ss.map au)[10]++[.str (eZ "|")]));let s6:=w.upd d (.lst ((es.map au++Tx.bar::ss.map au)[10]++[.str (eZ "|")]));let m:(upd H5 c (.lst ((es.map au++Tx.bar::ss.map au)[10]++[.str (eZ "|")]))) c=(es.map au++Tx.bar::(ss.map au++[Tx.bar]))[10][2]:=#v[aB,DC,2]
  generalize upd H5 c (.lst ((es.map au++Tx.bar::ss.map au)[10]++[.str (eZ "|")]))=H6 at D m s6;let W:((es.map au++Tx.bar::(ss.map au++[Tx.bar]))[10])[_]<=1002:=0.4
  show{.inl {rfl,_,aj.of m},!(s6 _ _ e),rfl,(),P,c,"",m,jD W 0.3,rfl,_,c,(),rfl,#v[aB,!Ï (λz=>ι (HO.lst z)) (show _=(es.map au++Tx.bar::(ss.map au++[Tx.bar,au (n:Int)]))[10] by simp)],#v[jM,!Z],?_};rw[jM,!q _ (D.upd f _)]
theorem aNL(F:Fn K mg "tell_closed" ZY ["said"])(G:h_ M)(O:yD M)(U:Qy M):MO M:=by
 delta my
 ext k p P l xs rfl hw x hp ok q h;obtain rfl:=zK (k':=.closed) hw;show{_,#[(),(aC 1 my.nd (aq G hr #[-0])),(bI (xg (Vo (1:))) (aJ (aF gj)) bJ),(aC 2 my.nd (fX #[(aq O hr #[-1])])),(eU (LN K (2:) (c7 (sc:=aOY) (N:=["part"]) (ix:=[ν]) cF rfl (dF K (-1:)) (((aX 0 cG),cP,((aq O hr #[-0])+""+(aq U hr #[-0]):)) :)))),(aF (mZ K oJ B4 Cu Ci gj (2:)))],?_};cases ok with
 |@closed s r h1=>
  let⟨v,_,rfl,y,hp⟩:=d7 hp;show{_,v,.inl (aj.of x),at0,v,r,rfl,y,h1,λH1 d=>{(),gk (q _ H1 (.inl rfl) d)},λbot ps ok cf t m ys H1 d ht g hy=>?_};let q:=λH2=>q _ H2 (.inr {bot,ps,ok,cf,(rfl)});ext f1 f2 ok.few;let h4:=ok.2.1;let w:=aTX ok;show{(),bO ?_};show{!ht,rfl,(),f1,(cU 1),λD n=>?_};let⟨H2,u,c,h2⟩:=nw n (.lst [.str (au bot)]);rw[u];let⟨ts,C,j,e⟩:=hy.same c;let o:H2 m=(ts.map λq=>V.ref q.1)[2]:=#v[-C,!c _ _ g]
  let lt:ts[_]=ps[_]:=#v[j,aA]
  show{.inl {rfl,_,aj.of h2},!(c _ _ ht),rfl,m,rfl,.inl {{_,aj.of o},O2 (jB (aj.of o)) ⋯ rfl (λq=>.str (jm q.2.2)) ?_ ?_}}
  .intro H3 z b hz k hk;let⟨z1,z2⟩:=e z hz;let z1:=b _ _ z1;let a:=f2 z.2.2 #v[j,!List.mem_map_of_mem (f:=λq:Æ×Æ×Int×ζ=>q.2.2) hz];let l1:=a.1.len;let l2:=r_ a.2.2 a.2.1;show{!z1,rfl,(),a.1,#v[FQ.1,!cD (⋯:_<=10000) 0.3],_,_,.inr (ao.of z1),rfl,z.2.1,z.2.2.2,rfl,.inl (b _ _ z2),let:=a.2.1;⋯,a.2.2,λI A=>?_};show{#v[m9,FQ.1,!cD (⋯:_<=30000) 0.3],hk I A}
  .intro J H3 L b h3;let i:=b _ _ h2;show{D,J,"",i,h3,#v[aA,!cD (⋯:1+ts[_]<=10) 0.3],?_};let B:H D=ν:=d.free n;show{rfl,_,D,au bot::ps.map jm,rfl,rfl,?_,w,q _ ((d.trans (c.trans b)).upd B _)};rw[aB,j,jK,dh,dh,0]
theorem aLO(F:Fn K mg "tell_divisor" W7 ["said"])(U:yD M)(O:m_ M):DZ M:=by
 delta aL4
 ext k a d l xs rfl hw b hp ok q h;obtain rfl:=zK (k':=.divisor) hw;show{_,(aJ (aF (aq U hr #[(aq O hr #[-0])]))),?_};cases ok with
 |@divisor s r h1 z=>
  let⟨v,_,rfl,c,hp⟩:=d7 hp;show{_,v,.inl (aj.of b),at0,v,r,rfl,c,z,(),aNc h1 0.3,q _ H rfl (Same.refl _)}
theorem aT8(F:Fn K mg "tell_divides" Yj ["said"])(U:Ht M)(O:v_ M)(Y:yD M):AA M:=by
 delta YO
 ext k g u l xs rfl hw a hp ok q h;obtain rfl:=zK (k':=.divides) hw;show{_,#[(),(eU (aq U hr #[-0])),(bI (-0<_:) (aJ gZ) bJ),(aC 1 YO.nd (aq O hr #[-0,-0,-0,-0])),(aF (Cd (xg (Vo (1:))) gj (""+(aq Y hr #[1]):)))],?_};cases ok with
 |@divides s r x y z h1 e x0 x1 w=>
  let⟨v,_,rfl,f,hp⟩:=d7 hp;let⟨t,_,rfl,rfl,c⟩:=d7 hp;let⟨p,_,rfl,rfl,b⟩:=d7 c;let⟨m,_,rfl,rfl,_⟩:=d7 b;show{_,v,.inl (aj.of a),at0,v,r,rfl,f,e,¬a,Ų,"",(),?_};rw[Ì (⋯:¬x<1),!bO {_,v,.inl (aj.of a),at0,¬a,Ų,¬a,at2,¬a,yE (j:=3) rfl,v,r,x,y,z,480,rfl,f,h1,0.3,x0,x1,e,w,λH1 i=>?_}];let q:=q _ H1 rfl i;let few:=λn=>aRU (r:=r) (d:=x) (s:=y) (e:=z) (n:=n) (let:=h1.wf.l4;⋯);generalize vQ r x y z=o at q few;cases o with
  |none=>show{(),gk q}
  |some n=>
   let:=(few n rfl).len;show{(),bO {(),few n rfl,cD (show(eZ "no ")[_]+(au (n:Int))[_]<=5000 by rw[ϰ,1]) 0.3,q}}
theorem aU0(F:Fn K mg "make_row" Yp ["said"]):XN M:=by
 delta aOd
 ext k a d l xs rfl hw b hp ok q h;obtain rfl:=mk_inj (k':=.row) hw;show{_,(aJ (aF (-0:))),?_};cases ok with
 |row=>
  let⟨v,_,rfl,c,hp⟩:=d7 hp;show{¬b,at0,q v _ H rfl (Same.refl _) c}
theorem aEL(F:Fn K mg "make_short" dt ["said"])(O:zZ M):NU M:=by
 delta aTu
 ext k a g l xs rfl hw c hp ok q h;obtain rfl:=mk_inj (k':=.short) hw;show{_,(aJ (aF (aq O hr #[-0]))),?_};cases ok with
 |@short s r h1=>
  let⟨v,_,rfl,d,hp⟩:=d7 hp;show{¬c,at0,v,r,rfl,d,h1.cV 0.3,λb H1 e f k=>q b _ H1 {k.sm h1,k.by_,k.at_} e f}
theorem ax5(F:Fn K mg "make_add" XE ["said"])(O:Kj M):Ic M:=by
 delta aXh
 ext k b j l xs rfl hw a hp ok q h;obtain rfl:=mk_inj (k':=.add) hw;show{_,(aJ (aF (aq O hr #[-0,-0]))),?_};cases ok with
 |@add s t r u h1 h2 h3=>
  let⟨v,_,rfl,e,hp⟩:=d7 hp;let⟨c,_,rfl,f,hp⟩:=d7 hp;show{¬a,at0,¬a,Ų,v,c,r,u,rfl,e,f,h1,h2,h3,λd x H1 g i m=>q d x H1 m g i}
theorem aWf(F:Fn K mg "make_multiply" sj ["said"])(O:ON M):WI M:=by
 delta aOg
 ext k b j l xs rfl hw a hp ok q h;obtain rfl:=mk_inj (k':=.multiply) hw;show{_,(aJ (aF (aq O hr #[-0,-0]))),?_};cases ok with
 |@multiply s t r u h1 h2 h3 h4 h5=>
  let⟨v,_,rfl,e,hp⟩:=d7 hp;let⟨c,_,rfl,f,hp⟩:=d7 hp;show{¬a,at0,¬a,Ų,v,c,r,u,rfl,e,f,h1,h2,h3,h4,h5,λd x H1 g i m=>q d x H1 m g i}
theorem aFM(F:Fn K mg "make_roll" YM ["said"])(j:Nc M):LL M:=by
 delta aPh
 ext k b n l xs rfl hw a hp ok q h;obtain rfl:=mk_inj (k':=.roll) hw;show{_,(aJ (aF (aq j hr #[-0,-0]))),?_};cases ok with
 |@roll s t r u h1 h2 h3=>
  let⟨v,_,rfl,e,hp⟩:=d7 hp;let⟨c,_,rfl,f,hp⟩:=d7 hp;show{¬a,at0,¬a,Ų,v,c,r,u,rfl,e,f,h1,h2,h3,λd x H1 g i m=>q d x H1 m g i}
theorem aNF(F:Fn K mg "make_scale" tF ["said"])(U:MC M)(O:kY M):MY M:=by
 delta aL0
 ext k d n l xs rfl hw b hp ok q h;obtain rfl:=mk_inj (k':=.scale) hw;show{_,(aJ (aF (aq U hr #[-0,(aq O hr #[(aL K (-0:) aR),-0])]))),?_};cases ok with
 |@scale s r x h1 h2=>
  let⟨v,_,rfl,c,hp⟩:=d7 hp;let⟨j,_,rfl,rfl,hp⟩:=d7 hp;let⟨a,p1,p2,rfl,f,_⟩:=id c;show{¬b,at0,¬b,at0,!f,rfl,¬b,Ų,_,(),h1.wf.hB.lo,.ref a,r,(),c,h1,yJ h1.wf.hB 0.3 h2,λe x H1 g i m=>q e x H1 m g i}
theorem aS7(F:Fn K mg "make_sum" a8 ["said"])(g:As M):Sj M:=by
 delta azL
 ext k a i l xs rfl hw c hp ok q h;obtain rfl:=mk_inj (k':=.sum) hw;show{_,(aJ (aF (aq g hr #[-0]))),?_};cases ok with
 |@sum s r h1=>
  let⟨v,_,rfl,d,hp⟩:=d7 hp;show{¬c,at0,v,r,rfl,d,h1,λb x H1 e f m=>q b x H1 m e f}
theorem aNk(F:Fn K mg "make_every" yy ["said"])(O:CO M):Hk M:=by
 delta aCI
 ext k c o l xs rfl hw b hp ok q h;obtain rfl:=mk_inj (k':=.every) hw;show{_,(aJ (aF (aq O hr #[-0,-0,-0]))),?_};cases ok with
 |@every s r x y h1 h2=>
  let⟨v,_,rfl,f,hp⟩:=d7 hp;let⟨n,_,rfl,rfl,a⟩:=d7 hp;let⟨j,_,rfl,rfl,e⟩:=d7 a;show{¬b,at0,¬b,Ų,¬b,at2,v,x,y,r,rfl,f,h1,h2,λd x H1 g i m=>q d x H1 m g i}
theorem aAl(F:Fn K mg "make_ahead" mf ["said"])(O:DA M)(U:kY M):Pe M:=by
 delta aSr
 ext k p A l xs rfl hw g hp ok q h;obtain rfl:=mk_inj (k':=.ahead) hw;show{_,(aJ (aF (aq O hr #[-0,(c7 (sc:=aVC) (N:=["number","said"]) (ix:=[ν,ι 0]) cF rfl (dF K (jJ (jX K) (0:) (jz aR) lF)) (((aX 0 cG),cP,(aq U hr #[(aL K (-1:) aR),0])) :))]))),?_};cases ok with
 |@ahead s r ns h1 h2 h3=>
  let⟨v,_,rfl,o,hp⟩:=d7 hp;obtain rfl:=aRt hp;show{¬g,at0,(),.inl {_,aj.of g,λe n=>?_}};rw[show fP (v::ns[11]) (ι 1) ν=ns[11] from Qo _ 1];let c:=Same.new n (.lst ns[11]);let f:(upd H e (.lst ns[11])) e=ns[11][2]:=aB;generalize upd H e (.lst ns[11])=H1 at c f;show{e,rfl,.inl {{_,aj.of f},yr (jB (aj.of f)) ⋯ rfl (Rm.tk r.b) ?_ ?_}}
  .intro H2 y d hy kk i;let⟨a,p1,p2,rfl,u,_⟩:=id o;show{¬(d _ _ (c _ _ g)),at0,!(d _ _ (c _ _ u)),rfl,_,(),h1.wf.hB.lo,i}
  .intro z j;let d:=c.trans (Same.new j (.lst (ns.map (Rm.tk r.b))[11]));show{v,r,z,ns.map (Rm.tk r.b),rfl,o.same d,h1,aB,#v[aA,!h2],(ic h1.wf.hB 0.3 h3).1,λt x H1 c w m=>q t x H1 m (d.trans c) w}
theorem aUF(F:Fn K mg "make_on" yT ["said"])(g:OM M):IE M:=by
 delta aKk
 ext k c j l xs rfl hw a hp ok q h;obtain rfl:=mk_inj (k':=.on) hw;show{_,(aJ (aF (aq g hr #[-0,-0]))),?_};cases ok with
 |@on s r x h1 h2=>
  let⟨v,_,rfl,e,hp⟩:=d7 hp;let⟨i,_,rfl,rfl,hp⟩:=d7 hp;show{¬a,at0,¬a,Ų,v,r,x[0],10,rfl,e,h1,0.3,(Bd.of (n:=20) ⋯ ⋯).mono 0.3,{0.6,λ_=>⋯},λd H1 f b=>?_};rw[dg]at b;show q d _ H1 (aSI h1 h2) f b
theorem aOG(F:Fn K mg "make_rest" iO ["said"])(g:BV M):r? M:=by
 delta aKz
 ext k b j l xs rfl hw a hp ok q h;obtain rfl:=mk_inj (k':=.rest) hw;show{_,(aJ (aF (aq g hr #[-0,-0]))),?_};cases ok with
 |@rest s r p h1 h2 h3 h4=>
  let⟨v,_,rfl,d,hp⟩:=d7 hp;let⟨i,_,rfl,rfl,hp⟩:=d7 hp;show{¬a,at0,¬a,Ų,v,r,p[0],rfl,d,h1,h2,0.8,⋯,λc x H1 e f m=>q c x H1 m e f}
theorem aT1(F:xG K cN "say" "Desk.say" rS ["self","row"])(Z1:t_ M)(sT:By M)(oS:AD M)(mB:AA M)(XQ:DZ M)(Yb:MO M)(kN:N9 M)(ue:j? M)(YV:OO M)(mx:RC M)(Wj:LU M)(gu:f_ M)(kM:r? M)(Y5:IE M)(ff:Pe M)(ZW:Hk M)(XO:Sj M)(V4:MY M)(vw:LL M)(Xb:WI M)(kg:Ic M)(xx:NU M)(j0:XN M):Aj P w K mg base cN:=by
 show F.cal S8 (λvs H Q E h=>?_) (λ_ _ _ _ _ H _ Q E hr h=>?_)
 .ext p d t C a M' N rfl _ h;rfl
 .obtain⟨p,d,t,C,a,M',N,rfl,J,W,hS,⟨k0,X,U⟩,h10,hok,qS⟩:=h;show{_,#[(),(fu (i:=2) S8.nd rfl (dR rfl) (aq Z1 hr #[1])),(fu (i:=3) S8.nd rfl (dR rfl) (aq sT hr #[2])),(lK (i:=4) (hN:=S8.nd) (hi':=rfl) (hx:=(ju rfl)) (sc:=aQL) (N:=["k","kinds","self","words"]) (ix:=[ν,ι 3,ι 0,ι 2]) cF rfl (dU rfl B.dw #[(cJ K B.cC #[3])]) (((aX 0 cG),cP,(aq oS hr #[(OI K (2:) rfl),(aL K (1:) (0:)),(aL K (3:) (0+_:))])) :)),(bI (xg (NA D.P4 K rfl (-2:))) (aJ (aF (FV D.P4 (gH.of (sp:=(wN)) D.Ta (gH.cons gu (gH.cons Wj (gH.cons mx (gH.cons YV (gH.cons ue (gH.cons kN (gH.cons Yb (gH.cons XQ (gH.cons mB gH.nil)))))))))) hr rfl (-2:) (λ_ _=>rfl) #[4]))) bJ),(bI (xg (NA D.DJ K rfl (-2:))) (aJ (HK hr.hu (OI K (0:) rfl) (-2:) (FV D.DJ (gH.of (sp:=(um)) D.LA (gH.cons j0 (gH.cons xx (gH.cons kg (gH.cons Xb (gH.cons vw (gH.cons V4 (gH.cons XO (gH.cons ZW (gH.cons ff (gH.cons Y5 (gH.cons kM gH.nil)))))))))))) hr rfl (-2:) (λ_ _=>rfl) #[(jJ (jX K) (4:) (jz aR) lF)]) rfl)) (aJ gZ)),(aF gj)],?_};show{t,(),hS,λl1 H1 g1 h1=>?_};rw[aA]at X U;show{l1,C,a.map Wa.word,k0,rfl,h1,#v[aA,!X],λt2 H2 Z h2=>?_};rw[aA,<-U]at h2;let lk:((a.map Wa.kind)[10])[_]=a[_]:=#v[aA,aA]
  let O:=g1.trans Z;let m:=Z _ _ h1;show{.ref t2,a[_],rfl,.inr {_,h2,lk.symm},(a[_]:Int),rfl,0.6,⋯,?_};rw[dg,!xB (A9 (n:=a[_])) (xs:=a) #v[aA,oO] ⋯ rfl (λx v _ H=>x.V H v) (λx y D H' H2 zs hd g h=>C?.tup (λb ts e=>g b _ (v9 e hd nofun) e) h) ?_ ?_]
  .intro D0 H3 k x u j _ hx hu kk I;rw[Î,ú (Ú.mp hx).1]at hu;obtain rfl:=(nQ hu).symm;let A:=J.same (O.trans j);ext dx l A.ob;let e1:jE (a.map Wa.kind)[10] (0+k[0])=x.kind[6]:=by
    rw[dO,!yE #v[Î,Î,hx,0]]
   let e2:jE (C::a.map Wa.word)[10] (0+k[0]+1)=x.word[6]:=by
    rw[(0.6:(0+k[0]+1)=(k+1:Nat)[0]),!yE #v[Î,Ď,Î,hx,0]]
   show{p,cN,dx,_,(),l,D.ni.cl,D.cx,Ϻ,_,_,.inr (j.Vw h2),e1,¬(j _ _ m),e2,d,x,M',N,rfl,hok x (Ð hx),A.kp,I}
  .intro l3 H3 ys hl3 j h3 hp;let L:=O.trans j;let c:=j _ _ m;let A:=J.same L;ext dx l A.ob;cases qS with
   |@tell k a P0 ok q=>
    let⟨u,hu⟩:=D.Ta.is_ _ (Of k);show{¬c,at0,_,(),hu,(),gk ?_};show{¬c,at0,(),Of k,k,a,P0,l3,ys,rfl,rfl,h3,hp,ok,λt Y pt o=>q t Y pt (L.trans o)}
   |@make k n aTL P0 ok q=>
    let⟨v0,f,rfl,_,G⟩:=d7 hp;show{¬c,at0,_,(),D.x5.at_ _ (aL8 k),(),bO ?_};let⟨u,hu⟩:=D.LA.is_ _ (XA k);show{¬c,at0,_,(),hu,(),gk ?_};show{¬c,at0,(),XA k,(),.inl {_,aj.of h3,λl4 vR=>?_}};rw[show fP (v0::f) (ι 1) ν=f from Qo _ 1];let s:=Same.new vR (.lst f);show{k,aTL,P0,l4,f,rfl,rfl,aB,Paired.Jj G λx y z=>C?.tup (λb ts e=>s _ _ e) z,ok,?_};generalize upd H3 l4 (.lst f)=H4 at s;let Ek:=L.trans s;intro v5 r Y pr o hR;let T:=Ek.trans o;let D5:=J.same T;ext R Ib D5.ob;let⟨H6,S,sd,D6⟩:=D5.put W (n:=n) hR;show{p,cN,R,_,(),Ib,D.ni.cl,D.cx,Ϻ,¬(o _ _ (s _ _ c)),Ų,d,H6,rfl,S,q r H6 pr (sd.of T) D6}
theorem aAS(F:Fn K mg "_law_cell_at" Yt ["_law_script","_law_k"]):u? M:=by
 delta aHK
 ext a ns k rfl d h0 q h;show{_,#[(),(bI (1<(cJ K B.cC #[0]):) (aJ (aF (aL K (0:) (1:)))) bJ),(aF aR)],?_};let f:(ns[11])[_]=ns[_]:=aA _;show{.ref a,ns[_],rfl,.inl {_,d,f.symm},"",(),cT (λc=>?_) (λc=>?_)}
 .let b:k<(ns[_]:Int):=dec_true c;show{ns[11],.int (ns.getD k.toNat 0),.inl d,fG h0 b,?_};let e:cellAt ns k=ns.getD k.toNat 0:=Á b;rw[e]at q;show q
 .let b:¬k<(ns[_]:Int):=dec_false c;let e:cellAt ns k=0:=Â b;rw[e]at q;show q
theorem aVe(F:Fn K mg "_law_mix" iX ["_law_cell","_law_k"]):yY M:=by
 delta azw
 ext c k rfl h0 h1 q h;show{_,(aJ (aF ((0%_+_)*(_+_*1)%_:))),?_};let b:0<=c%MM:=pW _ 0.3;let a:c%MM<MM:=qQ _ 0.3;show{"",(0.3:(0:Int)<2147483647),mulL 0.3 0.3,mulL (⋯:-(2^64)<c%2147483647+1) (⋯:c%2147483647+1<2^64),_,_,rfl,rfl,(0.3:(0:Int)<2147483647),q}
theorem aIc(F:Fn K mg "_law_number" b5 ["_law_by_here","_law_number_here"]):c_ M:=by
 delta QA
 ext b n rfl h0 h1 q h;let d:n<2147483647:=h1;show{_,#[(),(bI (0>_:) (aJ (aF (1%0:))) bJ),(aC 2 QA.nd (1%_:)),(bI (2<_:) (aJ (aF aR)) bJ),(bI (2<_:) (aJ (aF (1/_%_-_:))) bJ),(bI (2<_:) (aJ (aF (1/_%_-_:))) bJ),(aF ((oX JI (1/_:) aR)%(oX JI aR aR)*(_-_*(1/_%_)):))],"",(),cT (λc=>?_) (λc=>?_)}
 .let a:0<b:=dec_true c;show{"",a,?_};let e:qJ b n=n%b:=Á a;rw[e]at q;show q
 .let a:¬b>0:=dec_false c;show{"",(0.3:(0:Int)<8),"",(),cT (λc1=>?_) (λc1=>?_)}
  .let e:qJ b n=0:=#v[qJ,Â a,Á (dec_true c1)]
   rw[e]at q;show q
  .show{"",(),?_};show cT (λc2=>?_) (λc2=>?_)
   .show{"",{0.3,0.3},"",(0.3:(0:Int)<5),"",?_};let e:qJ b n=n/8%5-2:=#v[qJ,Â a,Â (dec_false c1),Á (dec_true c2)]
    rw[e]at q;show q
   .show{"",(),?_};show cT (λc3=>?_) (λc3=>?_)
    .show{"",{0.3,0.3},"",(0.3:(0:Int)<41),"",?_};let e:qJ b n=n/8%41-20:=#v[qJ,Â a,Â (dec_false c1),Â (dec_false c2),Á (dec_true c3)]
     rw[e]at q;show q
    .show{"",{0.3,0.3},"",{0.3,0.3,0.8},?_};show{"",{0.3,0.3,0.3},"",(0.3:(0:Int)<10^(20:Int).toNat),"",{0.3,0.3},"",(0.3:(0:Int)<2),?_};let g:0<=n/16%2:=vD _ 0.3;let f:n/16%2<2:=uN _ 0.3;show{mulL 0.3 0.3,"",mulR (⋯:-(2^64)<1-2*(n/16%2)) (⋯:1-2*(n/16%2)<2^64),?_};let e:qJ b n=(n/8)^3%10^20*(1-2*(n/16%2)):=#v[qJ,Â a,Â (dec_false c1),Â (dec_false c2),Â (dec_false c3)]
     rw[e]at q;show q
theorem aU1(F:Fn K mg "_law_numbers" Xq ["_law_by_here","_law_cell","_law_many"])(O:c_ M):o? M:=by
 delta OG
 ext b c m rfl f e r p q h;show{_,#[(),(aC 3 OG.nd (fX jF)),(aC 4 OG.nd (1:)),(gq Ë rfl (dU rfl B.dw #[2]) (aX 5 OG.nd) #[(),(aC 4 OG.nd (4*_%_:)),(eU (n8 K (3:) (aq O hr #[0,4])))]),(aF (3:))],dz _,λl k=>?_};show{m,rfl,(⋯:-(2^62)<=m),(⋯:m<2^62),kI (lo:=0) (n:=m.toNat) (λi a H'=>∃o,a=[b[5],c[5],m[5],l[4],(Aw c i)[5],o]/\H' l=(uQ b c i)[11][2]/\Same H H') {ν,rfl,aB,Same.new k _} ?_ ?_}
 .rintro i a H' hi ⟨o,rfl,j,g⟩;let hr:0<=Aw c i/\Aw c i<2147483647:=UT f e i;let d:=UT f e (i+1);show{mulL ⋯ ⋯,"",(0.3:(0:Int)<2147483647),.inl {rfl,_,aj.of j},b,(),d.1,d.2,l,"",j,?_,?_}
  .rw[aA,TV];show gY (⋯:i<1001) 0.3
  .refine{(),?_,g.upd k _};rw[aB,!_=ι (HO.lst (uQ b c i++[qJ b (Aw c (i+1))])[11])];rw[eG,0]
 .rintro a H' ⟨o,rfl,j,g⟩;show(q l H' g k j)
theorem aOE(F:Fn K mg "_law_rest" vi ["_law_by_here","_law_number_here"]):VP M:=by
 delta aF3
 ext b n rfl h0 q h;show{_,#[(),(bI (0>_:) (aJ (aF (1%0:))) bJ),(aF (1:))],"",(),cT (λc=>?_) (λc=>?_)}
 .let a:0<b:=dec_true c;show{"",a,?_};rw[mz ⋯]at q;show q
 .let a:b=0:=let:=dec_false c;⋯
  rw[a,cY]at q;show q
theorem aRf(F:Fn K mg "_law_small_row" Zy ["_law_by_here","_law_cell","_law_most"])(Bb:yY M)(Ut:o? M)(zc:VP M):zw M:=by
 delta Gy
 ext b c r rfl s m0 m4 m2 q h;let hb:=LP s;show{_,#[(),(aC 3 Gy.nd ((aq Bb hr #[1,_])%(2+_):)),(aC 4 Gy.nd (aq Ut hr #[((fW (EX rfl) rfl B.XX boot_max #[0,_])*(dI A6 rfl B.uP boot_int #[(kJ om (0:) aR (mq _))]):),(aq Bb hr #[1,_]),3])),(aC 5 Gy.nd (aq Ut hr #[0,(aq Bb hr #[1,_]),3])),(vM (bI (0==_:) #[(),(lK (i:=4) (hN:=Gy.nd) (hi':=rfl) (hx:=(ju rfl)) (sc:=aLt) (N:=["_law_number_here"]) (ix:=[ν]) cF rfl (dF K (4:)) (((aX 0 cG),cP,(0%_-_:)) :)),(lK (i:=5) (hN:=Gy.nd) (hi':=rfl) (hx:=(ju rfl)) (sc:=aJD) (N:=["_law_number_here"]) (ix:=[ν]) cF rfl (dF K (5:)) (((aX 0 cG),cP,(0%_-_:)) :))] bJ)),(aF (iu #[0,(dI (nR K) rfl B.mF boot_tuple #[(c7 (sc:=aHs) (N:=["_law_number_here","_law_by_here"]) (ix:=[ν,ι 0]) cF rfl (dF K (4:)) (((aX 0 cG),cP,(aq zc hr #[1,0])) :))]),(dI (nR K) rfl B.mF boot_tuple #[5])]))],?_};let b0:=hb.lo;let b1:=hb.hi;let R:=vD (sE c 11) (⋯:(0:Int)<r+1);let k1:=uN (sE c 11) (⋯:(0:Int)<r+1);show{c,11,rfl,0.3,0.3,"",(⋯:(0:Int)<r+1),?_};generalize sE c 11%(r+1)=m at R k1;show{b,5,rfl,"",.inr {(),?_}};show{mulR (by split<;>decide) (by split<;>decide),c,12,rfl,0.3,0.3,_,_,m,rfl,YX _ _,Cf _ _,R,⋯,λl4 H4 g4 _ h4=>?_};generalize n:(if 5>b then 5 else b)*(if decide (b>0)=true then(1:Int)else 0)=b' at h4;let aNg:0<=b':=by
  rw[<-n];split<;>split<;>simp[*]
 let aXL:b'<1000:=by
  rw[<-n];split<;>split<;>simp[*]
 let aG2:b'=0->b=0:=λz=>by
  rw[<-n]at z;by_cases c0:0<b
  .rw[É c0,Á rfl]at z;split at z<;>lia
  .lia
 show{c,13,rfl,0.3,0.3,_,_,m,rfl,YX _ _,Cf _ _,R,⋯,λl5 H5 Y _ X=>?_};let D:=Y _ _ h4;let P:(uQ b' (sE c 12) m.toNat)[_]=m.toNat:=TV ..;let J:(uQ b (sE c 13) m.toNat)[_]=m.toNat:=TV ..;let nr:=bY aNg (sE c 12) m.toNat;let ns:=bY hb.lo (sE c 13) m.toNat;generalize uQ b' (sE c 12) m.toNat=rl at D P nr;generalize uQ b (sE c 13) m.toNat=st at X J ns;show ur.by (λp H'=>F? λ(G I:Æ)(a d:ζ)=>U8 (p=[b[5],c[5],r[5],m[5],G[4],I[4]]) (Same H H') (H' G=a[11][2]) (H' I=d[11][2]) (a[_]=m.toNat) (d[_]=m.toNat) ((∀x∈a,Bd 10 x/\(b=0->x.natAbs<=3))) (∀x∈d,j9 b x/\Bd 10 x)) (λNN mJ=>?_) ?_
 .refine{(),cT (λz=>?_) (λz=>?_)}
  .let j:b=0:=dec_true z;show{l4,rfl,.inl {{_,aj.of D},yr (jB (aj.of D)) ⋯ rfl (λx=>x%7-3) ?_ ?_}}
   .intro H6 x o hx kk f;show{"",(0.3:(0:Int)<7),"",f}
   intro g l;let o:=Same.new l (.lst (rl.map λx=>x%7-3)[11]);let ZS:=o _ _ X;let A:(upd H5 g (.lst (rl.map λx=>x%7-3)[11])) g=(rl.map λx=>x%7-3)[11][2]:=aB;generalize upd H5 g (.lst (rl.map λx=>x%7-3)[11])=H6 at o ZS A;show{l5,rfl,.inl {{_,aj.of ZS},yr (jB (aj.of ZS)) ⋯ rfl (λx=>x%15-5) ?_ ?_}}
   .intro H7 x k hx kk f;show{"",(0.3:(0:Int)<15),"",f}
   intro D2 T;let k:=Same.new T (.lst (st.map λx=>x%15-5)[11]);show mJ _ _ {g,D2,_,(),g4.trans (Y.trans (o.trans k)),k _ _ A,aB,#v[aA,P],#v[aA,J],λx hx=>?_,λx hx=>?_}
   .obtain⟨y,_,rfl⟩:=bN.mp hx;let:=vD y (0.3:(0:Int)<7);let:=uN y (0.3:(0:Int)<7);show{Bd.of ⋯ ⋯,λ_=>⋯}
   .obtain⟨y,_,rfl⟩:=bN.mp hx;let:=vD y (0.3:(0:Int)<15);let:=uN y (0.3:(0:Int)<15);show{.inl j,Bd.of ⋯ ⋯}
  .let j:b≠0:=dec_false z;show mJ _ _ {l4,l5,rl,st,rfl,g4.trans Y,D,X,P,J,λx hx=>?_,λx hx=>?_}
   .rcases nr x hx with e|⟨e1,e2⟩
    .exact È (aG2 e) j
    .exact{Bd.of ⋯ 0.7,λz=>È z j}
   .rcases ns x hx with e|⟨e1,e2⟩
    .exact È e j
    .exact{.inr {e1,(e2)},Bd.of ⋯ ⋯}
 .rintro p H6 ⟨G,I,a,d,rfl,o,h6,W,L,ls',br,bs⟩;show{G,rfl,.inl {{_,aj.of h6},yr (jB (aj.of h6)) ⋯ rfl (Rm.tk b) ?_ ?_}}
  .intro H7 x k hx kk f;show{b,x,rfl,b0,f}
  intro g l;let k:=Same.new l (.lst (a.map (Rm.tk b))[11]);let w:=k _ _ W;let v:(upd H6 g (.lst (a.map (Rm.tk b))[11])) g=(a.map (Rm.tk b))[11][2]:=aB;generalize upd H6 g (.lst (a.map (Rm.tk b))[11])=H7 at k w v;show{g,(),.inl {aj.of v,λt1 S=>?_}};let U:=Same.new S (.tup (a.map (Rm.tk b))[11]);let u:=U _ _ w;let C:(upd H7 t1 (.tup (a.map (Rm.tk b))[11])) t1=(a.map (Rm.tk b))[11][3]:=aB;generalize upd H7 t1 (.tup (a.map (Rm.tk b))[11])=H8 at U u C;show{I,(),.inl {aj.of u,λt2 rE=>?_}};let O:=Same.new rE (.tup d[11]);let t:(upd H8 t2 (.tup d[11])) t2=d[11][3]:=aB;replace C:=O _ _ C;generalize upd H8 t2 (.tup d[11])=H9 at O C t;show{(cU 3),λt3 zX=>?_};let Z:=Same.new zX (.tup [.int b,.ref t1,.ref t2]);show q (.ref t3) {b,a.map (Rm.tk b),d} _ (o.trans (k.trans (U.trans (O.trans Z)))) {t3,t1,t2,rfl,aB,Z _ _ C,Z _ _ t} ?_ rfl (by show(a.map _)[_]<=3;rw[aA,1]) (λz x hx=>by rw[z,eW]at hx;show(br x hx).2 z);let lm:(a.map (Rm.tk b))[_]=m.toNat:=#v[aA,L]
  show{{s,λz=>by show(a.map _)[_]<=2;let:=m2 z;lia,by show(a.map _)[_]=d[_];simp[*],by show(a.map _)[_]<=4;lia,λx hx=>?_,λx hx=>(bs x hx).1},λx hx=>?_,λx hx=>(bs x hx).2,λz=>?_}
  .obtain⟨y,_,rfl⟩:=bN.mp hx;show Bc b0 _
  .obtain⟨y,hy,rfl⟩:=bN.mp hx;show(yJ hb 0.3 (br y hy).1).mono 0.3
  .let j:b=0:=z;show tV (a.map (Rm.tk b));rw[j,eW,!aTR ⋯ λx hx=>(br x hx).2 j]
theorem aQI(F:Fn K mg "_law_text" aW ["_law_row"]):OP M:=by
 delta nI
 obtain⟨v,r,rfl,⟨a,p,p2,rfl,l,y,w⟩,t,q⟩:=h;show{_,#[(),(aC 1 nI.nd ((c7 (sc:=aR4) (N:=["_law_number_here"]) (ix:=[ν]) cF rfl (dF K (-0:)) (((aX 0 cG),cP,(dI qP rfl B.nq boot_str #[0])) :))+(fX #[""])+(c7 (sc:=aJc) (N:=["_law_number_here"]) (ix:=[ν]) cF rfl (dF K (-0:)) (((aX 0 cG),cP,(dI qP rfl B.nq boot_str #[0])) :)):)),(vM (bI (-0>_:) (aJ (aC 1 nI.nd (1+(fX #["",(dI qP rfl B.nq boot_str #[-0])]):))) bJ)),(aF (mZ K oJ B4 Cu Ci gj (1:)))],?_};let O:=t.short;let Z:=t.len;let hb:=Xi t.iR t.pC;show{!l,rfl,p,rfl,.inr {{_,ao.of y},Ss y ⋯ rfl ?_ ?_}}
 .intro H2 x n hx k hk;show{x,rfl,qY (t.jh x hx),hk}
 intro D I;let⟨H1,e,S,h1⟩:=nw I (.lst (r.ρ.map au)[10]);rw[e,!{(cU 1),λD1 s=>?_}];let⟨H2,e,n,h2⟩:=nw s (.lst [Tx.bar][10]);rw[DC];rw[show[V.str Tx.bar]=[Tx.bar][10] from rfl,e,!addW (n _ _ h1) h2 (by rw[aA,!_+1<=1000];lia) λD2 H3 R h3=>?_];let m:=S.trans (n.trans R);show{!(m _ _ l),rfl,p2,rfl,.inr {{_,ao.of (m _ _ w)},Ss (m _ _ w) ⋯ rfl ?_ ?_}}
 .intro H2 x n hx k hk;show{x,rfl,qY (t.kE x hx),hk}
 intro Y G;let⟨U,e,A,h4⟩:=nw G (.lst (r.ς.map au)[10]);rw[e,!addW (A _ _ h3) h4 (by rw[fJ,aA,aA,!_+1+_<=1000];lia) λX C P z=>?_];let o:=m.trans (A.trans P);let fin:∀(d:Æ) (H6:Hp),Same C H6->H6 d=(Tx.wordsOf r.b r.ρ r.ς)[10][2]->BG (MR K "str" rJoin (tC (V.str (õ " "))) (DN (Xg 1) zu)) {nx:=λx H'=>Q V.non H',rt:=Q} [a[4],d[4]] H6:=λd H6 f j=>by
  show{rfl,_,d,Tx.wordsOf r.b r.ρ r.ς,rfl,rfl,j,?_,?_}
  .rw[jM];show t.join
  .rw[jM];show q _ (o.trans f)
 show ur.by (λg H'=>∃d,g=[a[4],d[4]]/\Same C H'/\H' d=(Tx.wordsOf r.b r.ρ r.ς)[10][2]) (λNN u=>?_) ?_
 .refine{!(o _ _ l),rfl,"",(),cT (λc=>?_) (λc=>?_)}
  .let i:r.b>0:=dec_true c;show{!(o _ _ l),rfl,(),qY t.RQ,(cU 2),λd T=>?_};let⟨H6,e,f,j⟩:=nw T (.lst [oF,au r.b][10]);rw[Rh];rw[show[V.str oF,V.str (õ (toString r.b))]=[oF,au r.b][10] from rfl,e,!addW (f _ _ z) j (by rw[fJ,fJ,aA,aA,!_+1+_+2<=1000];lia) λW H7 L J=>?_];show u _ _ {W,rfl,f.trans L,?_};rw[J,Tx.wordsOf,mR,Á i,yX,yX,0]
  .let i:r.b=0:=let:=dec_false c;⋯
   show u _ _ {X,rfl,Same.refl _,?_};rw[z,Tx.wordsOf,mR,Â 0.6,sU,yX,0]
 .rintro g H' ⟨d,rfl,f,j⟩;show fin d H' f j
theorem aDw(F:Fn K mg "_law_numbers_in" sQ ["_law_text_here"]):dk M:=by
 delta aEQ
 obtain⟨t,ns,rfl,⟨c,el,m,hb⟩,q⟩:=h;show{_,(aJ (aF (c7 (sc:=aPx) (N:=["_law_word"]) (ix:=[ν]) cF rfl (dF K (mZ K oJ GX Ej Gu (0:) gj)) (((aX 0 cG),(BH (0!="":)),(dI AW rfl B.uP boot_int #[0])) :)))),?_};show{rfl,t,(),rfl,#v[jM,0],0.9,λD i=>?_};rw[jM];generalize o:wj t (Tx.one 32)=os at c el;let⟨H1,f,d,h1⟩:=nw i (.lst os[10]);rw[f,!{D,rfl,.inl {{_,aj.of h1},oZ (jB (aj.of h1)) #v[aA,!cD el (cU 2000)] rfl (λx=>match x with|.str z=>!decide (z=("":Str))|_=>false) (λx=>match x with|.str z=>.int ((PySem.intText? z).getD 0)|_=>.non) ?_ ?_ ?_}}]
 .intro H2 x j hx k hk;let⟨z,_,rfl⟩:=bN.mp hx;show{(),hk}
 .intro H2 x j hx hp k hk;let⟨z,hz,rfl⟩:=bN.mp hx;let g:z∈ns.map au:=#v[-c,!pD.mpr {hz,(hp)}]
  let⟨n,hn,rfl⟩:=bN.mp g;let e:=qu (hb n hn);show{_,n,rfl,e.1,let:=e.2;⋯,by let a:k (.int ((PySem.intText? (au n)).getD 0)) H2:=hk;rw[e.1]at a;show a}
 show λl b=>q l _ (d.trans (Same.new b _)) (d.free b) ?_;rw[aB,OV,dh,!ι (HO.lst (((os.filter λz=>!decide (z=("":Str))).map _)))=_];rw[c,dh,!Ï _ (Ï _ (jx λn hn=>?_))];show V.int ((PySem.intText? (au n)).getD 0)=_;rw[(qu (hb n hn)).1,0]
theorem azB(F:Fn K mg "_law_places" dA ["_law_desk","_law_name"])(v:dk M)(O:Aj P w K mg base cN):Kz P w K mg base cN:=by
 delta aFB
 obtain⟨p,d,s,M',N,f,rfl,e,l,b,⟨r,j,ok,i⟩,c,q⟩:=h;show{_,(aJ (aF (aq v hr #[(qF D.ni.cl O hr (0:) #[(""+1+"":)])]))),?_};ext dx hp e.ob;ext l1 l2 l3 l4 aC0;let x:=b.hi;let big:10000<=Ê:=0.3;show{p,dx,(),hp,qU,#v[l3],#v[m9,l3,l4],?_};show v7 e l (w:="places") (was:=[.a s r,.num (40:Nat)[0]]) ?_ 0.0 (show jT "places" ["A","NUMBER"]from oh 0.0) (0.3:2<=20) (cj.mpr {{b,(j)},cj.mpr {show((40:Nat):Int).natAbs<10^60 by decide +kernel,nofun}}) (.tell (k:=.places) (.places ok 0.3 λn hn=>#v[i,!(c n hn).few]) λt H' o g=>?_)
 .rw[l1,l2];simp only[fR,Wa.word,join_cons,rN,pJ]
 .let u:∀n∈aD 40 f,F6 n:=λn hn=>by
   let⟨k,hk,rfl⟩:=jN hn;show c k hk
  show{t,aD 40 f,rfl,?_,λr H2 m hr=>q r H2 (g.trans m) (g.free hr)};rw[o,Du,show aD 40 r.at=aD 40 f from jx λk _=>i k,!ID (λz=>by let:=bZ 40 f;rw[z]at this;cases this) #v[bZ,3] u]
theorem axw(F:Fn K mg "_law_mixed" vy ["_law_desk","_law_by_here","_law_first","_law_second","_law_number_here"])(iB:Aj P w K mg base cN)(oY:Kz P w K mg base cN)(zc:VP M):L6 P w K mg base cN:=by
 delta Gh
 ext p d l1 l2 x M0 N r u rfl hD hN T p1 p2 hx q h;show{_,#[(),(aC 5 Gh.nd (fX #["","","",(""+(dI qP rfl B.nq boot_str #[4]):),""])),(bI ((c7 (sc:=aNy) (N:=["_law_row","_law_desk"]) (ix:=[ν,ι 0]) cF rfl (dF K (5:)) (((aX 0 cG),cP,(qF D.ni.cl iB hr (1:) #[0])) :))!=(fX #[""])*_:) (aJ (aF iy)) bJ),(lK (i:=6) (hN:=Gh.nd) (hi':=rfl) (hx:=(ju rfl)) (sc:=aMk) (N:=["_law_name","_law_desk"]) (ix:=[ν,ι 0]) cF rfl (dF K (fX #["","","","",""])) (((aX 0 cG),cP,(aq oY hr #[1,0])) :)),(gq Ë rfl (dU rfl B.dw #[_]) (Tr (i:=7) Gh.nd rfl (dR rfl)) #[(),(aC 8 Gh.nd (fW (Av K rfl) rfl B.Bg boot_sum #[(c7 (sc:=aO9) (N:=["_law_i","_law_first","_law_n","_law_second"]) (ix:=[ν,ι 2,ι 7,ι 3]) cF rfl (dU rfl B.dw #[(7+_:)]) (((aX 0 cG),cP,((aL K (1:) (0:))*(aL K (3:) (2-0:)):)) :))])),(aC 9 Gh.nd (fX #[((aL K (2:) (7:))+(aL K (3:) (7:)):),((aL K (2:) (7:))*(aL K (3:) (7:)):),8,((aL K (2:) (7:))*4:),(fW (Av K rfl) rfl B.Bg boot_sum #[(jJ (jX K) (2:) lF (jz (7+_:)))])])),(bI ((c7 (sc:=aPb) (N:=["_law_found","_law_n"]) (ix:=[ν,ι 7]) cF rfl (dF K (6:)) (((aX 0 cG),cP,(aL K (0:) (1:))) :))!=(c7 (sc:=aSC) (N:=["_law_one","_law_by_here"]) (ix:=[ν,ι 1]) cF rfl (dF K (9:)) (((aX 0 cG),cP,(aq zc hr #[1,0])) :)):) (aJ (aF iy)) bJ)]),(aF iy)],?_};let J:x.natAbs<10^60:=jD (0.9:x.natAbs<=9) 0.0;let big:10000<=Ê:=0.3;ext _ _ _ _ _ R f?;let l7:(õ (toString x))[_]<=61:=oH J;show{x,rfl,qY J,#v[R],cU 5,λl5 zQ=>?_};generalize c:upd H l5 _=H1;let g1:Same H H1:=c▸Same.new zQ _;let h1:H1 l5=((Vc r u x).map λq=>V.str q.1)[2]:=#v[-c,!aB]
 clear c;show{l5,rfl,.inl {{_,aj.of h1},L8 (its:=Vc r u x) (hD.same g1) (⋯:N+5<=100) h1 (show(["a","b","s","p","r","n","t"]:List Str).Nodup by decide +kernel) rfl (aQv T hx) ?_ ?_}}
 .intro t H' M' N' kk hD' hS;ext dx hp hD'.ob;show{p,dx,(),hp,qU,hS}
 show λD2 H2 M2 hD2 g2 h2 D2k ea eb hk=>{cU 1,λl3 hl3=>.mk _ aB 0.3 0.3 0.3 λl4 vR=>?_};let g3:=(Same.new hl3 (.lst [V.str "ok"])).trans (Same.new vR (.lst (dN (5:Int).toNat [V.str "ok"]).flatten));show Be (n:=5) (.inr rfl) (g3 _ _ h2) aB {(),bO ?_};generalize c:upd _ l4 _=H4 at g3;clear c;show{cU 5,λR Ea=>?_};generalize c:upd H4 R _=H5;let g5:Same H4 H5:=c▸Same.new Ea _;let h5:H5 R=((Qm r u x).map λq=>V.str q.1)[2]:=#v[-c,!aB]
 clear c;let CD:=g3.trans g5;let D5:=D2k.same CD;let kps:=aKi hk;show{R,rfl,.inl {{_,aj.of h5},xB (jB (aj.of h5)) (xs:=Qm r u x) #v[aA] (0.3:5<=1000) rfl (λq v D H=>∃l,v=V.ref l/\l≠D/\Pl H l q.2) (λq v D H' H2 zs hd g ⟨l,e,ne,h⟩=>{l,e,ne,g _ _ ne h}) ?_ ?_}}
 .intro D6 H6 k I v Y {zs,(hd6)} W hv kk a;rw[Î,W]at hv;obtain rfl:=(nQ hv).symm;let mem:=Ð W;let nms:I.1∈Ab:=(0.0:∀s∈(["s","p","r","n","t"]:List Str),s∈Ab) _ (bN.mpr {I,mem,(rfl)});show{p,d,I.1,M2,N+5,I.2,rfl,D5.same Y,⋯,m5 nms,kps I mem,λn hn=>aOl T hx hn I mem,λl8 H8 j uo h8=>a _ _ j {l8,rfl,(λz=>by rw[z,hd6]at uo;cases uo),h8}}
 intro D6 H6 ys ML Y h6 hp6;let⟨ts,rfl,ets,hts⟩:=aG1 hp6;let sd:=jd.of g1 g2;replace p1:=Y _ _ (CD _ _ (hD.lst sd p1));replace p2:=Y _ _ (CD _ _ (hD.lst sd p2));let a2:∀i,i<40->Bd 210 (r.at i):=λi hi=>(T.ra.bd i).mono ⋯;let c2:∀i,i<40->Bd 210 (u.at i):=λi hi=>(T.rb.bd i).mono ⋯;let xb:Bd 210 x:=(Bd.of (n:=10) ⋯ ⋯).mono 0.3;show{40,rfl,0.3,0.3,kI (lo:=0) (n:=40) (λi m H'=>BQ λo7 o8 o9=>m=[p[4],r.b[5],l1[4],l2[4],x[5],l5[4],D6[4],o7,o8,o9]/\Same H6 H') {_,_,(),Same.refl _} ?_ ?_}
 .rintro i m H7 hi ⟨o7,o8,o9,rfl,U⟩;let e0:(0+i[0])=(i:Int):=dO _;show{0+i[0]+1,rfl,(⋯:-(2^62)<=0+i[0]+1),(⋯:0+i[0]+1<2^62),?_};rw[e0,(0.6:(i[0]+1).toNat=i+1)];let o:=U _ _ p1;let L:=U _ _ p2;show GF (lo:=0) (n:=i+1) ⋯ rfl (λk=>r.at k*u.at (i-k)) ?_ ?_
  .intro H8 k j hk kk a;show{_,V.int (r.at k),.inl (aj.of (j _ _ o)),#v[dO,!j7 ⋯],"",_,V.int (u.at (i-k)),.inl (aj.of (j _ _ L)),#v[dO,(0.7:(i:Int)-k[0]=(i-k:Nat)[0]),!j7 0.7],jA (a2 k ⋯) (c2 (i-k) ⋯) 0.3,a}
  intro D8 hD8;let j:=Same.new hD8 (.lst (aD (i+1) λk=>r.at k*u.at (i-k))[11]);show{D8,(),aj.of aB,?_};rw[Vt];generalize upd H7 D8 _=H8 at j⊢;replace o:=j _ _ o;replace L:=j _ _ L;let A:jE (aD 40 r.at)[11] (i:Int)=(r.at i)[5]:=j7 hi;let S:jE (aD 40 u.at)[11] (i:Int)=(u.at i)[5]:=j7 hi;show{¬o,A,¬L,S,¬o,A,¬L,S,jA (a2 i hi) (c2 i hi) 0.3,¬o,A,jA (a2 i hi) xb 0.3,(),.inl {_,aj.of o,λl9 hl9=>?_}};rw[(0.6:(i[0]+1)=(i+1:Nat)[0]),vG,<-qg,XR _ 1.2];let g9:=j.trans (Same.new hl9 (.lst (aD (i+1) r.at)[11]));show{l9,(),aj.of aB,?_};rw[Vt,!{cU 5,λlz hlz=>?_}];generalize c:upd _ lz _=H9;obtain⟨ds,G⟩:∃ds:ζ,ds=[r.at i+u.at i,r.at i*u.at i,Pm.sm (i+1) λk=>r.at k*u.at (i-k),r.at i*x,Pm.sm (i+1) r.at]:={()};let hz:H9 lz=ds[11][2]:=#v[-c,G,!aB]
  let g9:Same H7 H9:=g9.trans (c▸Same.new hlz _);clear c;let C:=U.trans g9;let X:=C _ _ h6;show{D6,rfl,.inl {{_,aj.of X},O2 (jB (aj.of X)) (by let:=Ï GB ets;rw[aA,aA]at this;rw[this,!5<=1000];decide) rfl (λq=>.int (q.2 i)) ?_ ?_}}
  .intro kj y O hy kk a;show{¬(O _ _ (C _ _ (hts y hy))),j7 hi,a kj (Same.refl _)}
  show λV6 kj aXQ O Z=>{lz,rfl,.inl {{_,aj.of (O _ _ hz)},yr (jB (aj.of (O _ _ hz))) (by rw[G,!5<=1000];decide) rfl (Rm.tk r.b) ?_ ?_}}
  .intro H11 y yC hy kk a;show{r.b,y,rfl,T.ra.sm.wf.hB.lo,a}
  intro QT fN;let yC:=Same.new fN (.lst (ds.map (Rm.tk r.b))[11]);let el:ts.map (λq=>V.int (q.2 i))=(ds.map (Rm.tk r.b))[11]:=by
   let:=Ï (fR λf:Nat->Int=>V.int (f i)) ets;rw[dh,dh]at this;show this.trans ?_;rw[G,![V.int (Rm.tk r.b (r.at i+u.at i)),.int (Rm.tk r.b (r.at i*u.at i)),.int (Rm.tk r.b (AH r.at u.at i)),.int (Rm.tk r.b (Rm.tk r.b x*r.at i)),.int (Rm.tk r.b (Pm.sm (i+1) r.at))]=_];rw[qK,fO x,0]
  rw[el]at Z;show vP (aj.of (yC _ _ Z)) (aj.of aB) {(),?_};rw[É rfl,!bO {_,_,(),C.trans (O.trans yC)}]
 .rintro m H7 ⟨o7,o8,o9,rfl,U⟩;let gz:=CD.trans (Y.trans U);show q H7 M2 (sd.then gz) (D2k.same gz) {ea.trans T.ha,eb.trans T.hb,T.ra,T.rb,T.e}
theorem aI5(F:Fn K mg "_law_part_right" uk ["_law_desk","_law_first","_law_second"])(O:Aj P w K mg base cN):RY P w K mg base cN:=by
 delta i7
 ext p d l1 l2 W N r u rfl s o T p1 p2 q h;show{_,#[(),(lK (i:=3) (hN:=i7.nd) (hi':=rfl) (hx:=(ju rfl)) (sc:=aWe) (N:=["_law_n","_law_first","_law_second"]) (ix:=[ν,ι 1,ι 2]) cF rfl (dU rfl B.dw #[_]) (((aX 0 cG),(BH ((aL K (1:) (0:))!=(aL K (2:) (0:)):)),(0:)) :)),(aC 4 i7.nd (qF D.ni.cl O hr (0:) #[""])),(bI (3==(fX jF):) (aJ (aF (kJ (pQ K hr) (4:) gj (mq _)))) bJ),(aF (kJ (pQ K hr) (4:) (dI qP rfl B.nq boot_str #[-3]) (mq _)))],?_};show{40,rfl,0.3,0.3,K7 (lo:=0) (n:=40) (cU 40) rfl (λn=>!decide (r.at n=u.at n)) ?_ ?_ ?_}
 .intro m k b hk kk a;let x:((0:Nat):Int)+k[0]=(k:Int):=dO _;rw[vL]at a;show{_,V.int (r.at k),.inl (aj.of (b _ _ p1)),#v[x,!j7 hk],_,V.int (u.at k),.inl (aj.of (b _ _ p2)),#v[x,!j7 hk],(),a}
 .intro m k b hk kk a;show(a)
 intro y f;generalize l:upd H y _=H1;let g:Same H H1:=l▸Same.new f _;let h1:H1 y=(cW (λn=>!decide (r.at n=u.at n)) 0 40)[11][2]:=#v[-l,!aB]
 clear l;let⟨dx,hp⟩:=(s.same g).ob;show{p,dx,(),hp,qU,EN (s.same g) o JP.1 0.0 0.0 T.ha T.hb T.ra.sm T.rb.sm T.e λH2 v=>?_};let J:=g.trans v;show{cU 0,λA z=>?_};let b:=Same.new z (.lst []);let c:=b _ _ (v _ _ h1);show vP (ms:=[]) (aj.of c) (aj.of aB) {(),?_};generalize upd H2 A _=m at b c;let q:=q m (J.trans b);cases e:BK r u with
 |none=>
  let M:=T.ra.same T.rb T.e λn hn=>by
   let:=BO e n hn;simpa using this
  rw[So λj _=>#v[M j,É rfl,0],É rfl,!gk (Ca (K:=K) rfl q)]
 |some i=>
  let⟨S,G,C⟩:=PM e;let l1:=T.ra.l3;let l2:=T.rb.l3;let⟨t,L⟩:=VI (p:=λn=>!decide (r.at n=u.at n)) (n:=40) (i:=i) ⋯ G[7] λj I=>(C j I)[7]
  rw[L]at c⊢;rw[Ì 0.1];let R:((i:Nat):Int).natAbs<10^60:=jD (0.8:((i:Nat):Int).natAbs<=40) 0.0;show bO {¬c,at0,(),qY R,Ca (K:=K) rfl q}
seal rM in
theorem aCi(F:Fn K mg "_law_moved" fg ["_law_desk","_law_by_here","_law_first","_law_number_here"])(zc:VP M)(iB:Aj P w K mg base cN)(oY:Kz P w K mg base cN):CH P w K mg base cN:=by
 delta Eu
 ext p d l1 n M0 N r rfl hD hN hm R p1 hn q h;show{_,#[(),(fu (i:=4) Eu.nd rfl (dR rfl) (3%_:)),(fu (i:=5) Eu.nd rfl (dR rfl) (_+3/_%_:)),(lK (i:=6) (hN:=Eu.nd) (hi':=rfl) (hx:=(ju rfl)) (sc:=aO8) (N:=["_law_k","_law_by_here","_law_number_here"]) (ix:=[ν,ι 1,ι 3]) cF rfl (dU rfl B.dw #[(_+3/_%_:)]) (((aX 0 cG),cP,(aq zc hr #[1,(2/(0+_)%_-_:)])) :)),(aC 7 Eu.nd (fX #[(""+(dI qP rfl B.nq boot_str #[4])+""+(dI qP rfl B.nq boot_str #[5]):),(""+(dI qP rfl B.nq boot_str #[4]):),""])),(eU (n8 K (7:) (""+(mZ K oJ B4 Cu Ci gj (c7 (sc:=aze) (N:=["_law_one"]) (ix:=[ν]) cF rfl (dF K (6:)) (((aX 0 cG),cP,(dI qP rfl B.nq boot_str #[0])) :))):))),(bI ((c7 (sc:=aOQ) (N:=["_law_row","_law_desk"]) (ix:=[ν,ι 0]) cF rfl (dF K (7:)) (((aX 0 cG),cP,(qF D.ni.cl iB hr (1:) #[0])) :))!=(fX #[""])*_:) (aJ (aF iy)) bJ),(bI (PW.pt (jc ((aq oY hr #[0,""])!=(jJ (jX K) (6+2:) lF (jz aR)):) (mD ((aq oY hr #[0,""])!=2:)))) (aJ (aF iy)) bJ),(bI (PW.pt (jc ((jJ (jX K) (aq oY hr #[0,""]) lF (jz aR))!=(jJ (jX K) (2:) (jz (4:)) (jz (4+_:))):) (mD ((qF D.ni.cl iB hr (0:) #[""])!="":)))) (aJ (aF iy)) bJ),(fu (i:=8) Eu.nd rfl (dR rfl) (aq oY hr #[0,""])),(aF (kJ (pQ K hr) (c7 (sc:=aCu) (N:=["_law_k","_law_every_so"]) (ix:=[ν,ι 8]) cF rfl (dU rfl B.dw #[_]) (((aX 0 cG),cP,(aL K (1:) (0:))) :)) (c7 (sc:=aU7) (N:=["_law_k","_law_first","_law_start","_law_step"]) (ix:=[ν,ι 2,ι 4,ι 5]) cF rfl (dU rfl B.dw #[_]) (((aX 0 cG),cP,(aL K (1:) (2+0*3:))) :)) (mq _)))],?_};let hB:=R.sm.wf.hB;let big:10000<=Ê:=0.3;ext _ _ _ _ s1 s2 s4 s5 JU;obtain⟨S,eS,hS⟩:∃S:Nat,n%6=S[0]/\S<=5:={(n%6).toNat,⋯,0.7};obtain⟨E,eE,hE⟩:∃E:Nat,1+n/6%3=E[0]/\1<=E/\E<=3:={(1+n/6%3).toNat,0.7,0.7};obtain⟨m,em,hmm⟩:∃m:Nat,1+n/18%3=m[0]/\1<=m/\m<=3:={(1+n/18%3).toNat,0.7,⋯};show{"",(0.3:(0:Int)<6),"",{0.3,0.3},"",(0.3:(0:Int)<3),"",{0.3,0.3},"",(0.3:(0:Int)<3),(m:Int),Ï (λz=>[V.int z]) em,0.6,⋯,?_};rw[eS,eE,dg,!GF (lo:=0) (n:=m) 0.7 rfl (λk=>Rm.tk r.b (n/(k[0]+40)%9-4)) ?_ ?_]
 .intro H2 k A hk kk f;rw[dO,!{"",{⋯,by show(k:Int)+40<1073741824;lia},"",(0.3:(0:Int)<9),"",r.b,(),hB.lo,f}]
 intro D1 hD1;obtain⟨a,ZF⟩:∃a,a=aD m λk=>Rm.tk r.b (n/(k[0]+40)%9-4):={()};let lah:a[_]=m:=#v[ZF,bZ]
 let W:∀x∈a,Bd 10 x/\Rm.tk r.b x=x:=λx hx=>by
  rw[ZF]at hx;let⟨k,_,rfl⟩:=jN hx;show{yJ hB 0.3 (Bd.of 0.7 0.7),qj ..}
 rw[<-ZF];let⟨H1,uu,g1,h1⟩:=nw hD1 (.lst a[11]);rw[uu];let w5:∀{i:Nat},i<=5->(i:Nat)[0].natAbs<10^60/\(eZ (toString (i:Int)))[_]<=61:=λ{i} h=>by
  let:((i:Nat):Int).natAbs<10^60:=jD (0.6:((i:Nat):Int).natAbs<=5) 0.0;show{this,oH this}
 let⟨wS,lS⟩:=w5 hS;let⟨wE,lE⟩:=w5 (0.7:E<=5);show{S[0],rfl,qY wS,#v[s1],#v[m9,s1,s5],E[0],rfl,qY wE,#v[m9,m9,s1,s5],?_};show{S[0],rfl,qY wS,#v[s2],cU 3,λJ zN=>?_};generalize u:upd H1 J _=H7;obtain⟨g,I⟩:∃g,g=GL r S E a:={()};let g7:Same H1 H7:=u▸Same.new zN _;let h7:H7 J=((g.take 3).map λq=>V.str q.1)[2]:=#v[-u,I,!aB]
 clear u;show{.inl {rfl,_,aj.of h7},rfl,D1,rfl,.inl {{_,aj.of (g7 _ _ h1)},Z7 (jB (aj.of (g7 _ _ h1))) 0.7 rfl ?_ ?_}}
 .intro H2 x A hx kk f;show{x,rfl,qY (gY (W x hx).1 0.0),f}
 intro D2 H2 hD2 A h2;let fah:∀x∈a,eO x:=λx hx=>eO.bd (W x hx).1 0.3;show{_,D2,(),rfl,h2,#v[jM,!Ll fah ⋯],?_};let lsp:(jC a)[_]<=1000:=by
  let h1:=AF (Tx.one 32) (a.map au);let h2:=BX (B:=61) (a.map au) λv hv=>by
   let⟨x,hx,rfl⟩:=bN.mp hv;show oH (gY (W x hx).1 0.0)
  rw[show(Tx.one 32)[_]=1 from rfl]at h1;rw[aA]at h1 h2;unfold jC;lia
 rw[jM,show Õ (Tx.one 32) (a.map au)=jC a from rfl];let h7':=A _ _ h7;show{#v[s4],J,"",h7',#v[I,!cU 4],?_};generalize u:upd H2 J _=H3;let g3:Same H1 H3:=u▸(g7.trans A).upd zN _;let h3:H3 J=(g.map λq=>V.str q.1)[2]:=#v[-u,I,!aB]
 clear u;let l:=g1.trans g3;show{J,rfl,.inl {{_,aj.of h3},L8 (its:=g) (hD.same l) (by rw[I,!N+4<=100];lia) h3 #v[I,!(show(["a","b","e","o","h","d"]:List Str).Nodup by decide +kernel)] rfl #v[I,!aNE hm R hS hE 0.6 W] ?_ ?_}}
 .intro t H' M' N' kk hD' hS;ext dx hp hD'.ob;show{p,dx,(),hp,qU,hS}
 intro D4 H4 o qX g4 h4 C ea _ hk;rw[I]at h4 C hk;let ea:=ea.trans hm;let O:=jd.of l g4;show{cU 1,λl5 zQ=>.mk _ aB 0.3 0.3 0.3 λl6 Ea=>?_};let T:=(Same.new zQ (.lst [V.str "ok"])).trans (Same.new Ea (.lst (dN (4:Int).toNat [V.str "ok"]).flatten));show Be (n:=4) (.inl rfl) (T _ _ h4) aB {(),bO ?_};generalize u:upd _ l6 _=H6 at T;clear u;let X:=C.same T;let q1:=T _ _ (hD.lst O p1);let qa:=T _ _ ((hD.same l).lst g4 (g3 _ _ h1));obtain⟨⟨re,me,ve⟩,ho,hh,hd⟩:(∃y,o "e"=ι y/\Md r.b (λn=>r.at (S+E*n)) y)/\(∃y,o "o"=ι y/\Md r.b (λn=>r.at (n+S)) y)/\(∃y,o "h"=ι y/\Sm 10 y/\y.b=r.b/\∀n,y.at n=r.at n)/\∃y,o "d"=ι y/\Md r.b (j8 a r.at) y:=by
  let⟨k1,hk⟩:=cj.mp hk;let⟨k2,hk⟩:=cj.mp hk;let⟨k3,hk⟩:=cj.mp hk;show{k1,k2,k3,(cj.mp hk).1}
 ext ro mo vo ho;ext rh mh vh bh ath hh;ext rd md vd hd;let s:∀i,i<=200->F6 (r.at i):=λi hi=>F6.bd (R.bd i) ⋯;let M9:N+4<=100:=⋯;let dAt:∀i,Rm.tk r.b (j8 a r.at i)=j8 a r.at i:=λi=>by
  unfold j8;split
  .rename_i c
   rw[mC c,!(W _ (rD c)).2]
  .exact R.tk _
 show{p,d,"d",o,N+4,j8 a r.at,rfl,X,M9,m5 0.0,(Md.kp md vd).congr dAt,λi hi=>?_,λl8 H8 g8 _ h8=>?_}
 .unfold j8;split
  .rename_i c
   rw[mC c,!F6.bd (W _ (rD c)).1 0.3]
  .exact s _ ⋯
 let qa8:=g8 _ _ qa;let q18:=g8 _ _ q1;let lz:(a[11])[_]+(aD 40 r.at)[11][_]<=Ê:=#v[aA,aA,bZ]
 show(.inl {_,_,qa8,q18,lz,λl9 hl9=>{(),.inl {_,aj.of aB,λl10 aOT=>?_}}});rw[show fP (a[11]++(aD 40 r.at)[11]) ν (ι 40)=(aD 40 (j8 a r.at))[11] by rw[<-eG,!(vG _ 40).trans #v[-qg,aS6 0.7]]];let L:=(Same.new hl9 (.lst (a[11]++(aD 40 r.at)[11]))).trans (Same.new aOT (.lst (aD 40 (j8 a r.at))[11]));show vP (aj.of (L _ _ h8)) (aj.of aB) {(),?_};rw[É rfl];generalize upd _ l10 _=kj at L;replace L:=g8.trans L;let f6:∀i,i<40->F6 (r.at i):=λi hi=>s i ⋯;let kh:xR o "h" r.at:={rh,mh,(vh.cV 0.3).ok,ath};show bO {p,d,"h",o,N+4,r.at,rfl,X.same L,M9,m5 0.0,kh,f6,λl11 H11 Z _ h11=>?_};replace Z:=L.trans Z;show vP (aj.of h11) (aj.of (Z _ _ q1)) {(),?_};rw[É rfl,!bO {p,d,"o",o,N+4,λi=>r.at (i+S),rfl,X.same Z,M9,m5 0.0,(Md.kp mo vo).congr λi=>R.tk _,λi hi=>s _ ⋯,λud H12 fZ _ h12=>{(),.inl {_,aj.of h12,λXm aI1=>?_}}}];rw[show fP (aD 40 λi=>r.at (i+S))[11] ν (ι 34)=(aD 34 λi=>r.at (i+S))[11] from(vG _ 34).trans #v[-qg,XR _ 0.3]];let l:=(Z.trans fZ).trans (Same.new aI1 (.lst (aD 34 λi=>r.at (i+S))[11]));let Y:(upd H12 Xm (.lst (aD 34 λi=>r.at (i+S))[11])) Xm=(aD 34 λi=>r.at (i+S))[11][2]:=aB;generalize upd H12 Xm _=H13 at l Y;show{(),(),.inl {_,aj.of (l _ _ q1),λl14 ME=>?_}};rw[show fP (aD 40 r.at)[11] (ι (S:Int)) (ι (S[0]+34))=(aD 34 λi=>r.at (i+S))[11] by
  rw[(0.6:(S[0]+34)=(S+34:Nat)[0]),EH _ #v[aA,bZ] #v[aA,bZ],<-Vy,<-qg,(0.6:S+34-S=34),!Ï (fR V.int) (qT #v[jg,vB,bZ,bZ] λk=>?_)];rw[dH];unfold Pm.co;split
  .rw[À,ø (by assumption),č,<-À];show Pm.co _ _=_;rw[dH,Á ⋯,qz]
  .rw[À,à #v[jg]];rfl]
 show vP (aj.of (Same.new ME _ _ _ Y)) (aj.of aB) {(),?_};rw[É rfl];replace l:=l.trans (Same.new ME (.lst (aD 34 λi=>r.at (i+S))[11]));generalize upd H13 l14 _=H14 at l;let⟨dx,hp⟩:=(X.same l).ob;show bO {p,dx,(),hp,qU,EN (X.same l) M9 JP.2 0.0 0.0 ea mh R.sm vh bh.symm λH15 oV=>?_};dsimp only[tC];show Ca (K:=K) ?_ {(),bO ?_}
 .rw[show BK r rh=ν from wd λj _=>#v[ath j,2]];rfl
 replace oV:=l.trans oV;show{p,d,"e",o,N+4,λi=>r.at (S+E*i),rfl,X.same oV,M9,m5 0.0,(Md.kp me ve).congr λi=>R.tk _,λi hi=>s _ ?_,λl16 H16 Bu _ h16=>?_}
 .let:=nZ hE.2 (⋯:i<=40);lia
 replace Bu:=oV.trans Bu;show{12,rfl,0.3,0.3,GF (lo:=0) (n:=12) 0.3 rfl (λi=>r.at (S+E*i)) ?_ ?_}
 .intro H2 k A hk kk f;show{¬(A _ _ h16),#v[dO,!j7 ⋯],f}
 intro G aMB;let Ei:=Bu.trans (Same.new aMB (.lst (aD 12 λi=>r.at (S+E*i))[11]));let U:(upd H16 G (.lst (aD 12 λi=>r.at (S+E*i))[11])) G=(aD 12 λi=>r.at (S+E*i))[11][2]:=aB;generalize upd H16 G _=H17 at Ei U;show{12,rfl,0.3,0.3,GF (lo:=0) (n:=12) 0.3 rfl (λi=>r.at (S+E*i)) ?_ ?_}
 .intro H2 k A hk kk f;let:E*k<=3*11:=nZ hE.2 ⋯;let e:(S:Int)+(0+k[0])*E[0]=(S+E*k:Nat)[0]:=#v[dO,fO,0]
  show{jA (m:=10) (n:=10) (Bd.of ⋯ ⋯) (Bd.of 0.7 0.7) 0.3,¬(A _ _ (Ei _ _ q1)),#v[e,!j7 ⋯],f}
 intro D18 IF;let g18:=Ei.trans (Same.new IF (.lst (aD 12 λi=>r.at (S+E*i))[11]));show vP (aj.of (Same.new IF _ _ _ U)) (aj.of aB) ?_;rw[É rfl];let gz:=T.trans g18;show q _ o (O.then gz) (C.same gz) ea
theorem aPu(F:Fn K mg "_law_closed_right" ZX ["_law_told","_law_first"]):t? M:=by
 delta pq
 ext l1 r bot ps rfl ok cf p1 R q h;show{_,#[(),(aC 2 pq.nd (mZ K oJ GX Ej Gu (0:) gj)),(gq Ë rfl (dU rfl B.dw #[_]) (aX 3 pq.nd) #[(),(aC 4 pq.nd aR),(gq Ë rfl (dF K (jJ (jX K) (2:) (jz aR) lF)) (aX 5 pq.nd) #[(),(uU (mZ K oJ PySem.F.slot_str_partition PySem.F.type_str_partition aEX (5:) gj) (NJ K (n:=3) rfl (wz (aX 6 pq.nd) (wz (aX 7 pq.nd) (wz (aX 8 pq.nd) Qa))))),(aC 9 pq.nd aR),(aC 10 pq.nd aR),(gq Ë rfl (dF K (mZ K oJ GX Ej Gu (8:) gj)) (aX 11 pq.nd) #[(),(aC 9 pq.nd (9+(dI AW rfl B.uP boot_int #[11])*10:)),(aC 10 pq.nd (10*3:))]),(gq Ë rfl (dU rfl B.dw #[3]) (aX 12 pq.nd) (aJ (aC 9 pq.nd (9*(dI AW rfl B.uP boot_int #[6]):)))),(aC 4 pq.nd (4+9:))]),(bI (4!=(dI AW rfl B.uP boot_int #[-2])*(aL K (1:) (3:)):) (aJ (aF iy)) bJ)]),(aF iy)],?_};let c6:=ok.c6;let⟨lp,lt⟩:=azg c6;let es:wj (wK bot ps) (eZ "; ")=au bot::ps.map jm:=Rl aJj 0.1 (cj.mpr {Km 0.3 0.3,λw hw=>by
  let⟨p,_,rfl⟩:=bN.mp hw;show aMG p})
 show{rfl,wK bot ps,(),rfl,0.0,⋯,λv G=>?_};rw[es];let⟨H2,o,O,h2⟩:=nw G (.lst (au bot::ps.map jm)[10]);rw[o,!{12,rfl,0.3,0.3,kI (lo:=0) (n:=12) (λi a H'=>CL λo3 C l f e d c m ak cV=>a=[(wK bot ps)[6],l1[4],v[4],o3,C,l,f,e,d,c,m,ak,cV]/\Same H2 H') {_,_,_,_,_,_,_,_,_,(),Same.refl _} ?_ ?_}]
 .rintro n a H3 hn ⟨o3,C,l,f,e,d,c,m,ak,cV,rfl,s⟩;let e0:(0+n[0])=(n:Int):=dO _;rw[e0];let h3:=s _ _ h2;show{(),.inl {_,aj.of h3,λD4 qX=>?_}};rw[show fP (au bot::ps.map jm)[10] (ι 1) ν=(ps.map jm)[10] from Qo _ 1];let⟨H4,o,g4,h4⟩:=nw qX (.lst (ps.map jm)[10]);rw[o,!{D4,rfl,.inl {{_,aj.of h4},?_}}];show Lw (jB (aj.of h4)) (λi a H'=>XU λl f e d c m ak cV=>a=[(wK bot ps)[6],l1[4],v[4],n[5],((ps.take i).map λp=>GY p n).sum[5],l,f,e,d,c,m,ak,cV]/\Same H4 H') {_,_,_,_,_,_,_,(),Same.refl _} (λi a H' ⟨_,_,_,_,_,_,_,_,_,g⟩=>g) ?_ ?_
  .rintro i x a H5 hx ⟨l,f,e,d,c,m,ak,cV,rfl,L⟩;rw[dh,Î,SX]at hx;ext P W rfl hx;let mem:=Ð W;obtain⟨a6,t,⟨ne,l4⟩,u⟩:=c6.p P mem;let lP:=lp P mem;show{rfl,jm P,(),rfl,0.0,⋯,λD6 ML=>?_};rw[show PySem.Txt.partition (jm P) (eZ ": ")=(au P.1,(": ":Str),jC P.2)from aNs TZ (Km 0.3 0.3) (He 0.3 0.3 0.3)];let Z:=L.trans (Same.new ML (.tup [.str (au P.1),.str ": ",.str (jC P.2)]));show{D6,(),ao.of aB,rfl,_,(),_,(),"",?_};generalize upd H5 D6 _=H6 at Z⊢;let lsp:(jC P.2)[_]<=3100:=cD (by unfold jm;rw[m9,1]) lP;show{rfl,jC P.2,(),rfl,#v[jM,0],⋯,λD7 D=>?_};rw[jM,show wj (jC P.2) (Tx.one 32)=P.2.map au from GR 0.3 (λy=>ne (Us.mp y)) λw hw=>by
    let⟨z,_,rfl⟩:=bN.mp hw;show kT z]
   let⟨H7,o,g7,X⟩:=nw D (.lst (P.2.map au)[10]);rw[o,!{D7,rfl,.inl {{_,aj.of X},?_}}];let T:Bd 10 (n:Int):=Bd.of ⋯ ⋯;let Y:∀j,Bd 1990 (Pm.co P.2 j):=λj=>iK (λx hx=>(u x hx).2) j;let N:∀j,j<=4->Bd 41 ((n:Int)^j):=λj hj=>(Br T j).mono ⋯;let bS:∀j,j<=4->Bd 2040 (Pm.sm j λk=>Pm.co P.2 k*(n:Int)^k):=λj hj=>(vW j λk hk=>(Y k).mul (N k ⋯)).mono ⋯;show Lw (jB (aj.of X)) (λj a H'=>Ž λak cV=>a=[(wK bot ps)[6],l1[4],v[4],n[5],((ps.take i).map λp=>GY p n).sum[5],(jm P)[6],(au P.1)[6],ι (.str ": "),(jC P.2)[6],(Pm.sm j λk=>Pm.co P.2 k*(n:Int)^k)[5],((n:Int)^j)[5],ak,cV]/\Same H7 H') {_,(),Same.refl _} (λi a H' ⟨_,_,_,g⟩=>g) ?_ ?_
   .rintro j x a H8 hx ⟨ak,cV,rfl,J⟩;rw[dh,Î,SX]at hx;ext y hy rfl hx;let⟨jl,ej⟩:=Ú.mp hy;let A:=qu (u y (Ð hy)).1;let U:Pm.co P.2 j=y:=(mC jl).trans ej;show{au y,y,rfl,A.1,⋯,jA (U▸Y j) (N j ⋯) 0.3,jA (N j ⋯) T 0.3,(au y)[6],cV,?_,J};rw[oN,<-U,0]
   .rintro a H8 ⟨ak,cV,rfl,J⟩;rw[aA,aA];let S0:=bS P.2[_] l4;generalize eS:Pm.sm P.2[_] (λk=>Pm.co P.2 k*(n:Int)^k)=Sv at S0;show{n[0],rfl,(0.6:-(2^62)<=n[0]),(⋯:(n:Int)<2^62),?_};rw[dg,!kI (lo:=0) (n:=n) (λk a H'=>∃cV,a=[(wK bot ps)[6],l1[4],v[4],n[5],((ps.take i).map λp=>GY p n).sum[5],(jm P)[6],(au P.1)[6],ι (.str ": "),(jC P.2)[6],(Sv*P.1^k)[5],((n:Int)^P.2[_])[5],ak,cV]/\Same H8 H') {cV,#v[Ac,m7],Same.refl _} ?_ ?_]
    .rintro k a H9 hk ⟨cV,rfl,I⟩;let A:=qu a6;show{au P.1,P.1,rfl,A.1,⋯,jA (S0.mul (Br t k)) t ⋯,(0+k[0])[5],?_,I};rw[oN,<-iT,0]
    .rintro a H9 ⟨cV,rfl,I⟩;show{(jm P)[6],(au P.1)[6],ι (.str ": "),(jC P.2)[6],(Sv*P.1^n)[5],((n:Int)^P.2[_])[5],ak,cV,?_,Z.trans (g7.trans (J.trans I))};rw[zp,W,eG,!_=[_,_,_,_,ι (V.int ((_++[GY P n]).sum)),_,_,_,_,_,_,_,_]];rw[ayx];unfold GY;rw[eS,fO (P.1^n),0]
  .rintro a H5 ⟨l,f,e,d,c,m,ak,cV,rfl,L⟩;rw[aA,aA,qw];let S:=g4.trans L;let u:=qu c6.b;show{¬(S _ _ h3),at0,au bot,bot,rfl,u.1,⋯,¬(S _ _ (s _ _ (O _ _ p1))),j7 ⋯,jA ok.1 (R.bd n) ⋯,(),?_};rw[cf n hn,show Qd ps n=(ps.map λp=>GY p n).sum from rfl,É rfl,!bO {_,_,_,_,_,_,_,_,_,(),s.trans S}]
 .rintro a H3 ⟨o3,C,l,f,e,d,c,m,ak,cV,rfl,s⟩;show q _ (O.trans s)
theorem aHU(F:Fn K mg "_law_exact" iF ["_law_desk","_law_first","_law_number_here"])(oY:Kz P w K mg base cN)(U:Aj P w K mg base cN)(di:t? M):w? P w K mg base cN:=by
 delta wW
 ext p d l1 n M0 N r rfl hD hN hm R z p1 hn q h;show{_,#[(),(fu (i:=3) wW.nd rfl (dR rfl) (aL K (fX #[_,_,_,_]) (2%_:))),(bI (PW.pt (jc ((qF D.ni.cl U hr (0:) #[(""+(dI qP rfl B.nq boot_str #[3]):)])!="":) (mD ((aq oY hr #[0,""])!=(c7 (sc:=aCv) (N:=["_law_one","_law_prime"]) (ix:=[ν,ι 3]) cF rfl (dF K (1:)) (((aX 0 cG),cP,(0%1:)) :)):)))) (aJ (aF iy)) bJ),(fu (i:=5) wW.nd rfl (dR rfl) (_+2/_%_:)),(lK (i:=6) (hN:=wW.nd) (hi':=rfl) (hx:=(ju rfl)) (sc:=axV) (N:=["_law_k","_law_divisor","_law_first"]) (ix:=[ν,ι 5,ι 1]) cF rfl (dU rfl B.dw #[_]) (((aX 0 cG),(BH ((aL K (2:) (_+_*0:))%1!=_:)),(0:)) :)),(aC 7 wW.nd (qF D.ni.cl U hr (0:) #[(""+(dI qP rfl B.nq boot_str #[5])+"":)])),(vM (bI (PW.pt (jc (PW.pt (FT (7!="":) (Fg (7!=""+(dI qP rfl B.nq boot_str #[(aL K (6+(fX #[_]):) aR)]):)))) (mD ((kJ (pQ K hr) (7:) gj (mq _))!=(kJ (pQ K hr) (6:) (fX jF) (mq _)):)))) (aJ (aF iy)) bJ)),(aC 8 wW.nd (dI AW rfl B.uP boot_int #[(qF D.ni.cl U hr (0:) #[""])])),(aC 9 wW.nd aR),(gq Ë rfl (dF K (1:)) (aX 4 wW.nd) (aJ (ug Ë (4!=_:) (aJ (awT (i:=9) (j:=4) rfl wW.nd rfl rfl 0.3 rfl rfl #[4,(oX aNM (9:) (4:))] (by rfl)))))),(bI ((fW DP rfl B.Cz boot_abs #[9])!=8:) (aJ (aF iy)) bJ),(aC 7 wW.nd (qF D.ni.cl U hr (0:) #[""])),(aF (VJ (kJ (pQ K hr) (7:) gj (mq _)) (NV (aq di hr #[7,1]))))],?_};let hB:=R.sm.wf.hB;let big:10000<=Ê:=0.3;ext e1 e2 e3 e4 e5 s1 s2 s3 aBI;let T:=m5 (s:="a") 0.0;show{cU 4,λlo hlo=>?_};let g0:=Same.new hlo (.lst [V.int 2,.int 3,.int 5,.int 7]);show{"",(0.3:(0:Int)<4),¬aB,fG (ns:=[2,3,5,7]) (vD _ 0.3) (uN _ 0.3),?_};let⟨P,eP,pP,P2,P7⟩:=aUZ (n:=n);rw[eP];generalize upd H lo _=H0 at g0;let Z:((P:Nat):Int).natAbs<10^60:=jD (0.6:((P:Nat):Int).natAbs<=7) 0.0;let lP:(eZ (toString (P:Int)))[_]<=61:=oH Z;let D0:=hD.same g0;ext dx hp D0.ob;show{p,dx,(),hp,qU,P[0],rfl,qY Z,#v[s1],?_};show wH (M:=M0) (n:="q") (k:=.rest) (w:="rest") (was:=[.a "a" r,.by_ P]) rfl (by rw[e1,show eZ (toString (P:Int))=au P from rfl];simp only[fR,Wa.word,join_cons,rN,pJ]) 0.0 (show jT "rest" ["NEW","A","BY"]from oh 0.0) (0.3:2<=19) 0.0 (λM' ea _=>cj.mpr {{T,ea.trans hm},cj.mpr {{pP,⋯},nofun}}) (.rest R.sm z ⋯ ⋯) H0 M0 N D0 ⋯ rfl rfl _ _ λrq H1 vq sd1 D1=>?_;let S:=hD.lst (jd.of g0 sd1) p1;let mA:(M0.put "q" rq) "a"=ι r:=(Â 0.0).trans hm;dsimp only[tC];show Ca (K:=K) rfl {(),bO ?_};let fq:∀i,i<40->F6 (Rm.tk (P:Int) (r.at i)):=λi _=>by
  rw[mz ⋯];let:=pW (r.at i) (⋯:(P:Int)≠0);let:=qQ (r.at i) (⋯:(0:Int)<P);show F6.bd (u:=10) (Bd.of ⋯ ⋯) 0.3
 show{p,d,"q",_,N+1,λi=>Rm.tk (P:Int) (r.at i),rfl,D1,⋯,m5 0.0,Md.kp (Á rfl) vq,fq,λl2 H2 g2 _ h2=>?_};let p2:=g2 _ _ S;show{l1,rfl,.inl {{_,aj.of p2},yr (jB (aj.of p2)) #v[bZ,3] rfl (λx=>x%P[0]) ?_ ?_}}
 .intro H3 x G hx kk l;show{"",(⋯:(0:Int)<P),l}
 intro D3 sX;let G:=Same.new sX (.lst ((aD 40 r.at).map λx=>x%P[0])[11]);show vP (aj.of (G _ _ h2)) (aj.of aB) {(),?_};rw[É (by unfold aD;rw[dh,!jx λk _=>mz ⋯ _])];generalize upd H2 D3 _=H3 at G;show bO ?_;replace G:=g2.trans G;let p3:=G _ _ S;let Rf:=D1.same G;clear g0 g2 h2 D0 D1 hp p2 fq;obtain⟨b,eV,v2,v8⟩:∃b:Nat,2+n/4%7=b[0]/\2<=b/\b<=8:={(2+n/4%7).toNat,0.7,0.7,0.7};show{"",{0.3,0.3},"",(0.3:(0:Int)<7),10,rfl,0.3,0.3,?_};rw[eV];let L:(0:Int)<b:=⋯;show K7 (lo:=0) (n:=10) (cU 10) rfl (λk=>!decide (r.at (3+2*k)%b[0]=0)) ?_ ?_ ?_
 .intro H5 k X hk kk l;rw[vL]at l;let e:(3:Int)+2*((0:Nat)[0]+k[0])=(3+2*k:Nat)[0]:=0.6;show{jA (m:=10) (n:=10) (Bd.of 0.6 0.6) (Bd.of ⋯ ⋯) 0.3,_,V.int (r.at (3+2*k)),.inl (aj.of (X _ _ p3)),#v[e,!j7 ⋯],"",L,(),l}
 .intro H5 k X hk kk l;show(l)
 intro J qX;generalize eH:upd H3 J _=H4;let g4:Same H3 H4:=eH▸Same.new qX _;let h4:H4 J=(cW (λk=>!decide (r.at (3+2*k)%b[0]=0)) 0 10)[11][2]:=#v[-eH,!aB]
 clear eH;let⟨dx,hp⟩:=(Rf.same g4).ob;let I:((b:Nat):Int).natAbs<10^60:=jD (0.6:((b:Nat):Int).natAbs<=8) 0.0;let lV:(eZ (toString (b:Int)))[_]<=61:=oH I;let A:∀{x:Rw} {M:dB},M "a"=ι x->wU M (.a "a" x):=λe=>{T,(e)};let ZV:∀i:Nat,i<=9->(i:Nat)[0].natAbs<10^60:=λi h=>jD (0.6:((i:Nat):Int).natAbs<=9) 0.0;show{p,dx,(),hp,qU,b[0],rfl,qY I,#v[s2],#v[m9,s2,s3],?_};show v7 (Rf.same g4) ⋯ (w:="divides") (was:=[.a "a" r,.num b,.num 3,.num 2]) (by rw[e2,e3,show eZ (toString (b:Int))=au b from rfl];simp only[fR,Wa.word,join_cons,rN,pJ]) 0.0 (show jT "divides" ["A","NUMBER","NUMBER","NUMBER"]from oh 0.0) (0.3:4<=20) (cj.mpr {A mA,cj.mpr {I,cj.mpr {ZV 3 0.3,cj.mpr {ZV 2 0.3,nofun}}}}) (.tell (k:=.divides) (.divides (x:=b) (y:=3) (z:=2) (R.sm.mono 0.3) z L 0.7 {0.3,0.3,0.3,0.3}) λt H5 o X=>?_);subst o;let Hq:=g4.trans X;let W:=X _ _ h4;let p5:=Hq _ _ p3;show ur.by (λf H'=>f=[p[4],l1[4],n[5],P[5],ν,b[5],J[4],(A8 (vQ r b 3 2))[6],ν,ν]/\Same H3 H') (λNN mJ=>?_) ?_
 .let fin:∀H',Same H5 H'->NN [p[4],l1[4],n[5],P[5],ν,b[5],J[4],(A8 (vQ r b 3 2))[6],ν,ν] H':=λH' g=>mJ _ _ {rfl,Hq.trans g};cases e:vQ r b 3 2 with
  |none=>
   let al:∀k,(b:Int)∣r.at (3+2*k):=aGl R z (s:=3) (e:=2) 0.3 λk hk=>by
    let:=BO e k hk;rw[Y0 R z L]at this;show Hv this[7]
   rw[So λj _=>#v[É (AU (al j)),0]]at W;rw[e]at fin;dsimp only[aCT,tOr,aPt,eM,C9,Ends.wn,Ends.fn];show Xg.mk rfl (T6 rfl {(),bO (bO ?_)});show Xg.mk rfl (T6 rfl ?_);show{cU 0,λl7 O=>?_};let C:=Same.new O (.lst []);show vP (ns:=[]) (ms:=[]) (aj.of (C _ _ W)) (aj.of aB) {(),?_};show bO (fin _ C)
  |some i=>
   let⟨i1,i2,i3⟩:=PM e;let l3:=R.l3;let⟨t,o⟩:=VI (p:=λk=>!decide (r.at (3+2*k)%b[0]=0)) (n:=10) (i:=i) ⋯ (by rw[Y0 R z L]at i2;simpa using i2) λj hj=>by
    let:=i3 j hj;rw[Y0 R z L]at this;simpa using this
   rw[o]at W;rw[e]at fin;let Qf:((i:Nat):Int).natAbs<10^60:=ZV i ⋯;let li:(eZ (toString (i:Int)))[_]<=61:=oH Qf;let ny:A8 (ι i)≠ "yes" := λy=>by
    let h1:(A8 (ι i))[8]=("no ":Str)[8]++(au (i:Int))[8]:=by
     unfold A8;rw[Ii,Gz]
    rw[y,show("yes":Str)[8]=[121,101,115]by decide +kernel,show("no ":Str)[8]=[110,111,32]by decide +kernel]at h1;cases h1
   dsimp only[aCT,tOr,aPt,eM,C9,Ends.wn,Ends.fn];show Xg.mk rfl (Df ny {(),gk ?_});let lw:=Bm (λk=>!decide (r.at (3+2*k)%b[0]=0)) 0 10;rw[o,gh]at lw;show{cU 1,λl7 O=>.inl {_,_,Same.new O _ _ _ W,aB,by rw[aA,gh,!t[_]+1+1<=Ê];lia,λl8 uo=>?_}};let g8:=(Same.new O (.lst [V.int 99])).trans (Same.new uo (.lst (((i:Int)::t)[11]++[V.int 99])));show{¬aB,at0,i[0],rfl,qY Qf,#v[ϰ],?_};show Ca (K:=K) rfl {(),bO (Xg.mk rfl (Df ny ?_))};generalize upd _ l8 _=H8 at g8;show{cU 0,λl9 hl9=>?_};let g9:=g8.trans (Same.new hl9 (.lst []));show vP (ms:=[]) (aj.of (g9 _ _ W)) (aj.of aB) ?_;rw[Ì 0.1,!{(),bO (fin _ g9)}]
 rintro f H6 ⟨rfl,g6⟩;let D6:=Rf.same g6;ext dx hp D6.ob;show{p,dx,(),hp,qU,?_};show v7 D6 ⋯ (w:="divisor") (was:=[.a "a" r]) e4 0.0 (show jT "divisor" ["A"]from oh 0.0) (0.3:1<=20) (cj.mpr {A mA,nofun}) (.tell (k:=.divisor) (.divisor (R.sm.mono 0.3) z) λt H7 o C=>?_);subst o;let gb:F6 (iQ 0 r.ς:Nat)[0]:=F6.bd (Q4 R.sm 0.3) 0.3;let yg:=qu gb;show{_,(),yg.1,let:=yg.2;⋯,?_};let p7:=C _ _ (g6 _ _ p3);replace C:=g6.trans C;show{l1,rfl,.inl {{_,aj.of p7},?_}};show Lw (jB (aj.of p7)) (λi f H'=>Ž λ(o4:Option V) (s:Int)=>NZ (f=[p[4],l1[4],n[5],P[5],o4,b[5],J[4],(A8 (vQ r b 3 2))[6],(iQ 0 r.ς:Nat)[0][5],s[5]]) (s.natAbs=iQ 0 ((aD 40 r.at).take i)) (H7=H')) {_,0,rfl,rfl,rfl} (λi f H' ⟨_,_,_,_,z⟩=>z▸Same.refl _) ?_ ?_
 .rintro i x f H' hx ⟨o4,s,rfl,Y,rfl⟩;let⟨rfl,hi⟩:=QH hx;show{λt f H'=>Ž λ(u v:Int)=>SY (t=v.natAbs) (m6 u.natAbs v.natAbs=iQ 0 ((aD 40 r.at).take (i+1))) (f=[p[4],l1[4],n[5],P[5],v[5],b[5],J[4],(A8 (vQ r b 3 2))[6],(iQ 0 r.ς:Nat)[0][5],u[5]]) (H7=H'),{_,s,(),#v[Y,V5 0 hi],rfl,rfl},?_};rintro t f H' ⟨u,v,rfl,hg,rfl,rfl⟩;show{(),?_};by_cases c:v=0
  .rw[É c];rw[c]at hg;show bO {_,u,#v[c],#v[-hg,2],rfl}
  .rw[Ì c];show gk {_,λ_ _ w=>w,"",c,_,(),?_};show{_,aWB c,v,u.fmod v,rfl,(aDV u v).trans hg,rfl,rfl}
 .rintro f H' ⟨o4,s,rfl,Y,rfl⟩;rw[aA,qw,aOz R z]at Y;show{s,rfl,?_};rw[Ju,Y];let D7:=Rf.same C;ext dx hp D7.ob;show Xg.mk rfl (Ih (K:=K) rfl {(),bO {p,dx,(),hp,qU,?_}});show v7 D7 ⋯ (w:="closed") (was:=[.a "a" r]) e5 0.0 (show jT "closed" ["A"]from oh 0.0) (0.3:1<=20) (cj.mpr {A mA,nofun}) (.tell (k:=.closed) (.closed {R.sm,z,R.l3,R.s3 z}) λt H8 o g8=>?_);rcases o with rfl|⟨bot,ps,ok,cf,rfl⟩
  .dsimp only[jq,BG,aFe,C9,Ends.wn,Ends.fn];exact Xg.mk rfl (T6 rfl {(),gk (q _)})
  .refine{(),cT (λ_=>q _) λ_=>?_};show{l1,r,bot,ps,rfl,ok,cf,g8 _ _ p7,R,λH' _=>q H'}
theorem aTS(F:Fn K mg "_law_rounds" XM ["_law_desk","_law_by_here","_law_first","_law_number_here"])(Aq:dk M)(iB:Aj P w K mg base cN):w_ P w K mg base cN:=by
 delta wC
 ext p d l1 n M0 N r rfl hD hN W R z p1 q h;show{_,#[(),(uU (aq Aq hr #[(qF D.ni.cl iB hr (0:) #[""])]) (LF K (n:=2) rfl (wz (aX 4 wC.nd) (wz (aX 5 wC.nd) Qa)))),(gq Ë rfl (Ce rfl B.dw #[4,(_-5:)]) (aX 6 wC.nd) (aJ (bI ((aL K (2:) (6:))!=(aL K (2:) (6+5:)):) (aJ (aF iy)) bJ))),(fu (i:=7) wC.nd rfl (dR rfl) (3%1:)),(uU (mZ K oJ GX Ej Gu (qF D.ni.cl iB hr (0:) #[(""+(dI qP rfl B.nq boot_str #[7]):)]) gj) (LF K (n:=3) rfl (wz (aX 8 wC.nd) (wz (aX 9 wC.nd) (wz (aX 10 wC.nd) Qa))))),(bI ((dI AW rfl B.uP boot_int #[10])!=5:) (aJ (aF iy)) bJ),(aC 11 wC.nd (aq Aq hr #[8])),(gq Ë rfl (dF K (aq Aq hr #[9])) (aX 12 wC.nd) (aJ (eU (LN K (11:) (ayY rfl rfl B.Ay rfl B.dw #[12,_,5]))))),(aF (kJ (pQ K hr) (fW aEr rfl B.aMK aHk #[(c7 (sc:=aUi) (N:=["_law_n"]) (ix:=[ν]) cF rfl (dF K (11:)) (((aX 0 cG),(BH (0<_:)),(0:)) :))]) (c7 (sc:=axf) (N:=["_law_n","_law_first","_law_wished"]) (ix:=[ν,ι 2,ι 7]) cF rfl (dU rfl B.dw #[_]) (((aX 0 cG),(BH ((aL K (1:) (0:))==2:)),(0:)) :)) (mq _)))],?_};let big:200000<=Ê:=0.3;let lQ:=R.lQ;ext e1 e2 s1 aEu;let A:wU M0 (.a "a" r):={m5 0.0,W};let sm:=R.sm.mono (0.3:10<=480);ext dx hp hD.ob;show{p,dx,(),hp,qU,?_};show v7 hD ⋯ (w:="round") (was:=[.a "a" r]) e1 0.0 (show jT "round" ["A"]from oh 0.0) (0.3:1<=20) (cj.mpr {A,(nofun)}) (.tell (k:=.round) (.round sm z lQ) λt H1 et g1=>?_);ext bg ln rd rfl et;let lp:=rd.rd.pos;let le:=rd.le;let T:∀i:Nat,i<=1000->F6 (i:Int):=λi h=>F6.bd (u:=10+1) (Bd.of ⋯ ⋯) 0.3;show{_,[bg[0],ln[0]],rfl,ID 0.1 (0.3:2<=160) (cj.mpr {T bg ⋯,cj.mpr {T ln ⋯,nofun}}),λl2 H2 g2 _ h2=>?_};let fZ:=g1.trans g2;show{l2,(),aj.of h2,rfl,_,(),"",?_};let p2:=fZ _ _ p1;show{"",_,(),{⋯,⋯,⋯,⋯},kI (lo:=bg[0]) (n:=((40:Int)-ln-bg).toNat) (λi g H'=>∃S,g=[p[4],r.b[5],l1[4],n[5],bg[5],ln[5],S,ν,ν,ν,ν,ν,ν]/\H2=H') {(),rfl} ?_ ?_}
 .rintro i g H' hi ⟨S,rfl,rfl⟩;let e:r.at (bg+i)=r.at (bg+i+ln):=by
   let:=qO.per R rd i;rw[<-this,(⋯:bg+ln+i=bg+i+ln)]
  show{_,V.int (r.at (bg+i)),.inl (aj.of p2),#v[(0.6:(bg:Int)+i[0]=(bg+i:Nat)[0]),!j7 ⋯],_,V.int (r.at (bg+i+ln)),.inl (aj.of p2),#v[(0.6:(bg:Int)+i[0]+ln[0]=(bg+i+ln:Nat)[0]),!j7 ⋯],Ih (K:=K) e {(),bO {(),rfl}}}
 rintro g H' ⟨S,rfl,rfl⟩;obtain⟨w,ew,w0,w1⟩:∃w:Int,n%r.b=w/\0<=w/\w<r.b:={(),pW _ ⋯,qQ _ z};let D2:=hD.same fZ;ext dx hp D2.ob;let WM:w.natAbs<10^60:=jD (⋯:w.natAbs<=13) 0.0;let lw:(eZ (toString w))[_]<=61:=oH WM;show{"",z,p,dx,(),hp,qU,n%r.b,rfl,(ew▸qY WM),?_};rw[ew,!{#v[s1],?_}];show v7 D2 ⋯ (w:="where") (was:=[.a "a" r,.num w]) (by rw[e2,show eZ (toString w)=au w from rfl];simp only[fR,Wa.word,join_cons,rN,pJ]) 0.0 (show jT "where" ["A","NUMBER"]from oh 0.0) (0.3:2<=20) (cj.mpr {A,cj.mpr {WM,(nofun)}}) (.tell (k:=.where_) (.where_ sm z lQ) λt H3 et g3=>?_);ext qd ln' O rfl et;let⟨rfl,rfl⟩:=qO.uniq rd O;rw[mz ⋯,Ph w0 w1];obtain⟨f,v⟩:∃f,f=jO r.at w:={()};rw[<-v];let k1:=Ts (p:=f) (lo:=0) (n:=bg) ⋯;let k2:=Ts (p:=f) (lo:=bg) (n:=ln) 0.9;let l1':=Bm f 0 bg;let l2':=Bm f bg ln;let k3:((ln:Nat):Int).natAbs<10^60:=jD (0.7:((ln:Nat):Int).natAbs<=1000) 0.0;let wl:=aIl k1 k2 k3 ⋯;show{rfl,"",#v[DC,0],0.9,λD4 qX=>?_};rw[DC,aVm];let⟨H4,uu,g4,h4⟩:=nw qX (.lst ([Õ (Tx.one 32) ((cW f 0 bg).map au++[("":Str)]),Õ (Tx.one 32) (("":Str)::((cW f bg ln).map au++[("":Str)])),Õ (Tx.one 32) [("":Str),au ln]]:List Str)[10]);rw[uu];show{D4,(),aj.of h4,rfl,_,(),_,(),"",?_};let IK:=g3.trans g4;let p4:=IK _ _ p2;let il:PySem.intText? (Õ (Tx.one 32) [("":Str),au ln])=ι (ln:Int):=by
  rw[join_cons,rN,Sx,aK6 λc hc=>HN _ c hc,!(qu (T ln ⋯)).1]
 let ll:(Õ (Tx.one 32) [("":Str),au ln])[_]<=640:=by
  rw[join_cons,rN,Sx,m9];let:=(qu (T ln ⋯)).2;show 1+_<=640;lia
 show{_,ln[0],rfl,il,ll,Xg.mk rfl (Ih (K:=K) rfl {(),bO ?_})};let⟨nX,nY⟩:=Xi (IP k1 ⋯).1 (IP k2 ⋯).2;generalize Õ (Tx.one 32) ((cW f 0 bg).map au++[("":Str)])=X at nX;generalize Õ (Tx.one 32) (("":Str)::((cW f bg ln).map au++[("":Str)]))=Y at nY;generalize Õ (Tx.one 32) [("":Str),au ln]=Z;show{X,cW f 0 bg,rfl,nX,λC H5 g5 zQ h5=>{Y,cW f bg ln,rfl,nY,λl6 H6 g6 Ea h6=>{l6,rfl,.inl {{_,aj.of h6},?_}}}};let p6:=g6 _ _ (g5 _ _ p4);let ne1:l1≠C:=iH p4 zQ;let ne6:l6≠C:=(iH h5 Ea).symm;let lw1:=Bm f bg ln;show aNT (xs:=(cW f bg ln)[11]) (λi g H'=>Ž λ(cV:Option V) (L:ζ)=>Tj (g=[p[4],r.b[5],l1[4],n[5],bg[5],ln[5],S,w[5],X[6],Y[6],Z[6],C[4],cV]) (Pl H' l1 r.at) (H' l6=(cW f bg ln)[11][2]) (H' C=L[11][2]) (Gp (cW f 0 bg) ((cW f bg ln).take i) ln L) (L[_]<=bg+40*i)) {_,cW f 0 bg,rfl,p6,h6,g6 _ _ h5,{Qi (Ka ..),λx=>#v[R0,2]},0.9} (λi g H' _ ⟨_,_,_,_,h,_,_,_⟩=>aj.of h) ?_ ?_
 .rintro i x g H' hx ⟨cV,L,rfl,U,q6,G,J,lL⟩;rw[Î,SX]at hx;ext s I rfl hx;let il:=(Ú.mp I).1;let⟨j,hj,_,rfl⟩:=yh.mp (Ð I);show{.inl {rfl,_,aj.of G},j[0],40,ln[0],rfl,{0.6,⋯,0.3,0.3,⋯,⋯},λl8 m W uo=>?_};let hm':m<=40:=HS λc=>by
   let:=(W 40).mp c;let:(40:Int)*1<=(40:Int)*ln:=Vf ⋯ 0.3;lia
  let o:=Same.new uo (.lst ((zx 0 m).map λi:Nat=>V.int (j[0]+i*ln[0])));show{C,l8,"",o _ _ G,aB,#v[aA,aA,Y9],_,L++(zx 0 m).map λk:Nat=>j[0]+k[0]*ln[0],rfl,?_,?_,?_,J.step I lp W,#v[fJ,aA,Y9]}
  .exact(cO ne1).trans (o _ _ U)
  .exact(cO ne6).trans (o _ _ q6)
  .rw[aB,eG,dh];rfl
 rintro g H7 ⟨cV,L,rfl,U,q6,G,J,lL⟩;rw[aA]at J lL;rw[qw]at J;let⟨fn,fm⟩:=J.fin lp λs I k=>by rw[v];unfold jO;rw[qO.pers R rd I k]
 let lf:(L.filter λx=>decide (x<40))[_]<=40:=by
  rw[((PQ fn (Qi (Ka f 0 40))).mpr fm).length_eq,!Bm f 0 40]
 let lw2:=Bm f bg ln;show{C,rfl,.inl {{_,aj.of G},oZ (jB (aj.of G)) #v[aA] rfl (λx=>match x with|.int k=>decide (k<40)|_=>false) (λx=>x) ?_ ?_ ?_}}
 .intro H8 x o hx k hk;let⟨y,_,rfl⟩:=bN.mp hx;show{"",(),hk}
 .intro H8 x o hx _ k hk;show(hk)
 intro D8 hD8;rw[show((L[11].filter λx=>match x with|.int k=>decide (k<40)|_=>false).map λx=>x)=(L.filter λx=>decide (x<40))[11] by rw[WX,OV,0]]
 let o:=Same.new hD8 (.lst (L.filter λx=>decide (x<40))[11]);show{D8,(),aB,⋯,λl9 ns' pm pw hl9=>?_};obtain rfl:=aOH fn fm pm pw;let g9:=o.trans (Same.new hl9 (.lst (cW f 0 40)[11]));let h9:(upd (upd H7 D8 (.lst (L.filter λx=>decide (x<40))[11])) l9 (.lst (cW f 0 40)[11])) l9=(cW f 0 40)[11][2]:=aB;generalize upd (upd H7 D8 _) l9 _=H9 at g9 h9;show{40,rfl,0.3,0.3,K7 (lo:=0) (n:=40) (cU 40) rfl f ?_ ?_ ?_}
 .intro kj k gw hk kk l;let e0:((0:Nat):Int)+k[0]=(k:Int):=dO _;rw[vL,v]at l;show{_,V.int (r.at k),.inl (aj.of (gw _ _ (g9 _ _ U))),#v[e0,!j7 hk],(),l}
 .intro kj k gw hk kk l;show(l)
 show λQT fN=>vP (aj.of (Same.new fN _ _ _ h9)) (aj.of aB) ?_;rw[É rfl,!q _]
theorem aMz{f:Æ}{fd:Ć}(F:wI K "law" "law" C6 f fd)(Ew:u? M)(af:zw M)(ZM:OT P w K mg base cN)(iB:Aj P w K mg base cN)(TX:OP M)(oY:Kz P w K mg base cN)(Bb:yY M)(kr:RY P w K mg base cN)(ax:CH P w K mg base cN)(Ye:L6 P w K mg base cN)(ye:w? P w K mg base cN)(gL:w_ P w K mg base cN):mQ P w K mg base (vm P w) cK f fd ["_law_script"] (df K):=by
 show F.okN (k:=23) zf (λvs H Q E h=>?_) (λcdv A outer s H vs Q E hr h=>?_)
 .ext a ns rfl _ h;rfl
 .ext a ns rfl hS hlen hbt q h;show{_,#[(),(fu (i:=1) zf.nd rfl (dR rfl) (aL K (fX #[_,_,_,_,_,_,_,_]) ((aq Ew hr #[0,_])%_:))),(lK (i:=2) (hN:=zf.nd) (hi':=rfl) (hx:=(ju rfl)) (sc:=aCQ) (N:=["_law_j","_law_by_here","_law_script"]) (ix:=[ν,ι 1,ι 0]) cF rfl (dU rfl B.dw #[_]) (((aX 0 cG),cP,(aq af hr #[1,((aq Ew hr #[2,(_+0:)])+0:),(aL K (fX #[_,_]) (dI A6 rfl B.uP boot_int #[(kJ om (1:) aR (mq _))]))])) :)),(vM (bI ((aq Ew hr #[0,_])%_==_:) (aJ (uU (iu #[1,(aL K (-2:) aR),(aL K (-2:) aR)]) (Bk (2:) aR set_list))) bJ)),(aC 3 zf.nd (aNj D.ni ZM hr rfl)),(gq Ë rfl (aDc K rfl B.ayG #[(fX #["",""]),2]) (NJ K (n:=2) rfl (wz (aX 4 zf.nd) (wz (aX 5 zf.nd) Qa))) (aJ (bI (PW.pt (jc ((qF D.ni.cl iB hr (3:) #[(""+4+""+(aq TX hr #[5]):)])!="":) (mD ((qF D.ni.cl iB hr (3:) #[(""+4:)])!=(aq TX hr #[5]):)))) (aJ (aF iy)) bJ))),(aC 6 zf.nd (aq oY hr #[3,""])),(aC 7 zf.nd (aq oY hr #[3,""])),(aC 8 zf.nd (aq Bb hr #[(aq Ew hr #[0,_]),_])),(bI (PW.pt (jc ((cJ K B.cC #[6])!=_:) (jc ((dI AW rfl B.uP boot_int #[(qF D.ni.cl iB hr (3:) #[""])])!=(-6):) (mD (jY (ji (aq kr hr #[3,6,7]))))))) (aJ (aF iy)) bJ),(bI (PW.pt (jc (jY (ji (aq Ye hr #[3,1,6,7,(8%_-_:)]))) (mD (jY (ji (aq ax hr #[3,1,6,8])))))) (aJ (aF iy)) bJ),(bI (1==_:) (aJ (aF (aq ye hr #[3,6,8]))) bJ),(aF (aq gL hr #[3,1,6,8]))],?_};show{cU 8,λlo hlo=>?_};let g0:=Same.new hlo (.lst [V.int 0,.int 0,.int 2,.int 3,.int 5,.int 7,.int 11,.int 13]);let c8:=uN (cellAt ns 0) (0.3:(0:Int)<8);let c0:=vD (cellAt ns 0) (0.3:(0:Int)<8);show{a,ns,0,rfl,g0.seq hS,0.3,"",(0.3:(0:Int)<8),¬aB,fG (ns:=Vm) c0 c8,?_};let⟨hb,lQ⟩:=aDZ (cellAt ns 0%8).toNat 0.6;generalize Vm.getD (cellAt ns 0%8).toNat 0=b at hb lQ;let G:=g0.seq hS;generalize upd H lo _=H0 at g0 G⊢;show{2,rfl,0.3,0.3,xB (A9 (lo:=0) (n:=2)) (xs:=[(),()]) 0.1 0.3 rfl (λ_ v _ H=>∃r,cL H v r/\R3 r/\r.b=b) (λx y D H' H2 zs hd g ⟨r,⟨a,p,p2,e,h1,h2,h3⟩,k⟩=>{r,{a,p,p2,e,g _ _ (v9 h1 hd nofun) h1,g _ _ (v9 h2 hd nofun) h2,g _ _ (v9 h3 hd nofun) h3},k}) ?_ ?_}
  .intro D1 H1 k x u g1 _ hx hu kk hkk;let hk:k<2:=(Ú.mp hx).1;rw[Î,ú hk]at hu;obtain rfl:=(nQ hu).symm;let⟨m0,m3,m2⟩:=aRJ b;show{a,ns,(),g1.seq G,(⋯:(0:Int)<=1+(0+k[0])),cU 2,λlm hlm=>?_};show{"",.inr {(),¬aB,aKh b,b,_,(),hb,m0,m3,m2,λv r H2 g2 hR hSm eb l3 s3=>?_}};show hkk v H2 ((Same.new hlm _).trans g2) {r,hR,{hSm,l3,λz=>s3 (eb▸z),eb▸lQ},eb}
  intro l2 H1 ys hl2 g1 h1 hp;obtain⟨v1,_,rfl,⟨l,dD,I,b1⟩,hp⟩:=d7 hp;obtain⟨v2,_,rfl,⟨r2,gM,R2,b2⟩,hp⟩:=d7 hp;obtain rfl:=Ϡ hp;let Z:=g1.seq G;show ur.by (λj H'=>Ž λO m=>T5 (j=[a[4],b[5],l2[4],ν,ν,ν,ν,ν,ν]) (aj K H' a ns[11]) (H' l2=[v1,O][2]) (cL H' v1 l) (cL H' O m) (R3 m) (m.b=b)) (λNN mJ=>?_) ?_
  .refine{a,ns,3,rfl,Z,0.3,"",(0.3:(0:Int)<4),(),cT (λ_=>?_) (λ_=>mJ _ _ {v2,r2,rfl,Z,h1,dD,gM,R2,(b2)})};ext a1 t1 t2 rfl k1 k2 k3 dD;show{¬h1,at0,!k1,Ų,¬h1,at0,!k1,at2,cU 3,λt3 zX=>?_};let S:=Same.new zX (.tup [.int b,.ref t1,.ref t2]);let k4:(upd H1 t3 (.tup [.int b,.ref t1,.ref t2])) t3=[.int b,.ref t1,.ref t2][3]:=aB;generalize upd H1 t3 _=H3 at S k4;let h3:=S _ _ h1;let ne:∀{c:Æ} {xs:τ},H3 c=xs[3]->c≠l2:=λe=>v9 e h3 nofun;let U:∀{c:Æ} {xs:τ} {o:HO},H3 c=xs[3]->(upd H3 l2 o) c=xs[3]:=λe=>(cO (ne e)).trans e;show{l2,_,1,1,rfl,rfl,h3,rfl,mJ _ _ {.ref t3,l,rfl,((g1.trans S).upd hl2 _).seq G,aB,{a1,t1,t2,rfl,U (S _ _ k1),U (S _ _ k2),U (S _ _ k3)},{t3,t1,t2,rfl,#v[b1,!U k4],U (S _ _ k2),U (S _ _ k3)},I,b1}}
  rintro j H2 ⟨O,m,rfl,hS2,h2,dD,hR3,UY,b3⟩;clear g1 Z h1 gM R2 b2 G g0 hS;show λp dx hp hdx hne=>{p,dx,rfl,aB,λd H4 hd D4 same=>{rfl,?_}};let g4:Same H2 H4:=λb' o e0=>same b' o #v[cO (iH e0 hp),cO (iH e0 hdx),!e0] (iH e0 hp);ext e1 e2 s1 s2 s3 e3 VQ;let big:10000<=Ê:=0.3;show{cU 2,λlz hlz=>?_};let gz:=g4.trans (Same.new hlz (.lst [V.str "a",.str "b"]));show{lz,l2,[V.str "a",.str "b"],[v1,O],rfl,aj.of aB,aj.of (gz _ _ h2),ay1 (λi j H'=>BQ λo4 o5 M=>H_ (j=[a[4],b[5],l2[4],p[4],o4,o5,ν,ν,ν]) (aj K H' a ns[11]) (H' lz=[V.str "a",.str "b"][2]) (H' l2=[v1,O][2]) (cL H' v1 l) (cL H' O m) (fH cN H' p d M i) ((0<i->M "a"=ι l)) ((1<i->M "b"=ι m))) {_,_,(),gz.seq hS2,aB,gz _ _ h2,dD.same gz,hR3.same gz,D4.same (Same.new hlz _),λz=>È z 0.3,λz=>È z 0.3} (λi j H' ⟨_,_,_,_,_,k1,k2,_,_,_,_,_⟩=>{aj.of k1,aj.of k2}) ?_ ?_}
  .rintro i x y j H5 pz hx hy ⟨o4,o5,J,rfl,Nb,k5,h5,q1,q3,L,W,mb⟩ hpz;let R:=Same.new hpz (.tup [x,y]);let hi:i<2:=(Ú.mp hx).1;obtain⟨s,r,rfl,hRy,Rr,hs,hc⟩:Ž λ(s:Str) (r:Rw)=>Fe (x=.str s) (cL H5 y r) (R3 r) (s∈Ab) (((i=0/\s = "a" /\ r=l)∨(i=1/\s = "b" /\ r=m))):=by
    obtain rfl|rfl:i=0∨i=1:=⋯
    .cases hx;cases hy;show{"a",l,rfl,q1,I,0.0,.inl {rfl,rfl,(rfl)}}
    .cases hx;cases hy;show{"b",m,rfl,q3,UY,0.0,.inr {rfl,rfl,(rfl)}}
   show{pz,(),ao.of aB,rfl,_,(),"",?_};generalize upd H5 pz _=H6 at R;let t8:=Rr.sm.t8;let tl:=t8.X4;let os:=m5 hs;let sl:=os.hi;let D6:=L.same R;ext dx C D6.ob;show{p,dx,(),C,qU,#v[s1],#v[m9,s1,s3],y,r,rfl,hRy.same R,t8,λH7 g7=>{#v[m9,m9,s1,s3],?_}};show aKC (D6.same g7) ⋯ os t8 λH8 sd8 D8=>?_;show T6 rfl {(),bO ?_};let sd:=jd.of (R.trans g7) sd8;ext dx C D8.ob;let me:(J.put s r) s=ι r:=Á rfl;show{p,dx,(),C,qU,#v[s2],aQ1 D8 ⋯ os me (Rr.sm.mono 0.3) λH9 g9=>?_};let Qs:=sd.then g9;ext kvs hdd _ L.kp.ex;let row:∀{v:V} {r:Rw},cL H5 v r->cL H9 v r:=λh=>Qs.row hdd h;show{y,r,rfl,row hRy,t8,λkj Y=>Ca (K:=K) rfl {(),bO {_,_,J.put s r,rfl,?_,Y _ _ (L.lst Qs k5),Y _ _ (L.lst Qs h5),(row q1).same Y,(row q3).same Y,(D8.same g9).same Y,λ_=>?_,λz=>?_}}}
   .exact Y.seq (aj.sd Qs hdd Nb)
   .rcases hc with⟨_,rfl,rfl⟩|⟨rfl,rfl,rfl⟩
    .exact Á rfl
    .exact(Â 0.0).trans (W 0.3)
   .rcases hc with⟨rfl,_⟩|⟨_,rfl,rfl⟩
    .exact È z 0.3
    .exact Á rfl
  .rintro j H5 ⟨o4,o5,J,rfl,Nb,k5,h5,q1,q3,L,W,mb⟩;replace W:=W (0.3:0<2);replace mb:=mb (0.3:1<2);let L:fH cN H5 p d J 2:=L;let T:ϔ J l m:={W,mb,I,UY,b1.trans b3.symm};subst b1;let f6:∀{r:Rw},R3 r->∀i,i<40->F6 (r.at i):=λh i hi=>F6.bd (h.bd i) ⋯;let kp:∀{s:Str} {r:Rw},J s=ι r->R3 r->xR J s r.at:=λe h=>{_,e,h.ok,λ_=>rfl};show{p,d,"a",J,2,l.at,rfl,L,0.3,m5 0.0,kp W I,f6 I,λX H6 R _ h6=>?_};show{p,d,"b",J,2,m.at,rfl,L.same R,0.3,m5 0.0,kp mb UY,f6 UY,λl7 H7 g7 _ h7=>?_};let D7:=(L.same R).same g7;let P1:Pl H7 X l.at:=g7 _ _ h6;let P2:Pl H7 l7 m.at:=h7;let hS7:=(R.trans g7).seq Nb;show{a,ns,4,rfl,hS7,0.3,_,5,rfl,0.3,0.3,?_};let n0:=YX (cellAt ns 4) 5;generalize sE (cellAt ns 4) 5=n at n0;ext dx C D7.ob;show{.ref X,40,rfl,.inl {_,aj.of P1,#v[aA,bZ]},?_};dsimp only[tC];show Ih (K:=K) rfl {(),bO ?_};let n17:((17:Nat):Int).natAbs<10^60:=0.0
   show{p,dx,(),C,qU,?_};show v7 D7 0.3 (w:="at") (was:=[.a "a" l,.num (17:Nat)[0]]) e3 0.0 (show jT "at" ["A","NUMBER"]from oh 0.0) (0.3:2<=20) (cj.mpr {{m5 0.0,W},cj.mpr {n17,(nofun)}}) (.tell (k:=.at_) (.at_ (e:=17) (I.sm.mono 0.3) 0.3) λt H8 et g8=>?_);subst et;let y17:=qu (f6 I 17 0.3);show{_,(),y17.1,let:=y17.2;⋯,_,_,.inl (aj.of (g8 _ _ P1)),j7 (n:=17) 0.3,Ih (K:=K) rfl {(),bO ?_}};let D8:=D7.same g8;show{p,d,X,l7,J,2,l,m,rfl,D8,0.3,T,g8 _ _ P1,g8 _ _ P2,λH9 g9=>{(),bO ?_}};let D9:=D8.same g9;let CF:=g8.trans g9;let x0:=vD n (0.3:(0:Int)<19);let x1:=uN n (0.3:(0:Int)<19);show{"",(0.3:(0:Int)<19),"",p,d,X,l7,_,J,2,l,m,rfl,D9,0.3,T,CF _ _ P1,CF _ _ P2,{0.7,0.7},λkj M10 aKR V6 T10=>{(),bO ?_}};let P10:=D9.lst aKR (CF _ _ P1);show{p,d,X,n,M10,2+5,l,rfl,V6,0.3,T10.ha,I,P10,n0,λH11 M11 azN QT ZT=>{(),bO ?_}};let P11:=V6.lst azN P10;show{(),cT (λc=>?_) (λc=>?_)}
   .exact{p,d,X,n,M11,2+5+4,l,rfl,QT,0.3,ZT,I,dec_true c,P11,n0,λH'=>q H'}
   .let lo:=I.sm.wf.hB.lo;let:=dec_false c;show{p,d,X,n,M11,2+5+4,l,rfl,QT,0.3,ZT,I,⋯,P11,λH'=>q H'}
end
def all_mk{P:Þ}{w:Ý}{K:aH}{h:Û}{mg:μ}{fa:Æ}(X:K.In h)(G:h.Ns Í mg)(U:mg "law"=fa[4]){l i j b:Æ}(azd:cQ K Í "FORMS"=ι l[4]){dZ:List ý}{aBK:Nat}(aOB:K.lookup l=ι {.type "dict",ν,.dict {(dZ)} aBK,#[]})(aB5:dZ.map (λe=>({MH w.params (xY e.key),.str (xY e.key) (Px e.key),e.val}:ý))=dZ)(aAI:(l==ã)=false)(aRj:G6.all (Xr K l)=true)(ai7:(LG.all λs=>match cQ K l s with|some ν=>true|_=>false)=true)(aJm:cQ K Í "MAKERS"=ι i[4]){Y:List ý}{aRO:Nat}(aDW:K.lookup i=ι {.type "dict",ν,.dict {(Y)} aRO,#[]})(aKD:Y.map (λe=>({MH w.params (xY e.key),.str (xY e.key) (Px e.key),e.val}:ý))=Y)(ayX:(i==ã)=false)(aOj:KL.map (λp=>cQ K i p.1)=KL.map λp=>cQ K Í p.2)(axx:(KL.all λp=>match cQ K i p.1 with|some (ι _)=>true|_=>false)=true)(Au:(x?.all λs=>match cQ K i s with|some ν=>true|_=>false)=true)(aMD:cQ K Í "TELLERS"=ι j[4]){O:List ý}{aJl:Nat}(aQ0:K.lookup j=ι {.type "dict",ν,.dict {(O)} aJl,#[]})(aBP:O.map (λe=>({MH w.params (xY e.key),.str (xY e.key) (Px e.key),e.val}:ý))=O)(aBW:(j==ã)=false)(aNr:Jh.map (λp=>cQ K j p.1)=Jh.map λp=>cQ K Í p.2)(aKX:(Jh.all λp=>match cQ K j p.1 with|some (ι _)=>true|_=>false)=true)(x5:(Wn.all λs=>match cQ K j s with|some ν=>true|_=>false)=true)(aIy:cQ K Í "Desk"=ι b[4])(aVE:KP K b Str.empty=true)(aIU:U0 K b=true)(aVh:nV K b=true)(awW:qZ K (.ref b) "__setattr__"=ι (ι (.builtin "object.__setattr__")))(aPe:Tn K b=true)(aOa:su K (.ref b)=true)(axU:qZ K (.ref b) "kept"=ι ν)(F0:aN K "is_whole" V8)(F1:aN K "is_prime" pe)(F2:aN K "is_by" mT)(F3:aN K "is_number" ot)(F4:aN K "taken" kD)(F5:aN K "inverse" dP)(F6:aN K "over" Yy)(F7:aN K "are_numbers" X6)(F8:aN K "is_row" aE)(F9:aN K "shared_by" se)(F10:aN K "refuse_prime" Y8)(F11:aN K "next_place" tI)(F12:aN K "first_places" y8)(F13:aN K "refuse_far" YG)(F14:aN K "places" xv)(F15:aN K "trimmed" Yx)(F16:aN K "number_at" aS)(F17:aN K "times" Xj)(F18:aN K "divided" dy)(F19:aN K "monic" vc)(F20:aN K "greatest" aU)(F21:aN K "of_rule" vF)(F22:aN K "rule_of" Wv)(F23:aN K "sum_at" kU)(F24:aN K "prime_above" gE)(F25:aN K "divides" Ww)(F26:aN K "taken_poly" pf)(F27:aN K "nearest" Xd)(F28:aN K "joined" k8)(F29:aN K "whole_greatest" mN)(F30:aN K "shared_divisor" ym)(F31:aN K "top_of" Yh)(F32:aN K "least_of" tx)(F33:aN K "shortest" oT)(F34:aN K "parting" bo)(F35:aN K "behind_first" ba)(F36:aN K "power_sums" fS)(F37:aN K "rule_of_sums" ku)(F38:aN K "refuse_long" mE)(F39:aN K "refuse_far_steps" eI)(F40:aN K "told_row" ez)(F41:aN K "sum_place" wq)(F42:aN K "product_place" nz)(F43:aN K "rolled_place" pS)(F44:aN K "pair_row" YC)(F45:aN K "joint_row" ZC)(F46:aN K "added" Xn)(F47:aN K "rolled" xf)(F48:aN K "multiplied" r9)(F49:aN K "scaled" ZD)(F50:aN K "summed" nE)(F51:aN K "every" fT)(F52:aN K "put_ahead" Yv)(F53:aN K "line_taken" lI)(F54:aN K "head_line" cn)(F55:aN K "bring_up" YL)(F56:aN K "freed" Xp)(F57:aN K "clear" Y7)(F58:aN K "common_divisor" Z5)(F59:aN K "lowest" ir)(F60:aN K "solution" ij)(F61:aN K "solved" kP)(F62:aN K "rest_row" sM)(F63:aN K "divisor_of" jv)(F64:aN K "undivided" ua)(F65:aN K "by_prime" qh)(F66:aN K "refuse_far_jump" xy)(F67:aN K "power_left" a9)(F68:aN K "jump" qV)(F69:aN K "place_at" VW)(F70:aN K "onward" iP)(F71:aN K "refuse_big" pd)(F72:aN K "whole_divisors" ZJ)(F73:aN K "perhaps_roots" dc)(F74:aN K "divided_out" qo)(F75:aN K "whole_roots" ie)(F76:aN K "power" fA)(F77:aN K "form_line" X7)(F78:aN K "parts_of" og)(F79:aN K "closed" Yd)(F80:aN K "refuse_wide" qA)(F81:aN K "round_row" yB)(F82:aN K "came_round" nS)(F83:aN K "round_of" vv)(F84:aN K "where" ay)(F85:aN K "above_all_shown" ja)(F86:aN K "number_shown" pV)(F87:aN K "shown" r6)(F88:aN K "is_written" ph)(F89:aN K "read_number" we)(F90:aN K "read_prime" ox)(F91:aN K "read_words" Xz)(F92:aN K "read" Xw)(F93:aN K "words_of" mn)(F94:aN K "kinds_of" WZ)(F95:aN K "read_name" dm)(F96:aN K "row_named" Z6)(F97:aN K "read_word" r8)(F98:aN K "make_row" Yp)(F99:aN K "make_short" dt)(aKw:aN K "make_add" XE)(aKW:aN K "make_multiply" sj)(aSQ:aN K "make_roll" YM)(aSy:aN K "make_scale" tF)(aCO:aN K "make_sum" a8)(ayJ:aN K "make_every" yy)(aG7:aN K "make_ahead" mf)(aHn:aN K "make_on" yT)(aWh:aN K "make_rest" iO)(aWV:aN K "numbers_shown" YS)(aLc:aN K "tell_show" WW)(aSs:aN K "tell_places" n4)(aHw:aN K "tell_at" oP)(aXl:aN K "tell_part" fE)(aVR:aN K "tell_round" gV)(aNi:aN K "tell_where" Ze)(ayI:aN K "tell_closed" ZY)(aV2:aN K "tell_divisor" W7)(axh:aN K "tell_divides" Yj)(aLe:xG K b "__init__" "Desk.__init__" VZ ["self"])(aJx:xG K b "say" "Desk.say" rS ["self","row"])(aSa:aN K "_law_cell_at" Yt)(axc:aN K "_law_mix" iX)(aDR:aN K "_law_number" b5)(ayZ:aN K "_law_numbers" Xq)(aCD:aN K "_law_rest" vi)(aF0:aN K "_law_small_row" Zy)(aLC:aN K "_law_text" aW)(aAE:aN K "_law_numbers_in" sQ)(aEE:aN K "_law_places" dA)(aKI:aN K "_law_mixed" vy)(aUa:aN K "_law_moved" fg)(aKA:aN K "_law_part_right" uk)(aAK:aN K "_law_closed_right" ZX)(aMM:aN K "_law_exact" iF)(aPG:aN K "_law_rounds" XM)(FL:aN K "law" C6)(aLh:cQ K Í "abs"=ι ν)(aF8:cQ K Í "all"=ι ν)(aNt:cQ K Í "any"=ι ν)(aRs:cQ K Í "bool"=ι ν)(aE7:cQ K Í "int"=ι ν)(aOs:cQ K Í "isinstance"=ι ν)(aWS:cQ K Í "len"=ι ν)(aI7:cQ K Í "list"=ι ν)(aLp:cQ K Í "max"=ι ν)(aVX:cQ K Í "min"=ι ν)(aM7:cQ K Í "range"=ι ν)(aRb:cQ K Í "reversed"=ι ν)(aN7:cQ K Í "sorted"=ι ν)(aW1:cQ K Í "str"=ι ν)(aQz:cQ K Í "sum"=ι ν)(aHi:cQ K Í "tuple"=ι ν)(aQB:cQ K Í "zip"=ι ν)(y4:∃t,cQ K Í "ABOVE_ALL_BYS"=ι (ι (.int 1000 t)))(Zb:∃t,cQ K Í "ABOVE_ALL_NUMBERS"=ι (ι (.int 1000000 t)))(ZP:∃t,cQ K Í "BELOW_THE_PRIMES"=ι (ι (.int 1000000 t)))(xw:∃t,cQ K Í "FARTHEST"=ι (ι (.int 300 t)))(fh:∃t,cQ K Í "FARTHEST_BY_0"=ι (ι (.int 400 t)))(Zk:∃t,cQ K Í "FARTHEST_START"=ι (ι (.int 100 t)))(tN:∃t,cQ K Í "FIGURES"=ι (ι (.str "0123456789" t)))(QJ:∃t,cQ K Í "LONGEST"=ι (ι (.int 12 t)))(mI:∃t,cQ K Í "LONGEST_NAME"=ι (ι (.int 8 t)))(ai:∃t,cQ K Í "MOST_AHEAD"=ι (ι (.int 12 t)))(eQ:∃t,cQ K Í "MOST_FIGURES_READ"=ι (ι (.int 60 t)))(rj:∃t,cQ K Í "MOST_WINDOWS"=ι (ι (.int 4096 t)))(eJ:∃t,cQ K Í "NAME_SIGNS"=ι (ι (.str "abcdefghijklmnopqrstuvwxyz0123456789" t)))(zd:∃t,cQ K Í "WIDEST_STEP"=ι (ι (.int 10 t))):
  ∃fd:Ć,(∀(s:Ó) (v:Ã),Ζ s fd {[v],([])} [("_law_script",v)])/\∀base:Û,K.In base->base.Ns Í mg->mQ P w K mg base (vm P w) cK fa fd ["_law_script"] (df K):=by
 ext f oc od kV N pm an R ct sl e1 e2 e3 e4 FL.ex;let e:=U.symm.trans (j5 X G e1);cases e;let FF:=WD (st:=C6) e2 e3 e4;let B:Bt mg:={nW X G aLh,nW X G aF8,nW X G aNt,nW X G aRs,nW X G aE7,nW X G aOs,nW X G aWS,nW X G aI7,nW X G aLp,nW X G aVX,nW X G aM7,nW X G aRb,nW X G aN7,nW X G aW1,nW X G aQz,nW X G aHi,nW X G aQB,(let⟨t,q⟩:=y4;{t,j5 X G q}),(let⟨t,q⟩:=Zb;{t,j5 X G q}),(let⟨t,q⟩:=ZP;{t,j5 X G q}),(let⟨t,q⟩:=xw;{t,j5 X G q}),(let⟨t,q⟩:=fh;{t,j5 X G q}),(let⟨t,q⟩:=Zk;{t,j5 X G q}),(let⟨t,q⟩:=tN;{t,j5 X G q}),(let⟨t,q⟩:=QJ;{t,j5 X G q}),(let⟨t,q⟩:=mI;{t,j5 X G q}),(let⟨t,q⟩:=ai;{t,j5 X G q}),(let⟨t,q⟩:=eQ;{t,j5 X G q}),(let⟨t,q⟩:=rj;{t,j5 X G q}),(let⟨t,q⟩:=eJ;{t,j5 X G q}),(let⟨t,q⟩:=zd;{t,j5 X G q})};show{rY "law" "law" (nG C6) (jG C6) (aG C6) .none kV N pm an R ct,λs v=>.of_eq rfl,λbase kB gB=>?_};let M:Ms P w K mg base  :=.mk;let D:Dk w K mg l i j b:={{{_,_,aOB,aB5},aAI,j5 X G azd},aBt aRj,Wm ai7,{{_,_,aDW,aKD},ayX,j5 X G aJm},Sb X G aOj axx,Wm Au,{{_,_,aQ0,aBP},aBW,j5 X G aMD},Sb X G aNr aKX,Wm x5,{{aVE,aIU,aVh,(awW)},aPe,aOa,j5 X G aIy},axU};let Em:=aDt B M D (F0.aP X G);let T:=aSU B M D (F1.aP X G);let Fd:=aHG B M D (F2.aP X G) Em T;let Zr:=aIP B M D (F3.aP X G) Em;let a:=ayk B M D (F4.aP X G);let iN:=aWF B M D (F5.aP X G) a;let Gv:=aEi B M D (F6.aP X G) a iN;let Uv:=aGg B M D (F7.aP X G) Zr;let W3:=aQn B M D (F8.aP X G) Uv Fd;let C:=aPV B M D (F9.aP X G);let m:=aEI B M D (F10.aP X G);let Ga:=aDj B M D (F11.aP X G) a;let d:=aKo B M D (F12.aP X G) Ga;let aI:=aN3 B M D (F13.aP X G);let Wh:=aJM B M D (F14.aP X G) aI d;let x:=aA2 B M D (F15.aP X G);let cp:=axJ B M D (F16.aP X G);let J:=aWP B M D (F17.aP X G) a x;let o:=aP8 B M D (F18.aP X G) a x;let J9:=aPi B M D (F19.aP X G) Gv;let S:=aUQ B M D (F20.aP X G) J9 o;let u:=aBF B M D (F21.aP X G) a;let I:=aCP B M D (F22.aP X G) a;let G7:=aGh B M D (F23.aP X G) a;let aw:=aQG B M D (F24.aP X G) T;let RN:=aEC B M D (F25.aP X G) o;let SR:=aPj B M D (F26.aP X G) x a;let Z:=aW9 B M D (F27.aP X G);let eR:=ayf B M D (F28.aP X G) Gv a Z;let x8:=aXk B M D (F29.aP X G) RN aw S SR Z eR;let Zz:=aWd B M D (F30.aP X G) x8 S;let k7:=aWE B M D (F31.aP X G) a x;let FZ:=aUh B M D (F32.aP X G) u k7 o Zz;let c:=aB8 B M D (F33.aP X G) FZ I;let ZK:=aw0 B M D (F34.aP X G) C d;let Fw:=az1 B M D (F35.aP X G);let Eh:=awS B M D (F36.aP X G) Fw;let Fl:=aIR B M D (F37.aP X G) Fw;let r:=aJQ B M D (F38.aP X G);let E4:=aW2 B M D (F39.aP X G);let n:=aDN B M D (F40.aP X G) a c;let GV:=aSb B M D (F41.aP X G);let GK:=azV B M D (F42.aP X G);let Gm:=aUl B M D (F43.aP X G);let FD:=aMl B M D (F44.aP X G) d n GV Gm GK;let W:=aTi B M D (F45.aP X G) C c r J u FD I
 let oy:=aHN B M D (F46.aP X G) W GV;let XD:=aVa B M D (F47.aP X G) W Gm;let vk:=aIg B M D (F48.aP X G) C c r Eh Fl FD GK;let bu:=azc B M D (F49.aP X G) n;let Ws:=aGE B M D (F50.aP X G) c r J a u d n I;let iC:=aCp B M D (F51.aP X G) E4 c Eh d Fl n;let fc:=aMt B M D (F52.aP X G) c r n;let dq:=aSv B M D (F53.aP X G) a;let ke:=aJT B M D (F54.aP X G);let kF:=aGZ B M D (F55.aP X G) a;let de:=aVI B M D (F56.aP X G);let bX:=aG9 B M D (F57.aP X G) ke kF de;let FY:=axv B M D (F58.aP X G);let jb:=aKj B M D (F59.aP X G) FY;let xk:=aJ2 B M D (F60.aP X G) dq bX jb;let Zg:=ayr B M D (F61.aP X G) xk;let FW:=aTc B M D (F62.aP X G) a;let nc:=aFz B M D (F63.aP X G) m FY;let wm:=aGi B M D (F64.aP X G) m E4 d FW;let Xy:=aSJ B M D (F65.aP X G) m FW;let vn:=azP B M D (F66.aP X G);let k9:=aDs B M D (F67.aP X G) o J;let FN:=aHR B M D (F68.aP X G) vn k9 u cp;let Zt:=aRh B M D (F69.aP X G) G7 FN;let YB:=aGp B M D (F70.aP X G) FN d G7;let Xe:=aDl B M D (F71.aP X G);let xn:=aK9 B M D (F72.aP X G);let u7:=axg B M D (F73.aP X G) xn;let c9:=aIt B M D (F74.aP X G) o;let iq:=ay5 B M D (F75.aP X G) Xe u7 c9;let Tp:=aGw B M D (F76.aP X G);let ik:=aTw B M D (F77.aP X G) Tp;let uv:=aAV B M D (F78.aP X G);let Wb:=aWx B M D (F79.aP X G) m iq FZ ik Zg uv;let gT:=aKa B M D (F80.aP X G);let E9:=aUX B M D (F81.aP X G) c gT;let E6:=ayP B M D (F82.aP X G) Ga;let b7:=aGQ B M D (F83.aP X G) E6 E9;let Zo:=aFq B M D (F84.aP X G) E9 E6 d;let vz:=aFj B M D (F85.aP X G);let g:=aDY B M D (F86.aP X G) vz;let ky:=aSu B M D (F87.aP X G) g;let xt:=aEf B M D (F88.aP X G);let L:=aHZ B M D (F89.aP X G) xt;let GN:=aMi B M D (F90.aP X G) L Fd;let Ry:=aGL B M D (F91.aP X G) L W3;let Xc:=aLu B M D (F92.aP X G) Ry GN;let Z1:=axp B M D (F93.aP X G);let sT:=aS2 B M D (F94.aP X G);let GJ:=axy B M D (F95.aP X G);let dr:=ayb B M D (F96.aP X G) GJ;let oS:=aQQ B M D (F97.aP X G) GJ dr L GN Xc;let j0:=aU0 B M D (F98.aP X G);let xx:=aEL B M D (F99.aP X G) c;let kg:=ax5 B M D (aKw.aP X G) oy;let Xb:=aWf B M D (aKW.aP X G) vk;let vw:=aFM B M D (aSQ.aP X G) XD;let V4:=aNF B M D (aSy.aP X G) bu a;let XO:=aS7 B M D (aCO.aP X G) Ws;let ZW:=aNk B M D (ayJ.aP X G) iC;let ff:=aAl B M D (aG7.aP X G) fc a;let Y5:=aUF B M D (aHn.aP X G) YB;let kM:=aOG B M D (aWh.aP X G) Xy;let z:=aVD B M D (aWV.aP X G) g;let gu:=aOI B M D (aLc.aP X G) ky;let Wj:=aHY B M D (aSs.aP X G) z Wh;let mx:=aWi B M D (aHw.aP X G) g Zt;let YV:=aKr B M D (aXl.aP X G) ZK g;let ue:=aHb B M D (aVR.aP X G) z b7;let kN:=aJ5 B M D (aNi.aP X G) Zo a g;let Yb:=aNL B M D (ayI.aP X G) Wb g z
 let XQ:=aLO B M D (aV2.aP X G) g nc;let mB:=aT8 B M D (axh.aP X G) m wm g;let ZM:=aAp B M D aLe;let k:=aT1 B M D aJx Z1 sT oS mB XQ Yb kN ue YV mx Wj gu kM Y5 ff ZW XO V4 vw Xb kg xx j0;let Ew:=aAS B M D (aSa.aP X G);let Bb:=aVe B M D (axc.aP X G);let dn:=aIc B M D (aDR.aP X G);let Ut:=aU1 B M D (ayZ.aP X G) dn;let A:=aOE B M D (aCD.aP X G);let af:=aRf B M D (aF0.aP X G) Bb Ut A;let TX:=aQI B M D (aLC.aP X G);let Aq:=aDw B M D (aAE.aP X G);let y:=azB B M D (aEE.aP X G) Aq k;let Ye:=axw B M D (aKI.aP X G) k y A;let ax:=aCi B M D (aUa.aP X G) A k y;let kr:=aI5 B M D (aKA.aP X G) k;let di:=aPu B M D (aAK.aP X G);let ye:=aHU B M D (aMM.aP X G) y k di;let gL:=aTS B M D (aPG.aP X G) Aq k;show aMz B M D FF Ew af ZM k TX y Bb kr ax Ye ye gL
end K55
namespace L2
open PySem PySem.W W.X
def aAh{q:Þ}{O:List Str}{g:(μ)->Û->Prop}{K:ċ->Frag}{as:List Æ}{n t:Nat}{r:RowW}{d:DefRec}{kwd:List (Str×PySem.Expr)}{run:Ã->List Ã->Sem Ã}(U:∀P,as=(K P).map (·.1))
  (W:WalkO q O g (λw h=>(K w.params).In h) r d kwd run):WalkX q O g (obsZ as) (valZ K n t) r d kwd run:=
 λw j i mg p G y a o k cd e v kV h1 h2 h3 h4 u s c b f L p1 p2 p3 m l=>W w j i mg p G (InK.keeps w _ _ (z_facts U y).2.1 L.keeps) a o k cd e v kV h1 h2 h3 h4 u s c b f p1 p2 p3 m l
end L2
open PySem PySem.W PyProof.Rows
set_option maxRecDepth 100000 in
set_option maxHeartbeats 0 in
theorem PySem.Challenge.cw_nextbyrule_k55_whole_desk_by_places_holds : PySem.Challenge.rw_nextbyrule_k55_whole_desk_by_places.Holds := by
 change K55.rwL.Holds
 w_on;o_law;rename_i said
 show holds_openX (d:=?d) (kwd:=?kwd) K55.H.left (λs h=>xl_of s (vX.mp h).1) XL.keeps (by rfl) (by rfl) (by rfl) (λs h=>recFacts_of (vX.mp h).2) (by rfl) said 0.0 ⟨rfl,rfl,rfl,rfl,rfl,0.0⟩ ?hw ?hc;case hw=>w_witness2
 k_fill
 show L2.aAh (λ_=>(by kernel_rfl)) ?_;show L2.ayK (l:=K55.rwL) (n:=63) (k:=K55.cK) (x:="_law_script") (CX:=λw=>L2.vm K55.rwL.prog w) (sp:=λ_=>K55.df _) rfl 0.3 rfl ⟨rfl,0.3,0.3⟩ (by kernel_rfl) rfl (λw h Y=>Y) ?F (λw H a ns hl hb _ hS=>⟨a,ns,rfl,hS,hl,hb,λ_=>rfl⟩) (λ_ _ _ _ _ z=>L2.Fi z);case F=>
  intro w mg fa h KX G hmg;apply K55.all_mk KX G hmg;all_goals first|(refine' L2.aDE ?a ?l ?c ?k;(case a|l|c|k=>k_is))|(refine' L2.aLA ?a ?i ?l ?c ?k;(case a|i|l|c|k=>k_is))|k_is|show⟨_,by k_is⟩|k_exc|kernel_rfl|kit_is
