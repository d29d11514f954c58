import PyProof.Rows.All
import OpenK.KLine
import PyProof.DictRoadsH
import KE.KIsAll
import KE.KxBytes
import KE.KWords
import KE.KRevSl
import KE.KItem
import KE.KDictOf
import KE.KSortTup
import Wide.FinOn
import Lean
import PyProof.EqAt
import PyProof.EqKinds
import PyProof.TupleCall
import PyProof.NeKinds
import PyProof.EnumFor
import PyProof.EnumMake
import PyProof.NsDelKeeps
import OpenK.KOwn
import KE.KIsBytes
import PyProof.CompFree
import PyProof.StrWalks
import PyProof.ConsumeWalk
import PyProof.StrBlockI
import KE.KRevIter
import KE.KDictList
import PyProof.ZipIter
import KE.KIntText
import KE.KxWritten
import PyProof.DictItems
import KE.KPairComp
import PySem.Challenge.RW_kbestwood_k19_whole_a_tree_is_in_its_woo
set_option Elab.async false
set_option linter.all false
set_option compiler.reuse false
set_option tactic.hygienic false
set_option compiler.extract_closed false
set_option bootstrap.genMatcherCode false
set_option maxRecDepth 100000
set_option maxHeartbeats 4000000
open And renaming intro->MU
open Array renaming forIn_toList->oz,getElem?_eq_getElem->TX,getElem?_eq_none->KC,getElem?_eq_some_iff->T9,getElem?_toList->Rn,length_toList->VY,perm_iff_toList_perm->oA,size_map->aoB,toList->aoC,toList_append->yP,toList_extract->FE,toList_push->FG,toList_reverse->aoD,toList_setIfInBounds->aoE
open Array.Perm renaming refl->T8
open Bool renaming and_eq_true->XX,and_false->KD,and_true->MV,eq_iff_iff->Qb,false->Zi,false_and->yQ,false_eq_true->S6,false_ne_true->XQ,false_or->aoF,or_eq_true->oB,or_true->aoG,true->Zd,true_and->S7
open Classical renaming em->aoP
open Eq renaming symm->FJ
open False renaming elim->Qc
open ForIn renaming forIn->Jd
open ForInStep renaming yield->QM
open Function renaming comp_apply->ao2
open Int renaming emod_lt_of_pos->Tq,emod_nonneg->Ts,eq_ofNat_of_zero_le->ao5,fdiv_mul_cancel->ao6,fmod_lt_of_pos->ao7,fmod_nonneg_of_pos->ao8,gcd->Ul,gcd_dvd_left->ao9,gcd_dvd_right->Q0,le_of_eq->apa,le_of_lt->oO,le_refl->IL,lt_or_gt_of_ne->apb,max_comm->apc,max_eq_right->apd,min_eq_left->Q3,mul_assoc->ape,mul_pos->Q4,natAbs_dvd_natAbs->apf,natAbs_fdiv_le_natAbs->apg,natAbs_lt_natAbs_of_nonneg_of_lt->aph,natAbs_neg->api,natCast_nonneg->MY,neg_dvd->apj,ofNat_le->apk,pos_of_mul_pos_left->apl,toNat->oP,toNat_eq_max->Q5,toNat_natCast->IM,toNat_of_nonneg->Ob,zero_add->KG
open List renaming all_append->apq,all_cons->KL,all_eq_false->apr,all_eq_true->Oc,all_map->IQ,any_cons->SF,any_eq_true->KM,any_map->FN,append_assoc->VC,append_nil->SG,cons_append->Nw,drop_drop->apt,drop_eq_getElem_cons->Od,drop_eq_nil_iff->Q9,drop_eq_nil_of_le->IU,drop_length->oS,drop_zero->apu,eq_nil_of_length_eq_zero->MZ,eraseIdx_eq_take_drop_succ->apv,ext_getElem?->FO,extract_eq_take_drop->FP,filterMap_cons->P0,filterMap_cons_some->O1,filter_append->oT,filter_cons->yW,filter_cons_of_neg->O2,filter_cons_of_pos->apw,filter_nil->apx,filter_sublist->yX,find?_cons_of_neg->O3,find?_cons_of_pos->O4,find?_eq_none->oU,find?_map->O5,find?_some->IV,flatMap_cons->Oe,flatten_cons->O6,foldl->oV,foldl_append->O7,foldl_cons->Rr,forIn_cons->FQ,forIn_nil->oW,fst_mem_of_mem_zipIdx->apy,getD_eq_getElem?_getD->IW,getElem?_append_left->VD,getElem?_append_right->UR,getElem?_cons_succ->O8,getElem?_drop->apz,getElem?_eq_getElem->ZA,getElem?_eq_none->yY,getElem?_eq_some_iff->YM,getElem?_map->YC,getElem?_mapIdx->apA,getElem?_replicate->Ny,getElem?_reverse->apB,getElem?_set_ne->KN,getElem?_set_self->FR,getElem?_zipIdx->O9,getElem_idxOf->FT,getElem_inj->apC,getElem_map->N5,getElem_mem->La,getElem_of_mem->yZ,getElem_toArray->N6,idxOf_lt_length_of_mem->Lb,isEmpty_iff->N7,length->Lc,length_append->Yx,length_cons->Yu,length_drop->FU,length_eq_one_iff->xf,length_eq_zero_iff->oX,length_eraseIdx->apD,length_filter_le->IX,length_map->ZI,length_nil->Nz,length_pos_iff->N8,length_pos_of_mem->apE,length_range->IY,length_replicate->Rt,length_set->KO,length_singleton->Ld,length_take->WL,length_zip->M3,length_zipIdx->KP,lookup->Og,lookup_cons->Wn,map_append->Xt,map_congr_left->IZ,map_cons->Xo,map_filterMap->apF,map_id->oY,map_map->YG,map_take->M4,mem_append->Xk,mem_append_left->Tt,mem_append_right->Va,mem_cons->Yk,mem_cons_of_mem->YT,mem_cons_self->YY,mem_filter->WM,mem_filterMap->apG,mem_flatMap->Vs,mem_flatten->apH,mem_iff_getElem->apI,mem_iff_getElem?->FV,mem_map->ZW,mem_of_find?_eq_some->oZ,mem_of_getElem?->YH,mem_of_mem_take->FW,mem_range->Hd,mem_singleton->YJ,mem_zipIdx_iff_getElem?->KQ,nil_append->QN,nodup_append->UE,nodup_cons->TY,nodup_iff_pairwise_ne->NA,nodup_nil->FX,nodup_range'->apJ,not_mem_nil->Qd,of_mem_zip->M5,pairwise_append->M6,pairwise_iff_getElem->He,pairwise_lt_range->M7,pairwise_map->NB,perm_append_comm->FY,perm_middle->apK,range->Vj,range_succ->apL,range_succ_eq_map->M8,replicate->WN,replicate_succ->apM,reverse_perm->apO,set_getElem_self->apP,size_toArray->YN,sum_cons->nc,take_add->apQ,take_add_one->Um,take_append_drop->KR,take_length->TZ,take_of_length_le->xg,take_sublist->apR,take_take->apS,zipIdx_cons->M9,zipIdx_map_fst->K1,zipIdx_map_snd->apT,zipIdx_nil->apU
open List.Pairwise renaming imp_of_mem->apm,nil->asp,sublist->asq
open List.Perm renaming append_left->oQ,length_eq->apn,refl->apo,trans->Q8
open List.cons renaming inj->aps,injEq->IT
open List.modifyTailIdx renaming go->asr
open Nat renaming add_assoc->xh,add_le_add_left->K4,add_lt_add_left->K5,add_mul->apW,add_sub_cancel_left->ng,eq_or_lt_of_le->apY,eq_zero_of_le_zero->apZ,eq_zero_or_pos->nh,exists_eq_add_of_le->K6,exists_eq_add_of_lt->ap0,le_add_left->Le,le_add_right->Rv,le_add_right_of_le->ap1,le_antisymm->NC,le_max_left->ap2,le_max_right->ap3,le_of_add_le_add_left->K7,le_of_eq->Sa,le_of_lt->Uo,le_of_lt_succ->NF,le_of_not_lt->SH,le_of_succ_le_succ->ap4,le_refl->ZU,le_succ->UT,le_succ_of_le->ap5,le_trans->Yp,log2_lt->ap6,lt_irrefl->NI,lt_of_add_lt_add_left->K8,lt_of_le_of_lt->Hf,lt_of_lt_of_le->YK,lt_of_succ_le->K9,lt_of_succ_lt->ap7,lt_of_succ_lt_succ->xi,lt_or_ge->QO,lt_succ_of_lt->NK,lt_succ_self->KS,lt_trans->xj,lt_trichotomy->J0,min_eq_left->nq,min_eq_right->ap8,min_le_left->nr,min_le_right->Ea,min_self->nu,ne_of_gt->VO,ne_of_lt->Ys,not_lt->xk,one_mul->ap9,one_pos->nv,pow_le_pow_right->aqa,sub_eq_of_eq_add->J2,sub_le->ny,sub_one_lt_of_lt->J7,sub_self->J8,sub_zero->nA,succ_le_of_lt->J9,succ_le_succ->Eb,zero_add->NM,zero_le->Wg,zero_lt_of_lt->aqb
open Nat.succ renaming inj->Hg
open Ne renaming symm->XR
open OfNat renaming ofNat->nE
open Option renaming getD_none->nF,getD_some->G4,isSome_map->aqh,map_eq_some_iff->G5,map_some->KU,none->Zc,some->Zb
open Option.some renaming inj->VE,injEq->xl
open Or renaming inl->Rx
open Prod renaming ext->QP,fst->nH
open Pure renaming pure->ZR
open PyProof.Rows renaming AllBare->Nr,IntsAre->KH,IsTup->KI,Keyed->ZP,SortKind->QQ,SortSt->Yj,Subscript_->o8,args_tuple_getitem->aq6,arrOf->Yd,boot_abs->ass,boot_all->asu,boot_any->asv,boot_bool->asw,boot_dict->aqj,boot_int->aqk,boot_isinstance->aql,boot_list->Ec,boot_reversed->asx,boot_set->asy,boot_sorted->G7,boot_str->aqm,boot_tuple->nI,bubble->xC,callWith_builtin1->aqn,callWith_type1->Hj,entry_list_sort->arb,entry_tuple_getitem->arc,envOfC->Sb,failedOf->QS,kindOf->Ww,listUpdate_at->Lk,mirror->aqo,pairsOf_size->xG,pendingOf->Vt,seqEpoch_at->b7,seqObj->Tx,size_push'->Jh,slot_tuple_getitem->Hk,sortedAll->c9,subscriptTail_builtinR->arl,wpS->Xu,wpS_bind->ZS,wpS_forRange->Oq,wpS_get->Ot,wpS_lift->Ji,wpS_modify->Ls,wpS_mono->QZ,wpS_pure->Yb
open PyProof.Rows.F renaming entry_set_update_loop->aoV,plain_set_update_loop->R7
open PyProof.Rows.IsTup renaming new->Q7
open PyProof.Rows.SortSt renaming mk'->nN
open PySem renaming Addr->Zg,Around->Yr,BindsTo->II,Builtin->VA,Comprehension->QL,DictEntry->yS,Env->Wf,Expr->ZE,FuncData->ZZ,GenState->oK,Heap->ZD,HeapKind->yV,IsEnum->IP,IsEnumOut->Q6,IsItemIter->FM,IsPair->UD,IsPart->Nu,IsZip->KJ,KeyKind->v7,Keyword->Nv,Model->Qe,NameKind->FZ,Obj->Yg,PassesOwn->nG,PlainAttrs->G6,Pos->Yv,Program->YZ,Result->Ol,Scope->Wu,Sem->Vb,SetTable->Rz,Shared->Zj,Stmt->ZH,Str->Ze,Value->Zh,Within->q8,World->Yt,ZipApart->Qh,assign->QR,assignEach->Qi,atKey->NR,atKey_none_of_get->aq7,attributeBase->SL,backTo->RB,backToKw->Jb,behindInMarks->Hm,binaryOp->Uq,bindArgs->nT,bindC->Hn,bindL->Ho,bootBuiltins->RC,boot_len->Hl,builtinLookup_eq_fast->xD,builtinsNs->m8,cLine->Yz,call->p6,callType_codes->m9,call_meets->Eh,call_meetsIn->nU,callerA->Hr,cellsFrom->j6,codeAny->Wv,codeAny_builtin->Qj,codeAny_call_builtin->aq8,codeAny_compStart_list->aq9,codeAny_loop->j7,codeAny_mono->Lj,codeAny_of_tree->j8,compStart->j9,compTurn->nV,compareOp->Xq,concat_meets->f9,dictSet->nW,drawOrder->d7,entryFor_of_tree->ara,entryOfKey->Ei,eqIsQuiet->d8,eqIsQuiet_byValue->ard,eval->Ye,evalArgs_none->aqU,exec_Assign_Name_used->arf,field->Jc,fits_of_scanBound->Ej,foldedSetIterable->Hs,getItem->NS,getMethod->xE,holding->RD,intKind->QT,isInstance->nX,isSubtype_stop->Ek,isSubtype_tuple_tuple->d9,keywordEach->Je,kt_code_dict_new->arh,lastMarks->nY,letOwnedTupleGo->El,mainGlobals->Xw,mem_of_lookup->Lh,model->Zr,noFill_tuple_add->ari,noteFrame->xF,pickOrder->Jf,plainId_quiet->Ln,post_val_or_str->nZ,pyIter->Qk,pyNext->VZ,rawInt->SM,relabel->Jg,relayAll->NT,scanBound->QU,seqIndex_neg->b8,seqIndex_of->b6,setField->md,setItem->Em,sizeLine->Zo,sizeLine_eq->mh,size_of_entries->c8,sliceBounds->Ht,slot_dict_setitem->arj,slot_list_getitem->ark,standAt->Om,starEach->XA,storeSet->mj,stored->Lp,storedH->Hu,subscripted->ml,swappedStores->mq,swapsWith->XD,swapsWithSole->mx,sysModules->Sd,theTreesLotGoes->f6,theWindowsPlace->arn,typeIs_int->f7,typeIs_str->f8,typeLookup->En,typeLookup_type->xH,typeOf->xI,valueAt->Eo,wpAny->Zn,wpAny_Call_Name_kw->Lq,wpAny_Call_method->aro,wpAny_Call_method0_late->arp,wpAny_Name->g9,wpAny_askSetting->QV,wpAny_assign_Name->i6,wpAny_attempt->SN,wpAny_bind->Zf,wpAny_call->mB,wpAny_callSpecial?_slot->UU,wpAny_call_entry->WQ,wpAny_comprehension_free->xJ,wpAny_dictEntries->Hv,wpAny_dictEpoch->Ep,wpAny_dictFind_heap->arq,wpAny_execs_cons->ars,wpAny_execs_nil->mC,wpAny_field->Wi,wpAny_fieldsOf->Er,wpAny_forIn_list->mD,wpAny_getItem_str_slice->mE,wpAny_handled->mF,wpAny_holding->XY,wpAny_isInstance->NU,wpAny_isOneOf_itemiter->i7,wpAny_isOneOf_keyiter->art,wpAny_ite_split->aru,wpAny_letGo->Es,wpAny_load->i8,wpAny_mono->Xv,wpAny_newFunctionEnv->i9,wpAny_newList->mG,wpAny_newObj_type->Ur,wpAny_newTuple->Et,wpAny_notOrdered_dict->Eu,wpAny_noted->p9,wpAny_of_eq->mH,wpAny_onRaise->xK,wpAny_passesOwn->Hw,wpAny_pure->Zm,wpAny_pyIter_enum->arv,wpAny_pyIter_list->Hx,wpAny_pyIter_revIter->arw,wpAny_pyIter_slot->u4,wpAny_pyIter_tuple->arx,wpAny_pyIter_zip->p8,wpAny_pyNext_list_end->arz,wpAny_pyNext_list_item->arA,wpAny_richCompare_same_room->arB,wpAny_rule->WD,wpAny_seqItems->RE,wpAny_sequenceKey->u7,wpAny_setEntries_of->w8,wpAny_setField->xM,wpAny_setField_rec->Vc,wpAny_setState_of->QW,wpAny_specialOf->Hy,wpAny_stack_any->arC,wpAny_standAt->QX,wpAny_storeSet_of->arD,wpAny_throw->mI,wpAny_truthy_bool->QY,wpAny_tupleItemsOf->xN,wpAny_typeNameOfWhole_itemiter->mJ,wpAny_typeNameOfWhole_keyiter->mK,wpAny_typeOf->Lr,wpAny_updateDictKeys->arE,wpAny_updateSeq_pair->A1
open PySem.Around renaming under_plainId->KB
open PySem.AutoSeq1 renaming wpAny_loadPart'->FH
open PySem.BindsTo renaming of_defaults->S5
open PySem.Builtin.Dict renaming pairItems->ar3,showsAll->S8,updateFrom->aoH
open PySem.Builtin.Dict_items renaming ownedTupleFields->ar4,ownedTupleIsFree->ar5,ownsTuple->ar6,pairFromOwner->aoI
open PySem.Builtin.Frozenset renaming oneOther->ar7,sizeOf->ar8,updateFrom->ar9
open PySem.Builtin.Int renaming intBits->aoJ
open PySem.Builtin.List renaming listExtendWith->aoK,listItems->asa,listLengthHint->asb,listSameRef->oC,listTooLong->S9,listTouch->asd,listUpdate->ase
open PySem.Builtin.Range renaming rangeSize->asf
open PySem.Builtin.Slice renaming sliceAdjust->aoL,sliceApplied->ash,slicePartIndex->asi,slicePlaces->oE
open PySem.Builtin.SmallTypes renaming nextOf->aoM,ownedTupleHandOut->asj,ownedTupleIsFree->asl
open PySem.Builtin.Str renaming glued->asm,occurrences->R1
open PySem.Builtin.Tuple renaming tupleHashOf->oG,tupleItemsOf->R4
open PySem.Calls renaming Name_function_global->aoN,callWith_builtin->yR,call_function_entry->aoO,evalArgs_plain->R5,spliced_cons->KF,spliced_nil->FI
open PySem.Challenge renaming pw_kbestwood_k19_whole_a_tree_is_in_its_woo->asz
open PySem.Code renaming quiet_builtin->aoQ
open PySem.Data renaming cell->R6,fields->oH
open PySem.EqMixed renaming eq_bool_str->asA,eq_int_str->asB,eq_str_bool->asC,eq_str_int->asD,ne_bool_str->asF,ne_int_str->asG,ne_str_bool->asH,ne_str_int->asI
open PySem.EqNone renaming eq_bool_none->asJ,eq_int_none->asK,eq_none_bool->asL,eq_none_int->asM,eq_none_none->asN,eq_none_str->asO,eq_str_none->asQ,ne_bool_none->asR,ne_int_none->asS,ne_none_bool->asT,ne_none_int->asU,ne_none_none->asV,ne_none_str->asW,ne_str_none->asY
open PySem.F renaming args_dict_get_3->aqp,args_dict_init_2->aqq,args_dict_itemiterator_next_1->aoR,args_dict_keyiterator_next_1->aoS,args_enumerate_next_1->aqr,args_tuple_add_2->aqs,args_tuple_iterator_next_1->aqt,args_zip_next_1->xm,called_set->KY,entry_dict_get->aqu,entry_dict_init->aqv,entry_dict_itemiterator_next->aoT,entry_dict_keyiterator_next->aoU,entry_enumerate_next->aqw,entry_extend_loop->oI,entry_tuple_add->aqx,entry_tuple_iterator_next->aqy,entry_zip_next->xn,kt_called_dict->aqz,kt_typeCall_dict_1->aqA,plainAttrs_dict->G8,plainAttrs_list->Lf,plain_extend_loop->FK,slot_dict_get->G9,slot_dict_itemiterator_next->yT,slot_dict_items->aqB,slot_dict_items_iter->aoW,slot_dict_iter->aoX,slot_dict_keyiterator_next->yU,slot_dict_setdefault->aqC,slot_enumerate_next->nJ,slot_int_rmul->aoY,slot_list_append->IJ,slot_list_extend->R8,slot_list_getattribute->w6,slot_list_pop->aoZ,slot_set_iter->ao0,slot_tuple_add->aqD,slot_tuple_eq->R9,slot_tuple_hash->oJ,slot_tuple_iterator_next->nK,slot_tuple_lt->ao1,slot_zip_next->NN,type_list_append->Ee,type_list_extend->aqE
open PySem.Heap renaming ExtBut->oM,SameBut->VB,get?_push_ne->FL,get?_push_of_some->ZY,get?_push_size->YF,get?_update_ne->ao4,get?_update_other->IK,get?_update_self->Rq,lt_size->Yc,size_push->UQ,size_update->MX
open PySem.Heap.DictOf renaming new->asn
open PySem.Heap.IsSliceOf renaming new->aso
open PySem.Heap.SameBut renaming refl->ao3,update->Ro
open PySem.Moved renaming trans->apV
open PySem.NameKind renaming cell->K3,free->Oh
open PySem.Obj renaming cls_mapFields->aqc,data_mapDict->aqd,data_mapDictKeys->aqe,data_mapFields->nC,isFreed_of_dict->aqf,isFreed_of_fields->aqg,mapSeq->XH,putSet->G3
open PySem.Paired renaming length->KW,snoc->aqi
open PySem.PassesOwn renaming leaving->Hi
open PySem.SeqAt renaming EqAt->nM
open PySem.SeqAt.EqAt renaming int_str->aqV,same->o6,str_int->aqW
open PySem.SeqAt.RcNeAt renaming lists->as6,lists_lengths->as7,tuples->as8
open PySem.SetTable renaming Probe->aqX,below->Tv,grown->NP
open PySem.SetTable.below renaming go->aqY
open PySem.SetTable.probe renaming go->aqZ
open PySem.Shared renaming TypeIs->Li,heap->aq0
open PySem.Str renaming ofString->o7
open PySem.Txt renaming join->Eg,slice->Tw,slice_le->xx
open PySem.Value renaming bool->aq3,float->aq4,int->xA,isInt->nP,isInt_shape->xB,isStrOf->aq5,none->RA,ref->Xa,str->nQ,type->NQ
open PySem.W renaming Frag->ZF,InitBack->aqF,Looks->v8,OpenLaw->v9,WalkO->aqG,any_some->aqH,callWith_K->u0,cellsFrom_some->aqI,codeIn->KZ,emptyDict->Qf,findIn->Xn,fnOf->SJ,handedIn->aqJ,hasDictIn->xo,instObj->Ry,isFn->xq,keepIn->Lg,kia_one->Oi,kia_tup->aqK,kitAny->xr,kitCls->aqL,kitOne->Oj,kitx_dict->aqM,kitx_list->u5,kitx_tuple->aqN,lookIn->nL,looks_findIn->aqO,make_core->aqP,makesIn->Ef,makes_of->u6,mg_none_of->Tu,mg_of->SK,mroIn->xt,nsIn->WO,plainGet->xu,plainGet_of->u9,plainOver->t6,specialIn->aqQ,subIn->aqR,takerIn->t7,takesIn->aqS,typeIn->aqT
open PySem.W.Looks renaming here->asZ,ld->as3,of_pure->as4
open PySem.Walks renaming list->nR
open PySem.Within renaming cons->as5
open PySem.pickOrder renaming go->c7
open Sum renaming inl->Ja,inr->Wh
open Sum.inl renaming inj->aq1,injEq->o9
open Sum.inr renaming inj->aq2,injEq->m7
open True renaming intro->Qg
noncomputable section
abbrev U:=@rfl
section
section
variable{G:Prop}
theorem x01{P Q:Prop}(k:P→Q→G):(P∧Q)→G:=by rintro ⟨p,q⟩;exact k p q
theorem x02{P Q R:Prop}(k:P→Q→R→G):(P∧Q∧R)→G:=by rintro ⟨p,q,r⟩;exact k p q r
theorem x03{P Q R S:Prop}(k:P→Q→R→S→G):(P∧Q∧R∧S)→G:=by rintro ⟨p,q,r,s⟩;exact k p q r s
theorem x04{P Q R S T:Prop}(k:P→Q→R→S→T→G):(P∧Q∧R∧S∧T)→G:=by rintro ⟨p,q,r,s,t⟩;exact k p q r s t
theorem x05{P Q R S T U:Prop}(k:P→Q→R→S→T→U→G):(P∧Q∧R∧S∧T∧U)→G:=by rintro ⟨p,q,r,s,t,u⟩;exact k p q r s t u
theorem x10{P:α→Prop}(k:∀a,P a→G):(∃a,P a)→G:=by rintro ⟨a,p⟩;exact k a p
theorem x11{P Q:α→Prop}(k:∀a,P a→Q a→G):(∃a,P a∧Q a)→G:=by rintro ⟨a,p,q⟩;exact k a p q
theorem x12{P Q R:α→Prop}(k:∀a,P a→Q a→R a→G):(∃a,P a∧Q a∧R a)→G:=by rintro ⟨a,p,q,r⟩;exact k a p q r
theorem x13{P Q R S:α→Prop}(k:∀a,P a→Q a→R a→S a→G):(∃a,P a∧Q a∧R a∧S a)→G:=by rintro ⟨a,p,q,r,s⟩;exact k a p q r s
theorem x14{P Q R S T:α→Prop}(k:∀a,P a→Q a→R a→S a→T a→G):(∃a,P a∧Q a∧R a∧S a∧T a)→G:=by rintro ⟨a,p,q,r,s,t⟩;exact k a p q r s t
theorem x20{P:α→β→Prop}(k:∀a b,P a b→G):(∃a b,P a b)→G:=by rintro ⟨a,b,p⟩;exact k a b p
theorem x21{P Q:α→β→Prop}(k:∀a b,P a b→Q a b→G):(∃a b,P a b∧Q a b)→G:=by rintro ⟨a,b,p,q⟩;exact k a b p q
theorem x22{P Q R:α→β→Prop}(k:∀a b,P a b→Q a b→R a b→G):(∃a b,P a b∧Q a b∧R a b)→G:=by rintro ⟨a,b,p,q,r⟩;exact k a b p q r
theorem x23{P Q R S:α→β→Prop}(k:∀a b,P a b→Q a b→R a b→S a b→G):(∃a b,P a b∧Q a b∧R a b∧S a b)→G:=by rintro ⟨a,b,p,q,r,s⟩;exact k a b p q r s
theorem x24{P Q R S T:α→β→Prop}(k:∀a b,P a b→Q a b→R a b→S a b→T a b→G):(∃a b,P a b∧Q a b∧R a b∧S a b∧T a b)→G:=by rintro ⟨a,b,p,q,r,s,t⟩;exact k a b p q r s t
theorem x30{P:α→β→γ→Prop}(k:∀a b c,P a b c→G):(∃a b c,P a b c)→G:=by rintro ⟨a,b,c,p⟩;exact k a b c p
theorem x31{P Q:α→β→γ→Prop}(k:∀a b c,P a b c→Q a b c→G):(∃a b c,P a b c∧Q a b c)→G:=by rintro ⟨a,b,c,p,q⟩;exact k a b c p q
theorem x32{P Q R:α→β→γ→Prop}(k:∀a b c,P a b c→Q a b c→R a b c→G):(∃a b c,P a b c∧Q a b c∧R a b c)→G:=by rintro ⟨a,b,c,p,q,r⟩;exact k a b c p q r
theorem x33{P Q R S:α→β→γ→Prop}(k:∀a b c,P a b c→Q a b c→R a b c→S a b c→G):(∃a b c,P a b c∧Q a b c∧R a b c∧S a b c)→G:=by rintro ⟨a,b,c,p,q,r,s⟩;exact k a b c p q r s
theorem x34{P Q R S T:α→β→γ→Prop}(k:∀a b c,P a b c→Q a b c→R a b c→S a b c→T a b c→G):(∃a b c,P a b c∧Q a b c∧R a b c∧S a b c∧T a b c)→G:=by rintro ⟨a,b,c,p,q,r,s,t⟩;exact k a b c p q r s t
theorem x40{P:α→β→γ→δ→Prop}(k:∀a b c d,P a b c d→G):(∃a b c d,P a b c d)→G:=by rintro ⟨a,b,c,d,p⟩;exact k a b c d p
theorem x41{P Q:α→β→γ→δ→Prop}(k:∀a b c d,P a b c d→Q a b c d→G):(∃a b c d,P a b c d∧Q a b c d)→G:=by rintro ⟨a,b,c,d,p,q⟩;exact k a b c d p q
theorem x44{P Q R S T:α→β→γ→δ→Prop}(k:∀a b c d,P a b c d→Q a b c d→R a b c d→S a b c d→T a b c d→G):(∃a b c d,P a b c d∧Q a b c d∧R a b c d∧S a b c d∧T a b c d)→G:=by rintro ⟨a,b,c,d,p,q,r,s,t⟩;exact k a b c d p q r s t
theorem x50{P:α→β→γ→δ→ε→Prop}(k:∀a b c d e,P a b c d e→G):(∃a b c d e,P a b c d e)→G:=by rintro ⟨a,b,c,d,e,p⟩;exact k a b c d e p
@[elab_as_elim]theorem rwl{a b:α}{G:α→Prop}(h:a=b)(k:G b):G a:=h▸k
@[elab_as_elim]theorem rwr{a b:α}{G:α→Prop}(h:a=b)(k:G a):G b:=h▸k
end
open Lean Parser.Tactic in
local macro_rules|`(tactic|obtain $p:rcasesPatMed := $e:term)=>do
  let t:=p.raw[0][0]
  if p.raw[0].getNumArgs != 1||!t.isOfKind ``rcasesPat.tuple then Macro.throwUnsupported
  let c:=t[1].getSepArgs
  let n:=c.size
  if n<2 then Macro.throwUnsupported
  let mut r:=#[]
  for d in [0:n-1] do
    let q:=n-d
    let mut x:Array Term:=#[]
    let mut s:Array (TSyntax `tactic):=#[]
    let mut o:=true
    for i in [0:q] do
      let a:=c[i]![0][0][0]
      if c[i]![1].getNumArgs>0||c[i]![0][0].getNumArgs>1 then Macro.throwUnsupported
      let z:=mkIdent (.mkSimple s!"{if e.raw.isIdent then toString e.raw.getId.eraseMacroScopes else "z"}'{i}")
      x:=x.push z
      if i+1==q&&q<n then
        let l:Array (TSyntax ``rcasesPatLo):=(c.extract i n).map (⟨·⟩)
        s:=s.push (←`(tactic|obtain ⟨$[$l],*⟩ := $z:term))
      else if a.isOfKind ``rcasesPat.ignore then x:=x.pop.push (mkIdent `O)
      else if !a[0].isIdent then s:=s.push (←`(tactic|obtain $(⟨c[i]![0]⟩):rcasesPatMed := $z:term))
      else if a[0].getId==`rfl then
        s:=s.push (←`(tactic|subst $z))
        if i+2<q||i+1<q&&q==n&&c[i+1]![0][0][0][0].getId==`rfl then o:=false
      else x:=x.pop.push ⟨a[0]⟩
    if o then
      for k in [0:q] do
        let l:=mkIdent (.mkSimple s!"x{q-1-k}{k}")
        r:=r.push (←if e.raw.isIdent&&e.raw.getId.eraseMacroScopes.isAtomic then `(tacticSeq|(revert $(⟨e.raw⟩):ident;refine $l fun $x* => ?_;$[$s];*)) else `(tacticSeq|(refine $l (fun $x* => ?_) $e;$[$s];*)))
  `(tactic|first $[|$r]*|rcases $e:term with $p)
open Lean Parser.Tactic in
local macro_rules|`(tactic|rintro $l:rintroPat*)=>do
  let mut s:Array (TSyntax `tactic):=#[]
  for p in l do
    let c:=p.raw[0]
    if c.isOfKind ``rcasesPat.ignore then s:=s.push (←`(tactic|intro _))
    else if c.isOfKind ``rcasesPat.one&&c[0].getId != `rfl then s:=s.push (←`(tactic|intro $(⟨c[0]⟩):ident))
    else if c.isOfKind ``rcasesPat.tuple then
      let l:Array (TSyntax ``rcasesPatLo):=c[1].getSepArgs.map (⟨·⟩)
      s:=s.push (←`(tactic|(intro z;obtain ⟨$[$l],*⟩ := z)))
    else Macro.throwUnsupported
  `(tactic|($[$s];*))
open Lean in
local macro_rules|`(tactic|rw [$l,*])=>do
  let mut s:Array (TSyntax `tactic):=#[]
  for r in l.getElems do
    let t:Term:=⟨r.raw[1]⟩
    s:=s.push (←if (t.raw.find? (·.isOfKind ``Parser.Term.syntheticHole)).isSome then `(tactic|rewrite [$r]) else if r.raw[0].getNumArgs>0 then `(tactic|first|refine rwr $t ?_|rewrite [$r]) else `(tactic|first|refine rwl $t ?_|rewrite [$r]))
  `(tactic|($[$s];*;try (with_reducible rfl)))
open Lean Parser.Tactic in
def rcp:Nat→Term→MacroM (TSyntax `rcasesPat)
|0,_=>Macro.throwUnsupported
|n+1,t=>do
  if t.raw.isOfKind ``Parser.Term.hole then `(rcasesPat|_) else if t.raw.isIdent then (if t.raw.getId==`U then `(rcasesPat|$(mkIdent `rfl):ident) else `(rcasesPat|$(⟨t.raw⟩):ident)) else
    let l:Array (TSyntax ``rcasesPatLo)←t.raw[1].getSepArgs.mapM fun a=>do `(rcasesPatLo|$(←rcp n ⟨a⟩):rcasesPat)
    `(rcasesPat|⟨$l,*⟩)
open Lean Parser.Tactic in
local macro_rules|`(tactic|let $d:letDecl)=>do
  let d:=d.raw[0]
  if !(d[0].isOfKind ``Parser.Term.anonymousCtor||d[0].isOfKind `«term#[_,]») then Macro.throwUnsupported
  let e:Term:=⟨d[4]⟩
  let e←if d[2].getNumArgs>0 then `(($e : $(⟨d[2][0][1]⟩))) else pure e
  let p←rcp 9 ⟨d[0]⟩
  let p←`(rcasesPatMed|$p:rcasesPat)
  `(tactic|obtain $p:rcasesPatMed := $e)
local macro_rules|`(00)=>`(by lia)
local macro_rules|`(01)=>`(by decide)
local macro_rules|`(02)=>`(by simp)
local macro_rules|`(tactic|ac_nf)=>`(tactic|walk_at "rd")
local macro_rules|`(#[$l,*])=>do
  if l.getElems.size<1 then Lean.Macro.throwUnsupported
  `(⟨$l,*⟩)
theorem Q_1(h:True:=by rfl):True:=h
theorem Q_2(h:True:=by decide):True:=h
theorem Q_3(h:True:=by walk_at "v"):True:=h
theorem Q_4(h:True:=by intro _;rfl):True:=h
local macro_rules|`($t|>1)=>`(autoParam $t Q_1._auto_1)|`($t|>2)=>`(autoParam $t Q_2._auto_1)|`($t|>3)=>`(autoParam $t Q_3._auto_1)|`($t|>4)=>`(autoParam $t Q_4._auto_1)
local macro_rules|`(03)=>`(by walk_at "ln")|`(04)=>`(by walk_at "sc")
local macro_rules|`(↑$x)=>`(by simpa using $x)
local macro_rules|`(tactic|show $e)=>`(tactic|refine $e)
local macro_rules|`(tactic|walk_at "v")=>`(tactic|first|exact .inl rfl|exact .inr rfl|exact .inr (.inl rfl)|exact .inr (.inr rfl)|assumption)
open PySem PySem.Spec PyProof.Rows
abbrev Ou(h k:ZD):Prop:=∀b o,h.get? b=Zb o->k.get? b=Zb o
abbrev Zq:=@if_neg
abbrev Zt:=@if_pos
abbrev Yq:=@decide_eq_true
abbrev XF:=@decide_eq_false
abbrev ZJ:=@absurd
abbrev XI:=@congrArg
abbrev Wo:=@beq_iff_eq
abbrev Se:=@of_decide_eq_true
abbrev UF:=@decide_eq_true_eq
abbrev Lw:=@beq_self_eq_true
abbrev Jj:=@beq_eq_false_iff_ne
abbrev Za.{u}(a:Type u):Type u:=List a
namespace L2
structure RF (P:YZ)(w:Yt)(I:Type)[DecidableEq I] where
 is:ZD->I->Zh->Prop
 hash:I->Int
 draws:I->Nat
 lev:Nat
 inj:is h x v->is h y v->x=y
 keeps:∀{h h':ZD}{d:Zg}{o:Yg}{es ep},is h x v->h.get? d=Zb o->o.data=.dict es ep->VB d h h'->is h' x v
 hsh:∀{A:Yr}{E:Zh->Zj->Prop}{s:Zj}{Q:Int->Zj->Prop},A.units+lev<Yz->is s.heap x v->Q (hash x) {s with toks:=s.toks+draws x}->Zn (Zr P w) A (pyHash v) Q E s
 eqs:∀{A:Yr}{E:Zh->Zj->Prop}{s:Zj}{Q:Bool->Zj->Prop},A.units+lev<Yz->is s.heap x u->is s.heap y v->Q (decide (x=y)) s->Zn (Zr P w) A (eqBool u v) Q E s
 qui:∀{A:Yr}{E:Zh->Zj->Prop}{s:Zj}{Q:Bool->Zj->Prop}{n:Nat},lev<=n->is s.heap x v->Q Zd s->Zn (Zr P w) A (d8 n v) Q E s
section
variable {P:YZ}{w:Yt}{I:Type} [DecidableEq I] {kd:RF P w I}{A:Yr}{E:Zh->Zj->Prop}{s:Zj}
def Wj(kd:RF P w I)(h:ZD):Za I->Za Zh->Prop
 |[],a=>a=[]
 |x::X,a=>∃v u,a=v::u/\kd.is h x v/\Wj kd h X u
def XS(kd:RF P w I)(h:ZD)(x:Za I)(a:Zg):Prop:=∃o i n,h.get? a=Zb o/\o.cls=.type "tuple" /\o.data=.seq i n/\Wj kd h x i.toList
theorem Wj.inj:∀{X Y:Za I}{b:Za Zh},Wj kd h X b->Wj kd h Y b->X=Y
 |[],[]=>λO O=>rfl
 |[],_::_=>λe h=>by let#[_,_,a,_]:=h;rw[show _=[]from e]at a;cases a
 |_::_,[]=>λh e=>by let#[_,_,a,_]:=h;rw[show _=[]from e]at a;cases a
 |x::X,y::Y=>λh i=>by
  let#[_,_,e,g,f]:=h;let#[_,_,a,c,H]:=i;rw[e]at a;cases a;rw[kd.inj g c,Wj.inj f H]
theorem Wj.keeps{h c:ZD}{d:Zg}{o:Yg}{i p}(b:h.get? d=Zb o)(hd:o.data=.dict i p)(H:VB d h c):∀{X:Za I}{a:Za Zh},Wj kd h X a->Wj kd c X a
 |[],_,e=>e
 |x::X,_,⟨v,u,e,g,f⟩=>#[v,u,e,kd.keeps g b hd H,Wj.keeps b hd H f]
theorem Wj.len:∀{xs:Za I}{a:Za Zh},Wj kd h xs a->xs.length=a.length
 |[],_,e=>by rw[show _=[]from e];rfl
 |x::xs,_,⟨v,u,e,_,H⟩=>by rw[e,Yu,Yu,Wj.len H]
def XS.ty{x:Za I}(z:XS kd s.heap x a):s.TypeIs (.ref a) "tuple" :=by let#[o,_,_,H,c,_]:=z;exact#[o,H,c]
theorem XS.inj{X Y:Za I}(x:XS kd h X a)(y:XS kd h Y a):X=Y:=by
 let#[o,j,n,e,_,d,i]:=x;let#[m,b,N,f,_,g,c]:=y;rw[e]at f;cases f;rw[d]at g;injection g with q _;rw[<-q]at c;exact i.inj c
theorem XS.keeps{h j:ZD}{X:Za I}{d:Zg}{o:Yg}{p q}(x:XS kd h X a)(g:h.get? d=Zb o)(hd:o.data=.dict p q)(H:VB d h j):XS kd j X a:=by
 let#[m,b,n,e,c,f,i]:=x;show#[m,b,n,(H.2 a λz=>?_).trans e,c,f,i.keeps g hd H];rw[z,g]at e;cases e;rw[hd]at f;cases f
noncomputable def Ew(kd:RF P w I)(x:Za I):Int:=reduceHash (oG (x.map kd.hash))
noncomputable def Ex(kd:RF P w I)(x:Za I):Nat:=(x.map kd.draws).sum+1
set_option tactic.hygienic true in
def mL{X:Za I}{Q:Int->Zj->Prop}(C:A.units+(kd.lev+1)<Yz)(j:XS kd s.heap X a)(h:Q (Ew kd X) {s with toks:=s.toks+Ex kd X}):Zn (Zr P w) A (pyHash (.ref a)) Q E s:=by
 have f:=j.ty;let#[o,y,n,z,_,hd,hi]:=j;show Zf (wpAny_cRoomFor_or (.inr 00) (Zf (Hy f oJ.lookup ?_)));show Zf (Hy f oJ.lookup (Zf (wpAny_callSpecialIfBoundUnlessNone?_slot f oJ (WQ oJ f F.entry_tuple_hash ?_ (F.args_tuple_hash_1 _)))));change Zn _ A.in1 (R4 (Xa a) >>= _) _ _ _;show Zf (xN z hd (Zf ?_));rw[<-oz];show mD _ (λrest b g=>∃a c,X=a++c/\Wj kd s.heap c rest/\b.toList=a.map kd.hash/\g={s with toks:=s.toks+(a.map kd.draws).sum}) _ ?_ ?_ _ _ #[[],X,U,hi,U,U]
 ·rintro x rest b g ⟨p,c,rfl,H,i,rfl⟩;cases c with
  |nil=>cases (H)
  |cons k c=>
   let⟨v,u,e,B,m⟩:=H;cases e;show Zf (kd.hsh (by change A.units+1+kd.lev<Yz;lia) B ?_);first
    | exact Zm #[p++[k],c,02,m,by simp[i],by simp[xh]]
    | exact Zf (Zm (Zm #[p++[k],c,02,m,00,02]))
 rintro b g ⟨p,c,rfl,H,i,rfl⟩;cases c with
 |cons k c=>let⟨v,u,e,_⟩:=H;cases e
 |nil=>
  rw[SG]at h;change Zn _ _ (retInt (oG b.toList)) _ _ _;rw[i];show wpAny_ret_mkInt ?_;unfold Ew Ex reduceHash at h;change Zn _ _ (if (decide (-2^63<=oG (p.map kd.hash))&&decide (oG (p.map kd.hash)<2^63))=Zd then _ else _) Q E _;split at h;{rename_i q;rw[Zt q];exact Zm (by omega)};rename_i q;rw[Zq q];exact Zf (WD (Zm (by simpa [xh]using h)))
def A2{X Y:Za I}{R:Fin->Zj->Prop}(hu:A.units+kd.lev<Yz)(f:XS kd s.heap X a)(H:XS kd s.heap Y b)(h:R (.done (.ret (.bool (decide (X=Y))))) s):Zn (Zr P w) A (VA.«tuple.__eq__» #[[.ref a,.ref b],[]]) R E s:=by
 have hT:=H.ty;let#[oa,i,na,ea,_,da,ia]:=f;let#[ob,g,nb,eb,_,db,ib]:=H;change Zn _ A (nX (Xa b) (.type "tuple") >>= _) _ _ _;show Zf (NU hT d9 ?_);show Zf (xN ea da (Zf (xN eb db (Zf ?_))));show mD _ (λrest r j=>r.1=Zc/\j=s/\∃x y u v,rest=List.zip u v/\Wj kd s.heap x u/\Wj kd s.heap y v/\(x=y↔X=Y)/\(u.length=v.length↔i.size=g.size)) _ ?_ ?_ _ _ #[U,U,X,Y,i.toList,g.toList,U,ia,ib,.rfl,02]
 ·rintro⟨p,q⟩ rest r j ⟨N,rfl,x,y,u,v,c,f,H,m,B⟩;cases x with
  |nil=>rw[show u=[]from f]at c;simp at c
  |cons k x=>
   cases y with
   |nil=>rw[show v=[]from H]at c;simp at c
   |cons M y=>
    let⟨Q,J,rfl,h1,h2⟩:=f;let#[v1,G,U,h3,h4]:=H;cases c;show Zf (kd.eqs hu h1 h3 ?_);by_cases C:k=M;{subst C;rw[Yq U];exact Zm #[U,U,x,y,J,G,U,h2,h4,↑m,↑B]};rw[XF C];have hf:=XF λz=>C (aps (m.mpr z)).1;rw[hf]at h;exact Zf (Zm (Zm (Zm h)))
 rintro⟨Z,r2⟩ j ⟨N,rfl,x,y,u,v,c,f,H,m,B⟩;cases (show Z=Zc from N);show Zm ?_;have n:(i.size==g.size)=decide (X=Y):=by
  have o:=f.len;have L:=H.len;rw[Qb,Wo,UF,<-B,<-m];show#[λe=>?_,λe=>by rw[<-o,<-L,e]];cases x with
  |nil=>
   cases y with|nil=>rfl|cons k y=>rw[<-o,<-L]at e;simp at e
  |cons k x=>
   cases y with
   |nil=>rw[<-o,<-L]at e;simp at e
   |cons M y=>
    let⟨Q,J,rfl,_⟩:=f;let#[v1,G,U,_]:=H;cases c
 change R (.done (.ret (.bool (i.size==g.size)))) j;rw[n];exact h
set_option tactic.hygienic true in
def mM{x Y:Za I}{Q:Bool->Zj->Prop}(u:A.units+(kd.lev+1)<Yz)(H:XS kd s.heap x a)(y:XS kd s.heap Y b)(h:Q (decide (x=Y)) s):Zn (Zr P w) A (eqBool (.ref a) (.ref b)) Q E s:=by
 show XY ?_;split
 ·rename_i q;have e:a=b:=by have:=eq_of_beq q;injection this
  subst e;rw[H.inj y,Yq U]at h;exact Zf (WD (Zm h))
 exact Zf (arB H.ty y.ty R9 (WQ R9 H.ty F.entry_tuple_eq (A2 (by change A.units+1+kd.lev<Yz;lia) H y #[_,U,(nomatch ·),QY h]) (F.args_tuple_eq_2 _ _)) 00)
def mN{X:Za I}{Q:Bool->Zj->Prop}{n:Nat}(q:kd.lev+1<=n)(f:XS kd s.heap X a)(h:Q Zd s):Zn (Zr P w) A (d8 n (.ref a)) Q E s:=by
 let#[m,U]:∃m,n=m+1:=#[n-1,00]
 have g:=f.ty;let#[o,j,n,p,_,hd,hi]:=f;unfold d8;show Zf (Hy g R9.lookup ?_);show Zf (NU g d9 ?_);show Zf (RE p hd (Zf ?_));rw[<-oz];show mD _ (λrest r b=>r.1=Zc/\b=s/\∃x,Wj kd s.heap x rest) _ ?_ ?_ _ _ #[U,U,X,hi]
 ·rintro v rest r b ⟨c,rfl,x,H⟩;cases x with
  |nil=>cases (show v::rest=[]from H)
  |cons k x=>
   let⟨v1,z,e,y,u⟩:=H;cases e;exact Zf (kd.qui (ap4 q) y (Zm #[U,U,x,u]))
 rintro⟨i,B⟩ b ⟨c,rfl,_⟩;cases (show i=Zc from c);exact Zm h
noncomputable def A3(kd:RF P w I)(f:kd.lev<=7):yV P w (List I) where
 is:=XS kd
 hash:=Ew kd
 draws:=Ex kd
 room:=λA=>A.units+(kd.lev+1)<Yz
 inj:=λx y=>x.inj y
 keeps:=λx o hd e=>x.keeps o hd e
 pyHash:=λH a h=>mL H a h
 eqBool:=λH c b h=>mM H c b h
 quiet:=λa h=>mN (Eb f) a h
noncomputable def Pa{L:Type}[DecidableEq L](a:v7 P w L):RF P w L where
 is:=λO k v=>a.is k v=Zd
 hash:=a.hash
 draws:=λO=>1
 lev:=0
 inj:=λH y=>a.inj _ _ _ H y
 keeps:=λH O O O=>H
 hsh:=λO H h=>a.pyHash H h
 eqs:=λO H y h=>a.eqBool H y h
 qui:=λ{_ _ _ _ _ _ n} _ H h=>by rw[ard n (a.byValue _ _ H)];exact Zm h
noncomputable def A4{L:Type}[DecidableEq L](f:v7 P w L)
  (z:∀{A:Yr}{E:Zh->Zj->Prop}{s:Zj}{Q:Bool->Zj->Prop}{k:L}{c:Za L}{u:Zh}{a:Zg},A.units<Yz->f.is k u=Zd->XS (Pa f) s.heap c a->Q Zi s->Zn (Zr P w) A (eqBool u (.ref a)) Q E s)
  (M:∀{A:Yr}{E:Zh->Zj->Prop}{s:Zj}{Q:Bool->Zj->Prop}{k:L}{c:Za L}{u:Zh}{a:Zg},A.units<Yz->f.is k u=Zd->XS (Pa f) s.heap c a->Q Zi s->Zn (Zr P w) A (eqBool (.ref a) u) Q E s):RF P w (L ⊕ Za L) where
 is:=λh x v=>match x with
  |.inl k=>f.is k v=Zd
  |.inr c=>∃a,v=.ref a/\XS (Pa f) h c a
 hash:=λx=>match x with
  |.inl k=>f.hash k
  |.inr c=>Ew (Pa f) c
 draws:=λx=>match x with
  |.inl _=>1
  |.inr c=>Ex (Pa f) c
 lev:=1
 inj:=by
  intro h x v y H i;cases x with
  |inl k=>
   cases y with|inl p=>rw[f.inj _ _ _ H i]|inr c=>let⟨a,rfl,_⟩:=i;have:=f.byValue _ _ H;simp[carriedByValue]at this
  |inr c=>
   let⟨a,rfl,g⟩:=H;cases y with
   |inl k=>have:=f.byValue _ _ i;simp[carriedByValue]at this
   |inr j=>let⟨b,e,q⟩:=i;cases e;rw[g.inj q]
 keeps:=by
  intro x v h J d o N X H C hd B;cases x with|inl k=>exact H|inr c=>let⟨a,e,g⟩:=H;exact#[a,e,g.keeps C hd B]
 hsh:=by
  intro x v A E s Q m H h;cases x with|inl k=>exact f.pyHash H h|inr c=>let⟨a,rfl,g⟩:=H;exact mL m g h
 eqs:=by
  intro x u y v A E s Q m H i h;cases x with
  |inl k=>
   cases y with
   |inl p=>
    show f.eqBool H i ?_;have:decide ((Ja k:L ⊕ Za L)=.inl p)=decide (k=p):=decide_eq_decide.mpr #[λe=>aq1 e,λe=>by rw[e]];rw[<-this];exact h
   |inr c=>
    let⟨a,rfl,g⟩:=i;exact z (ap7 m) H g (by rw[XF 02]at h;exact h)
  |inr c=>
   cases y with
   |inl k=>
    let⟨a,rfl,g⟩:=H;exact M 00 i g (by rw[XF 02]at h;exact h)
   |inr j=>
    let⟨a,rfl,g⟩:=H;let#[b,U,q]:=i;show mM (kd:=Pa f) m g q ?_;have:decide ((Wh c:L ⊕ Za L)=.inr j)=decide (c=j):=decide_eq_decide.mpr #[λe=>aq2 e,λe=>by rw[e]];rw[<-this];exact h
 qui:=by
  intro x v A E s Q n G H h;cases x with|inl k=>rw[ard n (f.byValue _ _ H)];exact Zm h|inr c=>let⟨a,rfl,g⟩:=H;exact mN (by change 0+1<=n;exact G) g h
end
section
variable {P:YZ}{w:Yt}{K:Type} [DecidableEq K] {i:yV P w K}
def Ql(i:yV P w K)(h:ZD)(d:Zg)(X:Za (K×Zg×Zh)):Prop:=
 ∃o m n,h.get? d=Zb o/\o.ExactDict/\o.data=.dict m n/\m.toList=X.map (Ei i)/\(∀x∈X,i.is h x.1 x.2.1)/\(X.map (·.1)).Nodup/\n=m.size
theorem Ql.h{h:ZD}{X:Za (K×Zg×Zh)}(z:Ql i h d X):h.DictOfH i d X:=by
 let#[o,m,n,a,b,c,e,f,g,_]:=z;exact#[o,m,n,a,b,c,e,f,g]
variable {h:ZD}{d a:Zg}{o:Yg}{m:Array yS}{n:Nat}{X:Za (K×Zg×Zh)}{k:K}{v:Zh}
def mO(go:h.get? d=Zb o)(f:o.ExactDict)(e:o.data=.dict m n)(le:m.toList=X.map (Ei i))(s:∀x∈X,i.is h x.1 x.2.1)(nd:(X.map (·.1)).Nodup)(E:n=m.size)(b:i.is h k a)
  (no:∀(j:Nat) (p:Zg×Zh),X[j]?≠Zb (k,p)):Ql i (h.update d (Yg.mapDictKeys (·.push #[i.hash k,.ref a,v]))) d (Hu X k a v):=by
 rw[storedH_new (aq7 no)];show#[_,_,n+1,Rq _ go (aqf (aqe e _)),f.mapDictKeys _,aqe e _,by simp[le,Ei],λx H=>?_,?_,by simp[E]];{rcases Xk.mp H with z|z;{exact i.keeps (s x z) go e (Ro ..)};obtain rfl:=YJ.mp z;exact i.keeps b go e (Ro ..)};rw[Xt,UE];show#[nd,02,λx H y c z=>not_mem_keys_of_get no ?_];obtain rfl:y=k:=↑c
 rw[<-z];exact H
def A5(go:h.get? d=Zb o)(f:o.ExactDict)(b:o.data=.dict m n)(le:m.toList=X.map (Ei i))(s:∀x∈X,i.is h x.1 x.2.1)(nd:(X.map (·.1)).Nodup)(E:n=m.size){j:Nat}{p:Zg×Zh}
  (at':X[j]?=Zb (k,p)):Ql i (h.update d (Yg.mapDict (·.modify j λe=>{e with val:=v}))) d (Hu X k a v):=by
 rw[storedH_old (atKey_of_get nd at')];show#[_,_,n,Rq _ go (aqf (aqd b _)),f.mapDict _,aqd b _,?_,λx c=>?_,by rw[keys_map_putAt];exact nd,by simp[E]];{have z:=modify_map_putAt (Ei i) (λe:yS=>{e with val:=v}) k v (λO O=>rfl) nd at';rw[<-le]at z;simpa using z};let#[y,H,U]:=ZW.mp c;unfold putAt;split<;>exact i.keeps (s y H) go b (Ro ..)
variable {A:Yr}{E:Zh->Zj->Prop}{s:Zj}
def mP{Q:Unit->Zj->Prop}(u:i.room A)(c:i.is s.heap k a)(z:Ql i s.heap d X)(sz:X.length<=Zo)
  (q:∀H,Ql i H d (Hu X k a v)->VB d s.heap H->Q () {s with heap:=H,toks:=s.toks+i.draws k}):Zn (Zr P w) A (nW d (.ref a) v) Q E s:=by
 let#[o,m,n,go,g,e,le,b,nd,f]:=z;unfold nW dictSetHashed;try with_reducible show XY ?_
 show Zf (i.pyHash u c ?_);try with_reducible show XY ?_
 exact Zf (arq u c go e le b nd (λno=>Zf (WD (arE (hz:=by have:=c8 le;lia) go e (q _ (mO go g e le b nd f c no) (Ro ..))))) λj p x=>Zf (WD (Zf (wpAny_updateDict go e (wpAny_point (q _ (A5 go g e le b nd f x) (Ro ..)))))))
def A6{Q:Unit->Zj->Prop}(u:i.room A.in1)(c:i.is s.heap k a)(z:Ql i s.heap d X)(sz:X.length<=Zo)
  (q:∀H,Ql i H d (Hu X k a v)->VB d s.heap H->Q () {s with heap:=H,toks:=s.toks+i.draws k}):Zn (Zr P w) A (Em (.ref d) (.ref a) v) Q E s:=by
 have T:=z.h.typeIs;unfold Em;try with_reducible show XY ?_
 show Zf (u7 T 01 (Zf (UU T arj (WQ arj T entry_dict_setitem ?_ (args_dict_setitem _ _ _)))));show Zf (Eu T ?_);change Zn _ _ (nW d (.ref a) v >>= λO=>_) _ _ s;exact Zf (mP u c z sz λH e b=>Zm #[.none,U,Zm (q H e b)])
def A7(i:yV P w K)(d a:Zg)(hd:(d==Sd)=Zi)(v:Zh):
  MeetsIn P w (VA.«dict.setdefault» #[[.ref d,.ref a,v],[]]) (λA R s=>i.room A.in1/\∃k X,i.is s.heap k a/\Ql i s.heap d X/\X.length<=Zo/\
   (∀p,NR X k=Zb p->R (.ok (.ret p.2)) {s with toks:=s.toks+i.draws k})/\
   (NR X k=Zc->∀H,Ql i H d (Hu X k a v)->VB d s.heap H->R (.ok (.ret v)) {s with heap:=H,toks:=s.toks+i.draws k})):=
 .of_wp λA R s ⟨u,k,X,b,z,sz,Q,q⟩=>by
  have T:=z.h.typeIs;let#[o,m,n,go,x,e,le,c,nd,g]:=z;show Zf ?_;show Zf (Eu T (Zm ?_));change Zn _ _ (if (d==Sd)=Zd then _ else _) _ _ s;rw[Zq (by rw[hd];exact XQ)];show Zf ?_;unfold dictSetDefault;try with_reducible show XY ?_
  show Zf (i.pyHash u b (Zf (arq u b go e le c nd (λno=>?_) λj p f=>?_)));{exact Zf (WD (Zf (arE (hz:=by have:=c8 le;lia) go e (Zm (Zm #[v,U,q (aq7 no) _ (mO go x e le c nd g b no) (Ro ..)])))))};show Zf (Hv go e ?_);rw[entry_at le j,f];exact Zf (WD (Zm (Zm #[_,U,Q _ (atKey_of_get nd f)])))
end
abbrev Zx:=Sum Int Ze
noncomputable def SQ:Zx->Zh->Bool
 |.inl k,v=>nP k v
 |.inr x,v=>aq5 x v
noncomputable def A8(w:Yt):Zx->Int
 |.inl k=>hashInt k
 |.inr x=>hashStr w x
theorem UW:∀{k:Zx}{v:Zh},SQ k v=Zd->(∃i t,k=Ja i/\v=xA i t)\/(∃x t,k=Wh x/\v=nQ x t)
 |.inl i,v,h=>by
  let#[t,e]:=xB h;exact .inl #[i,t,U,e]
 |.inr x,v,h=>by
  let#[t,e]:=Zh.isStrOf_shape h;exact .inr #[x,t,U,e]
def xO(i:Int)(t:Tok):SQ (.inl i) (.int i t)=Zd:=by simp[SQ,nP]
def xP(x:Ze)(t:Tok):SQ (.inr x) (.str x t)=Zd:=by simp[SQ,aq5]
def A9(a b:Int):decide ((Ja a:Zx)=Ja b)=(a==b):=by
 by_cases e:a=b;{subst e;simp};have h:¬(Ja a:Zx)=Ja b:=λq=>e (aq1 q);rw[XF h];exact(Jj.mpr e).symm
def B3(a b:Ze):decide ((Wh a:Zx)=Wh b)=decide (a=b):=02
def B4(a:Int)(b:Ze):decide ((Ja a:Zx)=Wh b)=Zi:=02
def B5(a:Ze)(b:Int):decide ((Wh a:Zx)=Ja b)=Zi:=02
noncomputable def XT(p:YZ)(w:Yt):v7 p w Zx where
 is:=SQ
 hash:=A8 w
 inj:=λv a b g c=>by
  rcases UW g with⟨i,t,rfl,rfl⟩|⟨x,t,rfl,rfl⟩;{rcases UW c with⟨j,u,rfl,e⟩|⟨y,u,rfl,e⟩;{injection e with E _;rw[E]};exact nomatch e};rcases UW c with⟨j,u,rfl,e⟩|⟨y,u,rfl,e⟩;{exact nomatch e};injection e with E _;rw[E]
 byValue:=λk v h=>by
  rcases UW h with⟨i,t,rfl,rfl⟩|⟨x,t,rfl,rfl⟩<;>rfl
 pyHash:=λH h=>by
  rcases UW H with⟨i,t,rfl,rfl⟩|⟨x,t,rfl,rfl⟩;{exact wpAny_pyHash_int h};exact wpAny_pyHash_str h
 eqBool:=λf H h=>by
  rcases UW f with⟨i,t,rfl,rfl⟩|⟨x,t,rfl,rfl⟩;{rcases UW H with⟨j,u,rfl,rfl⟩|⟨y,u,rfl,rfl⟩;{rw[A9]at h;exact wpAny_eqBool_int h};rw[B4]at h;exact aqV i t y u _ _ _ _ h};rcases UW H with⟨j,u,rfl,rfl⟩|⟨y,u,rfl,rfl⟩;{rw[B5]at h;exact aqW x t j u _ _ _ _ h};rw[B3]at h;exact wpAny_eqBool_str h
 «strs»:=λk x t v h=>by
  rcases UW h with⟨i,u,rfl,e⟩|⟨y,u,rfl,e⟩;{exact nomatch e};injection e with E _;subst E;cases v<;>rfl
def B6(p:YZ)(w:Yt)(i:Int)(t:Tok):(XT p w).is (.inl i) (.int i t)=Zd:=xO i t
def B7(p:YZ)(w:Yt)(x:Ze)(t:Tok):(XT p w).is (.inr x) (.str x t)=Zd:=xP x t
def XS.isTup{I:Type}[DecidableEq I]{kd:RF P w I}{x:Za I}(z:XS kd h x a):∃i,h.IsTuple a i:=by let#[o,i,n,H,c,hd,_]:=z;exact#[i,o,H,c,n,hd]
noncomputable def UX(P:YZ)(w:Yt):RF P w (Zx ⊕ Za Zx):=A4 (XT P w)
 (λH b a h=>by
  let#[I,hi]:=a.isTup;rcases UW b with⟨i,t,rfl,rfl⟩|⟨x,t,rfl,rfl⟩;{exact nM.int_tuple i t hi H _ _ _ _ h};exact nM.str_tuple x t hi H _ _ _ _ h)
 (λH b a h=>by
  let#[I,hi]:=a.isTup;rcases UW b with⟨i,t,rfl,rfl⟩|⟨x,t,rfl,rfl⟩;{exact nM.tuple_int i t hi H _ _ _ _ h};exact nM.tuple_str x t hi H _ _ _ _ h)
abbrev Zu:=Za (Zx ⊕ Za Zx)
noncomputable def Pb(P:YZ)(w:Yt):yV P w Zu:=A3 (UX P w) (by change 1<=7;decide)
def Hz{A:Yr}(H:A.units+3<Yz):(Pb P w).room A.in1:=by assumption
end L2
variable {K:ZF}
namespace L2
inductive V where
 | non | bl (b:Bool) | int (i:Int) | str (x:Ze) | byt (b:Array UInt8) | flt (b:UInt64) | ref (a:Zg) | ty (n:String)
 deriving DecidableEq
def RelV:V->Zh->Prop
 |.non,u=>u=RA
 |.bl b,u=>u=aq3 b
 |.int i,u=>∃t,u=xA i t
 |.str x,u=>∃t,u=nQ x t
 |.byt b,u=>∃t,u=Zh.bytes b t
 |.flt b,u=>∃t,u=aq4 b t
 |.ref a,u=>u=Xa a
 |.ty n,u=>u=NQ n
abbrev ZX:Za V->Za Zh->Prop:=Paired RelV
theorem ZX.length(r:ZX x u):x.length=u.length:=KW r
theorem ZX.get:∀{X:Za V}{s:Za Zh}{i:Nat}{x:V},ZX X s->X[i]?=Zb x->∃u,s[i]?=Zb u/\RelV x u
 |_,_,_,_,.nil,e=>by simp at e
 |_,_,0,_,.cons r _,e=>by simp at e;subst e;exact#[_,U,r]
 |_,_,i+1,x,.cons _ t,e=>by
  let#[u,a,H]:=ZX.get t (by assumption);exact#[u,by assumption,H]
theorem ZX.set(r:RelV x u):∀{X:Za V}{s:Za Zh}(i:Nat),ZX X s->ZX (X.set i x) (s.set i u)
 |_,_,_,.nil=>.nil
 |_,_,0,.cons _ t=>.cons r t
 |_,_,i+1,.cons q t=>.cons q (ZX.set r i t)
def ZX.append{x y:Za V}{u w:Za Zh}(h:ZX x u)(s:ZX y w):ZX (x++y) (u++w):=by
 induction h with|nil=>exact s|cons r t i=>exact .cons r i
theorem ZX.take:∀{x:Za V}{u:Za Zh}(n:Nat),ZX x u->ZX (x.take n) (u.take n)
 |_,_,0,_=>.nil
 |_,_,_+1,.nil=>.nil
 |_,_,n+1,.cons r t=>.cons r (ZX.take n t)
theorem ZX.drop:∀{x:Za V}{u:Za Zh}(n:Nat),ZX x u->ZX (x.drop n) (u.drop n)
 |_,_,0,r=>r
 |_,_,_+1,.nil=>.nil
 |_,_,n+1,.cons _ t=>ZX.drop n t
def Us:Option V->Option Zh->Prop
 |some v,Zb u=>RelV v u
 |none,Zc=>True
 |_,_=>False
def KV:Za (a×V)->Za (a×Zh)->Prop:=Paired λ(p:a×V) (q:a×Zh)=>p.1=q.1/\RelV p.2 q.2
noncomputable def kV:Zx->V
 |.inl i=>.int i
 |.inr x=>.str x
inductive HO where
 | lst (xs:List V)
 | tup (xs:List V)
 | dK (kvs:List (Zx×V)) | dT (kvs:List (Zu×V))
 | set (S:Int->Bool) (n:Nat)
 | ins (C dx:Zg) (fs:List (Ze×V))
 | own (x:Zg)
 | xd (fs:List (Ze×V))
 | met (f x:Zg)
 | rng (lo hi:Int)
 | Ua (o:Yg) (u:HO)
 | tbl (ps:Array Zh)
 | ext (φ:ZD->Prop)
abbrev Hp:=Zg->Option HO
noncomputable def upd(H:Hp)(a:Zg)(o:HO):Hp:=λb=>if b=a then Zb o else H b
def YQ:upd H a o a=Zb o:=by unfold upd;rw[Zt U]
def ZN(h:b≠a):upd H a o b=H b:=by unfold upd;rw[Zq h]
def B8:upd (upd H a o) a u=upd H a u:=by
 funext b;unfold upd;split<;>rfl
def xQ{H:Hp}(h:H a=Zb o)(c:H b=Zb u)(d:o≠u):a≠b:=by
 intro e;subst e;rw[h]at c;exact d (VE c)
def Wx{H:Hp}(h:H a=Zb o)(c:H b=Zc):a≠b:=by
 intro e;subst e;rw[h]at c;cases c
def Pg(H:Hp):Zu->Za V->Prop
 |[],s=>s=[]
 |.inl k::a,s=>∃u,s=kV k::u/\Pg H a u
 |.inr l::a,s=>∃c u,s=.ref c::u/\H c=Zb (.tup (l.map kV))/\Pg H a u
def XU(H:Hp)(k:Zu)(b:Zg):Prop:=∃s,H b=Zb (.tup s)/\Pg H k s
theorem Pg.stay{H f:Hp}(a:∀b x,H b=Zb (.tup x)->f b=Zb (.tup x)):∀{k:Zu}{s:Za V},Pg H k s->Pg f k s
 |[],_,e=>e
 |.inl k::g,_,⟨u,e,h⟩=>#[u,e,h.stay a]
 |.inr l::g,_,⟨c,u,e,i,h⟩=>#[c,u,e,a _ _ i,h.stay a]
theorem XU.stay{H c:Hp}{k:Zu}{b:Zg}(h:XU H k b)(a:∀b x,H b=Zb (.tup x)->c b=Zb (.tup x)):XU c k b:=by
 let#[s,f,e]:=h;exact#[s,a _ _ f,e.stay a]
section
variable (P:YZ) (w:Yt)
def Wy(H:Hp)(h:ZD)(a:Zg):HO->Prop
 |.lst X=>X.length<=Zo/\∃(i:Za Zh) (n:Nat),ZX X i/\h.get? a=Zb {cls:=.type "list",data:=.seq i.toArray n}
 |.tup X=>X.length<=Zo/\∃i:Za Zh,ZX X i/\KI h a i.toArray
 |.dK s=>s.length<=Zo/\(a==Sd)=Zi/\∃g,KV s g/\h.DictOf (XT P w) a g
 |.dT s=>s.length<=Zo/\(a==Sd)=Zi/\∃X:Za (Zu×Zg×Zh),Paired (λ(p:Zu×V) (q:Zu×Zg×Zh)=>p.1=q.1/\XU H p.1 q.2.1/\RelV p.2 q.2.2) s X/\
   ∃o e E,h.get? a=Zb o/\o.ExactDict/\o.data=.dict e E/\e.toList=X.map (Ei (Pb P w))/\(X.map (·.1)).Nodup/\E=e.size
 |.set S n=>h.SetOf (QT P w) a S n
 |.ins C b fs=>H b=Zb (.own a)/\fs.length<=1000/\b≠a/\h.get? a=Zb (Ry C b)/\
   ∃m,h.Ns1 b m/\(∀f,Us (fs.lookup f) (m f))/\q8 m (fs.map (·.1))
 |.own _=>∃o,h.get? a=Zb o
 |.xd fs=>∃m,h.Ns1 a m/\∀f,Us (fs.lookup f) (m f)
 |.rng lo hi=>∃t u v,h.get? a=Zb {cls:=.type "range",data:=.fields [.int lo t,.int hi u,.int 1 v].toArray}
 |.Ua o u=>h.get? a=Zb o/\Wy H h a u
 |.tbl z=>h.get? a=Zb {cls:=.none,data:=.fields z}
 |.met f x=>h.get? a=Zb (PySem.W.methodObj (.ref f) (.ref x))
 |.ext c=>c h/\(∃o,h.get? a=Zb o)/\∀y j:ZD,c y->(∀o,y.get? a=Zb o->j.get? a=Zb o)->c j
def Xh(H:Hp)(h:ZD):Prop:=∀a o,H a=Zb o->Wy P w H h a o
end
section
variable {P:YZ}{w:Yt}{H i:Hp}{h g:ZD}{a:Zg}{o:HO}
theorem Wy.lt(x:Wy P w H h a o):a<h.objs.size:=by
 cases o with|lst X=>let⟨_,_,_,_,e⟩:=x;exact Yc e|tup X=>let⟨_,_,_,p⟩:=x;exact p.lt|dK s=>let⟨_,_,_,_,o,_,_,e,_⟩:=x;exact Yc e|dT s=>let⟨_,_,_,_,o,_,_,e,_⟩:=x;exact Yc e|set S n=>let⟨o,_,_,_,e,_⟩:=x;exact Yc e|ins C j fs=>let⟨_,_,_,e,_⟩:=x;exact Yc e|own y=>let⟨_,e⟩:=x;exact Yc e|xd fs=>let⟨_,⟨_,_,_,e,_⟩,_⟩:=x;exact Yc e|rng lo hi=>let⟨_,_,_,e⟩:=x;exact Yc e|Ua ob u=>let⟨e,_⟩:=x;exact Yc e|tbl c=>exact Yc (x)|met f y=>exact Yc (x)|ext b=>let⟨_,⟨_,e⟩,_⟩:=x;exact Yc e
def Paired.xR{c:Za j}{L:Za e}(h:Paired F c L)(f:∀a b,F a b->G a b):Paired G c L:=by
 induction h with|nil=>exact .nil|cons r t I=>exact .cons (f _ _ r) I
theorem Wy.stay(x:Wy P w H h a o)(k:∀b u,(b=a\/H b=Zb (.own a))->h.get? b=Zb u->g.get? b=Zb u)
  (J:∀b,H b=Zb (.own a)->i b=Zb (.own a))(G:∀b X,H b=Zb (.tup X)->i b=Zb (.tup X)):Wy P w i g a o:=by
 induction o with
 |lst X=>let⟨z,I,n,r,e⟩:=x;exact#[z,I,n,r,k _ _ (.inl U) e]
 |tup X=>let⟨z,I,r,ob,e,c⟩:=x;exact#[z,I,r,ob,k _ _ (.inl U) e,c]
 |dK s=>let⟨z,y,A,r,ob,E,j,e,c⟩:=x;exact#[z,y,A,r,ob,E,j,k _ _ (.inl U) e,c]
 |dT s=>
  let⟨z,y,X,r,ob,E,j,e,c⟩:=x;exact#[z,y,X,Paired.xR r λp q z=>#[z.1,z.2.1.stay G,z.2.2],ob,E,j,k _ _ (.inl U) e,c]
 |set S n=>let⟨ob,E,j,t,e,c⟩:=x;exact#[ob,E,j,t,k _ _ (.inl U) e,c]
 |ins C Q fs=>
  let⟨d,z,ne,e,m,⟨od,E,j,L,c⟩,r⟩:=x;exact#[J _ d,z,ne,k _ _ (.inl U) e,m,#[od,E,j,k _ _ (.inr d) L,c],r]
 |own y=>let⟨ob,e⟩:=x;exact#[ob,k _ _ (.inl U) e]
 |xd fs=>let⟨m,⟨od,E,j,e,c⟩,r⟩:=x;exact#[m,#[od,E,j,k _ _ (.inl U) e,c],r]
 |rng lo hi=>let⟨t,u,v,e⟩:=x;exact#[t,u,v,k _ _ (.inl U) e]
 |Ua ob u B=>let⟨e,q⟩:=x;exact#[k _ _ (.inl U) e,B q]
 |tbl N=>
  have e:=x;exact k a _ (.inl U) e
 |met f y=>
  have e:=x;exact k a _ (.inl U) e
 |ext M=>let⟨p,⟨o,e⟩,st⟩:=x;exact#[st _ _ p λo q=>k _ _ (.inl U) q,#[o,k _ _ (.inl U) e],st]
theorem Xh.lt(x:Xh P w H h)(e:H a=Zb o):a<h.objs.size:=(x a o e).lt
def Xh.fresh(x:Xh P w H h)(e:h.objs.size<=a):H a=Zc:=by
 cases q:H a with|none=>rfl|some u=>exact ZJ (YK (x.lt q) e) (NI _)
def Xh.kept(x:Xh P w H h)(k:∀b u,h.get? b=Zb u->g.get? b=Zb u):Xh P w H g:=λa o e=>
 (x a o e).stay (λb u O q=>k b u q) (λO q=>q) λO O q=>q
def Xh.laid(x:Xh P w H h)(k:∀b u,h.get? b=Zb u->g.get? b=Zb u)(p:h.objs.size<=a)(new:Wy P w (upd H a o) g a o):Xh P w (upd H a o) g:=λb u e=>by
 have n:=x.fresh p;by_cases f:b=a;{subst f;rw[YQ]at e;cases e;exact new};rw[ZN f]at e;exact(x b u e).stay (λc v O q=>k c v q) (λc q=>by rw[ZN (Wx q n)];exact q) λc X q=>by rw[ZN (Wx q n)];exact q
end
def Rd(H:Hp)(a:Zg)(u:HO):Prop:=H a=Zb u\/∃o,H a=Zb (.Ua o u)
def Rd.ok(r:Rd H a u)(x:Xh P w H h):Wy P w H h a u:=by
 rcases r with r|⟨o,r⟩;{exact x a u r};let#[_,q]:=x a _ r;exact q
def HA:Option HO->Prop
 |some (.lst _)=>True
 |some (.dK _)=>True
 |some (.dT _)=>True
 |some (.set _ _)=>True
 |some (.ins _ _ _)=>True
 |some (.ext _)=>True
 |_=>False
section
variable {P:YZ}{w:Yt}{H:Hp}{h a:ZD}{x e:Zg}{o:HO}
def Xh.write(ok:Xh P w H h)(m:HA (H x))(p:e=x\/H e=Zb (.own x))(k:∀b u,b≠e->h.get? b=Zb u->a.get? b=Zb u)(j:∃u,a.get? e=Zb u)
  (new:Wy P w (upd H x o) a x o):Xh P w (upd H x o) a:=λb u q=>by
 have n:∀c y,H c=Zb (.own y)->c≠x:=λc y r z=>by subst z;rw[r]at m;exact m
 have N:∀c X,H c=Zb (.tup X)->c≠x:=λc X r z=>by subst z;rw[r]at m;exact m
 by_cases i:b=x;{subst i;rw[YQ]at q;cases q;exact new};rw[ZN i]at q;by_cases f:b=e
 ·have Q:H b=Zb (.own x):=by
   rcases p with z|z;{exact ZJ (f.trans z) i};rw[f];exact z
  rw[q]at Q;cases Q;let#[v,s]:=j;exact#[v,by rw[f];exact s]
 show(ok b u q).stay (λc v g r=>k c v ?_ r) (λc r=>by rw[ZN (n c b r)];exact r) λc X r=>by rw[ZN (N c X r)];exact r
 rcases g with rfl|g;{exact f};rintro rfl;rcases p with z|z;{exact n c b g z};rw[g]at z;cases z;exact i U
end
structure Un (fs ex:List Zg)(H H':Hp)(h h':ZD):Prop where
 keep:∀b o,h.get? b=Zb o->H b=Zc->b∉fs->b∉ex->h'.get? b=Zb o
 slot:∀b o,h.get? b=Zb o->H b=Zc->b∈fs->b∉ex->∃sl,h'.get? b=Zb {o with slots:=sl}
 free:∀b o,h.get? b=Zb o->H b=Zc->b∉ex->H' b=Zc
 there:∀b o,h.get? b=Zb o->b∉ex->∃o',h'.get? b=Zb o'
 tups:∀b xs,H b=Zb (.tup xs)->H' b=Zb (.tup xs)
 frzs:∀b o u,H b=Zb (.Ua o u)->H' b=Zb (.Ua o u)
 tbls:∀b ps,H b=Zb (.tbl ps)->∃more,H' b=Zb (.tbl (ps++more))
section
variable {fs E:Za Zg}{H g:Hp}{h f c:ZD}{a x e:Zg}{o:HO}
def Un.any(u:Un fs E H g h f)(q:h.get? b=Zb ob)(n:H b=Zc)(i:b∉E):∃s,f.get? b=Zb {ob with slots:=s}:=by
 by_cases j:b∈fs;{exact u.slot b ob q n j i};exact#[ob.slots,u.keep b ob q n j i]
def Un.kept(k:∀b u,h.get? b=Zb u->c.get? b=Zb u):Un fs E H H h c:=
 #[λb ob q O O O=>k b ob q,λb ob q O O O=>⟨ob.slots,k b ob q⟩,λO O O n O=>n,λb ob q O=>⟨ob,k b ob q⟩,λO O q=>q,λO O O q=>q,λO p q=>#[#[],by rw[q];simp]]
def Un.refl:Un fs E H H h h:=Un.kept λO O q=>q
def Un.laid(k:∀b u,h.get? b=Zb u->c.get? b=Zb u)(p:h.objs.size<=a)(i:H a=Zc):Un fs E H (upd H a o) h c where
 keep:=λb u q O O O=>k b u q
 slot:=λb u q O O O=>#[u.slots,k b u q]
 free:=λb u q n O=>by rw[ZN (Ys (YK (Yc q) p))];exact n
 there:=λb u q O=>#[u,k b u q]
 tups:=λb X q=>by rw[ZN (Wx q i)];exact q
 frzs:=λb u X q=>by rw[ZN (Wx q i)];exact q
 tbls:=λb s q=>#[#[],by rw[ZN (Wx q i),q];simp]
def Un.write(m:HA (H x))(y:e=x\/H e=Zb (.own x))(k:∀b u,b≠e->h.get? b=Zb u->c.get? b=Zb u)(p:∃u,c.get? e=Zb u):Un fs E H (upd H x o) h c:=by
 have s:∀b,H b=Zc->b≠x:=λb n z=>by subst z;rw[n]at m;exact m
 have w:∀b,H b=Zc->b≠e:=λb n z=>by
  subst z;rcases y with r|r;{exact s b n r};rw[n]at r;cases r
 have j:∀b u,H b=Zb u->¬HA (Zb u)->b≠x:=λb u q N z=>by subst z;rw[q]at m;exact N m
 show#[λb u q n O O=>k b u (w b n) q,λb u q n O O=>⟨u.slots,k b u (w b n) q⟩,λb u q n O=>by rw[ZN (s b n)];exact n,λb u q O=>?_,
  λb X q=>by rw[ZN (j b _ q λz=>z)];exact q,λb u X q=>by rw[ZN (j b _ q λz=>z)];exact q,λb A q=>#[#[],by rw[ZN (j b _ q λz=>z),q];simp]]
 by_cases i:b=e;{subst i;exact p};exact#[u,k b u i q]
end
noncomputable def Ey(h:ZD)(H:Hp):Za Zg:=(Vj h.objs.size).filter λa=>(H a).isSome
noncomputable def NV(h:ZD)(H:Hp):ZD:=PySem.W.hideAll h (Ey h H)
def C0(h:ZD)(H:Hp):(NV h H).objs.size=h.objs.size:=PySem.W.hideAll_size _ _
def C1(e:h.get? b=Zb o)(n:H b=Zc):(NV h H).get? b=Zb o:=
 PySem.W.hideAll_get _ e λm=>by
  have q:=(WM.mp m).2;rw[n]at q;simp at q
def C2(e:(NV h H).get? b=Zb o):h.get? b=Zb o/\H b=Zc:=by
 have E:=PySem.W.of_hideAll (Ey h H) e;show#[E,?_];cases q:H b with
 |none=>rfl
 |some x=>
  have m:b∈Ey h H:=WM.mpr #[Hd.mpr (Yc E),by simp[q]];have z:(NV h H).get? b=Zc:=PySem.W.hideAll_none (Ey h H) m;rw[z]at e;cases e
structure Mod (K:ZF)(mg:Ze->Option Zh)(base:ZD):Prop where
 kin:K.In base
 glob:base.Ns Xw mg
 blt:∃mb,base.Ns m8 mb/\∀x:Ze,x ≠ "__name__" ->mb x=RC x
 nolimit:base.NoLimit
structure Cx where
 prog:YZ
 w:Yt
 K:ZF
 mg:Ze->Option Zh
 base:ZD
 A:Yr
 N:List Ze
 s₀:Zj
 H₀:Hp
 env:Wf
 outer:List Wf
 stack:List Wf
 ex:List Zg
 fn:Ze->Bool
 calm:Bool
 pn:List (Zg×Yg)
 xe:Zh->Zj->Prop
noncomputable def VN(l:Za Wf):Za Zg:=l.filterMap (·.frame)
abbrev Cx.fs(X:Cx):Za Zg:=VN X.outer
def Vk(s:Wu)(x:Ze):Prop:=s.names.lookup x=Zb .local\/s.names.lookup x=Zb .cell\/s.names.lookup x=Zb .free
def Loc(s:Wu)(x:Ze):Prop:=s.names.lookup x=Zb .local\/s.names.lookup x=Zb .cell
def aoy(e:Wf)(h:ZD)(m:Ze->Option Zh)(x:Ze)(u:Zh):Prop:=
 (e.kindOf x=Zb .local/\m x=Zb u)\/((e.kindOf x=Zb .cell\/e.kindOf x=Zb .free)/\∃c,e.cells.lookup x=Zb c/\h.IsCell c (Zb u))
abbrev Xl(X:Cx):Prop:=X.calm=Zd
structure Cx.Ok (X:Cx):Prop where
 mod:Mod X.K X.mg X.base
 kind:X.env.scope.kind=.function
 glob:X.env.globals=Xw
 blt:X.env.builtins=m8
 above:X.s₀.heap.objs.size<=X.env.locals
 inj:∀x y c,X.env.cells.lookup x=Zb c->X.env.cells.lookup y=Zb c->x=y
 has:∀x,(X.env.kindOf x=Zb .cell\/X.env.kindOf x=Zb .free)->∃c,X.env.cells.lookup x=Zb c
 cab:∀x c,X.fn x=Zd->X.env.cells.lookup x=Zb c->X.s₀.heap.objs.size<=c
 hd:Xl X->X.A.handled=Zc
 frames:X.A.frames=Zb X.stack
 stk:X.stack=X.outer\/(X.stack=X.env::X.outer/\X.env.frame=Zb X.env.locals)
 exf:∀b∈X.ex,b≠X.env.locals/\∀x c,X.env.cells.lookup x=Zb c->c≠b
 bs:∀b o,X.base.get? b=Zb o->X.s₀.heap.get? b=Zb o/\X.H₀ b=Zc
 bsz:X.base.objs.size<=X.s₀.heap.objs.size
 noex:∀b o,X.base.get? b=Zb o->b∉X.ex
 exfs:∀b∈X.ex,b∉X.fs
 SR:X.s₀.heap.FunFrames X.base X.outer
 Qm:∀b∈X.fs,X.H₀ b=Zc
structure Inv (X:Cx)(pins:List (Zg×Yg))(σ:List (Option V))(H:Hp)(s:Zj):Prop where
 ok:X.Ok
 os:s.os=X.s₀.os
 bare:Nr s.gens
 base:Un X.fs X.ex X.H₀ H X.s₀.heap s.heap
 loc:∃m,s.heap.Ns X.env.locals m/\∀(i:Nat) (x:Ze) (v:V),X.N[i]?=Zb x->σ[i]?=Zb (Zb v)->Vk X.env.scope x->∃u,RelV v u/\aoy X.env s.heap m x u
 cell:∀x c,X.env.cells.lookup x=Zb c->∃v,s.heap.IsCell c v
 free:H X.env.locals=Zc
 freeC:∀x c,X.env.cells.lookup x=Zb c->H c=Zc
 pin:∀p∈X.pn++pins,s.heap.get? p.1=Zb p.2/\H p.1=Zc/\p.1≠X.env.locals/\p.1∉X.fs/\∀v,p.2.data≠.cell v
 hok:Xh X.prog X.w H s.heap
 len:σ.length=X.N.length
section
variable {X:Cx}{f:Za (Zg×Yg)}{g:Za (Option V)}{H C:Hp}{s:Zj}{B:ZD}
def Cx.Ok.C3(ok:X.Ok)(e:X.base.get? b=Zb o):b∉X.fs:=λa=>by
 have:=(ok.SR.mem a).1;rw[e]at this;cases this
theorem Inv.bs(I:Inv X f g H s):∀b o,X.base.get? b=Zb o->s.heap.get? b=Zb o/\H b=Zc:=λb o e=>
 #[I.base.keep b o (I.ok.bs b o e).1 (I.ok.bs b o e).2 (I.ok.C3 e) (I.ok.noex b o e),I.base.free b o (I.ok.bs b o e).1 (I.ok.bs b o e).2 (I.ok.noex b o e)]
def Inv.bk(I:Inv X f g H s):∀b o,X.base.get? b=Zb o->s.heap.get? b=Zb o:=λb o e=>(I.bs b o e).1
theorem Inv.mod(I:Inv X f g H s):Mod X.K X.mg X.base:=I.ok.mod
def Inv.Wk(I:Inv X f g H s):X.K.In s.heap:=I.ok.mod.kin.keeps I.bk
def Inv.fr(I:Inv X f g H s):∃m,Fr X.base X.env.locals s.heap m:=
 let ⟨m,n,_⟩:=I.loc
 #[m,n,I.bk,Yp I.ok.bsz I.ok.above]
theorem Inv.lt(I:Inv X f g H s):X.env.locals<s.heap.objs.size:=let ⟨_,n,_⟩:=I.loc;n.lt
def Inv.sz(I:Inv X f g H s):X.s₀.heap.objs.size<=s.heap.objs.size:=Yp I.ok.above (Uo I.lt)
def Inv.mQ(I:Inv X f g H s)(h:s.heap.objs.size<=a):a∉X.fs:=λc=>by
 let#[_,o,b,_]:=I.ok.SR.mem c;exact ZJ (YK (Yc b) (Yp I.sz h)) (NI _)
def Inv.Lx(I:Inv X f g H s):∀x c,X.env.cells.lookup x=Zb c->c≠X.env.locals:=λx c e z=>by
 let#[v,o,i,hd]:=I.cell x c e;let#[m,#[j,E,p,a,b,_],_]:=I.loc;rw[z,a]at i;cases i;rw[b]at hd;cases hd
theorem Inv.SR(I:Inv X f g H s):s.heap.FunFrames X.base X.outer:=by
 have all:∀l,(∀b∈VN l,b∈X.fs)->X.s₀.heap.FunFrames X.base l->s.heap.FunFrames X.base l:=by
  intro l;induction l with
  |nil=>intro _ _;trivial
  |cons E r m=>
   intro j u;let#[w,#[L,o,a,q,p,hd],n]:=u;have i:=j L (by unfold VN;rw[P0,a];exact YY);let#[x,e]:=I.base.slot L o p (I.ok.Qm L i) i λz=>I.ok.exfs L z i;exact#[w,#[L,_,a,q,e,hd],m (λb c=>j b (by unfold VN;rw[P0,a];exact YT _ c)) n]
 exact all X.outer (λO c=>c) I.ok.SR
theorem Inv.stack(I:Inv X f g H s):s.heap.FunFrames X.base X.stack:=by
 rcases I.ok.stk with e|⟨e,a⟩;{rw[e];exact I.SR};rw[e];let#[m,n,_]:=I.loc;show .cons (by rw[I.ok.kind];decide) a n ?_ I.SR;exact ZD.get?_none_of_le (Yp I.ok.bsz I.ok.above)
def Inv.Ly(I:Inv X f g H s):∀b∈VN X.stack,b∈X.env.locals::X.fs:=λb a=>by
 rcases I.ok.stk with e|⟨e,c⟩;{rw[e]at a;exact YT _ a};rw[e]at a;unfold VN at a;rw[P0,c]at a;exact a
def Inv.mR(I:Inv X f g H s):∀b∈VN X.stack,H b=Zc:=λb a=>by
 rcases Yk.mp (I.Ly b a)with e|a;{rw[e];exact I.free};let#[_,o,c,_]:=I.ok.SR.mem a;exact I.base.free b o c (I.ok.Qm b a) λz=>I.ok.exfs b z a
def Inv.step{ch:Za Zg}(I:Inv X f g H s)
  (j:∀b∈ch,(b∈X.ex\/X.s₀.heap.objs.size<=b)/\b≠X.env.locals/\(∀x c,X.env.cells.lookup x=Zb c->c≠b)/\∀p∈X.pn++f,p.1≠b)
  (keep:∀b o,b≠X.env.locals->b∉X.fs->b∉ch->s.heap.get? b=Zb o->H b=Zc->B.get? b=Zb o)
  (slot:∀b o,b≠X.env.locals->b∈X.fs->b∉ch->s.heap.get? b=Zb o->H b=Zc->∃sl,B.get? b=Zb {o with slots:=sl})(free:∀b o,b∉ch->s.heap.get? b=Zb o->H b=Zc->C b=Zc)
  (there:∀b o,b∉ch->s.heap.get? b=Zb o->∃Y,B.get? b=Zb Y)
  (M:∀b G,H b=Zb (.tup G)->C b=Zb (.tup G))(frzs:∀b o u,H b=Zb (.Ua o u)->C b=Zb (.Ua o u))(Q:∀b ps,H b=Zb (.tbl ps)->∃more,C b=Zb (.tbl (ps++more)))
  (ns:∀m,s.heap.Ns X.env.locals m->B.Ns X.env.locals m)(hok:Xh X.prog X.w C B)(hg:Nr g'):
  Inv X f g C {s with heap:=B,gens:=g',drawn:=d',toks:=t'}:=by
 have Z:∀b o,X.s₀.heap.get? b=Zb o->b≠X.env.locals:=λb o e=>Ys (YK (Yc e) I.ok.above);have A:∀b o,X.s₀.heap.get? b=Zb o->b∉X.ex->b∉ch:=λb o e a J=>by
  rcases (j b J).1 with z|z;{exact a z};exact ZJ (YK (Yc e) z) (NI _)
 have y:∀x c,X.env.cells.lookup x=Zb c->∀v,s.heap.IsCell c v->B.IsCell c v:=λx c e v ⟨o,L,hd⟩=>by
  have N:=λz=>(j c z).2.2.1 x c e U;by_cases hc:c∈X.fs;{let#[sl,q]:=slot c o (I.Lx x c e) hc N L (I.freeC x c e);exact#[_,q,hd]};exact#[o,keep c o (I.Lx x c e) hc N L (I.freeC x c e),hd]
 show#[I.ok,I.os,hg,⟨λb o e n J a=>?_,λb o e n J a=>?_,λb o e n a=>?_,λb o e a=>?_,λb G e=>M b G (I.base.tups b G e),λb o G e=>frzs b o G (I.base.frzs b o G e),λb ps e=>?_⟩,?_,λx c e=>?_,?_,λx c e=>?_,λp hp=>?_,hok,I.len];{exact keep b o (Z b o e) J (A b o e a) (I.base.keep b o e n J a) (I.base.free b o e n a)};{let#[sl,E]:=I.base.slot b o e n J a;let#[sl',e2]:=slot b _ (Z b o e) J (A b o e a) E (I.base.free b o e n a);exact#[sl',e2]};{let#[Y,E]:=I.base.there b o e a;exact free b Y (A b o e a) E (I.base.free b o e n a)};{let#[Y,E]:=I.base.there b o e a;exact there b Y (A b o e a) E};{let#[m1,E]:=I.base.tbls b ps e;let#[m2,e2]:=Q b _ E;exact#[m1++m2,by rw[e2,Array.append_assoc]]};{let#[m,hn,hl]:=I.loc;show#[m,ns m hn,λi x v E e2 e3=>?_];let#[u,r,l]:=hl i x v E e2 e3;show#[u,r,?_];rcases l with l|⟨k,c,e,z⟩;{exact .inl l};exact .inr #[k,c,e,y x c e _ z]};{let#[v,z]:=I.cell x c e;exact#[v,y x c e v z]};{let#[m,#[o,_,_,L,_],_]:=I.loc;exact free _ o (λz=>(j _ z).2.1 U) L I.free};{let#[v,o,L,hd]:=I.cell x c e;exact free c o (λz=>(j c z).2.2.1 x c e U) L (I.freeC x c e)};let#[e,n,ne,nf,d]:=I.pin p hp;have N:=λz=>(j p.1 z).2.2.2 p hp U;exact#[keep p.1 p.2 ne nf N e n,free p.1 p.2 N e n,ne,nf,d]
def Inv.un{q:Nat}(I:Inv X f g H s)(u:Un X.fs [] H C s.heap B)(c:Xh X.prog X.w C B):Inv X f g C {s with heap:=B,toks:=q}:=by
 let#[m,#[o,J,N,p,r],_]:=id I.loc;let#[A,L]:=u.any p I.free 02;exact I.step (ch:=[]) (λO z=>nomatch z) (λb o O i O e n=>u.keep b o e n i 02) (λb o O i O e n=>u.slot b o e n i 02) (λb o O e n=>u.free b o e n 02) (λb o O e=>u.there b o e 02) u.tups u.frzs u.tbls (λM y=>by
  let#[G,E,j,a,x]:=y
  rw[p]at a;cases a
  exact#[_,E,j,L,x]) c I.bare
def Inv.call{G:Za Zg}(I:Inv X f g H s)(u:Un (VN X.stack) G H C s.heap B)(q:Xh X.prog X.w C B)(N:Nr Y)
  (j:∀b∈G,(b∈X.ex\/X.s₀.heap.objs.size<=b)/\b≠X.env.locals/\(∀x c,X.env.cells.lookup x=Zb c->c≠b)/\∀p∈X.pn++f,p.1≠b):
  Inv X f g C {s with heap:=B,gens:=Y,drawn:=d',toks:=Z}:=by
 let#[m,#[o,es,ep,A,r],_]:=id I.loc;let#[sl,L]:=u.any A I.free λz=>(j _ z).2.1 U;exact I.step j (λb o L Q a e n=>u.keep b o e n (λz=>(Yk.mp (I.Ly b z)).elim L Q) a) (λb o O O a e n=>u.any e n a) (λb o a e n=>u.free b o e n a) (λb o a e=>u.there b o e a) u.tups u.frzs u.tbls (λm' M=>by
  let#[o',E,y,i,J]:=M
  rw[A]at i;cases i
  exact#[_,E,y,L,J]) q N
def Inv.turned(I:Inv X f g H s)(k:∀b o,b≠i->s.heap.get? b=Zb o->B.get? b=Zb o)(w:H i=Zc)(L:i≠X.env.locals)
  (J:i∈X.ex\/X.s₀.heap.objs.size<=i)(G:∀x c,X.env.cells.lookup x=Zb c->c≠i)(E:∀p∈X.pn++f,p.1≠i):Inv X f g H {s with heap:=B,toks:=t'}:=by
 have N:∀b u,H b=Zb u->b≠i:=λb u e z=>by rw[z,w]at e;cases e
 show I.step (ch:=[i]) (λb A=>?_) (λb o O O a e O=>k b o (λz=>a (by simp[z])) e) (λb o O O a e O=>#[o.slots,k b o (λz=>a (by simp[z])) e]) (λO O O O n=>n)
  (λb o a e=>#[o,k b o (λz=>a (by simp[z])) e]) (λO O e=>e) (λO O O e=>e) (λb Y e=>#[#[],by rw[e];simp]) (λm y=>?_) (λb u e=>?_) I.bare
 ·have e:b=i:=by simpa using A
  subst e;exact#[J,L,G,E]
 {let#[o,M,Q,j,r]:=y;exact#[o,M,Q,k _ o (XR L) j,r]};show(I.hok b u e).stay (λc v a q=>k c v ?_ q) (λO q=>q) λO O q=>q;rcases a with z|z;{rw[z];exact N b u e};exact N c _ z
def Inv.tok(I:Inv X f g H s)(t:Nat):Inv X f g H {s with toks:=t}:=I.un Un.refl I.hok
theorem Inv.kept(I:Inv X f g H s)(k:∀b u,s.heap.get? b=Zb u->B.get? b=Zb u):Inv X f g H {s with heap:=B,toks:=t'}:=I.un (Un.kept k) (I.hok.kept k)
theorem Inv.laid(I:Inv X f g H s)(k:∀b u,s.heap.get? b=Zb u->B.get? b=Zb u)(p:s.heap.objs.size<=a)(new:Wy X.prog X.w (upd H a o) B a o):
  Inv X f g (upd H a o) {s with heap:=B,toks:=t'}:=I.un (Un.laid k p (I.hok.fresh p)) (I.hok.laid k p new)
theorem Inv.write(I:Inv X f g H s)(m:HA (H x))(c:e=x\/H e=Zb (.own x))(k:∀b u,b≠e->s.heap.get? b=Zb u->B.get? b=Zb u)(a:∃u,B.get? e=Zb u)
  (new:Wy X.prog X.w (upd H x o) B x o):Inv X f g (upd H x o) {s with heap:=B,toks:=i}:=I.un (Un.write m c k a) (I.hok.write m c k a new)
def Inv.mS(I:Inv X f g H s)(h:∀p∈a,s.heap.get? p.1=Zb p.2/\H p.1=Zc/\p.1≠X.env.locals/\p.1∉X.fs/\∀v,p.2.data≠.cell v):Inv X a g H s:=
 #[I.ok,I.os,I.bare,I.base,I.loc,I.cell,I.free,I.freeC,λp b=>(Xk.mp b).elim (λz=>I.pin p (Tt _ z)) (h p),I.hok,I.len]
def mU{N:Za Ze}(c:N.Nodup){i j:Nat}(a:N[i]?=Zb x)(b:N[j]?=Zb x):i=j:=by
 let#[n,E]:=YM.mp a;let#[m,e]:=YM.mp b;exact(apC c).mp (E.trans e.symm)
abbrev Vl(X:Cx)(x:Ze):Prop:=X.fn x=Zd\/X.env.scope.names.lookup x=Zb .local
def xS{M:Qe}{A:Yr}{u:Zh}{Q:Unit->Zj->Prop}(I:Inv X f g H s)(hN:X.N.Nodup)(hi:X.N[i]?=Zb x)(Z:Loc X.env.scope x)(r:RelV v u)
  (h:∀s',Inv X f (g.set i (Zb v)) H s'->(∃a,VB a s.heap s'.heap/\(a=X.env.locals\/X.env.cells.lookup x=Zb a))->Q () s')(hf:Vl X x|>3):Zn M A (storeName X.env x u) Q E s:=by
 let#[m,hn,hl]:=id I.loc;have hcls:(X.env.scope.kind==.class||(X.env.scope.kind==.module&&X.env.locals != X.env.globals))=Zi:=by rw[I.ok.kind];rfl
 have hiσ:i<g.length:=by rw[I.len];exact(YM.mp hi).1
 have Lx:=I.Lx;have J:∀{a:Zg}{B:ZD},(∃o,s.heap.get? a=Zb o/\H a=Zc)->VB a s.heap B->Xh X.prog X.w H B:=λ{a B} ha G b ob e=>by
  let#[_,_,hfree]:=ha;show(I.hok b ob e).stay (λc w' Y q=>(G.2 c ?_).trans q) (λO q=>q) λO O q=>q;rintro rfl;rcases Y with rfl|Y;{rw[hfree]at e;cases e};rw[hfree]at Y;cases Y
 rcases Z with hk|hk;{show wpAny_storeName_local hk hn (λB hn' G=>?_) hcls;let#[oL,_,_,hoL,_]:=id hn;show h _ #[I.ok,I.os,I.bare,⟨λb o e n hb Z=>?_,λb o e n hb Z=>?_,I.base.free,λb o e Z=>?_,I.base.tups,I.base.frzs,I.base.tbls⟩,⟨_,hn',λj y v' L e2 e3=>?_⟩,λy c e=>?_,I.free,I.freeC,λp hp=>?_,J #[oL,hoL,I.free] G,↑I.len] #[_,G,.inl U];{exact(G.2 b (Ys (YK (Yc e) I.ok.above))).trans (I.base.keep b o e n hb Z)};{let#[sl,L]:=I.base.slot b o e n hb Z;exact#[sl,(G.2 b (Ys (YK (Yc e) I.ok.above))).trans L]};{let#[o',L]:=I.base.there b o e Z;exact#[o',(G.2 b (Ys (YK (Yc e) I.ok.above))).trans L]};{by_cases hj:j=i;{subst hj;rw[hi]at L;cases L;rw[FR hiσ]at e2;cases e2;exact#[u,r,.inl #[hk,02]]};rw[KN (XR hj)]at e2;let#[u',r',q]:=hl j y v' L e2 e3;show#[u',r',?_];rcases q with⟨k,e⟩|⟨k,c,e,z⟩;{show .inl #[k,?_];have:y≠x:=λe=>hj (mU hN L (e▸hi));simp[this,e]};exact .inr #[k,c,e,z.sameBut G (Lx y c e)]};{let#[w',z]:=I.cell y c e;exact#[w',z.sameBut G (Lx y c e)]};let#[e,n,ne,nf,d]:=I.pin p hp;exact#[(G.2 p.1 ne).trans e,n,ne,nf,d]};have hfn:X.fn x=Zd:=by
  rcases hf with z|z;{exact z};rw[z]at hk;cases hk
 let#[c,Y]:=I.ok.has x (.inl hk);let#[w',z]:=I.cell x c Y;show wpAny_storeName_cell I.ok.kind hk Y z (λB hc' G=>?_);let#[oc,hoc,hocd]:=id z;show h {s with heap:=B} #[I.ok,I.os,I.bare,#[λb o e n hb Z=>?_,λb o e n hb Z=>?_,I.base.free,λb o e Z=>?_,I.base.tups,I.base.frzs,I.base.tbls],⟨m,hn.sameBut G (XR (Lx x c Y)),λj y v' L e2 e3=>?_⟩,λy c' e=>?_,I.free,I.freeC,λp hp=>?_,J #[oc,hoc,I.freeC x c Y] G,↑I.len] #[c,G,.inr Y];{exact(G.2 b (Ys (YK (Yc e) (I.ok.cab x c hfn Y)))).trans (I.base.keep b o e n hb Z)};{let#[sl,L]:=I.base.slot b o e n hb Z;exact#[sl,(G.2 b (Ys (YK (Yc e) (I.ok.cab x c hfn Y)))).trans L]};{let#[o',L]:=I.base.there b o e Z;exact#[o',(G.2 b (Ys (YK (Yc e) (I.ok.cab x c hfn Y)))).trans L]};{by_cases hj:j=i;{subst hj;rw[hi]at L;cases L;rw[FR hiσ]at e2;cases e2;exact#[u,r,.inr #[.inl hk,c,Y,hc']]};rw[KN (XR hj)]at e2;let#[u',r',q]:=hl j y v' L e2 e3;show#[u',r',?_];rcases q with q|⟨k,c',e,z'⟩;{exact .inl q};show .inr #[k,c',e,z'.sameBut G ?_];rintro rfl;exact hj (mU hN L (I.ok.inj _ _ _ e Y▸hi))};{by_cases hcc:c'=c;{subst hcc;exact#[_,hc']};let#[w2,z2]:=I.cell y c' e;exact#[w2,z2.sameBut G hcc]};let#[e,n,ne,nf,d]:=I.pin p hp;show#[(G.2 p.1 ?_).trans e,n,ne,nf,d];intro q;rw[q,hoc]at e;have q':=VE e;exact d w' (by rw[<-q'];exact hocd)
def mV(I:Inv X f g H s)(e:X.N.Nodup)(hi:X.N[i]?=Zb x)(b:Loc X.env.scope x)(r:RelV v u)
  (h:∀a,Inv X f (g.set i (Zb v)) H a->Q () a)(c:Vl X x|>3):Zn M A (storeName X.env x u) Q E s:=
 xS I e hi b r (λa j O=>h a j) c
def Inv.call'(I:Inv X f g H s)(m:a.os=s.os)(u:Un (VN X.stack) ch H C s.heap a.heap)(i:Xh X.prog X.w C a.heap)(n:Nr a.gens)
  (j:∀b∈ch,(b∈X.ex\/X.s₀.heap.objs.size<=b)/\b≠X.env.locals/\(∀x c,X.env.cells.lookup x=Zb c->c≠b)/\∀p∈X.pn++f,p.1≠b):Inv X f g C a:=by
 let#[B,G,y,q,o]:=a;have e:o=s.os:=m;subst e;exact I.call u i n j
end
abbrev XK:=Zh->Option Zg->Hp->Prop
abbrev St:=Za (Option V)
abbrev VK:=V->Hp->Prop
abbrev TE:=St->Hp->VK->Prop
abbrev TT:=St->Hp->(Bool->Hp->Prop)->Prop
abbrev TA:=St->Hp->(Za V->Hp->Prop)->Prop
structure Xb where
 nx:St->Hp->Prop
 rt:VK
 bk:St->Hp->Prop:=λO O=>False
 ct:St->Hp->Prop:=λO O=>False
abbrev TS:=Xb->St->Hp->Prop
def EP(X:Cx)(p:Za (Zg×Yg))(a:St)(Q:VK)(u:Zh)(s:Zj):Prop:=∃v H,Inv X p a H s/\RelV v u/\Q v H
def TP(X:Cx)(p:Za (Zg×Yg))(a:St)(Q:Bool->Hp->Prop)(b:Bool)(s:Zj):Prop:=∃H,Inv X p a H s/\Q b H
def AP(X:Cx)(p:Za (Zg×Yg))(a:St)(Q:Za V->Hp->Prop)(u:Za Zh)(b:Zj):Prop:=∃s H,Inv X p a H b/\ZX s u/\Q s H
def SP(X:Cx)(p:Za (Zg×Yg))(D:Xb)(f:Flow)(s:Zj):Prop:=
 match f with
 |.next=>∃a H,Inv X p a H s/\D.nx a H
 |.brk=>∃a H,Inv X p a H s/\D.bk a H
 |.cont=>∃a H,Inv X p a H s/\D.ct a H
 |.ret u=>∃v a H,Inv X p a H s/\RelV v u/\D.rt v H
abbrev Yn(X:Cx):Qe:=Zr X.prog X.w
def PE(X:Cx)(e:ZE)(t:TE):Prop:=
 ∀(p:Za (Zg×Yg)) (s:Zj) (a:St) (H:Hp) (Q:VK),Inv X p a H s->t a H Q->Zn (Yn X) X.A (Ye e X.env) (EP X p a Q) X.xe s
def PT(X:Cx)(e:ZE)(t:TT):Prop:=
 ∀(p:Za (Zg×Yg)) (s:Zj) (a:St) (H:Hp) (Q:Bool->Hp->Prop),Inv X p a H s->t a H Q->Zn (Yn X) X.A (isTrue e X.env (Ye e X.env)) (TP X p a Q) X.xe s
def PW(X:Cx)(e:ZE)(t:TT):Prop:=
 ∀(whole:Vb Zh) (p:Za (Zg×Yg)) (s:Zj) (a:St) (H:Hp) (Q:Bool->Hp->Prop),Inv X p a H s->t a H Q->Zn (Yn X) X.A (isTrue e X.env whole) (TP X p a Q) X.xe s
def PW.pt(h:PW X e t):PT X e t:=h _
def PA(X:Cx)(e:Za ZE)(t:TA):Prop:=
 ∀(pos:Yv) (p:Za (Zg×Yg)) (s:Zj) (a:St) (H:Hp) (Q:Za V->Hp->Prop),Inv X p a H s->t a H Q->Zn (Yn X) X.A (spliced (RB pos (XA e X.env))) (AP X p a Q) X.xe s
def PS(X:Cx)(st:ZH)(t:TS):Prop:=
 ∀(p:Za (Zg×Yg)) (s:Zj) (a:St) (H:Hp) (D:Xb),Inv X p a H s->t D a H->Zn (Yn X) X.A (exec st X.env) (SP X p D) X.xe s
def Tz(X:Cx)(st:Za ZH)(t:TS):Prop:=
 ∀(p:Za (Zg×Yg)) (s:Zj) (a:St) (H:Hp) (D:Xb),Inv X p a H s->t D a H->Zn (Yn X) X.A (execs st X.env) (SP X p D) X.xe s
def ZQ(h:Zn M A t Q E s)(H:∀a s,Q a s->q a s):Zn M A t q E s:=Xv h H λO O x=>x
def Vu{c b Q:i->Zj->g->f->Prop}(h:Zn M A t (λa s=>∃x y,c a s x y/\b a s x y/\Q a s x y) E s)(H:∀a s x y,c a s x y->b a s x y->Q a s x y->e a s):Zn M A t e E s:=ZQ h λa s z=>by let#[x,y,p,q,r]:=z;exact H a s x y p q r
end L2
variable {X:L2.Cx}{H:L2.Hp}
namespace L2
section
def Ez(i:Nat):TE:=λa H Q=>∃v,a[i]?=Zb (Zb v)/\Q v H
def tC(v:V):TE:=λO H Q=>Q v H
abbrev YV(x:Ze):Prop:=(x==("__debug__" : Ze))=Zi
abbrev Vv(x:Ze):Prop:=(x==("__classdict__" : Ze))=Zi
def C4(y:X.N[i]?=Zb x)(n:Vk X.env.scope x)(hd:YV x|>2)(f:Vv x|>2):PE X (.Name x pos) (Ez i):=by
 intro p s j H Q I h;let#[v,e,h]:=h;let#[m,o,w]:=I.loc;let#[u,r,l]:=w i x v y e n;have fin:EP X p j Q u s:=#[v,H,I,r,h]
 rcases l with⟨b,q⟩|⟨b,c,g,a⟩;{exact g9 (wpAny_loadName_local I.ok.kind b o q fin) hd};rcases b with b|b;{exact g9 (wpAny_loadName_cell I.ok.kind b g a fin) hd};exact g9 (wpAny_loadName_free I.ok.kind b g a fin f) hd
def C5:PE X (.Constant (.int i) j pos) (tC (.int i)):=λO O O H O I h=>wpAny_Constant_int #[.int i,H,I.tok _,#[_,U],h]
def C6:PE X (.Constant (.bool b) j pos) (tC (.bl b)):=λO O O H O I h=>Constant_bool #[.bl b,H,I,U,h]
def C7:PE X (.Constant .none j pos) (tC .non):=λO O O H O I h=>Constant_none #[.non,H,I,U,h]
def C8:PE X (.Constant (.str x) j pos) (tC (.str x)):=λO O O H O I h=>Calls.Constant_str #[.str x,H,I.tok _,#[_,U],h]
def Gl(X:Cx)(x:Ze):Prop:=X.env.kindOf x=Zb .globalImplicit
def EA(I:Inv X p a H s)(g:Gl X x)(m:X.mg x=Zb u)(h:Q u s)
  (hd:YV x|>2):Zn (Yn X) X.A (Ye (.Name x pos) X.env) Q E s:=
 aoN I.ok.kind g (Calls.loadGlobal_global (by rw[I.ok.glob];exact I.mod.glob.keeps I.bk) m h) hd
def Ph(I:Inv X p e H s)(g:Gl X x)(m:X.mg x=Zc)(a:RC x=Zb u)(h:Q u s)
  (n:x ≠ "__name__" |>2)(hd:YV x|>2):Zn (Yn X) X.A (Ye (.Name x pos) X.env) Q E s:=by
 let#[M,c,b]:=I.mod.blt;exact aoN I.ok.kind g (Calls.loadGlobal_builtin (by rw[I.ok.glob];exact I.mod.glob.keeps I.bk) m (by rw[I.ok.blt];exact c.keeps I.bk) ((b x n).trans a) h) hd
def C9(g:Gl X x)(m:X.mg x=Zb u)(r:RelV v u)(hd:YV x|>2):PE X (.Name x pos) (tC v):=
 λO O O H O I h=>EA I g m #[v,H,I,r,h] hd
def D3(g:Gl X x)(m:X.mg x=Zc)(a:RC x=Zb u)(r:RelV v u)(n:x ≠ "__name__" |>2)(hd:YV x|>2):PE X (.Name x pos) (tC v):=
 λO O O H O I h=>Ph I g m a #[v,H,I,r,h] n hd
variable {a b:ZE}{f g:TE}{p:Yv}
variable {A i:TT}{rest:Za ZE}
def D4(t u:TT):TT:=λe H Q=>t e H λc j=>if c=Zd then u e j Q else Q Zi j
def tOr(t u:TT):TT:=λe H Q=>t e H λc j=>if c=Zd then Q Zd j else u e j Q
def D5(t:TT):TT:=λe H Q=>t e H λc j=>Q (!c) j
def pw_and1(n:PT X a A):PW X (.BoolOp .And [a] p) A:=by
 intro w j s m H Q I h;show isTrue_and (ZQ (n j s m H Q I h) λc o e=>?_);cases c with|true=>exact isTrue_and_nil e|false=>exact e
def pw_or1(n:PT X a A):PW X (.BoolOp .Or [a] p) A:=by
 intro w j s m H Q I h;show isTrue_or (ZQ (n j s m H Q I h) λc o e=>?_);cases c with|false=>exact isTrue_or_nil e|true=>exact e
def pw_and(x:PT X a A)(u:PW X (.BoolOp .And (b::rest) p) i):PW X (.BoolOp .And (a::b::rest) p) (D4 A i):=by
 intro w e s j H Q I h;show isTrue_and (ZQ (x e s j H _ I h) λc o z=>?_);let#[n,m,q]:=z;cases c with|true=>exact u w e o j n Q m q|false=>exact#[n,m,q]
def pw_or(x:PT X a A)(u:PW X (.BoolOp .Or (b::rest) p) i):PW X (.BoolOp .Or (a::b::rest) p) (tOr A i):=by
 intro w e s j H Q I h;show isTrue_or (ZQ (x e s j H _ I h) λc o z=>?_);let#[n,m,q]:=z;cases c with|true=>exact#[n,m,q]|false=>exact u w e o j n Q m q
def D6(m:PT X a A):PT X (.UnaryOp .Not a p) (D5 A):=by
 intro e s j H Q I h;exact isTrue_not (m e s j H (λc n=>Q (!c) n) I h)
def D7(f g:TE):TE:=λe H Q=>f e H λx j=>∃c,x=.bl c/\if c=Zd then g e j Q else Q (.bl Zi) j
def D8(f g:TE):TE:=λe H Q=>f e H λx j=>∃c,x=.bl c/\if c=Zd then Q (.bl Zd) j else g e j Q
def D9(f:TE):TE:=λe H Q=>f e H λx j=>∃c,x=.bl c/\Q (.bl (!c)) j
def E1(h:PE X a t):PE X (.BoolOp op [a] p) t:=by assumption
def E3(y:PE X a f)(w:PE X (.BoolOp .And (b::rest) p) g):PE X (.BoolOp .And (a::b::rest) p) (D7 f g):=by
 intro e s j H Q I h;show BoolOp_and (ZQ (y e s j H _ I h) λv o z=>?_);let#[x,n,m,u,q]:=z;let#[c,U,q]:=q;cases u;show QY ?_;cases c with|true=>exact w e o j n Q m q|false=>exact#[.bl Zi,n,m,U,q]
def E4(y:PE X a f)(w:PE X (.BoolOp .Or (b::rest) p) g):PE X (.BoolOp .Or (a::b::rest) p) (D8 f g):=by
 intro e s j H Q I h;show BoolOp_or (ZQ (y e s j H _ I h) λv o z=>?_);let#[x,n,m,u,q]:=z;let#[c,U,q]:=q;cases u;show QY ?_;cases c with|false=>exact w e o j n Q m q|true=>exact#[.bl Zd,n,m,U,q]
def E5(n:PE X a f):PE X (.UnaryOp .Not a p) (D9 f):=by
 intro e s j H Q I h;show UnaryOp_ (ZQ (n e s j H _ I h) λv w z=>?_);let#[x,u,o,m,q]:=z;let#[c,U,q]:=q;cases m;exact not_of (QY #[.bl (!c),u,o,U,q])
def tIf(t:TT)(f g:TE):TE:=λe H Q=>t e H λc j=>if c=Zd then f e j Q else g e j Q
def E6(u:PT X c A)(x:PE X a f)(w:PE X b g):PE X (.IfExp c a b p) (tIf A f g):=by
 intro e s j H Q I h;show wpAny_IfExp (ZQ (u e s j H _ I h) λd m z=>?_);let#[o,n,q]:=z;cases d with|true=>exact x e m j o Q n q|false=>exact w e m j o Q n q
end
def Ya(K:ZF)(H:Hp)(a:Zg)(x:Za V):Prop:=
 Rd H a (.lst x) \/
  ∃(o:Yg) (i:Array Zh) (n:Nat),K.lookup a=Zb o/\o.cls=.type "list" /\o.dict=Zc/\o.data=.seq i n/\i.size<=Zo/\ZX x i.toList
def YW(K:ZF)(H:Hp)(a:Zg)(x:Za V):Prop:=
 Rd H a (.tup x) \/
  ∃(o:Yg) (i:Array Zh) (n:Nat),K.lookup a=Zb o/\o.cls=.type "tuple" /\o.data=.seq i n/\i.size<=Zo/\ZX x i.toList
noncomputable def E7:Zh->Option V
 |.none=>Zb .non
 |.bool b=>Zb (.bl b)
 |.int i _=>Zb (.int i)
 |.str x _=>Zb (.str x)
 |.bytes b _=>Zb (.byt b)
 |.float b _=>Zb (.flt b)
 |.ref a=>Zb (.ref a)
 |.type n=>Zb (.ty n)
 |_=>Zc
def RelV.abs(r:RelV x u):E7 u=Zb x:=by
 cases x with
 |non=>cases r;rfl
 |bl _=>cases r;rfl
 |int _=>let⟨t,rfl⟩:=r;rfl
 |str _=>let⟨t,rfl⟩:=r;rfl
 |byt _=>let⟨t,rfl⟩:=r;rfl
 |flt _=>let⟨t,rfl⟩:=r;rfl
 |ref _=>cases r;rfl
 |ty _=>cases r;rfl
theorem RelV.inj(r:RelV x u)(q:RelV y u):x=y:=VE (r.abs.symm.trans q.abs)
theorem ZX.inj{x y:Za V}{u:Za Zh}(h:ZX x u):ZX y u->x=y:=by
 induction h generalizing y with
 |nil=>intro h;cases h;rfl
 |cons r t i=>
  intro h;cases h with|cons b a=>rw[r.inj b,i a]
section
variable {b:Za (Zg×Yg)}{c:St}{s:Zj}{a:Zg}{x y:Za V}
def Ya.of(h:H a=Zb (.lst x)):Ya K H a x:=.inl (.inl h)
def YW.of(h:H a=Zb (.tup x)):YW K H a x:=.inl (.inl h)
def Inv.list(I:Inv X b c H s)(h:Ya X.K H a x):∃i:Za Zh,ZX x i/\PlainL s.heap a i.toArray/\x.length<=Zo:=by
 rcases h with h|⟨o,i,n,f,g,hd,m,j,r⟩;{let#[z,i,n,r,e]:=h.ok I.hok;exact#[i,r,#[_,n,e,U,U,U],z]};show#[i.toList,r,#[o,n,I.Wk a o f,g,hd,by omega],?_];have e:=r.length;simp only[VY]at e;lia
def Inv.tuple(I:Inv X b c H s)(h:YW X.K H a x):∃i:Za Zh,ZX x i/\KI s.heap a i.toArray/\x.length<=Zo:=by
 rcases h with h|⟨o,i,n,f,g,m,j,r⟩;{let#[z,i,r,p]:=h.ok I.hok;exact#[i,r,p,z]};show#[i.toList,r,#[o,I.Wk a o f,g,n,by omega],?_];have e:=r.length;simp only[VY]at e;lia
def Inv.HB(I:Inv X b c H s)(h:Ya X.K H a x)(m:Ya X.K H a y):x=y:=by
 let#[f,r,#[o,n,e,_,_,d],_]:=I.list h;let#[i,j,#[q,N,E,_,_,g],_]:=I.list m;rw[e]at E;cases E;rw[d]at g;injection g with p _;have:f=i:=by simpa using XI aoC p
 subst this;exact r.inj j
def Inv.EB(I:Inv X b c H s)(h:YW X.K H a x)(m:YW X.K H a y):x=y:=by
 let#[f,r,#[o,e,_,n,d],_]:=I.tuple h;let#[i,j,#[q,E,_,N,g],_]:=I.tuple m;rw[e]at E;cases E;rw[d]at g;injection g with p _;have:f=i:=by simpa using XI aoC p
 subst this;exact r.inj j
end
abbrev Cx.wish(X:Cx)(E:Zh->Zj->Prop):Cx:={X with xe:=E}
abbrev Cx.EC(X:Cx):Cx:=X.wish λO O=>False
theorem Cx.Ok.wish(ok:X.Ok)(E:Zh->Zj->Prop):(X.wish E).Ok:=
 #[ok.mod,ok.kind,ok.glob,ok.blt,ok.above,ok.inj,ok.has,ok.cab,ok.hd,ok.frames,ok.stk,ok.exf,ok.bs,ok.bsz,ok.noex,ok.exfs,ok.SR,ok.Qm]
def Cx.Ok.NW(ok:(X.wish E).Ok):X.Ok:=
 #[ok.mod,ok.kind,ok.glob,ok.blt,ok.above,ok.inj,ok.has,ok.cab,ok.hd,ok.frames,ok.stk,ok.exf,ok.bs,ok.bsz,ok.noex,ok.exfs,ok.SR,ok.Qm]
section
variable {p:Za (Zg×Yg)}{a:St}{s:Zj}{E:Zh->Zj->Prop}
theorem Inv.wish(I:Inv X p a H s)(E:Zh->Zj->Prop):Inv (X.wish E) p a H s:=#[I.ok.wish E,I.os,I.bare,I.base,I.loc,I.cell,I.free,I.freeC,I.pin,I.hok,I.len]
theorem Inv.NW(I:Inv (X.wish E) p a H s):Inv X p a H s:=#[I.ok.NW,I.os,I.bare,I.base,I.loc,I.cell,I.free,I.freeC,I.pin,I.hok,I.len]
theorem SP.NW(h:SP (X.wish E) p D f e):SP X p D f e:=by
 cases f with|next=>let⟨b,c,I,q⟩:=h;exact#[b,c,I.NW,q]|brk=>let⟨b,c,I,q⟩:=h;exact#[b,c,I.NW,q]|cont=>let⟨b,c,I,q⟩:=h;exact#[b,c,I.NW,q]|ret u=>let⟨v,b,c,I,r,q⟩:=h;exact#[v,b,c,I.NW,r,q]
theorem Tz.EC{st:Za ZH}(h:Tz X.EC st t):Tz X st t:=λp s a H D I w=>
 Xv (h p s a H D (I.wish _) w) (λO O q=>q.NW) λO O z=>Qc z
end
section
variable {st:ZH}{rest:Za ZH}{t u:TS}{e:ZE}{g:TE}{p:Yv}
def E8:TS:=λD a H=>D.nx a H
def E9(t u:TS):TS:=λD a H=>t {D with nx:=u D} a H
def mW:Tz X [] E8:=λO O a H O I h=>mC #[a,H,I,h]
def mX(m:PS X st t)(j:Tz X rest u):Tz X (st::rest) (E9 t u):=by
 intro a s c H D I h;show ars (ZQ (m a s c H {D with nx:=u D} I h) λf i q=>?_);cases f with
 |next=>
  let⟨b,o,n,q⟩:=q;exact j a i b o D n q
 |ret v=>exact q
 |brk=>exact q
 |cont=>exact q
def xT(c:PS X st t):Tz X [st] t:=by
 intro a s b H D I h;show ars (ZQ (c a s b H D I h) λf i q=>?_);cases f with|next=>exact mC q|ret v=>exact q|brk=>exact q|cont=>exact q
def Inv.quiet(I:Inv X a b H s):interactive X.env=Zi:=by simp[interactive,I.ok.kind]
def F3(g:TE):TS:=λD a H=>g a H λO b=>D.nx a b
def Pj(f:PE X e g)(c:XD e Zc p.line X.env=ZR Zi|>1):PS X (.Expr e p) (F3 g):=by
 intro a s b H D I h;exact wpAny_Expr_any (Vu (f a s b H _ I h) λv m x j i n q=>#[b,j,i,q]) I.quiet c
def F4(g:TE):TS:=λD a H=>g a H D.rt
def xU(f:PE X e g):PS X (.Return (Zb e) p) (F4 g):=by
 intro a s b H D I h;exact wpAny_Return_some (Vu (f a s b H _ I h) λv m x j i c q=>#[x,b,j,i,c,q])
def F6(c:TT)(t u:TS):TS:=λD a H=>c a H λb f=>if b=Zd then t D a f else u D a f
def mY(w:PT X c o)(y:Tz X a t)(x:Tz X b u):PS X (.If c a b p) (F6 o t u):=by
 intro f s i H D I h;show wpAny_If (ZQ (w f s i H _ I h) λd j z=>?_);let#[n,m,q]:=z;cases d with|true=>exact y f j i n D m q|false=>exact x f j i n D m q
end
abbrev TG:=V->St->Hp->(St->Hp->Prop)->Prop
abbrev Jk:=Za V->St->Hp->(St->Hp->Prop)->Prop
def PG(X:Cx)(target:ZE)(t:TG):Prop:=
 ∀(p:Za (Zg×Yg)) (s:Zj) (b:St) (H:Hp) (v:V) (u:Zh) (Q:St->Hp->Prop),Inv X p b H s->RelV v u->t v b H Q->
  Zn (Yn X) X.A (QR target X.env u) (λO e=>∃a c,Inv X p a c e/\Q a c) X.xe s
def HC(X:Cx)(f:Za ZE)(t:Jk):Prop:=
 ∀(p:Za (Zg×Yg)) (s:Zj) (b:St) (H:Hp) (c:Za V) (u:Za Zh) (Q:St->Hp->Prop),Inv X p b H s->ZX c u->t c b H Q->
  Zn (Yn X) X.A (assignInOrder ((Qi f X.env).map (·.2)) u) (λO g=>∃a e,Inv X p a e g/\Q a e) X.xe s
abbrev mZ:=V->V->V->Hp->(Hp->Prop)->Prop
def lg(X:Cx)(t:mZ):Prop:=
 ∀(p:Za (Zg×Yg)) (s:Zj) (a:St) (H:Hp) (o i v:V) (b iv u:Zh) (Q:Hp->Prop),Inv X p a H s->RelV o b->RelV i iv->RelV v u->t o i v H Q->
  Zn (Yn X) X.A (Em b iv u) (λO e=>∃c,Inv X p a c e/\Q c) X.xe s
section
variable {p:Yv}
def Ov(i:Nat):TG:=λv a H Q=>Q (a.set i (Zb v)) H
def F7(c:X.N.Nodup)(hi:X.N[i]?=Zb x)(b:Loc X.env.scope x)(f:Vl X x|>3):PG X (.Name x p) (Ov i):=by
 intro a s g H v u Q I r h;exact i6 (mV I c hi b r (λj e=>#[_,H,e,h]) f)
def F8:Jk:=λs a H Q=>s=[]/\Q a H
def F9(t:TG)(u:Jk):Jk:=λs b H Q=>∃v r,s=v::r/\t v b H λa c=>u r a c Q
def K2:HC X [] F8:=by
 intro a s b H c u Q I r h;let#[e,h]:=h;exact assignInOrder_nil #[b,H,I,h]
def L5(m:PG X e t)(j:HC X E u)
  (i:(Qi (e::E) X.env).map (·.2)=QR e X.env::(Qi E X.env).map (·.2)|>1):HC X (e::E) (F9 t u):=by
 intro a s c H w y Q I r h;let#[v,x,U,h]:=h;cases r with
 |cons r g=>
  rw[i];show assignInOrder_cons (ZQ (m a s c H _ _ _ I r h) λO f z=>?_);let#[b,o,n,q]:=z;exact j a f b o _ _ Q n g q
def L6(K:ZF)(n:Nat)(t:Jk):TG:=λv b H Q=>∃a x,v=.ref a/\YW K H a x/\x.length=n/\t x b H Q
def L7(B:Xl X)(h:HC X E t)
  (z:(Qi E X.env).length=n|>1)(f:(Qi E X.env).findIdx? (·.1)=Zc|>1):PG X (.Tuple E k p) (L6 X.K n t):=by
 intro c s i H v u Q I r w;let#[a,x,U,y,A,w]:=w;cases r;let#[j,g,q,G]:=I.tuple y;show assign_Tuple_tuple (I.ok.hd B) q (by simp[z,<-A,g.length]) f λJ m=>?_;have C:=I.kept (t':=s.toks) λb o e=>m b o (Ys (Yc e)) e;exact h c _ i H x _ Q C (g) w
def lh(b c:TE)(t:mZ):TG:=λv a H Q=>b a H λo g=>c a g λi f=>t o i v f λe=>Q a e
def L8(C:PE X o e)(hi:PE X i f)(B:lg X t)
  (E:(∀v,QR (.Subscript o i p) X.env v=(do
   let b <-RD [v] (Ye o X.env)
   let iv <-RD [v,b] (Ye i X.env)
   Om p
   RD [v,b,iv] (Em b iv v)
   release [v,b,iv] []))|>4):PG X (.Subscript o i p) (lh e f t):=by
 intro a s c H v u Q I r h;rw[E];show Zf (XY (ZQ (C a s c H _ I h) λb j z=>?_));let#[x,Y,L,n,A]:=z;show Zf (XY (ZQ (hi a j c Y _ L A) λiv g z=>?_));let#[y,N,J,m,w]:=z;show Zf (QX (Zf (XY (ZQ (B a g c N x y v b iv u _ J n m r w) λO Z z=>?_))));let#[M,G,q]:=z;exact wpAny_release #[c,M,G,q]
def Pk(e:TE)(g:TG):TS:=λD a H=>e a H λx b=>g x a b D.nx
def xV(o:PE X e f)(n:PG X b g)(m:mx [b] e p.line X.env=ZR Zi|>1)(w:mq [b] e X.env=ZR Zc|>1)
  (u:(Qi [b] X.env).map (·.2)=[QR b X.env]|>1):PS X (.Assign [b] e p) (Pk f g):=by
 intro a s c H D I h;show wpAny_Assign_stores (ZQ (o a s c H _ I h) λv i z=>?_) m w;let#[x,A,y,j,Q]:=z;rw[u];exact ZQ (n a i c A x v _ y j Q) λO B q=>q
def Ow(u:X.N.Nodup)(hi:X.N[i]?=Zb x)(j:Loc X.env.scope x)(o:PE X e f)(m:XD e (Zb (.Name x a)) p.line X.env=ZR Zi|>1)(n:Vl X x|>3):
  PS X (.Assign [.Name x a] e p) (Pk f (Ov i)):=by
 intro b s c H D I h;show wpAny_Assign_Name (ZQ (o b s c H _ I h) λv E z=>?_) m;let#[y,B,A,g,q]:=z;exact mV A u hi j g (λC w=>#[_,B,w,q]) n
end
section
variable {p:Yv}
def L9(c:TT)(i:TS):TS:=λD a H=>∃W:Nat->St->Hp->Prop,(∃m,W m a H)/\∀m a H,W m a H->
 c a H λb f=>if b=Zd then∃N:St->Hp->Prop,(∀e g,N e g->∃M,M<m/\W M e g)/\i {D with nx:=N,ct:=N,bk:=D.nx} a f else D.nx a f
def N3(x:nG (Yn X) X.A X.env X.xe)(hc:PT X c Y)(hb:Tz X body tb):PS X (.While c body [] p) (L9 Y tb):=by
 intro e s G H D I h;let#[W,#[m0,L],turn]:=h;show wpAny_While (codeAny_whileLoop (λn s'=>∃i E,Inv X e i E s'/\W n i E) ?_ m0 #[G,H,I,L]);rintro n s1 ⟨g,C,I1,J⟩;show Hw x (ZQ (hc e s1 g C _ I1 (turn n g C J)) λb s2 Z=>?_);let#[B,z,Q]:=Z;cases b with
 |true=>
  let⟨N,y,Q⟩:=Q;show Hw x (ZQ (hb e s2 g B _ z Q) λf s3 q=>?_);cases f with
  |next=>
   let⟨a,j,u,m⟩:=q;let#[M,o,w]:=y a j m;exact#[M,o,a,j,u,w]
  |cont=>
   let⟨a,j,u,m⟩:=q;let#[M,o,w]:=y a j m;exact#[M,o,a,j,u,w]
  |brk=>exact q
  |ret v=>exact q
 |false=>
  exact mC #[g,B,z,Q]
end
structure It where
 go:Nat->Hp->Prop
 yld:Nat->Hp->V->Hp->Prop
 stop:Nat->Hp->Prop
def Vw(X:Cx)(s:Za (Zg×Yg))(H:Hp)(b:Zg):Prop:=
 H b=Zc/\b≠X.env.locals/\b∉X.fs/\(b∈X.ex\/X.s₀.heap.objs.size<=b)/\(∀x c,X.env.cells.lookup x=Zb c->c≠b)/\∀p∈X.pn++s,p.1≠b
def Inv.Qn(I:Inv X a j H s)(f:s.heap.objs.size<=b)(n:i b=Zc):Vw X a i b:=by
 show#[n,VO (YK I.lt f),I.mQ f,.inr (Yp I.sz f),λx c e z=>?_,λp g z=>?_];{let#[v,q]:=I.cell x c e;exact ZJ (YK q.lt (by rw[z];exact f)) (NI _)};exact ZJ (YK (Yc (I.pin p g).1) (by rw[z];exact f)) (NI _)
structure TV (P:YZ)(w:Yt)(K:ZF)(tg:ZE)(J:It)(fp:List Zg)(it:Zg)(tn:Nat->ZD->Prop):Prop where
 mem:it∈fp
 obj:∀i h,tn i h->∀b∈fp,∃o,h.get? b=Zb o/\∀v,o.data≠.cell v
 keep:∀i h h',tn i h->(∀b∈fp,∀o,h.get? b=Zb o->h'.get? b=Zb o)->tn i h'
 item:∀(X:Cx),X.prog=P->X.w=w->X.K=K->Xl X->∀(i:Nat) (pins:List (Zg×Yg)) (s:Zj) (σ:St) (H:Hp) (E:Zh->Zj->Prop),Inv X pins σ H s->(∀b∈fp,Vw X pins H b)->tn i s.heap->J.go i H->
  Zn (Zr P w) X.A (VZ (.ref it)) (λr s1=>∃u,r=Zb u/\
   Zn (Zr P w) X.A (El tg (.ref it) u) (λO s2=>∃x H',Inv X pins σ H' s2/\RelV x u/\J.yld i H x H'/\tn (i+1) s2.heap/\∀b∈fp,H' b=Zc) E s1) E s
 done:∀(X:Cx),X.prog=P->X.w=w->X.K=K->Xl X->∀(i:Nat) (pins:List (Zg×Yg)) (s:Zj) (σ:St) (H:Hp) (E:Zh->Zj->Prop),Inv X pins σ H s->(∀b∈fp,Vw X pins H b)->tn i s.heap->J.stop i H->
  Zn (Zr P w) X.A (VZ (.ref it)) (λr s1=>r=Zc/\Inv X pins σ H s1) E s
 self:∀(A:Yr) (i:Nat) (s:Zj) (Q:Zh->Zj->Prop) (E:Zh->Zj->Prop),tn i s.heap->Q (.ref it) s->Zn (Zr P w) A (Qk (.ref it)) Q E s
abbrev TI:=St->Hp->(It->Hp->Prop)->Prop
def PIE(X:Cx)(p:Za (Zg×Yg))(c:St)(g:ZE)(R:It->Hp->Prop)(i:Zh)(s:Zj):Prop:=
 ∃(I:Zg) (f:Za Zg) (n:Nat->ZD->Prop) (J:It) (a:Hp),i=.ref I/\Inv X p c a s/\TV X.prog X.w X.K g J f I n/\n 0 s.heap/\(∀b∈f,Vw X p a b)/\R J a
def PI(X:Cx)(g iter:ZE)(w:TI):Prop:=
 ∀(p:Za (Zg×Yg)) (s:Zj) (a:St) (H:Hp) (R:It->Hp->Prop),Inv X p a H s->w a H R->
  Zn (Yn X) X.A (Ye iter X.env) (λv b=>Zn (Yn X) X.A (Qk v) (PIE X p a g R) X.xe b) X.xe s
def Jl(c:s.heap.get? i=Zb o)(f:o.cls=.type n)(hd:o.data=.fields b)
    (e:["enumerate", "zip", "dict_itemiterator", "dict_reverseitemiterator", "odict_iterator", "itertools.zip_longest", "itertools.pairwise"].contains n=Zi)(a:Q () s):Zn M A (El g (.ref i) u) Q E s:=by
  cases g<;>first
    | exact Zm a
    | (cases u<;>first
        | exact Zm a
        | (show Zf (i8 c ?_)
           rw[f,hd]
           change Zn M A (if (["enumerate", "zip", "dict_itemiterator", "dict_reverseitemiterator", "odict_iterator", "itertools.zip_longest", "itertools.pairwise"].contains n&&b[0]?==Zb (SM _))=Zd then _ else _) Q E s
           rw[Zq (by intro h;rw[e,yQ]at h;cases h)]
           exact Zm a))
noncomputable def Itl(K:ZF)(a:Zg):It:=
 #[λi H=>∃s x,Ya K H a s/\s[i]?=Zb x,λi H x b=>b=H/\∀s,Ya K H a s->s[i]?=Zb x,λi H=>∃s,Ya K H a s/\s.length<=i]
noncomputable def Itt(K:ZF)(a:Zg):It:=
 #[λi H=>∃s x,YW K H a s/\s[i]?=Zb x,λi H x b=>b=H/\∀s,YW K H a s->s[i]?=Zb x,λi H=>∃s,YW K H a s/\s.length<=i]
noncomputable def ED(lo:Int)(n:Nat):It:=#[λi O=>i<n,λi H x a=>a=H/\x=.int (lo+i),λi O=>n<=i]
def N4(a f:Zg):TV P w K tg (Itl K a) [f] f (λi h=>h.IsListIter f a i) where
 mem:=02
 obj:=λi h st b g=>by
  have e:b=f:=by simpa using g
  subst e;let#[o,e,c,d]:=st;exact#[o,e,λv z=>by rw[d]at z;cases z]
 keep:=λi h h' st k=>st.at λo e=>k f 02 o e
 item:=by
  intro X J C L Z i m s σ H E I n st G;subst J C L;let#[xs,x,q,B]:=G;let#[A,y,p,hz]:=I.list q;let#[u,hu,ru]:=y.get B;let#[Y,f1,f2,Q,N,M]:=n f 02;show arA st p.isList ↑hu λh' j sb=>?_;have I1:=I.turned (t':=s.toks) (λb o g e=>(sb.2 b g).trans e) Y f1 Q N M;let#[o,e,c,d]:=id j;exact#[u,U,Jl e c d 01 #[x,H,I1,ru,⟨rfl,λys hy=>by rw[I.HB hy q];exact B⟩,j,λb g=>(n b g).1]]
 done:=by
  intro X J C L Z i m s σ H E I n st G;subst J C L;let#[xs,q,B]:=G;let#[A,y,p,hz]:=I.list q;let#[Y,f1,f2,Q,N,M]:=n f 02;have hl:=y.length;exact arz (I.ok.hd Z) st p.isList (by simp;lia) λh' eb=>#[U,I.turned (λb o g e=>eb b o g e) Y f1 Q N M]
 self:=λO O O O O st h=>wpAny_pyIter_listiter st h
def N9(a f:Zg):TV P w K tg (Itt K a) [f] f (λi h=>h.IsTupleIter f a i) where
 mem:=02
 obj:=λi h st b g=>by
  have e:b=f:=by simpa using g
  subst e;let#[o,e,c,d]:=st;exact#[o,e,λv z=>by rw[d]at z;cases z]
 keep:=λi h h' st k=>st.at λo e=>k f 02 o e
 item:=by
  intro X J C L Z i m s σ H E I n st G;subst J C L;let#[xs,x,q,B]:=G;let#[A,y,p,hz]:=I.tuple q;let#[u,hu,ru]:=y.get B;let#[Y,f1,f2,Q,N,M]:=n f 02;show wpAny_pyNext_tuple_item st (p) ↑hu λh' j sb=>?_;have I1:=I.turned (t':=s.toks) (λb o g e=>(sb.2 b g).trans e) Y f1 Q N M;let#[o,e,c,d]:=id j;exact#[u,U,Jl e c d 01 #[x,H,I1,ru,⟨rfl,λys hy=>by rw[I.EB hy q];exact B⟩,j,λb g=>(n b g).1]]
 done:=by
  intro X J C L Z i m s σ H E I n st G;subst J C L;let#[xs,q,B]:=G;let#[A,y,p,hz]:=I.tuple q;let#[Y,f1,f2,Q,N,M]:=n f 02;have hl:=y.length;exact wpAny_pyNext_tuple_end (I.ok.hd Z) st (p) (by simp;lia) λh' eb=>#[U,I.turned (λb o g e=>eb b o g e) Y f1 Q N M]
 self:=λO O O O O st h=>wpAny_pyIter_tupleiter st h
def Q1(a:Zg)(lo:Int)(n:Nat):TV P w K tg (ED lo n) [a] a (λi h=>IsRangeIter h a (lo+(i:Nat)*1) ((n:Int)-(i:Nat)) 1) where
 mem:=02
 obj:=λi h st b c=>by
  have e:b=a:=by simpa using c
  subst e;exact#[_,st,λv z=>by
   have Z:oH _=R6 v:=z
   cases Z]
 keep:=λi h y st k=>k a 02 _ st
 item:=by
  intro X u j x q i p s J H E I g st m;subst u j x;let#[G,f1,f2,C,B,A]:=g a 02;show(Walks.range (prog:=X.prog) (w:=X.w) (I.ok.hd q) a lo 1 n).item i s _ _ m st λv y L N f M=>?_;let#[t,U]:=N;have Y:Inv X p J H {s with heap:=y,toks:=L}:=I.turned (λb o c e=>M b o ↑c e) G f1 C B A;show#[_,U,Jl f U U 01 #[.int (lo+i),H,Y,⟨t,?_⟩,⟨rfl,rfl⟩,f,λb c=>(g b c).1]];rw[Int.mul_one]
 done:=by
  intro X u j x q i p s J H E I g st m;subst u j x;let#[G,f1,f2,C,B,A]:=g a 02;exact wpAny_pyNext_range_end (I.ok.hd q) st (by have:n<=i:=m;lia) λy Q=>#[U,I.turned (λb o c e=>Q b o c e) G f1 C B A]
 self:=λO O O O O st h=>wpAny_pyIter_rangeiter st h
section
variable {c:ZE}
def S3{lo hi:Int}{t u v:Tok}{f:Nat}(I:Inv X p a H s)(w : -(2^62)<=lo)(n:lo<2^62)(m : -(2^62)<=hi)(j:hi<2^62)
  (q:R (ED lo (hi-lo).toNat) H):Zn (Yn X) X.A (Qk (.ref s.heap.objs.size)) (PIE X p a c R) E {s with heap:=s.heap.push {cls:=.type "range",data:=.fields [.int lo t,.int hi u,.int 1 v].toArray},toks:=f}:=by
 show wpAny_pyIter_range (IsRange.new ..) (small_one w n m j) ?_;have i:Inv X p a H {s with heap:=s.heap.push {cls:=.type "range",data:=.fields [.int lo t,.int hi u,.int 1 v].toArray},toks:=f}:=I.kept λb o e=>ZY _ e;show#[(s.heap.push {cls:=.type "range",data:=.fields [.int lo t,.int hi u,.int 1 v].toArray}).objs.size,[(s.heap.push {cls:=.type "range",data:=.fields [.int lo t,.int hi u,.int 1 v].toArray}).objs.size],_,_,H,U,
  i.kept λb o e=>ZY _ e,Q1 _ lo (hi-lo).toNat,?_,λb g=>?_,q]
 ·have y:lo+((0:Nat):Int)*1=lo:=02
  have x:(((hi-lo).toNat:Nat):Int)-((0:Nat):Int)=asf lo hi 1:=by rw[rangeSize_one];split<;>lia
  rw[y,x];exact YF _ U
 have e:b=(s.heap.push {cls:=.type "range",data:=.fields [.int lo t,.int hi u,.int 1 v].toArray}).objs.size:=by simpa using g
 subst e;exact i.Qn (ZU _) (i.hok.fresh (ZU _))
def S4(b:TA):TI:=λa H R=>b a H λs e=>∃j:Int,s=[.int j]/\-(2^62)<=j/\j<2^62/\R (ED 0 j.toNat) e
def X9(u:Gl X "range")(o:X.mg "range" = Zc)(w:PA X [a] f)(n:XA [a] X.env=[(Zi,Ye a X.env)]|>1):PI X c (.Call (.Name "range" p) [a] [] pos) (S4 f):=by
 intro b s e H R I h;show Call_ (Ph I u o boot_range (Hj (ZQ (w pos b s e H _ I h) λA B z=>?_) n U));let#[y,C,x,i,Q]:=z;let#[j,U,Q,m,q]:=Q;cases i with
 |cons r g=>
  cases g;let#[t,U]:=r;exact call_range_1 (S3 x 00 00 Q m ↑q)
def aaa(w:TI)(g:TG)(j:TS):TS:=λD a H=>w a H λJ o=>∃W:Nat->Nat->St->Hp->Prop,(∃m,W 0 m a o)/\∀i m a H,W i m a H->
 (J.stop i H/\D.nx a H)\/(J.go i H/\∃N:St->Hp->Prop,(∀b e,N b e->∃M,M<m/\W (i+1) M b e)/\∀x e,J.yld i H x e->g x a e λf n=>j {D with nx:=N,ct:=N,bk:=D.nx} f n)
noncomputable def Pl(f:Za Zg)(h:ZD):Za (Zg×Yg):=f.filterMap λb=>(h.get? b).map λo=>(b,o)
def Ox(a:b∈f)(e:h.get? b=Zb o):(b,o)∈Pl f h:=apG.mpr #[b,a,by rw[e];rfl]
def lj(a:p∈Pl g h):p.1∈g/\h.get? p.1=Zb p.2:=by
 let#[b,f,e]:=apG.mp a;cases q:h.get? b with
 |none=>rw[q]at e;cases e
 |some o=>
  rw[q]at e;have E:=VE e;subst E;exact#[f,q]
def Inv.pinned(I:Inv X a i H s)(n:∀b∈g,Vw X a H b)(m:∀b∈g,∃o,s.heap.get? b=Zb o/\∀v,o.data≠.cell v):Inv X (a++Pl g s.heap) i H s:=
 I.mS λp j=>(Xk.mp j).elim (λz=>I.pin p (Va _ z)) λz=>by
  let#[f,e]:=lj z;let#[q,f1,f2,_]:=n p.1 f;let#[o,E,d]:=m p.1 f;rw[e]at E;cases E;exact#[e,q,f1,f2,d]
def Inv.NX(I:Inv X (a++f) b H s):Inv X a b H s:=I.mS λp e=>I.pin p (Va _ (Tt _ e))
abbrev UY(X:Cx)(i:ZE):Prop:=∀x,Hs i X.env x=ZR x
def aab(M:nG (Yn X) X.A X.env X.xe)(hc:Xl X)(hi:PI X c iter wi)(hg:PG X c g)(y:Tz X body tb)
  (hs:UY X iter|>4):PS X (.For c iter body [] pos) (aaa wi g tb):=by
 intro p s σ H D I h;show wpAny_For (ZQ (hi p s σ H _ I h) λv s1 h1=>ZQ h1 λitv s2 h2=>?_) hs;let#[it,fp,tn,J,H2,e,I2,T,st2,f2,W,#[m0,w0],turn]:=h2;subst e;have w:∀{C:Hp},(∀b∈fp,C b=Zc)->∀b∈fp,Vw X p C b:=λhn b y=>#[hn b y,(f2 b y).2]
 show codeAny_forLoop_any (λn s'=>∃i q C,Inv X p q C s'/\tn i s'.heap/\(∀b∈fp,C b=Zc)/\W i n q C) ?_ m0 #[0,σ,H2,I2,st2,λb y=>(f2 b y).1,w0];rintro n s3 ⟨i,j,H3,I3,G,Y,w3⟩;rcases turn i n j H3 w3 with⟨stop,qn⟩|⟨go,N,hN,step⟩;{show Hw M (ZQ (T.done X U U U hc i p s3 j H3 X.xe I3 (w Y) G stop) λr s4 Z=>?_);let#[U,I4]:=Z;exact mC #[j,H3,I4,qn]};show Hw M (ZQ (T.item X U U U hc i p s3 j H3 X.xe I3 (w Y) G go) λr s4 Z=>?_);let#[u,U,h4]:=Z;show Hw M (ZQ h4 λO s5 Z=>?_);let#[x,H5,I5,r5,y5,E,fr5]:=Z;show Hw M (ZQ (hg _ s5 j H5 x u _ (I5.pinned (w fr5) (T.obj _ _ E)) r5 (step x H5 y5)) λO s6 Z=>?_);let#[σ6,H6,I6,q6]:=Z;show Hw M (ZQ (y _ s6 σ6 H6 _ I6 q6) λf s7 Q=>?_);have again:∀{a:St}{B:Hp},Inv X (p++Pl fp s5.heap) a B s7->N a B->∃m,m<n/\∃i q C,Inv X p q C s7/\tn i s7.heap/\(∀b∈fp,C b=Zc)/\W i m q C:=λ{a B} z L=>by
  let#[m',hm,w7]:=hN a B L;show#[m',hm,i+1,a,B,z.NX,T.keep _ _ _ E λb y o e=>(z.pin (b,o) (Va _ (Va _ (Ox y e)))).1,λb y=>?_,w7];let#[o,e,d]:=T.obj _ _ E b y;exact(z.pin (b,o) (Va _ (Va _ (Ox y e)))).2.1
 cases f with|next=>let⟨a,B,z,L⟩:=Q;exact again z L|cont=>let⟨a,B,z,L⟩:=Q;exact again z L|brk=>let⟨a,B,z,Q⟩:=Q;exact#[a,B,z.NX,Q]|ret v=>let⟨x7,a,B,z,r7,Q⟩:=Q;exact#[x7,a,B,z.NX,r7,Q]
end
abbrev R2:=V->V->Hp->VK->Prop
def Xi(X:Cx)(f:Zh->Zh->Vb Zh)(r:R2):Prop:=
 ∀(p:Za (Zg×Yg)) (s:Zj) (a:St) (H:Hp) (x y:V) (v u:Zh) (Q:VK),Inv X p a H s->RelV x v->RelV y u->r x y H Q->
  Zn (Yn X) X.A (f v u) (EP X p a Q) X.xe s
def UnR(X:Cx)(f:Zh->Vb Zh)(r:V->Hp->VK->Prop):Prop:=
 ∀(p:Za (Zg×Yg)) (s:Zj) (a:St) (H:Hp) (x:V) (v:Zh) (Q:VK),Inv X p a H s->RelV x v->r x H Q->
  Zn (Yn X) X.A (f v) (EP X p a Q) X.xe s
def WR(X:Cx)(f:Zh)(r:Za V->Hp->VK->Prop):Prop:=
 ∀(p:Za (Zg×Yg)) (s:Zj) (a:St) (H:Hp) (x:Za V) (u:Za Zh) (Q:VK),Inv X p a H s->ZX x u->r x H Q->
  Zn (Yn X) X.A (call f u) (EP X p a Q) X.xe s
def aac(X:Cx)(r:V->Hp->(Bool->Hp->Prop)->Prop):Prop:=
 ∀(p:Za (Zg×Yg)) (s:Zj) (a:St) (H:Hp) (x:V) (v:Zh) (Q:Bool->Hp->Prop),Inv X p a H s->RelV x v->r x H Q->
  Zn (Yn X) X.A (truthy v) (TP X p a Q) X.xe s
def Jm(r:R2)(c b:TE):TE:=λa H Q=>c a H λx f=>b a f λy e=>r x y e Q
def tUn(r:V->Hp->VK->Prop)(b:TE):TE:=λa H Q=>b a H λx c=>r x c Q
def rI(C:Int->Int->Prop)(g:Int->Int->V):R2:=λx y H Q=>∃i j,x=.int i/\y=.int j/\C i j/\Q (g i j) H
def Oy(g:Int->Int->V):R2:=λx y H Q=>∃i j,x=.int i/\y=.int j/\Q (g i j) H
def rU(g:Int->V):V->Hp->VK->Prop:=λx H Q=>∃i,x=.int i/\Q (g i) H
section
variable {a b:ZE}{c e:TE}{p:Yv}
def xW(M:PE X a c)(L:PE X b e){R:V->V->Hp->Prop}(I:Inv X g j H s)
  (h:c j H λx q=>e j q λy i=>R x y i){f:Zh->Zh->Vb Zh}
  (J:∀v u o x y i,Inv X g j i o->RelV x v->RelV y u->R x y i->Zn (Yn X) X.A (f v u) Q X.xe o):
  Zn (Yn X) X.A (Ye a X.env) (λv n=>Zn (Yn X) X.A (Ye b X.env) (λu m=>Zn (Yn X) X.A (f v u) Q X.xe m) X.xe n) X.xe s:=by
 show ZQ (M g s j H _ I h) λv w z=>?_;let#[x,q,Y,C,G]:=z;show ZQ (L g w j q _ Y G) λu o z=>?_;let#[y,i,N,B,E]:=z;exact J v u o x y i N C B E
def lq(o:Xi X (Uq op) r)(w:PE X a c)(n:PE X b e):PE X (.BinOp a op b p) (Jm r c e):=by
 intro f s g H Q I h;exact wpAny_BinOp (xW w n I h λv u i x y A z m j q=>o f i g A x y v u Q z m j q)
def aad(o:UnR X (unaryOp op) r)(m:PE X a c):PE X (.UnaryOp op a p) (tUn r c):=by
 intro f s g H Q I h;exact UnaryOp_ (Vu (m f s g H _ I h) λv i x u n j q=>o f i g u x v Q n j q)
def EE{g:Int->Int->Int}
  (rule:∀(i j:Int) (t u:Tok) (s:Zj) (Q:Zh->Zj->Prop) (E:Zh->Zj->Prop),C i j->Q (.int (g i j) s.toks) {s with toks:=s.toks+1}->Zn (Yn X) X.A (f (.int i t) (.int j u)) Q E s):
  Xi X f (rI C λi j=>.int (g i j)):=by
 intro m s B H x y v u Q I w o h;let#[i,j,U,U,z,q]:=h;let#[t,U]:=w;let#[n,U]:=o;exact rule i j t n s _ _ z #[.int (g i j),H,I.tok _,#[_,U],q]
def lA{g:Int->Int->Int}
  (rule:∀(i j:Int) (t u:Tok) (s:Zj) (Q:Zh->Zj->Prop) (E:Zh->Zj->Prop),Q (.int (g i j) s.toks) {s with toks:=s.toks+1}->Zn (Yn X) X.A (f (.int i t) (.int j u)) Q E s):
  Xi X f (Oy λi j=>.int (g i j)):=by
 intro m s z H x y v u Q I w o h;let#[i,j,U,U,q]:=h;let#[t,U]:=w;let#[n,U]:=o;exact rule i j t n s _ _ #[.int (g i j),H,I.tok _,#[_,U],q]
def EF{g:Int->Int->Bool}
  (rule:∀(i j:Int) (t u:Tok) (s:Zj) (Q:Zh->Zj->Prop) (E:Zh->Zj->Prop),Q (.bool (g i j)) s->Zn (Yn X) X.A (f (.int i t) (.int j u)) Q E s):
  Xi X f (Oy λi j=>.bl (g i j)):=by
 intro m s z H x y v u Q I w o h;let#[i,j,U,U,q]:=h;let#[t,U]:=w;let#[n,U]:=o;exact rule i j t n s _ _ #[.bl (g i j),H,I,U,q]
def lB(i j:Int):Prop:=0<=j/\j<=1000000/\i.natAbs<2^64
def xX(i j:Int):Prop:=(-(2^64)<i/\i<2^64)\/(-(2^64)<j/\j<2^64)
def xX.ok(h:xX i j):IntMulOk i j:=by
 rcases h with⟨g,f⟩|⟨g,f⟩;{exact .of_left (intBits_le_64 g f)};exact .of_right (intBits_le_64 g f)
def aae:Xi X (Uq .Add) (Oy λi j=>.int (i+j)):=lA λO O O O O O O q=>add_int q
def aaf:Xi X (Uq .Sub) (Oy λi j=>.int (i-j)):=lA λO O O O O O O q=>sub_int q
def aag:Xi X (Uq .Mod) (rI (λO j=>j≠0) λi j=>.int (i.fmod j)):=EE λO O O O O O O f q=>mod_int' f q
def aah:Xi X (Uq .Pow) (rI lB λi j=>.int (i^j.toNat)):=EE λO O O O O O O f q=>pow_int_small f.1 f.2.1 f.2.2 q
def unI{g:Int->Int}
  (rule:∀(i:Int) (t:Tok) (s:Zj) (Q:Zh->Zj->Prop) (E:Zh->Zj->Prop),Q (.int (g i) s.toks) {s with toks:=s.toks+1}->Zn (Yn X) X.A (f (.int i t)) Q E s):
  UnR X f (rU λi=>.int (g i)):=by
 intro j s n H x v Q I m h;let#[i,U,q]:=h;let#[t,U]:=m;exact rule i t s _ _ #[.int (g i),H,I.tok _,#[_,U],q]
def aai:UnR X (unaryOp .USub) (rU λi=>.int (-i)):=unI λO O O O O q=>neg_int q
end
noncomputable def EG:V->V->Bool
 |.non,.non=>Zd | .non,.int _=>Zd | .int _,.non=>Zd | .non,.bl _=>Zd | .bl _,.non=>Zd | .non,.str _=>Zd | .str _,.non=>Zd
 |.int _,.int _=>Zd | .bl _,.bl _=>Zd | .str _,.str _=>Zd | .byt _,.byt _=>Zd
 |.int _,.str _=>Zd | .str _,.int _=>Zd | .bl _,.str _=>Zd | .str _,.bl _=>Zd
 |_,_=>Zi
def rEq:R2:=λx y H Q=>EG x y=Zd/\Q (.bl (decide (x=y))) H
def rNe:R2:=λx y H Q=>EG x y=Zd/\Q (.bl (!decide (x=y))) H
def lD:decide (V.int i=V.int j)=(i==j):=by
 rw[Qb];simp
def lE:decide (V.bl i=V.bl j)=(i==j):=by
 rw[Qb];simp
def lF:decide (V.str i=V.str j)=(i==j):=by
 rw[Qb];simp
def lG:decide (V.byt i=V.byt j)=(i.toList==j.toList):=by
 rw[Qb];simp
section
variable {a b c:ZE}{g n A:TE}{o:Yv}
def XC(I:Inv X p f H s)(q:Q (.bl k) H)(e:k=i):EP X p f Q (.bool i) s:=by
 subst e;exact#[.bl k,H,I,U,q]
def aaj:Xi X (Xq .Eq) rEq:=by
 intro w s z H x y v u Q I p e h;let#[m,q]:=h;cases x with
 |non=>
  cases p;cases y with
  |non=>cases e;exact asN (XC I q 02)
  |bl j=>cases e;exact asL (XC I q 02)
  |int j=>let⟨f,rfl⟩:=e;exact asM (XC I q 02)
  |str j=>let⟨f,rfl⟩:=e;exact asO (XC I q 02)
  |_=>exact ZJ (show Zi=Zd from m) XQ
 |bl i=>
  cases p;cases y with
  |non=>cases e;exact asJ (XC I q 02)
  |bl j=>cases e;exact eq_bool (XC I q lE)
  |str j=>let⟨f,rfl⟩:=e;exact asA (XC I q 02)
  |_=>exact ZJ (show Zi=Zd from m) XQ
 |int i=>
  let⟨t,rfl⟩:=p;cases y with
  |non=>cases e;exact asK (XC I q 02)
  |int j=>let⟨f,rfl⟩:=e;exact eq_int (XC I q lD)
  |str j=>let⟨f,rfl⟩:=e;exact asB (XC I q 02)
  |_=>exact ZJ (show Zi=Zd from m) XQ
 |str i=>
  let⟨t,rfl⟩:=p;cases y with
  |non=>cases e;exact asQ (XC I q 02)
  |bl j=>cases e;exact asC (XC I q 02)
  |int j=>let⟨f,rfl⟩:=e;exact asD (XC I q 02)
  |str j=>let⟨f,rfl⟩:=e;exact eq_str (XC I q lF)
  |_=>exact ZJ (show Zi=Zd from m) XQ
 |byt i=>
  let⟨t,rfl⟩:=p;cases y with|byt j=>let⟨f,rfl⟩:=e;exact PySem.W.eq_bytes (XC I q lG)|_=>exact ZJ (show Zi=Zd from m) XQ
 |_=>cases y<;>exact ZJ (show Zi=Zd from m) XQ
def aak:Xi X (Xq .NotEq) rNe:=by
 intro w s z H x y v u Q I p e h;let#[m,q]:=h;cases x with
 |non=>
  cases p;cases y with
  |non=>cases e;exact asV (XC I q 02)
  |bl j=>cases e;exact asT (XC I q 02)
  |int j=>let⟨f,rfl⟩:=e;exact asU (XC I q 02)
  |str j=>let⟨f,rfl⟩:=e;exact asW (XC I q 02)
  |_=>exact ZJ (show Zi=Zd from m) XQ
 |bl i=>
  cases p;cases y with
  |non=>cases e;exact asR (XC I q 02)
  |bl j=>cases e;exact ne_bool (XC I q (XI not lE))
  |str j=>let⟨f,rfl⟩:=e;exact asF (XC I q 02)
  |_=>exact ZJ (show Zi=Zd from m) XQ
 |int i=>
  let⟨t,rfl⟩:=p;cases y with
  |non=>cases e;exact asS (XC I q 02)
  |int j=>let⟨f,rfl⟩:=e;exact ne_int (XC I q (XI not lD))
  |str j=>let⟨f,rfl⟩:=e;exact asG (XC I q 02)
  |_=>exact ZJ (show Zi=Zd from m) XQ
 |str i=>
  let⟨t,rfl⟩:=p;cases y with
  |non=>cases e;exact asY (XC I q 02)
  |bl j=>cases e;exact asH (XC I q 02)
  |int j=>let⟨f,rfl⟩:=e;exact asI (XC I q 02)
  |str j=>let⟨f,rfl⟩:=e;exact ne_str (XC I q (XI not lF))
  |_=>exact ZJ (show Zi=Zd from m) XQ
 |byt i=>
  let⟨t,rfl⟩:=p;cases y with|byt j=>let⟨f,rfl⟩:=e;exact PySem.W.ne_bytes (XC I q (XI not lG))|_=>exact ZJ (show Zi=Zd from m) XQ
 |_=>cases y<;>exact ZJ (show Zi=Zd from m) XQ
def aal:Xi X (Xq .Lt) (Oy λi j=>.bl (decide (i<j))):=EF λO O O O O O O q=>lt_int q
def aam:Xi X (Xq .LtE) (Oy λi j=>.bl (decide (i<=j))):=EF λO O O O O O O q=>le_int q
def aan:Xi X (Xq .Gt) (Oy λi j=>.bl (decide (j<i))):=EF λO O O O O O O q=>gt_int q
def aao:Xi X (Xq .GtE) (Oy λi j=>.bl (decide (j<=i))):=EF λO O O O O O O q=>ge_int q
def aap:Xi X (Xq .In) (λx y H Q=>∃i j,x=.str i/\y=.str j/\Q (.bl (!(R1 j i 0 j.length 1).isEmpty)) H):=by
 intro p s m H x y v u Q I f e h;let#[i,j,U,U,q]:=h;let#[t,U]:=f;let#[w,U]:=e;exact in_str (XC I q U)
def aaq:Xi X (Xq .Is) (λx y H Q=>y=.non/\Q (.bl (decide (x=.non))) H):=by
 intro p s i H x y v u Q I e f h;let#[U,q]:=h;cases f;show is_none_gen (XC I q ?_);cases x<;>first
  | (cases e;rfl)
  | (let⟨t,rfl⟩:=e;rfl)
def aar:Xi X (Xq .IsNot) (λx y H Q=>y=.non/\Q (.bl (!decide (x=.non))) H):=by
 intro p s i H x y v u Q I e f h;let#[U,q]:=h;cases f;show isnot_none_gen (XC I q ?_);cases x<;>first
  | (cases e;rfl)
  | (let⟨t,rfl⟩:=e;rfl)
def aas:Xi X (Xq .NotIn) (λx y H Q=>∃i j,x=.str i/\y=.str j/\Q (.bl (!(!(R1 j i 0 j.length 1).isEmpty))) H):=by
 intro p s m H x y v u Q I f e h;let#[i,j,U,U,q]:=h;let#[t,U]:=f;let#[w,U]:=e;exact notIn_str (XC I q U)
def Xi.or(h:Xi X f r)(w:Xi X f m):Xi X f (λx y H Q=>r x y H Q\/m x y H Q):=by
 intro p s e H x y v u Q I j i q;rcases q with q|q;{exact h p s e H x y v u Q I j i q};exact w p s e H x y v u Q I j i q
def NY(b:ZE)(h:op≠.In|>2)(e:op≠.NotIn|>2):Hm op b=Zi:=by
 have f:(op==CmpOp.In)=Zi:=by cases op<;>first|rfl|exact ZJ U h
 have E:(op==CmpOp.NotIn)=Zi:=by cases op<;>first|rfl|exact ZJ U e
 cases b<;>simp[Hm,f,E]
def aat(m:Xi X (Xq op) r)(B:PE X a g)(z:PE X b n)(w:Hm op b=Zi):PE X (.Compare a [op] [b] o) (Jm r g n):=by
 intro p s e H Q I h;exact wpAny_Compare1 (xW B z I h λv u f x y E C j i q=>m p f e E x y v u Q C j i q) w
def xY(t:TE):TT:=λe H Q=>t e H λx f=>∃k,x=.bl k/\Q k f
def lH(G:Xi X (Xq op) r)(M:PE X a g)(L:PE X b n)(J:Hm op b=Zi):PT X (.Compare a [op] [b] o) (xY (Jm r g n)):=by
 intro p s f H Q I h;show wpAny_isTrue_Compare1 (Vu (M p s f H _ I h) λv j x H1 Z w E=>Vu (L p j f H1 _ Z E) λu i y H2 Y q C=>
  ZQ (G p i f H2 x y v u _ Y w q C) λc s3 ⟨z,H3,N,m,k,e,B⟩=>?_) J
 subst e;cases m;exact QY #[H3,N,B]
def aau(r i:R2)(g n A:TE):TE:=λe H Q=>g e H λx p=>n e p λy m=>r x y m λz f=>∃k,z=.bl k/\
 (if k=Zd then A e f λw j=>i y w j Q else Q (.bl Zi) f)
def aav(ho:Xi X (Xq op) r)(j:Xi X (Xq i) r')(ha:PE X a g)(hb:PE X b n)(hc:PE X c A)
  (hm:nY [op,i] [b,c]=Zi:=by with_unfolding_all rfl):PT X (.Compare a [op,i] [b,c] o) (xY (aau r r' g n A)):=by
 intro p s f H Q I h;show isTrue_chain (Vu (ha p s f H _ I h) λv M x H1 I1 r1 q1=>test_link (Vu (hb p M f H1 _ I1 q1) λu L y H2 I2 m q2=>
  ZQ (ho p L f H2 x y v u _ I2 r1 m q2) λd J ⟨z,B,w,r3,k,e,q⟩=>?_)) hm
 subst e;cases r3;show QY ?_;cases k with
 |false=>
  let⟨k',e',q'⟩:=q;cases e';exact ite_ff #[B,w,q']
 |true=>
  show ite_tt (test_last (Vu (hc p J f B _ w q) λE G C H4 I4 Y q4=>ZQ (j p G f H4 y C u E _ I4 m Y q4) λd' s5 Z=>?_));let#[z2,H5,I5,N,k2,U,q5]:=Z;cases N;exact QY #[H5,I5,q5]
def xZ(K:ZF)(x:V)(H:Hp)(k:Bool):Prop:=
 match x with
 |.non=>k=Zi
 |.bl b=>k=b
 |.int i=>k=(i != 0)
 |.str y=>y.length<=Zo/\k=((y.length:Int) != 0)
 |.byt y=>y.size<=Zo/\k=((y.size:Int) != 0)
 |.ref p=>(∃s,Ya K H p s/\k=!s.isEmpty)\/(∃s,YW K H p s/\k=!s.isEmpty)\/∃e,H p=Zb (.dK e)/\k=!e.isEmpty
 |_=>False
def aaw(r:KV s e):(!e.isEmpty)=!s.isEmpty:=by
 cases r<;>rfl
def lI(r:ZX x i):(!i.toArray.isEmpty)=!x.isEmpty:=by
 cases r<;>simp
def Jn:(Zo:Nat)<2^63:=by rw[mh];decide
def aax:aac X (λx H Q=>∃k,xZ X.K x H k/\Q k H):=by
 intro J s Z H x v Q I j h;let#[k,e,q]:=h;have hs:=mh;cases x with
 |non=>
  cases j;have E:k=Zi:=e;subst E;exact truthy_none #[H,I,q]
 |bl b=>
  cases j;have E:k=b:=e;subst E;exact QY #[H,I,q]
 |int i=>
  let⟨t,rfl⟩:=j;have E:=e;subst E;exact PySem.P.truthy_int #[H,I,q]
 |str y=>
  let⟨t,rfl⟩:=j;let#[N,E]:y.length<=Zo/\k=((y.length:Int) != 0):=e;subst E;exact PySem.P.truthy_str 00 #[H,I.tok _,q]
 |byt y=>
  let⟨t,rfl⟩:=j;let#[N,E]:y.size<=Zo/\k=((y.size:Int) != 0):=e;subst E;exact PySem.W.truthy_bytes 00 #[H,I.tok _,q]
 |ref p=>
  cases j;have E:=e;rcases E with⟨M,z,E⟩|⟨M,z,E⟩|⟨u,z,E⟩;{subst E;let#[G,r,C,L]:=I.list z;have f:=r.length;exact wpAny_truthy_list C.isList (by simp only[YN];lia) #[H,I.tok _,by rw[lI r];exact q]};{subst E;let#[G,r,C,L]:=I.tuple z;have f:=r.length;exact truthy_tuple C (by simp only[YN];lia) #[H,I.tok _,by rw[lI r];exact q]};subst E;let#[L,Y,B,r,m]:u.length<=Zo/\(p==Sd)=Zi/\∃B,KV u B/\s.heap.DictOf (XT X.prog X.w) p B:=I.hok p _ z;have f:=KW r;exact wpAny_truthy_dict Y m 00 #[H,I.tok _,by rw[aaw r];exact q]
 |_=>exact(e).elim
def aay(u:PE X a g)(m:∀whole,isTrue a X.env whole=(do let v <-whole;Om a.pos;RD [v] (truthy v))):
  PT X a (λe H Q=>g e H λx f=>∃k,xZ X.K x f k/\Q k f):=by
 intro p s e H Q I h;exact isTrue_plain (Vu (u p s e H _ I h) λv i x y w j q=>aax p i e y x v Q w j q) (m _)
def aaz:Xi X (Uq .Add) (λx y H Q=>∃i j,x=.str i/\y=.str j/\i.length+j.length<=Zo/\Q (.str (i++j)) H):=by
 intro p s w H x y v u Q I m f h;let#[i,j,U,U,z,q]:=h;let#[t,U]:=m;let#[e,U]:=f;exact add_str (λe B=>#[.str (i++j),H,I.tok _,#[_,U],q]) z
def vals1(r:ZX [x] s):∃u,s=[u]/\RelV x u:=by
 cases r with
 |cons f e=>cases e;exact#[_,U,f]
def vals2(r:ZX [x,y] s):∃u w,s=[u,w]/\RelV x u/\RelV y w:=by
 cases r with
 |cons j i=>
  cases i with
  |cons f e=>cases e;exact#[_,_,U,j,f]
def aaA:WR X (.builtin "abs") (λx H Q=>∃i,x=[.int i]/\Q (.int (if i<0 then -i else i)) H):=by
 intro p s e H x f Q I r h;let#[i,U,q]:=h;let#[u,U,t,U]:=vals1 r;exact call_abs_int λu j=>#[.int (if i<0 then -i else i),H,I.tok _,#[_,U],q]
def aaB:WR X (.type "int") (λx H Q=>(∃i,x=[.int i]/\Q (.int i) H)\/∃k,x=[.bl k]/\Q (.int (if k then 1 else 0)) H):=by
 intro p s f H x j Q I r h;rcases h with⟨i,rfl,q⟩|⟨k,rfl,q⟩;{let#[u,U,t,U]:=vals1 r;exact call_int_int #[.int i,H,I,#[_,U],q]};let#[u,U,e]:=vals1 r;cases e;exact call_int_bool #[.int (if k then 1 else 0),H,I.tok _,#[_,U],q]
end
structure Lz (h:ZD)(x dx C:Zg)(mA:Ze->Option Zh):Prop where
 obj:h.get? x=Zb (Ry C dx)
 ns:h.Ns1 dx mA
 ne:dx≠x
set_option tactic.hygienic true in
def aaC{h:ZD}(n:h.Ns1 x m):∃od,h.get? x=Zb od/\∀name,nL name od=Zb (m name):=by
 let#[o,E,p,f,hd,i,_,g]:=n;show#[o,f,λname=>?_];have e:=g name;unfold nsFind findBy at e;rw[<-Array.find?_toList]at e;unfold nL;rw[hd];dsimp only;split;{rename_i y q;rw[q]at e;exact XI Zb e};rename_i q;rw[q]at e;have a:E.toList.any (·.refKey)=Zi:=by
  rw[List.any_eq_false];intro y c;let#[z,t,b]:=i y (Array.mem_toList_iff.mp c);simp[yS.refKey,b]
 have A:¬E.toList.any (·.refKey)=Zd:=by rw[a];exact XQ
 rw[Zq A];exact XI Zb e
def Lz.look(I:Lz h x b C m):∃od,PySem.W.InstAt h x (Ry C b) C (Zb od)/\∀name,nL name od=Zb (m name):=
 let ⟨od,o,a⟩:=aaC I.ns
 #[od,#[I.obj,U,U,o],a]
section
variable {p:YZ}{w:Yt}{A:Yr}{E:Zh->Zj->Prop}{s:Zj}{x a C f:Zg}{m:Ze->Option Zh}{n:Ze}{v:Zh}
def aou(X:K.In s.heap)(I:Lz s.heap x a C m)(i:xu K C n=Zd)(g:xo K C=Zd)
  (j:Xn K (.ref C) n=Zb Zc)(c:m n=Zb v)(b:aqJ v=Zd)(h:Q v {s with toks:=s.toks+1}):
  Zn (Zr p w) A (getAttr (.ref x) n expr) Q E s:=by
 let#[od,J,e]:=I.look;exact PySem.W.get_value X J (u9 i).1 (PySem.W.findObj_own g j U (by rw[e,c])) b h
def aaD(X:K.In s.heap)(I:Lz s.heap x a C m)(g:xu K C n=Zd)
  (i:Xn K (.ref C) n=Zb (Zb (.ref f)))(c:xq K (.ref f)=Zd)(b:m n=Zc)(h:Q (.ref f,[.ref x]) s):
  Zn (Zr p w) A (xE (.ref x) n j) Q E s:=by
 let#[od,J,e]:=I.look;exact PySem.W.method_fn X J (u9 g).1 (u9 g).2 i (Wo.mp c) (by change(nL n od).map (·.isSome)=Zb Zi;rw[e,b];rfl) h
def aaE(X:K.In s.heap)(I:Lz s.heap x a C m)
  (G:Xn K (.ref C) "__setattr__" = Zb (Zb (.builtin "object.__setattr__")))(L:t6 K C=Zd)(B:t7 K C n=Zb Zc)(M:xo K C=Zd)
  (u:q8 m N)(z:N.length<=Zo)
  (h:∀g,Lz g x a C (λy=>if y=n then Zb v else m y)->VB a s.heap g->Q () {s with heap:=g,toks:=s.toks+2}):
  Zn (Zr p w) A (setAttr (.ref x) n v) Q E s:=by
 let#[od,J,hl]:=I.look;show PySem.W.set_plain X J G (PySem.W.osa_open X J L B λb=>?_);let#[cd,Y,o]:=aqH M;show Zf (Zm (Zf (Zf (wpAny_loadPart I.obj (Zf (asZ (PySem.W.looks_clsIn X Y) ?_))))));rw[o];show Zm (Zf (Zm (Zf ?_)));show wpAny_nsSet1 I.ns λg e c=>?_;let#[oD,Z,epD,i,j,q]:=e.count (as5 n v u);show Zf (wpAny_lookBehind i (by rw[j];exact pastItsLine_dict (Yp q (by rw[Yu];exact Eb z))) ?_);exact Zm (h _ #[(c.2 _ (XR I.ne)).trans I.obj,e,I.ne] c)
def aaF(X:K.In s.heap)(e:Ef K C=Zd)
  (hi:Xn K (.ref C) "__init__" = Zb (Zb (.ref f)))(g:aqT K (.ref f)=Zb (.type "function"))
  (h:Wv (Zr p w) (A.under (.builtin "type.__call__" #[.ref C::b,c])) (.call (.ref f) #[.ref (s.heap.objs.size+1)::b,c]) (aqF (s.heap.objs.size+1) R)
   {s with heap:=(s.heap.push Qf).push (Ry C s.heap.objs.size)}):
  Wv (Zr p w) A (.call (.ref C) #[b,c]) R s:=by
 exact aqP (u6 X e) (aqO X hi) (λself=>PySem.W.bind_fn X self g) (.inl U) h
def aaG(X:K.In s.heap)(b:Ef K C=Zd)
  (hi:Xn K (.ref C) "__init__" = Zb (Zb (.builtin "object.__init__")))
  (c:∀self,v8 (Zr p w) s.heap (bindSpecial (.builtin "object.__init__") self) (.builtin "object.__init__",[self]))
  (h:Wv (Zr p w) (A.under (.builtin "type.__call__" #[[.ref C],[]])) (.call (.builtin "object.__init__") #[[.ref (s.heap.objs.size+1)],[]]) (aqF (s.heap.objs.size+1) R)
   {s with heap:=(s.heap.push Qf).push (Ry C s.heap.objs.size)}):
  Wv (Zr p w) A (.call (.ref C) #[[],[]]) R s:=by
 exact aqP (u6 X b) (aqO X hi) c (.inr #[U,U]) h
end
noncomputable def Ut(f:Ze)(v:V):Za (Ze×V)->Za (Ze×V)
 |[]=>[(f,v)]
 |(g,x)::r=>if g=f then (g,v)::r else (g,x)::Ut f v r
theorem lJ(f g:Ze)(v:V):∀fs:Za (Ze×V),(Ut f v fs).lookup g=if g=f then Zb v else fs.lookup g
 |[]=>by
  change Og g [(f,v)]=_;by_cases h:g=f;{have b:=Wo.mpr h;simp only[Og,b,Zt h]};have b:=Jj.mpr h;simp only[Og,b,Zq h]
 |(k,x)::r=>by
  rw[show Ut f v ((k,x)::r)=(if k=f then (k,v)::r else (k,x)::Ut f v r)from rfl];by_cases a:k=f;{rw[Zt a];by_cases h:g=k;{have b:=Wo.mpr h;simp only[Og,b,Zt (h.trans a)]};have b:=Jj.mpr h;simp only[Og,b,Zq (λe:g=f=>h (e.trans a.symm))]};rw[Zq a];by_cases h:g=k;{have b:=Wo.mpr h;simp only[Og,b,Zq (λe:g=f=>a (h.symm.trans e))]};have b:=Jj.mpr h;simp only[Og,b];exact(lJ f g v r)
theorem wc(f:Ze)(v:V):∀fs:Za (Ze×V),f∈(Ut f v fs).map (·.1)/\∀g,g∈fs.map (·.1)->g∈(Ut f v fs).map (·.1)
 |[]=>#[by simp[Ut],λg h=>by simp at h]
 |(k,x)::r=>by
  let#[I,i]:=wc f v r;rw[show Ut f v ((k,x)::r)=(if k=f then (k,v)::r else (k,x)::Ut f v r)from rfl];by_cases a:k=f;{rw[Zt a];subst a;exact#[02,λg h=>by assumption]};rw[Zq a];show#[?_,λg h=>?_];{rw[Xo];exact YT _ I};rw[Xo]at h⊢;rcases Yk.mp h with e|e;{exact Yk.mpr (.inl e)};exact YT _ (i g e)
theorem lK(f:Ze)(v:V):∀fs:Za (Ze×V),(Ut f v fs).length<=fs.length+1
 |[]=>by simp[Ut]
 |(k,x)::r=>by
  have i:=lK f v r;rw[show Ut f v ((k,x)::r)=(if k=f then (k,v)::r else (k,x)::Ut f v r)from rfl];by_cases a:k=f;{rw[Zt a,Yu,Yu];exact UT _};rw[Zq a,Yu,Yu];exact Eb i
def Us.some_of(r:Us (Zb v) o):∃u,o=Zb u/\RelV v u:=by
 cases o with|none=>exact(r).elim|some u=>exact#[u,U,r]
def Us.none_of(r:Us Zc o):o=Zc:=by
 cases o with|none=>rfl|some u=>exact(r).elim
def aaH(r:RelV v u):aqJ u=Zd:=by
 cases v with
 |non=>cases (r);rfl
 |bl b=>cases (r);rfl
 |int i=>let⟨t,e⟩:=(r);cases e;rfl
 |str x=>let⟨t,e⟩:=(r);cases e;rfl
 |byt b=>let⟨t,e⟩:=(r);cases e;rfl
 |flt b=>let⟨t,e⟩:=(r);cases e;rfl
 |ref a=>cases (r);rfl
 |ty n=>cases (r);rfl
section
variable {P:YZ}{w:Yt}{h:ZD}{a C x:Zg}{fs:Za (Ze×V)}
def EH(b:Xh P w H h)(e:H a=Zb (.ins C x fs)):∃m,Lz h a x C m/\(∀f,Us (fs.lookup f) (m f))/\q8 m (fs.map (·.1))/\fs.length<=1000/\H x=Zb (.own a):=by
 let#[d,z,ne,ob,m,n,r,q]:=(b a _ e)
 exact#[m,#[ob,n,ne],r,q,z,d]
end
structure Wp (K:ZF)(C:Zg):Prop where
 pg:xu K C Ze.empty=Zd
 hd:xo K C=Zd
 po:t6 K C=Zd
 sa:Xn K (.ref C) "__setattr__" = Zb (Zb (.builtin "object.__setattr__"))
def Wp.get(c:Wp K C)(f:Ze):xu K C f=Zd:=c.pg
def Xx(K:ZF)(C:Zg)(f:Ze):Prop:=Xn K (.ref C) f=Zb Zc
def Xx.taker(n:Xx K C f):t7 K C f=Zb Zc:=by
 unfold t7;rw[show Xn K (.ref C) f=Zb Zc from n];rfl
abbrev RG(K:ZF)(f:Zg):Prop:=Lg K (.ref f)=Zd
structure IG (K:ZF)(C:Zg)(m:Ze)(f:Zg):Prop where
 at_:Xn K (.ref C) m=Zb (Zb (.ref f))
 fn:xq K (.ref f)=Zd
 kp:RG K f
section
variable {p:Za (Zg×Yg)}{i:St}{s:Zj}{a C x:Zg}{fs:Za (Ze×V)}{f:Ze}{v:V}{A:Yr}{E:Zh->Zj->Prop}
def aaI(I:Inv X p i H s)(e:H a=Zb (.ins C x fs))(c:Wp X.K C)(n:Xx X.K C f)(l:fs.lookup f=Zb v)
  (h:∀u g,Inv X p i H g->RelV v u->Q u g):Zn (Yn X) A (getAttr (.ref a) f b) Q E s:=by
 let#[M,o,r,_,_,_]:=EH I.hok e;let#[u,m,j]:=Us.some_of (by rw[<-l];exact r f);exact aou I.Wk o (c.get f) c.hd n m (aaH j) (h u _ (I.tok _) j)
def aaJ(I:Inv X p i H s)(e:H a=Zb (.ins C x fs))(c:Wp X.K C)(k:IG X.K C m g)(l:fs.lookup m=Zc)
  (h:Q (.ref g,[.ref a]) s):Zn (Yn X) A (xE (.ref a) m b) Q E s:=by
 let#[M,o,r,_,_,_]:=EH I.hok e;have n:=Us.none_of (by rw[<-l];exact r m);exact aaD I.Wk o (c.get m) k.at_ k.fn n h
def aaK(I:Inv X p i H s)(e:H a=Zb (.ins C x fs))(c:Wp X.K C)(n:Xx X.K C f)(Y:fs.length<1000)(L:RelV y u)
  (h:∀B,Inv X p i (upd H a (.ins C x (Ut f y fs))) B->Q () B):Zn (Yn X) A (setAttr (.ref a) f u) Q E s:=by
 let#[M,m,r,w,_,G]:=EH I.hok e;have N:(fs.map (·.1)).length<=Zo:=by rw[ZI,mh];exact Uo (YK Y (Le _ _))
 show aaE I.Wk m c.sa c.po n.taker c.hd w N λh' j J=>h _ ?_;have hd:∃o,h'.get? x=Zb o:=let ⟨o,_,_,e',_⟩:=j.ns;#[o,e']
 show I.write (by rw[e];exact Qg) (.inr G) (λb q hb z=>(J.2 b hb).trans z) hd ?_;show#[by rw[ZN m.ne];exact G,?_,m.ne,j.obj,_,j.ns,λg=>?_,λg Z=>?_];{have:=lK f y fs;lia};{change Us ((Ut f y fs).lookup g) (if g=f then Zb u else M g);rw[lJ];by_cases q:g=f;{rw[Zt q,Zt q];exact L};rw[Zq q,Zq q];exact r g};by_cases q:g=f;{rw[q];exact(wc f y fs).1};show(wc f y fs).2 g (w g λz=>Z ?_);change(if g=f then Zb u else M g)=Zc;rw[Zq q];exact z
def Inv.made(I:Inv X p i H s):Inv X p i (upd (upd H s.heap.objs.size (.own (s.heap.objs.size+1))) (s.heap.objs.size+1) (.ins C s.heap.objs.size []))
  {s with heap:=(s.heap.push Qf).push (Ry C s.heap.objs.size)}:=by
 have c:(s.heap.push Qf).get? s.heap.objs.size=Zb Qf:=YF s.heap U;have n:((s.heap.push Qf).push (Ry C s.heap.objs.size)).get? (s.heap.objs.size+1)=Zb (Ry C s.heap.objs.size):=by
  have:=YF (s.heap.push Qf) (o:=Ry C s.heap.objs.size) U;rwa [UQ]at this
 have m:(s.heap.push Qf).Ns s.heap.objs.size (λO=>Zc):=#[Qf,#[],_,c,U,(λe j=>ZJ j 02),λO=>rfl]
 have w:=I.laid (o:=.own (s.heap.objs.size+1)) (t':=s.toks) (λb u q=>ZY _ q) (ZU _) #[_,c];show w.laid (λb u q=>ZY _ q) (Sa (UQ _ _)) ?_;have ne:s.heap.objs.size≠s.heap.objs.size+1:=Ys (KS _);show#[by rw[ZN ne,YQ],Wg _,ne,n,λO=>Zc,(ZD.Ns1.of_empty m).at λo q=>ZY _ q,λO=>Qg,λy g=>ZJ U g]
def aaL(j:SL e f b (Ye e b)=Ye e b)
  (h:Zn (Zr g w) A (Ye e b) (λo c=>Zn (Zr g w) A (getAttr o f Zd) Q E c) E s):Zn (Zr g w) A (Ye (.Attribute e f pos) b) Q E s:=
 Attribute_any_ h (by rw[arm_eval_Attribute,j])
end
def aaM(K:ZF)(e:TE)(f:Ze):TE:=λc H Q=>e c H λx b=>∃a C g fs v,x=.ref a/\b a=Zb (.ins C g fs)/\Wp K C/\Xx K C f/\fs.lookup f=Zb v/\Q v b
def aaN(K:ZF)(i g:TE)(f:Ze):TS:=λD b H=>g b H λy j=>i b j λx e=>∃a C c fs,x=.ref a/\e a=Zb (.ins C c fs)/\Wp K C/\Xx K C f/\fs.length<1000/\
 D.nx b (upd e a (.ins C c (Ut f y fs)))
section
variable {o e b:ZE}{f:Ze}{g p:Yv}{i j:TE}
abbrev Jo(X:Cx)(o:ZE)(n:Ze):Prop:=SL o n X.env (Ye o X.env)=Ye o X.env
def we(B:PE X e i)(E:Jo X e f):PE X (.Attribute e f g) (aaM X.K i f):=by
 intro m s w H Q I h;show aaL E (ZQ (B m s w H _ I h) λu Z z=>?_);let#[x,M,L,y,a,C,dx,fs,v,U,G,c,n,l,q]:=z;obtain rfl:u=Xa a:=y;exact aaI L G c n l λN Y J A=>#[v,M,J,A,q]
def wg(M:PE X o i)(J:PE X b j)(L:XD b (Zb (.Attribute o f p)) g.line X.env=ZR Zi):PS X (.Assign [.Attribute o f p] b g) (aaN X.K i j f):=by
 intro m s w H D I h;show plainObj_wpAny_Assign_Attribute (Vu (J m s w H _ I h) λu A y H1 I1 B q=>ZQ (M m A w H1 _ I1 q) λG s2 z=>?_) L;let#[x,H2,Z,E,a,C,dx,fs,U,N,c,n,l,Q]:=z;obtain rfl:G=Xa a:=E;exact aaK Z N c n l B λs3 Y=>#[w,_,Y,Q]
end
section
variable {f:Za (Zg×Yg)}{g:St}{s:Zj}{A:Yr}{E:Zh->Zj->Prop}{Q:Zh->Zj->Prop}{c:Zh}{b:Bool}
inductive Sf (K:ZF) (H:Hp):V->Zh->Prop where
 | non:Sf K H .non (.type "NoneType")
 | bl (x:Bool):Sf K H (.bl x) (.type "bool")
 | int (i:Int):Sf K H (.int i) (.type "int")
 | str (x:Ze):Sf K H (.str x) (.type "str")
 | flt (x:UInt64):Sf K H (.flt x) (.type "float")
 | lst {a:Zg}{xs:List V}(e:H a=Zb (.lst xs)):Sf K H (.ref a) (.type "list")
 | Ua {a:Zg}{o:Yg}{xs:List V}(e:H a=Zb (.Ua o (.lst xs))):Sf K H (.ref a) (.type "list")
 | tup {a:Zg}{xs:List V}(e:H a=Zb (.tup xs)):Sf K H (.ref a) (.type "tuple")
 | dK {a:Zg}{kvs:List (Zx×V)}(e:H a=Zb (.dK kvs)):Sf K H (.ref a) (.type "dict")
 | dT {a:Zg}{kvs:List (Zu×V)}(e:H a=Zb (.dT kvs)):Sf K H (.ref a) (.type "dict")
 | ins {a C dx:Zg}{fs:List (Ze×V)}(e:H a=Zb (.ins C dx fs)) (cl:Wp K C) (ha:Xn K (.ref C) "__class__" = Zb (Zb (.builtin "object.__class__")))
   (hn:aqQ K (.builtin "object.__class__") "__get__" = Zb (Zb (.builtin "getset_descriptor.__get__"))) (htk:aqS K (.builtin "object.__class__")=Zb Zd)
   (hm:xt K C (.type "object")=Zb Zd):Sf K H (.ref a) (.ref C)
def aaO(I:Inv X f g H s)(j:RelV x u)(ty:Sf X.K H x t)(e:Oj X.K t c=Zb b)(h:∀Y,Q (.bool b) {s with toks:=Y}):
  Zn (Yn X) A (call (.builtin "isinstance") [u,c]) Q E s:=by
 cases ty with
 |non=>cases (j);exact Oi PySem.W.kitx_none I.Wk Qg e (λz=>nomatch z) h
 |bl y=>cases (j);exact Oi PySem.W.kitx_bool I.Wk Qg e (λz=>nomatch z) h
 |int i=>let⟨t,q⟩:=(show∃t,u=xA i t from j);cases q;exact Oi PySem.W.kitx_int I.Wk Qg e (λz=>nomatch z) h
 |str y=>let⟨t,q⟩:=(show∃t,u=nQ y t from j);cases q;exact Oi PySem.W.kitx_str I.Wk Qg e (λz=>nomatch z) h
 |flt y=>let⟨t,q⟩:=(show∃t,u=aq4 y t from j);cases q;exact Oi PySem.W.kitx_float I.Wk Qg e (λz=>nomatch z) h
 |@lst a G m=>
  cases (show u=Xa a from j);let#[_,_,n,_,w]:=(I.hok a _ m)
  exact Oi u5 I.Wk #[_,w,U] e (λz=>nomatch z) h
 |@Ua a ob G m=>
  cases (j);let#[_,_,_,n,_,w]:=(I.hok a _ m)
  exact Oi u5 I.Wk #[_,w,U] e (λz=>nomatch z) h
 |@tup a G m=>
  cases (show u=Xa a from j);let#[_,_,_,p]:=(I.hok a _ m)
  let#[o,w,B,_]:=p;exact Oi aqN I.Wk #[o,w,B] e (λz=>nomatch z) h
 |@dK a L m=>
  cases (show u=Xa a from j);let#[_,_,vs,_,p]:=(I.hok a _ m)
  let#[o,es,ep,w,B,_]:=p;exact Oi aqM I.Wk #[o,w,B.1] e (λz=>nomatch z) h
 |@dT a L m=>
  cases (show u=Xa a from j);let#[_,_,G,_,o,es,ep,w,B,_]:=(I.hok a _ m)
  exact Oi aqM I.Wk #[o,w,B.1] e (λz=>nomatch z) h
 |@ins a C dx fs m N ha Z M hm=>
  cases (j);let#[mA,Oo,_]:=EH I.hok m;let#[od,J,_]:=Oo.look;exact Oi (PySem.W.kitx_own (N.get _) N.hd ha Z M hm) I.Wk J e (λz=>nomatch z) h
end
structure Xc (k:Nat)(A:Yr):Prop where
 hd:A.handled=Zc
 dp:A.depth+3*k+5<recursionLimit
 un:A.units+16*k+200<Yz
def Xc.mono(r:Xc k A)(h:j<=k):Xc j A:=#[r.hd,by have:=r.dp;lia,by have:=r.un;lia]
theorem Xc.deeper(r:Xc (k+1) A)(e:Wf):Xc k (A.deeper e):=
 #[r.hd,by have:=r.dp;change A.depth+1+3*k+5<_;lia,by have:=r.un;change A.units+3+16*k+200<_;lia]
theorem aaP{A:Yr}:(A.under (.builtin "type.__call__" #[.ref C::u,w])).depth=A.depth+1:=rfl
theorem aaQ{A:Yr}:(A.under (.builtin "type.__call__" #[.ref C::u,w])).units=A.units+1:=rfl
def Xc.make(r:Xc (k+1) A)(C:Zg)(u:Za Zh)(w:Za (Ze×Zh)):Xc k (A.under (.builtin "type.__call__" #[.ref C::u,w])):=
 #[r.hd,by have:=r.dp;rw[aaP];lia,by have:=r.un;rw[aaQ];lia]
theorem Xc.depth(r:Xc k A):A.depth<recursionLimit:=by have:=r.dp;lia
theorem Xc.units(r:Xc k A):A.units+64<Yz:=by have:=r.un;lia
def lM:TA:=λO H Q=>Q [] H
def wj(c:TE)(b:TA):TA:=λa H Q=>c a H λx f=>b a f λs e=>Q (x::s) e
section
variable {e:ZE}{E:Za ZE}{c:TE}{t:TA}{a:Yv}
def Sg:PA X [] lM:=λO O O O H Q I h=>FI #[[],H,I,.nil,h]
abbrev TC(X:Cx)(e:ZE)(E:Za ZE):Prop:=XA (e::E) X.env=(Zi,Ye e X.env)::XA E X.env
def aaR(w:PE X e c)(o:PA X E t)(n:TC X e E|>1):PA X (e::E) (wj c t):=by
 intro a p s b H Q I h;rw[n];change Zn _ _ (spliced ((Zi,Ye e X.env)::RB a (XA E X.env))) _ _ s;show KF (ZQ (w p s b H _ I h) λu g z=>?_);let#[x,C,A,j,m]:=z;exact Vu (o a p g b C _ A m) λG J f B y i q=>#[x::f,B,y,.cons j i,q]
def aaS(t:TA):TE:=λf H Q=>t f H λx b=>x.length<=Zo/\∀p,b p=Zc->Q (.ref p) (upd b p (.tup x))
def aaT(t:TA):TE:=λf H Q=>t f H λx b=>x.length<=Zo/\∀p,b p=Zc->Q (.ref p) (upd b p (.lst x))
def aaU(h:PA X E t):PE X (.Tuple E o a) (aaS t):=by
 intro p s g H Q I m;show wpAny_Tuple_spliced (ZQ (h a p s g H _ I m) λj f ⟨x,n,i,r,z,q⟩=>#[by rw[<-r.length];exact z,?_]);show#[.ref f.heap.objs.size,upd n f.heap.objs.size (.tup x),i.laid (λb u e=>ZY _ e) (ZU _) ?_,U,q _ (i.hok.fresh (ZU _))];exact#[z,j,r,#[_,YF _ U,U,_,U]]
def EI(h:PA X E t):PE X (.List E a) (aaT t):=by
 intro p s g H Q I m;show wpAny_List_spliced (ZQ (h a p s g H _ I m) λj f ⟨x,n,i,r,z,q⟩=>#[by rw[<-r.length];exact z,?_]);show#[.ref f.heap.objs.size,upd n f.heap.objs.size (.lst x),i.laid (λb u e=>ZY _ e) (ZU _) ?_,U,q _ (i.hok.fresh (ZU _))];exact#[z,j,0,r,YF _ U]
end
abbrev Sp:=Za V->Hp->VK->XK->Prop
abbrev NZ:=Za Wf->Hp->Zj->XK->Zh->Zj->Prop
structure LA (P:YZ)(w:Yt)(K:ZF)(mg:Ze->Option Zh)(base:ZD)(A:Yr)(outer:List Wf)(s:Zj)(H:Hp):Prop where
 frames:A.frames=Zb outer
 mod:Mod K mg base
 bs:∀b o,base.get? b=Zb o->s.heap.get? b=Zb o/\H b=Zc
 bsz:base.objs.size<=s.heap.objs.size
 SR:s.heap.FunFrames base outer
 Qm:∀b∈VN outer,H b=Zc
 hok:Xh P w H s.heap
 bare:Nr s.gens
def CE(o:Za Wf)(P:YZ)(w:Yt)(H:Hp)(s:Zj)(Q:VK)(u:Zh)(a:Zj):Prop:=
 ∃v b,a.os=s.os/\Nr a.gens/\Un (VN o) [] H b s.heap a.heap/\Xh P w b a.heap/\RelV v u/\Q v b
def CR(C:NZ)(o:Za Wf)(P:YZ)(w:Yt)(H:Hp)(s:Zj)(Q:VK)(E:XK)(r:Ol)(a:Zj):Prop:=
 match r with
 |.ok (.ret u)=>CE o P w H s Q u a
 |.ok _=>False
 |.error e=>C o H s E e a
structure ZK (P:YZ)(w:Yt)(K:ZF)(mg:Ze->Option Zh)(base:ZD)(CX:NZ)(k:Nat)(f:Zg)(fd:ZZ)(ps:List Ze)(sp:Sp):Prop where
 len:∀vs H Q E,sp vs H Q E->vs.length=ps.length
 run:∀(A:Yr) (outer:List Wf) (s:Zj) (H:Hp) (args:Args) (us:List Zh) (vs:List V) (Q:VK) (E:XK),Xc k A->LA P w K mg base A outer s H->II s fd args (ps.zip us)->ZX vs us->sp vs H Q E->
  Wv (Zr P w) A (.call (.ref f) args) (CR CX outer P w H s Q E) s
def LA.make{o:Za Wf}{s:Zj}(e:LA P w K m base A o s H)(C:Zg)(u:Za Zh)(a:Za (Ze×Zh)):
  LA P w K m base (A.under (.builtin "type.__call__" #[.ref C::u,a])) o s H:=#[by first|exact e.frames|(simpa using e.frames),e.mod,e.bs,e.bsz,e.SR,e.Qm,e.hok,e.bare]
section
variable {p:Za (Zg×Yg)}{a:St}{s c:Zj}
def Inv.env0(I:Inv X p a H s):LA X.prog X.w X.K X.mg X.base X.A X.stack s H:=
 #[I.ok.frames,I.ok.mod,I.bs,Yp I.ok.bsz I.sz,I.stack,I.mR,I.hok,I.bare]
def Inv.after(I:Inv X p a H s)(h:CE X.stack X.prog X.w H s Q u c):EP X p a Q u c:=by
 let#[v,f,os,bare,un,e,r,q]:=h;let#[i,g,d,t,o]:=c;obtain rfl:o=s.os:=os;exact#[v,f,I.call un e bare (λb z=>ZJ z 02),r,q]
end
def Binds(K:ZF)(fd:ZZ)(p:Za Ze)(ds:Za Zh):Prop:=
 ∀(s:Zj) (u:Za Zh),K.In s.heap->(u++ds).length=p.length->II s fd #[u,[]] (p.zip (u++ds))
def Binds.all(h:∀u:Za Zh,u.length=p.length->nT fd #[u,[]]=ZR (p.zip u)):Binds K fd p []:=λs u O a=>by
 rw[SG]at a⊢;exact .of_eq (h u a)
section
variable {f C:Zg}
structure Mk (K:ZF)(C f:Zg):Prop where
 makes:Ef K C=Zd
 init:Xn K (.ref C) "__init__" = Zb (Zb (.ref f))
 fn:xq K (.ref f)=Zd
 kp:RG K C
end
structure Yh (N P:List Ze)(sc:Wu):Prop where
 kind:sc.kind=.function
 co:sc.isCoroutine=Zi
 gen:sc.isGenerator=Zi
 nd:N.Nodup
 pre:N.take P.length=P
 par:∀x∈P,sc.names.lookup x=Zb .local\/sc.names.lookup x=Zb .cell
 nofree:∀y∈sc.names,y.2≠.free
theorem lN{Ww:Ze->Option FZ}:∀{binds:Za (Ze×Zh)}{m:Ze->Option Zh},(∀v,(x,v)∉binds)->Ho Ww binds m x=m x
 |[],_,_=>rfl
 |(n,v)::r,m,h=>by
  unfold Ho;rw[lN λw a=>h w (YT _ a)];split
  ·have:x≠n:=by rintro rfl;exact h v YY
   simp[this]
  rfl
theorem lO{Ww:Ze->Option FZ}:∀{binds:Za (Ze×Zh)}{m:Ze->Option Zh},(∀v,(x,v)∉binds)->Hn Ww binds m x=m x
 |[],_,_=>rfl
 |(n,v)::r,m,h=>by
  unfold Hn;rw[lO λw a=>h w (YT _ a)];split;{rfl};have:x≠n:=by rintro rfl;exact h v YY
  simp[this]
theorem lP{Ww:Ze->Option FZ}:∀{P:Za Ze}{s:Za Zh}{i:Nat}{m:Ze->Option Zh},P.Nodup->P[i]?=Zb x->s[i]?=Zb v->Ww x=Zb .local->
  Ho Ww (P.zip s) m x=Zb v
 |[],_,_,_,_,h,_,_=>by simp at h
 |_::_,[],_,_,_,_,h,_=>by simp at h
 |p::P,w::s,0,m,nd,c,b,a=>by
  simp at c b;subst c;subst b;change Ho Ww ((p,w)::P.zip s) m p=_;unfold Ho;rw[lN λv e=>(TY.mp nd).1 (M5 e).1,Zt a];simp
 |p::P,w::s,i+1,m,nd,c,b,a=>by
  change Ho Ww ((p,w)::P.zip s) m x=_;exact lP (TY.mp nd).2 (by assumption) (by assumption) a
theorem lQ{Ww:Ze->Option FZ}:∀{P:Za Ze}{s:Za Zh}{i:Nat}{m:Ze->Option Zh},P.Nodup->P[i]?=Zb x->s[i]?=Zb v->Ww x≠Zb .local->
  Hn Ww (P.zip s) m x=Zb v
 |[],_,_,_,_,h,_,_=>by simp at h
 |_::_,[],_,_,_,_,h,_=>by simp at h
 |p::P,w::s,0,m,nd,c,b,a=>by
  simp at c b;subst c;subst b;change Hn Ww ((p,w)::P.zip s) m p=_;unfold Hn;rw[lO λv e=>(TY.mp nd).1 (M5 e).1,Zq a];simp
 |p::P,w::s,i+1,m,nd,c,b,a=>by
  change Hn Ww ((p,w)::P.zip s) m x=_;exact lQ (TY.mp nd).2 (by assumption) (by assumption) a
noncomputable def start(N:Za Ze)(s:Za V):St:=s.map Zb++WN (N.length-s.length) Zc
noncomputable def Uu(C:NZ)(P:YZ)(w:Yt)(K:ZF)(mg:Ze->Option Zh)(base:ZD)(N:List Ze)(q:Ze)(a:Wu)(f:Zg)(c:Zh)(A:Yr)(outer:List Wf)(s:Zj)(H:Hp)(E:XK):Cx where
 prog:=P
 w:=w
 K:=K
 mg:=mg
 base:=base
 A:=A.deeper (Sb q a s.heap.objs.size f c)
 N:=N
 s₀:=s
 H₀:=H
 env:=Sb q a s.heap.objs.size f c
 outer:=outer
 stack:=Sb q a s.heap.objs.size f c::outer
 ex:=[]
 calm:=Zd
 fn:=λO=>Zd
 pn:=[]
 xe:=λe g=>Zn (Zr P w) (A.deeper (Sb q a s.heap.objs.size f c)) (leaving (Sb q a s.heap.objs.size f c) e) (λO b=>C outer H s E e b) (λi b=>C outer H s E i b) g
def lR{s:Wu}(h:s.names.lookup x=Zb .cell):∃c,(j6 n s.names []).lookup x=Zb c:=Option.isSome_iff_exists.mp (aqI s.names n [] (.inl h))
def aaV{CX:NZ}{N B:Za Ze}{Q:Ze}{g:Wu}{f:Zg}{M:Zh}{A:Yr}{o:Za Wf}{s Z:Zj}{E:XK}{Y:Za Zh}{n:Za V}
  (S:Yh N B g)(hd:A.handled=Zc)(m:LA P w K mg base A o s H)(hl:n.length=B.length)(r:ZX n Y)
  (x:InCallC s s.heap.objs.size (Ho (Sb Q g s.heap.objs.size f M).kindOf (B.zip Y) λO=>Zc) (j6 (s.heap.objs.size+1) g.names []) (Hn (Sb Q g s.heap.objs.size f M).kindOf (B.zip Y) λO=>Zc) Z):
  Inv (Uu CX P w K mg base N Q g f M A o s H E) [] (start N n) H Z:=by
 have hpl:B.length<=N.length:=by have:=XI Lc S.pre;rw[WL]at this;lia
 let#[L,tk,U,hk]:=x.done;have C:∀b:Zg,b∉(Uu CX P w K mg base N Q g f M A o s H E).ex:=λb z=>ZJ (show b∈([]:Za Zg)from z) 02;show#[#[m.mod,S.kind,U,U,ZU _,λy z c L j=>?_,λy G=>?_,λy c O h=>?_,λO=>hd,Yr.frames_deeper m.frames,.inr ⟨rfl,rfl⟩,λb z=>ZJ z (C b),m.bs,m.bsz,λb O O=>C b,λb z=>ZJ z (C b),m.SR,m.Qm],
  rfl,m.bare,Un.kept hk,⟨_,x.toInCall.ns,λi y v L j h3=>?_⟩,λy c h=>#[_,x.cell y c h],m.hok.fresh (ZU _),λy c h=>?_,λp J=>ZJ (show p∈([]:Za (Zg×Yg))from J) 02,m.hok.kept hk,?_]
 {exact name_of_addr x.apart (Lh L) (Lh j)};{have G:=G;rcases G with G|G;{exact lR G};exact ZJ U (S.nofree _ (Lh G))};{exact Uo (x.above y c (Lh h))}
 ·have hi:i<n.length:=by
   unfold start at j;by_cases hi:i<n.length;{exact hi};rw[UR ↑hi]at j;rw[Ny]at j;split at j<;>cases j
  have ha:n[i]?=Zb v:=by
   unfold start at j;rw[VD ↑hi,YC]at j;cases e:n[i]? with
   |none=>rw[e]at j;cases j
   |some a=>rw[e]at j;cases j;rfl
  let#[u,hu,rv]:=r.get ha;have J:B[i]?=Zb y:=by
   rw[<-S.pre,List.getElem?_take_of_lt (YK hi (Sa hl))];exact L
  have I:B.Nodup:=by rw[<-S.pre];exact S.nd.sublist (apR _ _)
  show#[u,rv,?_];rcases S.par y (YH J)with k|k;{exact .inl #[k,lP I J hu k]};let#[c,e]:=lR k;show .inr #[.inl k,c,e,?_];have q:=x.cell y c e;rw[lQ I J hu (by change g.names.lookup y≠_;rw[k];decide)]at q;exact q
 {exact m.hok.fresh (Uo (x.above y c (Lh h)))};unfold start;change _=N.length;rw[Yx,ZI,Rt];lia
def wm{k:Nat}{f:Zg}{name g:Ze}{p:Arguments}{body:Za ZH}{a:Wu}{dV kV Y pm C ct oc:Zh}{an od:Option Zg}
  {osl:Array (Option Zh)}{N Z:Za Ze}{sp:Sp}(lk:K.lookup f=Zb #[oc,od,.func (SJ name g p body a dV kV Y pm an C ct),osl])(hcd:KZ K C g=Zd)(S:Yh N Z a)
  (len:∀j H Q E,sp j H Q E->j.length=Z.length)
  (B:∀(A:Yr) (c:Za Wf) (s:Zj) (H:Hp) (j:Za V) (Q:VK) (E:XK),Xc k (A.deeper (Sb g a s.heap.objs.size f C))->sp j H Q E->
   ∃t,Tz (Uu CX P w K mg base N g a f C A c s H E) body t/\t {nx:=λO m=>Q .non m,rt:=Q} (start N j) H):
  ZK P w K mg base CX (k+1) f (SJ name g p body a dV kV Y pm an C ct) Z sp:=by
 show#[len,λA c s H args us j Q E hr M hb r L=>?_];have KX:=M.mod.kin.keeps λb o e=>(M.bs b o e).1;have lim:=M.mod.nolimit.keeps λb o e=>(M.bs b o e).1;have z:∀y∈Z.zip us,a.names.lookup y.1=Zb .local\/(a.names.lookup y.1=Zb .cell/\((j6 (s.heap.objs.size+1) a.names []).lookup y.1).isSome=Zd):=λ⟨n,v⟩ hy=>by
  rcases S.par n (M5 hy).1 with q|q;{exact .inl q};exact .inr #[q,aqI _ _ _ (.inl q)]
 show codeAny_call_function hr.depth (KX _ _ lk) U S.co S.gen U (PySem.W.codeRec_of KX hcd) (hb _ _ _ _ ?_);show wpAny_newFunctionEnv_cells S.kind z λenv he s1 x=>?_;subst he;show#[lim.keeps x.toInCall.keep,codeAny_func ?_];let#[t,ht,hq]:=B A c s H j Q E (hr.deeper _) L;have I:Inv (Uu CX P w K mg base N g a f C A c s H E) [] (start N j) H s1:=aaV S hr.hd M (len _ _ _ _ L) r x;show Xv (ht [] s1 (start N j) H _ I hq) (λfl s' G=>?_) λe s' G=>G;have fin:∀{i:St}{m:Hp}{v:V}{u:Zh},Inv (Uu CX P w K mg base N g a f C A c s H E) [] i m s'->RelV v u->Q v m->CE c P w H s Q u s':=
  λ{i m v u} J rv q=>#[v,m,J.os,J.bare,J.base,J.hok,rv,q]
 cases fl with
 |ret u=>
  let⟨v,i,m,J,rv,q⟩:=G;exact fin J rv q
 |next=>
  let⟨i,m,J,q⟩:=G;exact fin (v:=V.non) J U q
 |brk=>
  let⟨_,_,_,q⟩:=G;exact Qc q
 |cont=>
  let⟨_,_,_,q⟩:=G;exact Qc q
section
variable {x:Ze}{p a:Yv}{e:ZE}{E:Za ZE}{t:TA}{id T:String}{r:Za V->Hp->VK->Prop}
def EJ(r:Za V->Hp->VK->Prop)(t:TA):TE:=λb H Q=>t b H λs c=>r s c Q
abbrev VP(X:Cx)(E:Za ZE)(c:Yv):Prop:=(RB c (XA E X.env)).any (·.1)=Zi
def aaW(A:WR X (.builtin id) r)(y:Gl X x)(w:X.mg x=Zc)(n:RC x=Zb (.builtin id))(B:PA X (e::E) t)(o:x ≠ "__name__" |>2)(f:YV x|>2)
  (z:TC X e E|>1)(c:VP X E a|>1):PE X (.Call (.Name x p) (e::E) [] a) (EJ r t):=by
 intro b s g H Q I h;exact Lq (Ph I y w n (aqn (Vu (B a b s g H _ I h) λu j i G C m q=>A b j g G i u Q C m q) z c) o f)
def aaX(A:WR X (.type T) r)(y:Gl X x)(w:X.mg x=Zc)(n:RC x=Zb (.type T))(B:PA X (e::E) t)(o:x ≠ "__name__" |>2)(f:YV x|>2)
  (z:TC X e E|>1)(c:VP X E a|>1):PE X (.Call (.Name x p) (e::E) [] a) (EJ r t):=by
 intro b s g H Q I h;exact Lq (Ph I y w n (Hj (Vu (B a b s g H _ I h) λu j i G C m q=>A b j g G i u Q C m q) z c) o f)
end
end L2
namespace HT
open PySem PyProof.Rows
section
open PySem.SeqAt
open PySem.AutoSeq1 (wpAny_loadPart')
open PySem.MeetsSeq PySem.MeetsSeq2 PySem.MeetsSeq3
end
section
variable {g:YZ}{w:Yt}{A:Yr}{E:Zh->Zj->Prop}{s:Zj}
def aaY(B:KI s.heap t f.toArray)(I:KI s.heap b a.toArray)(x:f≠[])
  (L:a=[]->Q (.ref t) s)(J:a≠[]->Q (.ref s.heap.objs.size) {s with heap:=s.heap.push {cls:=.type "tuple",data:=.seq (f++a).toArray}})
  (G:f.length+a.length<=Zo):Zn (Zr g w) A (Uq .Add (.ref t) (.ref b)) Q E s:=by
 let#[#[cls,z,data,u],q,y,n,hd]:=id B;let#[#[C,o,data2,i],c,m,N,j]:=id I;simp only at y hd m j;subst y hd m j;have e:f.toArray++a.toArray=(f++a).toArray:=02
 by_cases p:a=[]
 ·exact f9 #[_,q,U] #[_,c,U] ari seq_tuple_add aqD aqx (aqs _ _)
   (tuple_addW1 t b f.toArray a.toArray n N z o u i ↑x (by simp[p])) #[q,c,L p]
 show f9 #[_,q,U] #[_,c,U] ari seq_tuple_add aqD aqx (aqs _ _)
  (tuple_addW2 t b f.toArray a.toArray n N z o u i ↑x ↑p (by omega)) #[q,c,?_]
 rw[e];exact J p
noncomputable def Yo(n d:Nat):Option Int->Nat
 |none=>d
 |some v=>if v<0 then (v+(n:Int)).toNat else min v.toNat n
theorem aaZ(n d:Nat):Yo n d Zc=d:=rfl
theorem wo(n d k:Nat):Yo n d (Zb (k:Int))=min k n:=rfl
def wq(v:Int)(n:Nat)(h:¬v<0):min v (n:Int)=((min v.toNat n:Nat):Int):=by
 let#[k,U]:=ao5 (Int.not_lt.mp h);rcases Nat.le_total k n with z|z;{exact(Q3 (apk.mpr z)).trans (XI Nat.cast (nq z).symm)};exact(Int.min_eq_right (apk.mpr z)).trans (XI Nat.cast (ap8 z).symm)
def lT(v:Int)(n d:Nat):(if v<0 then max (v+(n:Int)) 0 else min v (n:Int))=((Yo n d (Zb v):Nat):Int):=by
 change(if v<0 then max (v+n) 0 else min v n)=(((if v<0 then (v+n).toNat else min v.toNat n):Nat):Int)
 by_cases a:v<0;{simp only[Zt a];exact(Q5 _).symm};simp only[Zq a];exact wq v n a
def aa0(lo hi:Option Int)(n:Nat):aoL lo hi 1 (n:Int)=(((Yo n 0 lo:Nat):Int),((Yo n n hi:Nat):Int)):=by
 show QP ?_ ?_;{cases lo with|none=>rfl|some v=>exact lT v n 0};cases hi with|none=>rfl|some v=>exact lT v n n
def aa1(i j:Nat):oE (i:Int) (j:Int) 1=j-i:=by
 unfold oE;have a:(1:Int) > 0:=00
 simp only[a,if_true,Int.ediv_one];split<;>lia
def lU(p:Nu v o)(h:Q o s):Zn (Zr g w) A (asi v) Q E s:=by
 cases p with|none=>exact slicePart_none h|int i t=>exact slicePart_int h
def lV{lo hi:Option Int}{Q:Int×Int×Nat->Zj->Prop}(i:s.heap.IsSliceOf e c u .none)(f:Nu c lo)(p:Nu u hi)
  (h:Q (((Yo n 0 lo:Nat):Int),1,Yo n n hi-Yo n 0 lo) s):Zn (Zr g w) A (ash (.ref e) (ZR (n:Int))) Q E s:=by
 let#[os,a,j,b]:=id i;show Zf (Zf (Wi a b (x:=c) U (Zf (Wi a b (x:=u) U (Zf (Wi a b (x:=.none) U (Zm ?_)))))));show Zf (slicePart_none ?_);show Zf (lU f (Zf (lU p (Zf (Zm ?_)))));change Zn _ _ (match aoL lo hi 1 n with | (lo,hi)=>ZR (lo,(1:Int),oE lo hi 1)) _ _ s;rw[aa0 lo hi n];change Zn _ _ (ZR (((Yo n 0 lo:Nat):Int),1,oE ((Yo n 0 lo:Nat):Int) ((Yo n n hi:Nat):Int) 1)) _ _ s;rw[aa1];exact Zm h
def aa2(a:Array Zh)(i k:Nat):((Vj k).filterMap λ(m:Nat)=>a[((i:Int)+(m:Int)*1).toNat]?).toArray=((a.toList.drop i).take k).toArray:=by
 have e:(λ(m:Nat)=>a[(i+(m:Int)*1).toNat]?)=λm=>a[i+m]?:=by
  funext m;have:(i+(m:Int)*1).toNat=i+m:=00
  rw[this]
 rw[e];have:=pick_run a i k;rw[List.filterMap_map]at this;have b:((λx=>a[x]?) ∘ λx=>i+x)=λm=>a[i+m]?:=rfl;rw[b]at this;rw[this]
def aa3{lo hi:Option Int}(a:KI s.heap t items)(j:s.heap.IsSliceOf i m u .none)(n:Nu m lo)(p:Nu u hi)
  (C:¬(Yo items.size 0 lo=0/\Yo items.size items.size hi=items.size))
  (h:Q (.ref s.heap.objs.size) {s with heap:=s.heap.push {cls:=.type "tuple",data:=.seq ((items.toList.drop (Yo items.size 0 lo)).take (Yo items.size items.size hi-Yo items.size 0 lo)).toArray}})
  (z:items.size<=Zo):Zn (Zr g w) A (NS (.ref t) (.ref i)) Q E s:=by
 have e:sizeOk (.seq ((items.toList.drop (Yo items.size 0 lo)).take (Yo items.size items.size hi-Yo items.size 0 lo)).toArray):=by
  change((items.toList.drop (Yo items.size 0 lo)).take (Yo items.size items.size hi-Yo items.size 0 lo)).toArray.size<=Zo;rw[YN,WL,FU,VY];exact Yp (Ea _ _) (Yp (ny _ _) z)
 let#[os,b,c,x]:=id j;have f:s.TypeIs (.ref i) "slice" :=#[os,b,c]
 unfold NS;try with_reducible show XY ?_
 show Zf (u7 a.typeIs 01 ?_);show Zf (UU a.typeIs Hk
  (WQ Hk a.typeIs arc ?_ (aq6 _ _)))
 change Zn _ _ (R4 (.ref t) >>= _) _ _ s;show Zf (tupleItemsOf_ a ?_);show Zf (Lr f ?_);show Zf (lV j n p ?_);have o:¬((((Yo items.size 0 lo:Nat):Int)==0&&(1:Int)==1&&(Yo items.size items.size hi-Yo items.size 0 lo)==items.size)=Zd):=by
  intro q;rw[XX,XX]at q;have B:=eq_of_beq q.1.1;have y:=eq_of_beq q.2;lia
 change Zn _ _ (if (((Yo items.size 0 lo:Nat):Int)==0&&1==1&&(Yo items.size items.size hi-Yo items.size 0 lo)==items.size)=Zd then _ else _) _ _ s;rw[Zq o,aa2];first
  | exact Zf (Ur (Zm #[_,U,Zm h]) e)
  | exact Zf (Ur (Zf (Zm (Zm #[_,U,Zm h]))) e)
  | exact Zf (Zf (Ur (Zm (Zm #[_,U,Zm h])) e))
  | exact Zf (Zf (Ur (Zm #[_,U,Zm h]) e))
end
end HT
namespace L2
abbrev TO:=St->Hp->(Option Int->Hp->Prop)->Prop
def PO(X:Cx)(e:Option ZE)(t:TO):Prop:=
 ∀(p:Za (Zg×Yg)) (s:Zj) (a:St) (H:Hp) (Q:Option Int->Hp->Prop),Inv X p a H s->t a H Q->
  Zn (Yn X) X.A (evalPart e X.env) (λu c=>∃o b,Inv X p a b c/\Nu u o/\Q o b) X.xe s
def aa4:TO:=λO H Q=>Q Zc H
def aa5(t:TE):TO:=λa H Q=>t a H λx b=>∃i,x=.int i/\Q (Zb i) b
section
variable {e:ZE}{c:TE}{lo hi:Option ZE}{g f:TO}{j m:Yv}
def aa6:PO X Zc aa4:=by
 intro p s a H Q I h;exact Zm #[Zc,H,I,.none,h]
def aa7(h:PE X e c):PO X (Zb e) (aa5 c):=by
 intro p s a H Q I w;show ZQ (h p s a H _ I w) λu A z=>?_;let#[x,y,o,b,n]:=z;let#[i,U,q]:=n;let#[t,U]:=b;exact#[Zb i,y,o,.int i t,q]
def Oz(X:Cx)(r:V->Option Int->Option Int->Hp->VK->Prop):Prop:=
 ∀(p:Za (Zg×Yg)) (s:Zj) (a:St) (H:Hp) (x:V) (v b u:Zh) (lo hi:Option Int) (i:Zg) (Q:VK),Inv X p a H s->RelV x v->s.heap.IsSliceOf i b u .none->Nu b lo->Nu u hi->r x lo hi H Q->
  ∃T id,En (.type T) "__getitem__" = ZR (Zb (.builtin id))/\s.TypeIs v T/\Zn (Yn X) X.A (NS v (.ref i)) (EP X p a Q) X.xe s
def Oz.or(h:Oz X r)(A:Oz X z):Oz X (λx lo hi H Q=>r x lo hi H Q\/z x lo hi H Q):=by
 intro p s a H x v b u lo hi i Q I n y w o q;rcases q with q|q;{exact h p s a H x v b u lo hi i Q I n y w o q};exact A p s a H x v b u lo hi i Q I n y w o q
def tSl(r:V->Option Int->Option Int->Hp->VK->Prop)(c:TE)(g f:TO):TE:=λa H Q=>c a H λx n=>g a n λl i=>f a i λu b=>r x l u b Q
def lW(Y:Oz X r)(he:PE X e c)(Z:PO X lo g)(M:PO X hi f):PE X (.Subscript e (.Slice lo hi Zc m) j) (tSl r c g f):=by
 intro p s a H Q I h;show o8 (ZQ (he p s a H _ I h) λv A z=>?_);let#[x,H1,I1,B,G]:=z;show wpAny_Slice (Vu (Z p A a H1 _ I1 G) λo y l H2 I2 L E=>ZQ (M p y a H2 _ I2 E) λn i z=>?_);let#[u,w,I3,J,C]:=z;show Zm ?_;have I4:Inv X p a w {i with heap:=i.heap.push {cls:=.type "slice",data:=.fields [o,n,.none].toArray}}:=I3.kept λb ob q=>ZY _ q;let#[T,id,hT,N,hg]:=Y p {i with heap:=i.heap.push {cls:=.type "slice",data:=.fields [o,n,.none].toArray}} a w x v o n l u i.heap.objs.size Q I4 B (aso ..) L J C;exact tail_any N hT hg (by with_unfolding_all rfl)
noncomputable def Jp(x:Za V)(lo hi:Option Int):Za V:=(x.drop (HT.Yo x.length 0 lo)).take (HT.Yo x.length x.length hi-HT.Yo x.length 0 lo)
def lX(x:Za V)(lo hi:Option Int):(Jp x lo hi).length<=x.length:=by
 unfold Jp;rw[WL,FU];exact Yp (Ea _ _) (ny _ _)
def aa8(K:ZF):V->Option Int->Option Int->Hp->VK->Prop:=λx lo hi H Q=>∃a s,x=.ref a/\YW K H a s/\
 ¬(HT.Yo s.length 0 lo=0/\HT.Yo s.length s.length hi=s.length)/\∀p,H p=Zc->Q (.ref p) (upd H p (.tup (Jp s lo hi)))
def aa9:Oz X (aa8 X.K):=by
 intro p s G H x v L J lo hi M Q I w E A y h;let#[a,i,U,B,C,q]:=h;cases w;let#[o,r,u,z]:=I.tuple B;have n:o.toArray.size=i.length:=by rw[YN];exact r.length.symm
 show#["tuple",_,Hk.lookup,u.typeIs,?_];show HT.aa3 u E A y (by rw[n];exact C) ?_ (by rw[n];exact z);rw[n];show#[.ref s.heap.objs.size,_,I.laid (λb ob q=>ZY _ q) (ZU _) ?_,U,q _ (I.hok.fresh (ZU _))];exact#[Yp (lX i lo hi) z,_,(r.drop (HT.Yo i.length 0 lo)).take (HT.Yo i.length i.length hi-HT.Yo i.length 0 lo),Q7 _ _]
def aba(K:ZF):R2:=λx y H Q=>∃a b s Y,x=.ref a/\y=.ref b/\YW K H a s/\YW K H b Y/\s≠[]/\s.length+Y.length<=Zo/\
 (Y=[]->Q (.ref a) H)/\(Y≠[]->∀p,H p=Zc->Q (.ref p) (upd H p (.tup (s++Y))))
def ZX.wu(r:ZX x u):u=[]↔x=[]:=by
 cases r with|nil=>simp|cons _ _=>simp
def abb:Xi X (Uq .Add) (aba X.K):=by
 intro p s Z H x y v u Q I C B h;let#[a,b,xs,ys,U,U,Y,N,M,A,G,E]:=h;cases C;cases B;let#[L,n,J,_]:=I.tuple Y;let#[o,i,m,_]:=I.tuple N;show HT.aaY J m (λz=>M (n.wu.mp z)) (λz=>#[.ref a,H,I,U,G (i.wu.mp z)]) (λz=>?_) (by rw[<-n.length,<-i.length];exact A);show#[.ref s.heap.objs.size,_,I.laid (λb ob q=>ZY _ q) (ZU _) ?_,U,E (λw=>z (i.wu.mpr w)) _ (I.hok.fresh (ZU _))];exact#[by rw[Yx];exact A,_,n.append i,Q7 _ _]
end
noncomputable def Sh(n:Nat)(i:Int):Option Nat:=if 0<=i then (if i<n then Zb i.toNat else Zc)else if -(n:Int)<=i then Zb (i+n).toNat else Zc
noncomputable def Xp(x:Za a)(i:Int):Option a:=(Sh x.length i).bind λj=>x[j]?
def lY(h:Sh n i=Zb j):seqIndex? i n=Zb j/\j<n/\-(n:Int)<=i/\i<n:=by
 unfold Sh at h;by_cases b:0<=i;{rw[Zt b]at h;by_cases a:i<n;{rw[Zt a]at h;have e:=VE h;exact#[by rw[b6 b a,e],00,00,a]};rw[Zq a]at h;cases h};rw[Zq b]at h;by_cases a : -n<=i;{rw[Zt a]at h;have e:=VE h;exact#[by rw[b8 (Int.lt_of_not_ge b) a,e],00,a,00]};rw[Zq a]at h;cases h
def wx(h:Xp x i=Zb v):∃j,seqIndex? i x.length=Zb j/\x[j]?=Zb v/\j<x.length/\-(x.length:Int)<=i/\i<x.length:=by
 unfold Xp at h;cases e:Sh x.length i with
 |none=>rw[e]at h;cases h
 |some j=>
  rw[e]at h;let#[f,c,b,a]:=lY e;exact#[j,f,h,c,b,a]
def WT{j:Nat}(h:xs[j]?=Zb v):Xp xs (j:Int)=Zb v:=by
 have a:=(YM.mp h).1;have e:Sh xs.length j=Zb j:=by
  unfold Sh;rw[Zt (MY _),Zt 00];simp
 unfold Xp;rw[e];exact h
def EK(b:ZE):Prop:=∀o i,ml b Zi o i=operate [o,i] (NS o i)
def OA(X:Cx)(r:R2):Prop:=
 ∀(value slice:ZE) (p:Za (Zg×Yg)) (s:Zj) (a:St) (H:Hp) (x y:V) (v u:Zh) (Q:VK),Inv X p a H s->RelV x v->RelV y u->r x y H Q->
  ml slice Zi v u=operate [v,u] (NS v u)->Zn (Yn X) X.A (subscriptTail value slice v u) (EP X p a Q) X.xe s
def LC(X:Cx)(id:String)(r:V->Za V->Hp->VK->Prop):Prop:=
 ∀(p:Za (Zg×Yg)) (s:Zj) (a:St) (H:Hp) (x:V) (b:Za V) (v:Zh) (u:Za Zh) (Q:VK),Inv X p a H s->RelV x v->ZX b u->r x b H Q->
  Zn (Yn X) X.A (call (.builtin id) (v::u)) (EP X p a Q) X.xe s
section
variable {a b:ZE}{J G:TE}{B:Yv}
def OA.or(h:OA X r)(j:OA X i):OA X (λx y H Q=>r x y H Q\/i x y H Q):=by
 intro value slice p s c H x y v u Q I f e q g;rcases q with q|q;{exact h value slice p s c H x y v u Q I f e q g};exact j value slice p s c H x y v u Q I f e q g
def wy(j:OA X r)(n:PE X a J)(m:PE X b G)(i:EK b):PE X (.Subscript a b B) (Jm r J G):=by
 intro p s c H Q I h;exact o8 (xW n m I h λv u e x y w o g f q=>j a b p e c w x y v u Q o g f q (i _ _))
def lZ(K:ZF):R2:=λx y H Q=>∃p s i v,x=.ref p/\y=.int i/\Ya K H p s/\Xp s i=Zb v/\Q v H
def kc(K:ZF):R2:=λx y H Q=>∃p s i v,x=.ref p/\y=.int i/\YW K H p s/\Xp s i=Zb v/\Q v H
def kg:R2:=λx y H Q=>∃z i c,x=.str z/\y=.int i/\z.length<=Zo/\Xp z.cps.toList i=Zb c/\Q (.str #[[c].toArray]) H
def abd:OA X (lZ X.K):=by
 intro value slice c s C H x y v u Q I M L h o;let#[p,xs,i,z,U,U,N,Z,q]:=h;cases M;let#[t,U]:=L;let#[m,r,g,hz]:=I.list N;let#[j,e,h2,h3,h4,h5]:=wx Z;let#[w,E,f]:=r.get h2;have Y:=r.length;have hn:=Jn;have fin:EP X c C Q w s:=#[z,H,I,f,q]
 by_cases A:0<=i
 ·have n:i.toNat=j:=by
   rw[b6 A h5]at e;exact VE e
  exact item_listR g.isList A 00 (by rw[n];simpa using E) fin o
 have n:(i+(m.toArray.size:Int)).toNat=j:=by
  rw[b8 00 h4]at e;rw[YN,<-Y];exact VE e
 exact arl g.isList.typeIs ark.lookup
  (wpAny_getItem_list_neg g.isList 00 (by rw[YN]<;>lia) 00 (by rw[n];simpa using E) #[U,fin]) o
def wz:OA X (kc X.K):=by
 intro value slice c s g H x y v u Q I n m h A;let#[p,Z,i,z,U,U,C,L,q]:=h;cases n;let#[t,U]:=m;let#[o,r,f,hz]:=I.tuple C;let#[j,N,M,h3,h4,h5]:=wx L;let#[w,Y,e]:=r.get M;have E:=r.length;have hn:=Jn;have fin:EP X c g Q w s:=#[z,H,I,e,q]
 exact arl f.typeIs Hk.lookup
  (getItem_tuple f 00 00 (by rw[YN,<-E];exact N) ↑Y #[U,fin]) A
def abe:OA X kg:=by
 intro value slice p s M H x y v u Q I g f h m;let#[z,i,c,U,U,Y,o,q]:=h;let#[t,U]:=g;let#[N,U]:=f;let#[j,e,C,h3,A,w]:=wx o;have n:z.cps.toList.length=z.length:=by simp[Ze.length]
 rw[n]at e A w;have Z:=Jn;exact tail_any (f8 s z t) slot_str_getitem.lookup (getItem_str (c:=c) (by
  have L:decide (i < -(2^63:Int))=Zi:=XF 00
  have E:decide (i >= 2^63)=Zi:=XF 00
  rw[L,E,Bool.or_false]) (by rw[e];simpa using C) #[.str #[[c].toArray],H,I.tok _,#[_,U],q]) m
def rIx(K:ZF):R2:=λx y H Q=>lZ K x y H Q\/kc K x y H Q\/kg x y H Q
def wA:OA X (rIx X.K):=abd.or (wz.or abe)
def abf(i:Za Zh)(n j:Nat)(u:Zh):XH (·.setIfInBounds j u) {cls:=.type "list",data:=.seq i.toArray n}={cls:=.type "list",data:=.seq (i.set j u).toArray n}:=by
 simp[XH]
theorem Inv.lst(I:Inv X c f H s)(h:H p=Zb (.lst x)):
  ∃(i:Za Zh) (n:Nat),ZX x i/\s.heap.get? p=Zb {cls:=.type "list",data:=.seq i.toArray n}/\x.length<=Zo:=by
 let#[z,i,n,r,e]:=I.hok p _ h;exact#[i,n,r,e,z]
def Inv.abg{g i:Za Zh}{n N:Nat}{f:Yg->Yg}(I:Inv X c m H s)(h:H p=Zb (.lst A))
  (o:s.heap.get? p=Zb {cls:=.type "list",data:=.seq g.toArray n})(j:f {cls:=.type "list",data:=.seq g.toArray n}={cls:=.type "list",data:=.seq i.toArray N})(r:ZX y i)(z:y.length<=Zo)(t:Nat):
  Inv X c m (upd H p (.lst y)) {s with heap:=s.heap.update p f,toks:=t}:=by
 have e:(s.heap.update p f).get? p=Zb {cls:=.type "list",data:=.seq i.toArray N}:=by
  rw[Rq f o (by rw[j]<;>rfl),j]
 show I.write (x:=p) (e:=p) (by rw[h];trivial) (.inl U) (λb u w q=>(IK _ _ (XR w)).trans q) #[_,e] ?_;exact#[z,i,N,r,e]
def kh:V->V->V->Hp->(Hp->Prop)->Prop:=λo i v H Q=>∃p x k j,o=.ref p/\i=.int k/\H p=Zb (.lst x)/\Sh x.length k=Zb j/\Q (upd H p (.lst (x.set j v)))
def aoz:lg X kh:=by
 intro c s E H o i v ov iv u Q I N Y M h;let#[p,L,k,j,U,U,x,hj,q]:=h;cases N;let#[t,U]:=Y;let#[e,n,r,g,Z]:=I.lst x;let#[f,h2,z,y]:=lY hj;have m:=r.length;have hn:=Jn;have C:Inv X c E (upd H p (.lst (L.set j v))) {s with heap:=s.heap.update p (XH (·.setIfInBounds j u))}:=
  I.abg x g (abf e n j u) (r.set M j) (by rw[KO];exact Z) s.toks
 by_cases A:0<=k
 ·have w:k.toNat=j:=by
   rw[b6 A y]at f;exact VE f
  exact PySem.W.ki_setAt g A 00 (by rw[YN,<-m];exact y) (by rw[w];exact#[_,C,q])
 have w:(k+(e.toArray.size:Int)).toNat=j:=by
  rw[b8 00 z]at f;rw[YN,<-m];exact VE f
 exact PySem.W.ki_setBack g 00 (by rw[YN,<-m];exact z) 00 (by rw[w];exact#[_,C,q])
def abh(lo hi:Option Int)(n:Nat):(Ht lo hi Zc n).1=((HT.Yo n 0 lo:Nat):Int)/\(Ht lo hi Zc n).2.1=((HT.Yo n n hi:Nat):Int)/\(Ht lo hi Zc n).2.2=1:=by
 show#[?_,?_,U]
 ·cases lo with
  |none=>simp[Ht,HT.Yo]
  |some i=>
   simp only[Ht,HT.Yo,nF,show(1:Int) > 0 by decide,if_true];by_cases h:i<0;{simp only[h,if_true];rw[Q3 (by omega),apc];exact(Q5 _).symm};simp only[h,if_false];rw[HT.wq i n h];exact apd (MY _)
 cases hi with
 |none=>simp[Ht,HT.Yo]
 |some i=>
  simp only[Ht,HT.Yo,nF,show(1:Int) > 0 by decide,if_true];by_cases h:i<0;{simp only[h,if_true];rw[Q3 (by omega),apc];exact(Q5 _).symm};simp only[h,if_false];rw[HT.wq i n h];exact apd (MY _)
def abi(i:Za Zh)(lo hi:Option Int):slicePick i.toArray lo hi Zc=((i.drop (HT.Yo i.length 0 lo)).take (HT.Yo i.length i.length hi-HT.Yo i.length 0 lo)).toArray:=by
 let#[f,e,c]:=abh lo hi i.toArray.size;unfold slicePick;rw[f,e,c];simp only[sliceRange_one,pick_run]<;>rfl
def abj(K:ZF):V->Option Int->Option Int->Hp->VK->Prop:=λx lo hi H Q=>∃a s,x=.ref a/\Ya K H a s/\∀p,H p=Zc->Q (.ref p) (upd H p (.lst (Jp s lo hi)))
def abk:Oz X (abj X.K):=by
 intro p s o H x v y w lo hi A Q I f m g u h;let#[a,c,U,j,q]:=h;cases f;let#[i,r,e,z]:=I.list j;have n:=r.length;show#["list",_,ark.lookup,e.isList.typeIs,?_];show wpAny_getItem_list_slice e.isList m g u .none 02 ?_ (by rw[YN]<;>lia);rw[abi,<-n];show#[.ref s.heap.objs.size,_,I.laid (λb ob q=>ZY _ q) (ZU _) ?_,U,q _ (I.hok.fresh (ZU _))];exact#[Yp (lX c lo hi) z,_,0,(r.drop (HT.Yo c.length 0 lo)).take (HT.Yo c.length c.length hi-HT.Yo c.length 0 lo),YF _ U]
noncomputable def Si:V->Bool
 |.non=>Zd
 |.bl _=>Zd
 |.int _=>Zd
 |.str _=>Zd
 |_=>Zi
noncomputable def Uv:V->V->Bool
 |.non,.non=>Zd
 |.bl a,.bl b=>a==b
 |.bl a,.int b=>(if a then 1 else 0)==b
 |.int a,.bl b=>a==(if b then 1 else 0)
 |.int a,.int b=>a==b
 |.str a,.str b=>a==b
 |_,_=>Zi
def kj(f:RelV y u)(c:RelV x v)(i:Si y=Zd)(g:Si x=Zd):nM A s u v (Uv y x):=by
 cases y with
 |non=>
  cases f;cases x with
  |non=>cases c;exact o6 _
  |bl b=>cases c;exact nM.none_bool b
  |int b=>let⟨t,rfl⟩:=c;exact nM.none_int b t
  |str b=>let⟨t,rfl⟩:=c;exact nM.none_str b t
  |_=>exact ZJ (show Zi=Zd from g) XQ
 |bl a=>
  cases f;cases x with
  |non=>cases c;exact nM.bool_none a
  |bl b=>cases c;exact nM.bool_bool a b
  |int b=>let⟨t,rfl⟩:=c;exact nM.bool_int a b t
  |str b=>let⟨t,rfl⟩:=c;exact nM.bool_str a b t
  |_=>exact ZJ (show Zi=Zd from g) XQ
 |int a=>
  let⟨e,rfl⟩:=f;cases x with
  |non=>cases c;exact nM.int_none a e
  |bl b=>cases c;exact nM.int_bool a e b
  |int b=>let⟨t,rfl⟩:=c;exact nM.int_int a e b t
  |str b=>let⟨t,rfl⟩:=c;exact aqV a e b t
  |_=>exact ZJ (show Zi=Zd from g) XQ
 |str a=>
  let⟨e,rfl⟩:=f;cases x with
  |non=>cases c;exact nM.str_none a e
  |bl b=>cases c;exact nM.str_bool a e b
  |int b=>let⟨t,rfl⟩:=c;exact aqW a e b t
  |str b=>let⟨t,rfl⟩:=c;exact nM.str_str a e b t
  |_=>exact ZJ (show Zi=Zd from g) XQ
 |_=>exact ZJ (show Zi=Zd from i) XQ
noncomputable def TF(x:V)(u:Zh):Bool:=match u with
 |.none=>Uv .non x
 |.bool b=>Uv (.bl b) x
 |.int i _=>Uv (.int i) x
 |.str z _=>Uv (.str z) x
 |_=>Zi
def km(r:RelV y u)(f:Si y=Zd):TF x u=Uv y x:=by
 cases y with
 |non=>cases r;rfl
 |bl b=>cases r;rfl
 |int i=>let⟨t,rfl⟩:=r;rfl
 |str z=>let⟨t,rfl⟩:=r;rfl
 |_=>exact ZJ (show Zi=Zd from f) XQ
theorem HD:∀{s:Za V}{c:Za Zh},ZX s c->s.all Si=Zd->c.any (TF x)=s.any λy=>Uv y x
 |_,_,.nil,_=>rfl
 |y::s,u::c,.cons r t,f=>by
  rw[KL,XX]at f;rw[SF,SF,km r f.1,HD t f.2]
theorem HE(i:RelV x v)(j:Si x=Zd):∀{e:Za V}{g:Za Zh},ZX e g->e.all Si=Zd->∀u∈g,nM A s u v (TF x u)
 |_,_,.nil,_=>λu c=>by cases c
 |y::e,u::g,.cons r t,f=>λm c=>by
  rw[KL,XX]at f;rcases Yk.mp c with rfl|c;{rw[km r f.1];exact kj r i f.1 j};exact HE i j t f.2 m c
noncomputable def MS(x:V)(s:Za V):Bool:=s.any λy=>Uv y x
def rIn(K:ZF)(neg:Bool):R2:=λx y H Q=>∃p s,y=.ref p/\(Ya K H p s\/YW K H p s)/\Si x=Zd/\s.all Si=Zd/\Q (.bl (if neg then !MS x s else MS x s)) H
def abl:Xi X (Xq .In) (rIn X.K Zi):=by
 intro j s o H x y v u Q I g n h;let#[p,A,U,c,m,fs,q]:=h;cases n;rcases c with c|c;{let#[i,r,e,z]:=I.list c;show SeqAt.in_listAt (TF x) e.isList (λw f=>HE g m r fs w ↑f) #[.bl _,H,I,U,?_];rw[show i.toArray.any (TF x)=i.any (TF x)by simp,HD r fs];exact q};let#[i,r,e,z]:=I.tuple c;show SeqAt.in_tupleAt (TF x) e (λw f=>HE g m r fs w ↑f) #[.bl _,H,I,U,?_];rw[show i.toArray.any (TF x)=i.any (TF x)by simp,HD r fs];exact q
def kr:Xi X (Xq .NotIn) (rIn X.K Zd):=by
 intro j s o H x y v u Q I g n h;let#[p,A,U,c,m,fs,q]:=h;cases n;rcases c with c|c;{let#[i,r,e,z]:=I.list c;show SeqAt.notIn_listAt (TF x) e.isList (λw f=>HE g m r fs w ↑f) #[.bl _,H,I,U,?_];rw[show i.toArray.any (TF x)=i.any (TF x)by simp,HD r fs];exact q};let#[i,r,e,z]:=I.tuple c;show SeqAt.notIn_tupleAt (TF x) e (λw f=>HE g m r fs w ↑f) #[.bl _,H,I,U,?_];rw[show i.toArray.any (TF x)=i.any (TF x)by simp,HD r fs];exact q
def kz:WR X (.builtin "len") (λx H Q=>∃p y,x=[.ref p]/\(Ya X.K H p y\/YW X.K H p y)/\Q (.int y.length) H):=by
 intro g s m H x o Q I r h;let#[p,y,U,c,q]:=h;let#[u,U,j]:=vals1 r;cases j;have w:=Jn;rcases c with c|c;{let#[i,e,f,z]:=I.list c;have n:=e.length;exact Calls.call_len_list f.isList (by simp only[YN]<;>lia) #[.int y.length,H,I.tok _,#[s.toks+1,by rw[YN,n]],q]};let#[i,e,f,z]:=I.tuple c;have n:=e.length;exact len_tuple f (by simp only[YN]<;>lia) #[.int y.length,H,I.tok _,#[s.toks+1,by rw[YN,n]],q]
def abm:WR X (.builtin "len") (λx H Q=>∃z,x=[.str z]/\z.length<=Zo/\Q (.int z.length) H):=by
 intro p s c H x e Q I r h;let#[z,U,f,q]:=h;let#[u,U,t,U]:=vals1 r;have n:=Jn;exact len_str 00 #[.int z.length,H,I.tok _,#[_,U],q]
def WR.or(h:WR X f r)(i:WR X f g):WR X f (λx H Q=>r x H Q\/g x H Q):=by
 intro p s c H x u Q I e q;rcases q with q|q;{exact h p s c H x u Q I e q};exact i p s c H x u Q I e q
def abn:WR X (.type "list") (λM H Q=>∃p y,M=[.ref p]/\(Ya X.K H p y\/YW X.K H p y)/\∀l,H l=Zc->Q (.ref l) (upd H l (.lst y))):=by
 intro g s Y H M us Q I r h;let#[p,y,U,m,q]:=h;let#[u,U,Z]:=vals1 r;cases Z;have fin:∀i,ZX y i->y.length<=Zo->∀c C,(∀b N,s.heap.get? b=Zb N->c.get? b=Zb N)->
   c.get? s.heap.objs.size=Zb {cls:=.type "list",dict:=Zc,data:=.seq i.toArray C,slots:=#[]}->EP X g Y Q (.ref s.heap.objs.size) {s with heap:=c}:=λi f z c C j e=>
  #[.ref s.heap.objs.size,_,I.laid j (ZU _) (show Wy X.prog X.w _ c _ (.lst y) from#[z,i,C,f,e]),U,q _ (I.hok.fresh (ZU _))]
 rcases m with m|m;{let#[i,f,A,z]:=I.list m;have x:=f.length;let#[o,E,L,n,hd]:=A.isList;exact call_list_seq p (.inl U) E L hd (λc C j e=>fin i f z c C j e) (by simp only[YN]<;>lia)};let#[i,f,A,z]:=I.tuple m;have x:=f.length;let#[o,E,L,n,hd]:=A;exact call_list_seq p (.inr U) E L hd (λc C j e=>fin i f z c C j e) (by simp only[YN]<;>lia)
def abo:WR X (.type "tuple") (λx H Q=>∃p y,x=[.ref p]/\((Ya X.K H p y/\∀l,H l=Zc->Q (.ref l) (upd H l (.tup y)))\/(YW X.K H p y/\Q (.ref p) H))):=by
 intro j s M H x N Q I r h;let#[p,y,U,h]:=h;let#[u,U,A]:=vals1 r;cases A;rcases h with⟨g,q⟩|⟨g,q⟩
 ·let#[i,c,f,z]:=I.list g;have n:=c.length;show call_tuple_list f.isList (λE C=>?_) (by simp only[YN]<;>lia);have m:=I.kept (t':=s.toks) C;have L:=
   m.laid (t':=s.toks) (λb o e=>ZY _ e) (ZU _) (show Wy X.prog X.w _ _ _ (.tup y) from#[z,i,c,Q7 _ _])
  exact#[.ref E.objs.size,_,L,U,q _ (m.hok.fresh (ZU _))]
 let#[i,c,f,z]:=I.tuple g;exact call_tuple_same f #[.ref p,H,I,U,q]
def HF(K:ZF)(T:String)(x:V)(H:Hp):Prop:=match x with
 |.str _=>T = "str"
 |.int _=>T = "int"
 |.ref p=>(T = "list" /\∃c,Ya K H p c)\/(T = "tuple" /\∃o,K.lookup p=Zb o/\o.cls=.type "tuple" /\o.dict=Zc) \/
   (T = "dict" /\((∃s,H p=Zb (.dK s))\/∃s,H p=Zb (.dT s)))\/(T = "set" /\∃S n,H p=Zb (.set S n))
 |_=>False
def kE(I:Inv X q A H s)(r:RelV x v)(ty:HF X.K T x H):
  s.TypeIs v T/\∀a,v=.ref a->∃ob,s.heap.get? a=Zb ob/\ob.dict=Zc:=by
 cases x with
 |str z=>
  let⟨t,rfl⟩:=r;cases (show T = "str" from ty);exact#[f8 s z t,λO e=>nomatch e]
 |int i=>
  let⟨t,rfl⟩:=r;cases (show T = "int" from ty);exact#[f7 s i t,λO e=>nomatch e]
 |ref p=>
  cases r;rcases ty with⟨rfl,C,w⟩|⟨rfl,o,f,y,hd⟩|⟨rfl,f⟩|⟨rfl,S,n,f⟩;{let#[u,_,m,_]:=I.list w;show#[m.isList.typeIs,λa e=>?_];cases e;let#[o,n,e,c,hd,_]:=m;exact#[o,e,hd]};{show#[⟨o,I.Wk p o f,y⟩,λa e=>?_];cases e;exact#[o,I.Wk _ o f,hd]}
  ·have z:∃o,s.heap.get? p=Zb o/\o.ExactDict:=by
    rcases f with⟨g,f⟩|⟨g,f⟩;{let#[_,_,_,_,o,_,_,e,E,_]:=I.hok p _ f;exact#[o,e,E]};let#[_,_,_,_,o,_,_,e,E,_]:=I.hok p _ f;exact#[o,e,E]
   let#[o,e,E]:=z;show#[⟨o,e,E.1⟩,λa j=>?_];cases j;exact#[o,e,E.2.1]
  let#[o,_,_,_,e,E,_]:=I.hok p _ f;show#[⟨o,e,E.1⟩,λa j=>?_];cases j;exact#[o,e,E.2.1]
 |_=>exact Qc ty
def kH(K:ZF)(T:String)(r:V->Za V->Hp->VK->Prop)(m:TE):TE:=λe H Q=>m e H λx c=>HF K T x c/\r x [] c Q
def tBM(K:ZF)(T:String)(r:V->Za V->Hp->VK->Prop)(m:TE)(t:TA):TE:=λc H Q=>m c H λx e=>HF K T x e/\t c e λs f=>r x s f Q
variable {o e:ZE}{E:Za ZE}{m:TE}{t:TA}{N:Ze}{g C:Yv}{T id:String}{r:V->Za V->Hp->VK->Prop}
abbrev TH(a c:Yv):Prop:=(a.endLine==c.line)=Zd
def abp(w:G6 T)(slot:Slot T N id)(y:xI (.builtin id)=ZR (.type "method_descriptor"))(L:LC X id r)(A:PE X o m)
  (f:Jo X o N|>1)(c:TH g C|>1):PE X (.Call (.Attribute o N g) [] [] C) (kH X.K T r m):=by
 intro p s i H Q I h;show arp f c (ZQ (A p s i H _ I h) λv q z=>?_);let#[x,Z,n,j,ty,u]:=z;let#[Y,M]:=kE n j ty;exact#[T,id,w,slot,y,Y,M,yR U (aqU (L p q i Z x [] v [] Q n j .nil u))]
abbrev LD(X:Cx)(E:Za ZE)(c:Yv):Prop:=((RB c (XA E X.env)).all (λx=>!x.1)&&(Jb c (Je [] X.env)).all (λx=>x.1.isSome)&&decide (E.length+([]:Za Nv).length+(if ([]:Za Nv).isEmpty then 0 else 1)<30))=Zd
def OB(pa:G6 T)(slot:Slot T N id)(y:xI (.builtin id)=ZR (.type "method_descriptor"))(hm:LC X id r)(ho:PE X o m)(ha:PA X (e::E) t)
  (f:Jo X o N|>1)
  (w:LD X (e::E) C|>1)
  (c:TH g C|>1)(hs:TC X e E|>1)(n:VP X E C|>1):
  PE X (.Call (.Attribute o N g) (e::E) [] C) (tBM X.K T r m t):=by
 intro p s i H Q I h;show wpAny_Call_method_late f w c U (ZQ (ho p s i H _ I h) λv Y z=>?_);let#[x,H1,q,j,ty,q1]:=z;let#[h1,h2]:=kE q j ty;show#[T,id,pa,slot,y,h1,h2,?_];have A:=ha C p Y i H1 _ q q1;rw[hs]at A⊢;exact yR (by assumption) (R5 (ZQ A λL M ⟨u,H2,I2,Z,q2⟩=>hm p M i H2 x u v L Q I2 j Z q2))
end
def MtM(X:Cx)(id:String)(r:V->Za V->Hp->VK->Prop):Prop:=
 ∀(p:Za (Zg×Yg)) (s:Zj) (a:St) (H:Hp) (x:V) (b:Za V) (v:Zh) (u:Za Zh) (Q:VK),Inv X p a H s->RelV x v->ZX b u->r x b H Q->
  Zn (Yn X) X.A (call (.builtin id) (v::u)) (EP X p a Q) X.xe s
def ZX.one(h:ZX [x] s):∃u,s=[u]/\RelV x u:=by
 cases h with | cons r t=>cases t;exact#[_,U,r]
theorem ZX.zero:∀{u:Za Zh},ZX [] u->u=[]
 |_,.nil=>rfl
theorem ZX.dropLast(h:ZX x u):ZX x.dropLast u.dropLast:=by
 induction h with
 |nil=>exact .nil
 |cons r t i=>
  cases t with|nil=>exact .nil|cons q a=>exact .cons r i
theorem ZX.rep(h:ZX x u):∀k:Nat,ZX (WN k x).flatten (WN k u).flatten
 |0=>.nil
 |k+1=>ZX.append h (ZX.rep h k)
theorem foldl_rep(i:Za Zh):∀(k:Nat) (a:Za Zh),
  oV (λb x=>b++x) a.toArray (WN k i.toArray)=(a++(WN k i).flatten).toArray
 |0,a=>02
 |k+1,a=>by
  have e:a.toArray++i.toArray=(a++i).toArray:=02
  have E:(a++i)++(WN k i).flatten=a++(WN (k+1) i).flatten:=by
   rw[apM,O6,VC]
  rw[<-E,<-foldl_rep i k (a++i),<-e,apM,Rr]
section
variable {p:Za (Zg×Yg)}{a:St}{s:Zj}{l:Zg}{x y:Za V}
def Inv.wC{b i:Za Zh}(I:Inv X p a H s)(o:H l=Zb (.lst x))
  (e:s.heap.get? l=Zb {cls:=.type "list",data:=.seq b.toArray n})(j:f b.toArray=i.toArray)(c:ZX y i)(z:y.length<=Zo):
  Inv X p a (upd H l (.lst y)) {s with heap:=s.heap.update l (XH f),toks:=w}:=by
 have q:=PySem.IsL.update e f;rw[j]at q;show I.write (by rw[o];exact trivial) (.inl U) (λB u m g=>(IK s.heap (XH f) (XR m)).trans g) #[_,q] ?_;exact#[z,i,_,c,q]
def Inv.kI(I:Inv X p a H s)(b:ZX y i)(z:y.length<=Zo):
  Inv X p a (upd H s.heap.objs.size (.lst y)) {s with heap:=s.heap.push {cls:=.type "list",data:=.seq i.toArray},toks:=c}:=
 I.laid (λO O q=>ZY _ q) (ZU _) #[z,i,0,b,YF _ U]
theorem Inv.fresh(I:Inv X p a H s):H s.heap.objs.size=Zc:=I.hok.fresh (ZU _)
def Inv.HG(I:Inv X p a H s)(b:H l=Zb (.lst x)):x.length<=Zo/\∃(i:Za Zh) (n:Nat),ZX x i/\x.length=i.length/\s.heap.get? l=Zb {cls:=.type "list",data:=.seq i.toArray n}:=by
 let#[z,i,n,r,e]:=I.hok l _ b;exact#[z,i,n,r,r.length,e]
def kJ(h:n<=Zo):S9 n=Zi:=XF 00
end
def EL:V->Za V->Hp->VK->Prop:=λx a H Q=>∃l s y,x=.ref l/\a=[y]/\H l=Zb (.lst s)/\s.length<Zo/\Q .non (upd H l (.lst (s++[y])))
def wF:MtM X "list.append" EL:=by
 intro p s j H x o v w Q I b c h;let#[l,m,y,U,U,a,g,q]:=h;cases b;let#[u,U,f]:=c.one;let#[z,i,n,r,A,e]:=I.HG a;show Eh IJ #[_,e,U] F.entry_list_append (F.args_list_append_2 _ _) (PySem.list_append l i.toArray n u (by rw[YN];lia)) #[e,?_];show#[.non,_,I.wC a e 02 (r.append (.cons f .nil)) ?_,U,q];rw[Yx,Ld];exact J9 g
def wG:V->Za V->Hp->VK->Prop:=λx a H Q=>∃l b s z,x=.ref l/\a=[.ref b]/\H l=Zb (.lst s)/\H b=Zb (.lst z)/\s.length+z.length<=Zo/\Q .non (upd H l (.lst (s++z)))
def abq:MtM X "list.extend" wG:=by
 intro p s C H x L v M Q I j m h;let#[l,b,J,Z,U,U,f,B,y,q]:=h;cases j;let#[u,U,o]:=m.one;cases o;let#[z,a,n,r,Y,e]:=I.HG f;let#[G,i,N,w,A,E]:=I.HG B;have c:a.toArray.size+i.toArray.size<=Zo:=by rw[YN,YN];lia
 have g:¬(!a.toArray.isEmpty&&S9 (a.toArray.size+i.toArray.size))=Zd:=by
  rw[kJ c,KD];exact XQ
 show Eh R8 #[_,e,U] F.entry_list_extend (F.args_list_extend_2 _ _)
  (AutoSeq1.list_extend_list_list_0 l a.toArray n b i.toArray N g (by rw[YN];lia) (ap5 c)) #[e,E,?_]
 show#[.non,_,I.wC f e 02 (r.append w) ?_,U,q];rw[Yx];exact y
def wH:V->Za V->Hp->VK->Prop:=λx a H Q=>∃l s y,x=.ref l/\a=[]/\H l=Zb (.lst s)/\s[s.length-1]?=Zb y/\Q y (upd H l (.lst s.dropLast))
def abr:MtM X "list.pop" wH:=by
 intro p s A H x C v E Q I f g h;let#[l,B,y,U,U,c,m,q]:=h;cases f;have b:=g.zero;subst b;let#[z,i,n,r,w,e]:=I.HG c;let#[u,o,j]:=r.get m;have a:i.toArray[i.toArray.size-1]?=Zb u:=by
  change i.toArray[i.length-1]?=Zb u;rw[<-Rn,<-w];exact o
 show Eh aoZ #[_,e,U] F.entry_list_pop (F.args_list_pop_1 _) (MeetsSeq.list_pop_last l i.toArray n u a (by rw[YN];lia)) #[e,?_];show#[y,_,I.wC c e ?_ r.dropLast ?_,j,q];{simp};rw[List.length_dropLast];lia
def abt:R2:=λx y H Q=>∃l k s,x=.ref l/\y=.int k/\H l=Zb (.lst s)/\-(2^63)<=k/\k<2^63/\s.length*k.toNat<=Zo/\
 ∀p,H p=Zc->Q (.ref p) (upd H p (.lst (WN k.toNat s).flatten))
def aov(x:Za a)(k:Nat):(WN k x).flatten.length=k*x.length:=02
def abu:Xi X (Uq .Mult) abt:=by
 intro o s Y H x y v u Q I E C h;let#[l,k,Z,U,U,J,M,L,A,q]:=h;cases E;let#[t,U]:=C;let#[z,i,n,r,G,e]:=I.HG J;have b:i.toArray.size*k.toNat<=Zo:=by rw[YN,<-G];exact A
 have p:¬i.toArray.size*k.toNat > (2^63-1)/8:=by
  have:Zo<=(2^63-1)/8:=01
  lia
 have c:¬(!Builtin.List.listFitsIndex k)=Zd:=by
  rw[fitsIndex_both M L];exact XQ
 have g:¬S9 (i.toArray.size*k.toNat)=Zd:=by
  rw[kJ b];exact XQ
 have w:oV (λj f=>j++f) #[] (WN (if i.toArray.isEmpty=Zd then 0 else k.toNat) i.toArray)=(WN k.toNat i).flatten.toArray:=by
  have N:∀m:Nat,oV (λj f=>j++f) #[] (WN m i.toArray)=(WN m i).flatten.toArray:=λm=>by
   have:=foldl_rep i m [];assumption
  rw[N];cases i with|nil=>simp|cons a r'=>rw[Zq 02]
 show wpAny_binaryOp_repeat_ref 01 #[_,e,U] (λB=>f7 B k t) noFill_list_mul F.fills_int_mul aoY repeat_list F.slot_int_index.lookup
  (Eh aoY (f7 s k t) F.entry_int_rmul (F.args_int_rmul_2 _ _) (int___rmul___int_list k t l i.toArray n)
   #[e,U,#[_,e,U],Eh F.slot_list_mul #[_,e,U] F.entry_list_mul (F.args_list_mul_2 _ _) (AutoListH.list___mul___list_int_3 l i.toArray n k t c p g) #[e,?_]])
 rw[w];exact#[.ref _,_,I.kI (r.rep k.toNat) (by rw[aov,Nat.mul_comm];exact A),U,q _ I.fresh]
end L2
namespace Att
open PySem PySem.W PySem.Calls PyProof.Rows
def abv:∀(N:Za Int) (s:Za Zh),WellAll P h s (N.map WData.int)->KH s N:=by
 intro N;induction N with
 |nil=>
  intro s w;cases w;exact .nil
 |cons n N i=>
  intro s w;cases w with
  |cons a b=>
   cases a;exact .cons _ _ (i _ b)
def abw{l:OpenLaw}(u:l.most=Zb n) 
  (e:l.row.toRowW.claim.pre args=Zd)(i:WellAll P h s args):
  ∃a m N,s=[Xa a]/\args=[WData.list (N.map WData.int)]/\h.get? a=Zb {cls:=.type "list",data:=.seq m.toArray}/\KH m N/\N.length<=n:=by
 have j:WShape.hasAll [] args [.list .int]=Zd:=(pre_splitW e).1;have x:l.pre.holds [] {args:=args}=Zd:=(pre_splitW e).2;let#[d,r,U,A,z]:=hasAllW_cons j;obtain rfl:=hasAllW_nil z;let#[B,U,y]:=hasW_list A;let#[N,U]:=items_int y;have b:N.length<=n:=by
  have g:(WTm.not (.lt (.lit (.int n)) (.len (.arg 0)))).holds [] {args:=[.list (N.map .int)]}=Zd:=by
   have g:=(holds_andW x).1;rw[u]at g;exact g
  have f:=condW_of g (w_not (w_lt w_lit (w_len_list (w_arg U))));rw[ZI]at f;show SH λq=>?_;have Q:n<((N.length:Nat):Int):=by omega
  first
   | (rw[Yq Q]at f;exact ZJ f 01)
   | (simp at f)
 cases i with
 |cons o w=>
  cases w;cases o with|list p c=>exact#[_,_,N,U,U,p,abv N _ c,b]
def abx(l:OpenLaw)(args:Za WData):l.row.toRowW.claim.post args (.bool Zd) args=Zd:=
 postW_of
  (show WShape.has [] (.bool Zd) .bool=Zd by first|rfl|decide|simp)
  (w_eq_bool (w_res U) w_lit) U
def aby{l:OpenLaw}{d:DefRec}
  (hn:l.most=Zb n)(A:d.params.defaults=[])
  (call:∀(w:Yt) (b s:Zj) (M x:Ze->Option Zh) (p:Zg) (o:Yg) (pm C e:Zh) (a:Zg) (g:Za Zh) (N:Za Int),
   Ground q L [] XP w b M x s.heap->YP w s.heap->
   s.heap.get? p=Zb o->o.data=.func (docDef d.name d.params d.body d.scope pm C e)->s.heap.CodeRec C d.name->M d.name=Zb (.ref p)->
   s.heap.get? a=Zb {cls:=.type "list",data:=.seq g.toArray}->KH g N->N.length<=n->s.gens=#[]->
   Wv (Zr l.prog w) Hr (.call (.ref p) #[[.ref a],[]]) (λr u=>r=.ok (.ret (.bool Zd))/\OldK s.heap u.heap/\u.os=s.os/\Nr u.gens) s):
  WalkO q L XP YP l.row.toRowW d [] (λf g=>p6 f g):=by
 intro w b s M x G Y p o pm C e dV kV ho hd B J z hg args E as i I Q y hlo;obtain rfl:dV=.none:=Dflts.none J A;obtain rfl:kV=.none:=Dflts.noKw J;let#[a,g,N,U,U,j,c,m]:=abw hn i y;show enter_call (Lj (call w b s M x p o pm C e a g N G Y ho (fd_plain hd) B z j c m hg) λr u Z=>?_);let#[U,h2,h3,h4]:=Z;exact#[.inl #[.bool Zd,.bool Zd,[],U,λO=>rfl,.bool Zd,abx l _,λO=>#[asp,λO hm=>(nomatch hm)]],h2,h3,h4]
end Att
namespace L2
theorem kL:∀{s:Za Zh}{N:Za Int},KH s N->ZX (N.map V.int) s
 |_,_,.nil=>.nil
 |_,_,.cons n t h=>.cons #[t,U] (kL h)
def ox(H:Hp):Prop:=∀b,H b=Zc\/∃o x,H b=Zb (.Ua o (.lst x))
def abz{fa a:Zg}{fd:ZZ}{x:Ze}{sp:Sp}{c:Zj}{i:Za Zh}{p:Za Int}
  (KX:K.In c.heap)(C:c.heap.Ns Xw M)(f:c.heap.Ns m8 mb)(hbb:∀x:Ze,x ≠ "__name__" ->mb x=RC x)(E:c.heap.NoLimit)(hg:c.gens=#[])
  (Q:c.heap.get? a=Zb {cls:=.type "list",data:=.seq i.toArray})(hi:KH i p)(hl:p.length<=Zo)(hr:Xc k Hr)
  (F:∀base:ZD,K.In base->base.Ns Xw M->ZK P w K M base CX k fa fd [x] sp)(j:∀(s:Zj) (u:Zh),II s fd #[[u],[]] [(x,u)])
  (hsp:∀H:Hp,ox H->Ya K H a (p.map V.int)->sp [.ref a] H (λv O=>v=.bl Zd) λO O O=>False)
  (hCX:∀H e g,CX [] H c (λO O O=>False) e g->False):
  Wv (Zr P w) Hr (.call (.ref fa) #[[.ref a],[]]) (λr g=>r=.ok (.ret (.bool Zd))/\OldK c.heap g.heap/\g.os=c.os/\Nr g.gens) c:=by
 have rv:=kL hi;have L:=hi.length;have core:∀H:Hp,ox H->Ya K H a (p.map V.int)->Xh P w H c.heap->(∀b,H b≠Zc->b=a)->(H a≠Zc->K.lookup a=Zc)->
   Wv (Zr P w) Hr (.call (.ref fa) #[[.ref a],[]]) (λr g=>r=.ok (.ret (.bool Zd))/\OldK c.heap g.heap/\g.os=c.os/\Nr g.gens) c:=by
  intro H hO hS A hA hK;have B:∀{b:Zg}{o:Yg},c.heap.get? b=Zb o->H b=Zc->(NV c.heap H).get? b=Zb o:=λe n=>C1 e n;have Y:∀{b:Zg}{o:Yg}{I:Array yS}{J:Nat},c.heap.get? b=Zb o->o.data=.dict I J->H b=Zc:=λ{b o I J} e d=>by
   cases q:H b with
   |none=>rfl
   |some u=>
    have e':=hA b (by rw[q];simp);subst e';rw[Q]at e;cases e;have d':Data.seq i.toArray _=Data.dict I J:=d;cases d'
  have N:∀{b:Zg}{m:Ze->Option Zh},c.heap.Ns b m->(NV c.heap H).Ns b m:=λ{b m} ⟨o,I,J,e,d,r⟩=>#[o,I,J,B e (Y e d),d,r]
  have G:=λb o e=>B (KX b o e) (by
   cases q:H b with
   |none=>rfl
   |some u=>
    have e':=hA b (by rw[q];simp)
    subst e'
    rw[hK (by rw[q];simp)]at e;cases e)
  have hM:Mod K M (NV c.heap H):=#[G,N C,#[mb,N f,hbb],let ⟨mc,h1,h2⟩:=E;#[mc,N h1,h2]]
  have e0:LA P w K M (NV c.heap H) Hr [] c H:=#[U,hM,λb o e=>C2 e,Sa (C0 _ _),trivial,λb f=>ZJ (show b∈([]:Za Zg)from f) 02,A,.of_eq hg]
  show Lj ((F _ G (N C)).run Hr [] c H #[[.ref a],[]] [.ref a] [.ref a] _ _ hr e0 (j c (.ref a)) (.cons U .nil) (hsp H hO hS)) λr g h=>?_;cases r with
  |error e=>exact(hCX H e g h).elim
  |ok fl=>
   cases fl with
   |next=>exact Qc h
   |brk=>exact Qc h
   |cont=>exact Qc h
   |ret u=>
    let⟨v,H',os,bare,un,y,r',q⟩:=h;have q':=q;subst q';obtain rfl:u=aq3 Zd:=r';show#[U,OldK.of_keep λb o e=>?_,os,bare];cases q:H b with
    |none=>exact un.keep b o e q (by intro z;exact ZJ (show b∈([]:Za Zg)from z) 02) 02
    |some u=>
     rcases hO b with z|⟨ob,xs,z⟩;{rw[q]at z;cases z};have z2:=un.frzs b ob _ z;let#[e1,_]:=A b _ z;let#[e2,_]:=y b _ z2;rw[e]at e1;cases e1;exact e2
 cases hk:K.lookup a with
 |some o=>
  have e:=KX a o hk;rw[Q]at e;cases e;show core (λO=>Zc) (λO=>.inl U) (.inr #[_,i.toArray,_,hk,U,U,U,by rw[YN,L];exact hl,rv]) (λb u z=>by have Z:Zc=Zb u:=z;cases Z) (λb z=>ZJ U z) λz=>ZJ U z
 |none=>
  show core (λb=>if b=a then Zb (.Ua {cls:=.type "list",data:=.seq i.toArray} (.lst (p.map V.int)))else Zc) (λb=>?_) (.inl (.inr #[{cls:=.type "list",data:=.seq i.toArray},Zt U])) (λb u z=>?_) (λb z=>?_) λO=>hk;{by_cases f:b=a;{exact .inr #[_,_,Zt f]};exact .inl (Zq f)};{by_cases f:b=a;{have Z:=(Zt f).symm.trans z;cases Z;subst f;exact#[Q,by rw[ZI];exact hl,i,_,rv,Q]};have Z:=(Zq f).symm.trans z;cases Z};by_cases f:b=a;{exact f};exact ZJ (Zq f) z
def abA{l:v9}{d:DefRec}{K:Params->ZF}{CX:Yt->NZ}{sp:Yt->Sp}{x:Ze}
  (Z:l.most=Zb n)(B:n<=Zo)(E:d.params.defaults=[])(Q:Xc k Hr)
  (hY:∀(w:Yt) (h:ZD),YP w h->(K w.params).In h)
  (F:∀(w:Yt) (m:Ze->Option Zh) (y:Zg) (h:ZD),(K w.params).In h->h.Ns Xw m->m d.name=Zb (.ref y)->
   ∃fd:ZZ,(∀(s:Zj) (u:Zh),II s fd #[[u],[]] [(x,u)])/\
    ∀base:ZD,(K w.params).In base->base.Ns Xw m->ZK l.prog w (K w.params) m base (CX w) k y fd [x] (sp w))
  (A:∀(w:Yt) (H:Hp) (a:Zg) (N:Za Int),N.length<=n->ox H->Ya (K w.params) H a (N.map V.int)->sp w [.ref a] H (λv O=>v=.bl Zd) λO O O=>False)
  (I:∀(w:Yt) (H:Hp) (s:Zj) (e:Zh) (z:Zj),CX w [] H s (λO O O=>False) e z->False):
  aqG q L XP YP l.row.toRowW d [] (λf J=>p6 f J):=by
 show Att.aby Z E λw M j m mb y o pm cd doc a J N G Y ho hd hcd C p i c hg=>?_;have KX:=hY w _ Y;let#[fd,hb,hF]:=F w m y _ KX G.T.g C;exact abz KX G.T.g G.T.b G.T.builtins G.T.nolimit hg p i (Yp c B) Q hF hb (λH hO hS=>A w H a N c hO hS) λH e z=>I w H j e z
noncomputable def Uk(s:ZH)(j:Nat):ZH:=match s with
 |.ClassDef _ _ _ body _ _ _ _ _ _ _=>body.getD j (.Pass #[0,0,0,0])
 |_=>.Pass #[0,0,0,0]
noncomputable def SU(s:ZH):Arguments:=match s with
 |.FunctionDef _ a _ _ _ _ _ _ _ _=>a
 |_=>{posonlyargs:=[],args:=[],vararg:=Zc,kwonlyargs:=[],kw_defaults:=[],kwarg:=Zc,defaults:=[]}
noncomputable def Vx(s:ZH):Za ZH:=match s with
 |.FunctionDef _ _ b _ _ _ _ _ _ _=>b
 |_=>[]
noncomputable def ZL(s:ZH):Wu:=match s with
 |.FunctionDef _ _ _ _ _ _ c _ _ _=>c
 |_=>{kind:=.function,names:=[],isGenerator:=Zi,isCoroutine:=Zi}
abbrev LI:NZ:=λO O O O O O=>False
structure UZ (K:ZF)(x qual:Ze)(st:ZH)(f:Zg)(fd:ZZ):Prop where
 ex:∃(oc:Zh) (od:Option Zg) (kV doc pm:Zh) (an:Option Zg) (cdv ct:Zh) (osl:Array (Option Zh)),
  fd=SJ x qual (SU st) (Vx st) (ZL st) .none kV doc pm an cdv ct/\K.lookup f=Zb #[oc,od,.func fd,osl]/\KZ K cdv qual=Zd
 kp:RG K f
section
variable {P:YZ}{w:Yt}{m:Ze->Option Zh}{base:ZD}
def UZ.ok{st:ZH}{fd:ZZ}{p:Sp}(F:UZ K x a st f fd)(S:Yh N i (ZL st))(len:∀b H Q E,p b H Q E->b.length=i.length)
  (y:∀(c:Zh) (A:Yr) (o:Za Wf) (s:Zj) (H:Hp) (b:Za V) (Q:VK) (E:XK),Xc k (A.deeper (Sb a (ZL st) s.heap.objs.size f c))->p b H Q E->
   ∃t,Tz (Uu LI P w K m base N a (ZL st) f c A o s H E).EC (Vx st) t/\t {nx:=λO z=>Q .non z,rt:=Q} (start N b) H):ZK P w K m base LI (k+1) f fd i p:=by
 let#[B,od,kV,u,pm,G,c,C,j,U,lk,g]:=F.ex;show wm lk g S len λA o s H b Q E n e=>?_;let#[t,h,q]:=y c A o s H b Q E n e;exact#[t,h.EC,q]
def UZ.binds{st:ZH}(F:UZ K x q st f fd)
  (h:∀(kV c pm:Zh) (A:Option Zg) (C a:Zh) (u:Za Zh),u.length=ps.length->nT (SJ x q (SU st) (Vx st) (ZL st) .none kV c pm A C a) #[u,[]]=ZR (ps.zip u)):Binds K fd ps []:=by
 let#[e,od,kV,c,pm,A,C,a,o,U,lk,b]:=F.ex;exact .all (h kV c pm A C a)
def HH{st:ZH}{kV a pm C b:Zh}(l:K.lookup f=Zb #[e,od,.func (SJ x q (SU st) (Vx st) (ZL st) .none kV a pm A C b),o])
  (c:KZ K C q=Zd)(k:RG K f):UZ K x q st f (SJ x q (SU st) (Vx st) (ZL st) .none kV a pm A C b):=#[#[e,od,kV,a,pm,A,C,b,o,U,l,c],k]
end
def pv(i:Nat)(c:X.N[i]?=Zb x|>1)(b:Vk X.env.scope x|>3)(hd:YV x|>2)
  (a:Vv x|>2):PE X (.Name x pos) (Ez i):=C4 c b hd a
def Zv(H a:Hp):Prop:=∀b o,H b=Zb o->a b=Zb o
def Zv.refl(H:Hp):Zv H H:=λO O h=>h
def Zv.trans(a:Zv H f)(b:Zv f e):Zv H e:=λc o h=>b c o (a c o h)
def Zv.free(e:Zv H a)(h:a l=Zc):H l=Zc:=by
 cases q:H l with
 |none=>rfl
 |some o=>
  rw[e l o q]at h;cases h
def Zv.seq(e:Zv H b)(h:Ya K H a x):Ya K b a x:=by
 rcases h with (h|⟨o,h⟩)|h;{exact .inl (.inl (e _ _ h))};{exact .inl (.inr #[o,e _ _ h])};exact .inr h
section
variable {a:Type} [DecidableEq a]
noncomputable def WG(s:Za (a×V))(k:a):Option V:=(s.find? λb=>decide (b.1=k)).map (·.2)
noncomputable def We(s:Za (a×V))(k:a)(v:V):Za (a×V):=
 if (s.any λb=>decide (b.1=k))=Zd then s.map (λb=>if b.1=k then (b.1,v)else b)else s++[(k,v)]
def HI{k:a}(e:p.1=k):WG (p::r) k=Zb p.2:=by simp[WG,e]
def HJ{k:a}(e:¬p.1=k):WG (p::r) k=WG r k:=by simp[WG,e]
theorem kO(k:a):∀s:Za (a×V),(s.any λb=>decide (b.1=k))=(WG s k).isSome
 |[]=>rfl
 |p::r=>by
  rw[SF];by_cases e:p.1=k;{simp only[HI e,Yq e,Bool.true_or,Option.isSome_some]};rw[HJ e,XF e,aoF];exact kO k r
def HK(s:Za (a×V))(k:a)(v:V):(We s k v).length<=s.length+1:=by
 unfold We;split;{simp};simp
def Us.wI(r:Us o u):o.isSome=u.isSome:=by
 cases o with
 |none=>cases u with|none=>rfl|some _=>exact(r).elim
 |some _=>cases u with|none=>exact(r).elim|some _=>rfl
theorem Us.getD(r:Us o u)(b:RelV d c):RelV (o.getD d) (u.getD c):=by
 cases o with
 |none=>cases u with|none=>exact b|some _=>exact(r).elim
 |some _=>cases u with|none=>exact(r).elim|some _=>exact r
def KV.val(r:KV s f)(k:a):Us (WG s k) (Eo f k):=by
 induction r with
 |nil=>exact Qg
 |@cons p q j Q h t i=>
  let⟨c,g⟩:=h;by_cases e:p.1=k
  ·have E:=c.symm.trans e;have b:Eo (q::Q) k=Zb q.2:=by simp[Eo,E]
   rw[HI e,b];exact g
  have E:¬q.1=k:=λz=>e (c.trans z);have b:Eo (q::Q) k=Eo Q k:=by simp[Eo,E]
  rw[HJ e,b];exact i
theorem KV.any(r:KV s c)(k:a):(s.any λb=>decide (b.1=k))=c.any λb=>decide (b.1=k):=by
 induction r with|nil=>rfl|cons h t i=>rw[SF,SF,i,h.1]
def KV.repl(r:KV s f)(k:a)(g:RelV y u):
  KV (s.map λb=>if b.1=k then (b.1,y)else b) (f.map λb=>if b.1=k then (b.1,u)else b):=by
 induction r with
 |nil=>exact .nil
 |@cons p q m Q h t i=>
  rw[Xo,Xo];show .cons ?_ i;let#[c,j]:=h;by_cases e:p.1=k;{rw[Zt e,Zt (c.symm.trans e)];exact#[c,g]};rw[Zq e,Zq (λz=>e (c.trans z))];exact#[c,j]
def KV.put(r:KV s b)(k:a)(c:RelV y u):KV (We s k y) (Lp b k u):=by
 unfold We Lp;rw[r.any k];by_cases e:(b.any λf=>decide (f.1=k))=Zd;{rw[Zt e,Zt e];exact r.repl k c};rw[Zq e,Zq e];exact aqi r #[U,c]
theorem KV.length(r:KV s b):s.length=b.length:=KW r
end
def Jq(r:RelV (kV k) u):(XT P w).is k u=Zd:=by
 cases k with|inl i=>let⟨t,e⟩:=(r);subst e;exact B6 P w i t|inr x=>let⟨t,e⟩:=(r);subst e;exact B7 P w x t
abbrev KT(H:Hp):Za (Zu×V)->Za (Zu×Zg×Zh)->Prop:=Paired λp q=>p.1=q.1/\XU H p.1 q.2.1/\RelV p.2 q.2.2
def KT.val{x:Za (Zu×Zg×Zh)}(r:KT H s x)(k:Zu):Us (WG s k) ((NR x k).map (·.2)):=by
 induction r with
 |nil=>exact Qg
 |@cons p q f Q h t i=>
  let⟨a,_,c⟩:=h;by_cases e:p.1=k
  ·have E:=a.symm.trans e;have b:NR (q::Q) k=Zb q.2:=by simp[NR,E]
   rw[HI e,b];exact c
  have E:¬q.1=k:=λz=>e (a.trans z);have b:NR (q::Q) k=NR Q k:=by simp[NR,E]
  rw[HJ e,b];exact i
def KT.repl(r:KT H s x)(k:Zu)(f:RelV y u):
  KT H (s.map λb=>if b.1=k then (b.1,y)else b) (x.map (putAt k u)):=by
 induction r with
 |nil=>exact .nil
 |@cons p q j Q h t i=>
  rw[Xo,Xo];show .cons ?_ i;let#[a,c,g]:=h;unfold putAt;by_cases e:p.1=k;{rw[Zt e,Zt (a.symm.trans e)];exact#[a,c,f]};rw[Zq e,Zq (λz=>e (a.trans z))];exact#[a,c,g]
def KT.put(r:KT H s x)(k:Zu)(f:XU H k b)(a:RelV y u):
  KT H (We s k y) (Hu x k b u):=by
 have e:(s.any λc=>decide (c.1=k))=(NR x k).isSome:=by
  rw[kO,(r.val k).wI,aqh]
 unfold We Hu;rw[e];by_cases q:(NR x k).isSome=Zd;{rw[Zt q,Zt q];exact r.repl k a};rw[Zq q,Zq q];exact aqi r #[U,f,a]
def KT.keeps(r:KT H s x)(a:∀b y,H b=Zb (.tup y)->c b=Zb (.tup y)):KT c s x:=
 Paired.xR r λO O z=>#[z.1,z.2.1.stay a,z.2.2]
def kU(ok:Xh P w H h)(e:Rd H a u):Wy P w H h a u:=e.ok ok
def Jr(ok:Xh P w H h)(e:Rd H a (.dK s)):s.length<=Zo/\(a==Sd)=Zi/\∃b,KV s b/\h.DictOf (XT P w) a b:=
 show Wy P w H h a (.dK s)from kU ok e
def abB(ok:Xh P w H h)(e:H a=Zb (.dK s)):s.length<=Zo/\(a==Sd)=Zi/\∃b,KV s b/\h.DictOf (XT P w) a b:=Jr ok (.inl e)
theorem wJ(ok:Xh P w H h):∀{k:Zu}{g:Za V}{u:Za Zh},Pg H k g->ZX g u->Wj (UX P w) h k u
 |[],_,_,e,r=>by rw[show _=[]from e]at r;cases r;rfl
 |.inl k::s,_,_,⟨u,e,f⟩,r=>by
  subst e;cases r with|cons a b=>exact#[_,_,U,Jq a,wJ ok f b]
 |.inr l::s,_,_,⟨c,u,e,j,f⟩,r=>by
  subst e;cases r with
  |cons a b=>
   cases (a);let#[_,i,r,o,p,m,n,E]:=(ok c _ j)
   have go:∀{s:Za Zx}{u:Za Zh},ZX (s.map kV) u->Wj (Pa (XT P w)) h s u:=by
    intro s;induction s with
    |nil=>intro u r;cases r;rfl
    |cons k s I=>
     intro u r;cases r with|cons a b=>exact#[_,_,U,Jq a,I b]
   exact#[_,_,U,#[c,U,o,i.toArray,n,p,m,E,↑(go r)],wJ ok f b]
def Ma(ok:Xh P w H h)(e:XU H k a):(Pb P w).is h k a:=by
 let#[s,e,b]:=e;let#[_,i,r,o,g,f,n,c]:=(ok a _ e)
 exact#[o,i.toArray,n,g,f,c,↑(wJ ok b r)]
def HL(ok:Xh P w H h)(e:Rd H a (.dT s)):s.length<=Zo/\(a==Sd)=Zi/\
  ∃c,KT H s c/\Ql (Pb P w) h a c:=by
 let#[z,y,c,r,o,E,B,A,u,n,j,g]:=(kU ok e)
 show#[z,y,c,r,o,E,B,A,u,n,j,λx b=>?_,g];have all:∀{l:Za (Zu×V)}{m:Za (Zu×Zg×Zh)},KT H l m->∀x∈m,(Pb P w).is h x.1 x.2.1:=by
  intro l m q;induction q with
  |nil=>intro x b;exact nomatch b
  |@cons p q C Q f t i=>
   intro x b;rcases Yk.mp b with e|b;{subst e;exact Ma ok (by rw[<-f.1];exact f.2.1)};exact i x b
 exact all r x b
def HM(ok:Xh P w H h)(e:Rd H a (.dT s)):s.length<=Zo/\(a==Sd)=Zi/\∃x,KT H s x/\h.DictOfH (Pb P w) a x:=by
 let#[z,y,x,r,b]:=HL ok e;exact#[z,y,x,r,b.h]
def TJ(H:Hp)(a:Zg)(y:V)(r:Option V):Prop:=
 (∃s k,Rd H a (.dK s)/\y=kV k/\r=WG s k)\/∃s k b,Rd H a (.dT s)/\y=.ref b/\XU H k b/\r=WG s k
def Js(H:Hp)(a:Zg)(y v:V)(c:Hp):Prop:=
 (∃s k,H a=Zb (.dK s)/\y=kV k/\s.length<Zo/\c=upd H a (.dK (We s k v))) \/
 ∃s k b,H a=Zb (.dT s)/\y=.ref b/\XU H k b/\s.length<Zo/\c=upd H a (.dT (We s k v))
theorem TJ.k{k:Zx}(e:H a=Zb (.dK s)):TJ H a (kV k) (WG s k):=.inl #[s,k,.inl e,U,U]
def TJ.t{k:Zu}(e:H a=Zb (.dT s))(E:XU H k b):TJ H a (.ref b) (WG s k):=.inr #[s,k,b,.inl e,U,E,U]
def Js.t{k:Zu}(e:H a=Zb (.dT s))(E:XU H k b)(c:s.length<Zo):
  Js H a (.ref b) v (upd H a (.dT (We s k v))):=.inr #[s,k,b,e,U,E,c,U]
section
variable {f:Za (Zg×Yg)}{i:St}{s:Zj}{a:Zg}{y v:V}{u r:Zh}{o:Option V}{A:Yr}{E:Zh->Zj->Prop}
def Inv.big(I:Inv X f i H s):Sd<s.heap.objs.size:=xj 01 ((I.mod.glob.keeps I.bk).lt)
def abC(G:A.units+3<Yz)(I:Inv X f i H s)(g:TJ H a y (Zb v))(C:RelV y u)(h:∀w B,Inv X f i H B->RelV v w->Q w B):
  Zn (Yn X) A (NS (.ref a) u) Q E s:=by
 rcases g with⟨j,k,e,q,l⟩|⟨j,k,b,e,q,L,l⟩;{subst q;let#[z,hd,N,rel,x]:=Jr I.hok e;let#[w,m,c]:=Us.some_of (by rw[l];exact rel.val k);exact wpAny_getItem_of (Jq C) x.mapOf m (h w _ (I.tok _) c)};subst q;cases (C);let#[z,hd,M,rel,x]:=HM I.hok e;let#[w,m,c]:=Us.some_of (by rw[l];exact rel.val k);let#[p,J,n]:=G5.mp m;show wpAny_getItem_heap (Hz G) (Ma I.hok L) x J ?_;rw[n];exact h w _ (I.tok _) c
def abD(w:A.units+3<Yz)(I:Inv X f i H s)(g:TJ H a y o)(p:RelV y u)(h:∀n,Inv X f i H n->Q (.bool (!o.isSome)) n):
  Zn (Yn X) A (Xq .NotIn u (.ref a)) Q E s:=by
 rcases g with⟨c,k,e,j,l⟩|⟨c,k,b,e,j,x,l⟩;{subst j;let#[z,hd,C,rel,m]:=Jr I.hok e;show wpAny_notIn_of (Jq p) hd m.mapOf ?_;rw[<-(rel.val k).wI,<-l];exact h _ (I.tok _)};subst j;cases (p);let#[z,hd,B,rel,m]:=HM I.hok e;show wpAny_notIn_heap (Hz w) (Ma I.hok x) hd m ?_;have q:=(rel.val k).wI;rw[aqh]at q;rw[<-q,<-l];exact h _ (I.tok _)
def ER(I:Inv X f i H s)(m:HA (H a))(e:VB a s.heap c)(g:∃q,c.get? a=Zb q)(new:Wy X.prog X.w (upd H a ob) c a ob):
  Inv X f i (upd H a ob) {s with heap:=c,toks:=n}:=
 I.write m (.inl U) (λb q j z=>(e.2 b j).trans z) g new
def abE(z:b.length<=Zo)(hd:(a==Sd)=Zi)(rel:KV b c)(g:e.DictOf (XT P w) a c):
  Wy P w j e a (.dK b):=#[z,hd,c,rel,g]
def abF(hu:A.units+3<Yz)(I:Inv X f i H s)(g:Js H a y v H')(L:RelV y u)(M:RelV v r)(h:∀J,Inv X f i H' J->Q () J):
  Zn (Yn X) A (Em (.ref a) u r) Q E s:=by
 rcases g with⟨j,k,e,B,l,C⟩|⟨j,k,b,e,B,Z,l,C⟩
 ·subst B C;let#[z,hd,vs,rel,G]:=abB I.hok e;have p:vs.length<=Zo:=by rw[<-rel.length];exact z
  have x:(We j k v).length<=Zo:=by have:=HK j k v;lia
  show wpAny_setItem_pairs (hsz:=p) (Jq L) G λN m w=>h _ ?_;have he:∃q,N.get? a=Zb q:=let ⟨q,_,_,n,_⟩:=m;#[q,n]
  exact ER I (by rw[e];exact Qg) w he (abE x hd (rel.put k M) m)
 subst B C;cases (L);let#[z,hd,xs,rel,G]:=HL I.hok (.inl e);have p:xs.length<=Zo:=by rw[<-KW rel];exact z
 have x:(We j k v).length<=Zo:=by have:=HK j k v;lia
 show A6 (Hz hu) (Ma I.hok Z) G p λN m w=>h _ ?_;let#[q,es,ep,n,h2,h3,h4,_,h5]:=m;show ER I (by rw[e];exact Qg) w #[q,n] #[x,hd,_,(rel.put k Z M).keeps λc ys Y=>?_,q,es,ep,n,h2,h3,h4,h5];rw[ZN (xQ Y e (λz=>nomatch z))];exact Y
end
def EV(i:ZE):Prop:=∀o iv,ml i Zi o iv=operate [o,iv] (NS o iv)
def abG{value slice:ZE}{pos:Yv}{T id:String}{Q:Zh->Zj->Prop}
  (n:En (.type T) "__getitem__" = ZR (Zb (.builtin id)))(m:EV slice)
  (h:Zn (Zr p w) A (Ye value j) (λo e=>Zn (Zr p w) A (Ye slice j) (λi a=>a.TypeIs o T/\Zn (Zr p w) A (NS o i) Q E a) E e) E s):
  Zn (Zr p w) A (Ye (.Subscript value slice pos) j) Q E s:=by
 show o8 (Xv h (λo e g=>Xv g (λi a b=>?_) λO O x=>x) λO O x=>x);let#[q,b]:=b;show Zf ?_;show Zf (Hy q n ?_);have fin:Zn (Zr p w) A (ml slice Zi o i) (λr c=>Zn (Zr p w) A (letTemporaryGo value o r >>= λO=>ZR r) Q E c) E a:=by
  rw[m o i];exact wpAny_operating (Xv b (λr c f=>Zf (wpAny_letTemporaryGo (Zm f))) λO O x=>x)
 first
  | exact Zm (Zf fin)
  | exact Zf (Zm (Zf fin))
  | exact Zf fin
def abH(I:Inv X p i H s)(g:TJ H a y o):s.TypeIs (.ref a) "dict" :=by
 rcases g with⟨c,k,e,_,_⟩|⟨c,k,b,e,_,_,_⟩;{let#[_,_,j,_,f]:=Jr I.hok e;exact f.typeIs};let#[_,_,x,_,f]:=HM I.hok e;exact f.typeIs
def abI(e ty:TE):TE:=λb H Q=>e b H λx f=>ty b f λy c=>∃a v,x=.ref a/\TJ c a y (Zb v)/\Q v c
def abJ(f ty e:TE):TS:=λD b H=>e b H λv j=>f b j λx i=>ty b i λy g=>∃a c,x=.ref a/\Js g a y v c/\D.nx b c
def kW(B:X.A.units+3<Yz)(E:PE X o f)(hi:PE X i ty)(C:EV i):PE X (.Subscript o i pos) (abI f ty):=by
 intro p s c H Q I h;show abG PySem.F.slot_dict_getitem.lookup C (Vu (E p s c H _ I h) λu j x M J n w=>ZQ (hi p j c M _ J w) λiv Z z=>?_);let#[y,L,e,m,a,v,U,g,q]:=z;obtain rfl:u=Xa a:=n;exact#[abH e g,abC B e g m λN Y G b=>#[v,L,G,b,q]]
def abK(G:X.A.units+3<Yz)(L:PE X o f)(hi:PE X i ty)(E:PE X value e)(J:XD value (Zb (.Subscript o i b)) pos.line X.env=ZR Zi):
  PS X (.Assign [.Subscript o i b] value pos) (abJ f ty e):=by
 intro p s c H D I h;show wpAny_Assign_Subscript (Vu (E p s c H _ I h) λr m v H1 Z w C=>Vu (L p m c H1 _ Z C) λu j x H2 Y q B=>ZQ (hi p j c H2 _ Y B) λiv s3 z=>?_) J;let#[y,H3,N,n,a,H4,U,g,Q]:=z;obtain rfl:u=Xa a:=q;exact abF G N g n w λs4 M=>#[c,H4,M,Q]
def kY(h:ZD)(b:Sd<h.objs.size):Wy P w H (h.push {cls:=.type "dict",data:=.dict #[]}) h.objs.size (.dT []):=
 #[Wg _,Jj.mpr (XR (Ys b)),[],.nil,_,#[],0,YF _ U,#[U,U,U],U,U,FX,U]
def abL:TE:=λO H Q=>∀p,H p=Zc->Q (.ref p) (upd H p (.dT []))
def wK:PE X (.Dict [] [] pos) abL:=λp s a H Q I h=>
 wpAny_Dict_empty #[.ref s.heap.objs.size,_,I.laid (λO O q=>ZY _ q) (ZU _) (kY s.heap I.big),U,h _ (I.hok.fresh (ZU _))]
noncomputable def HN(s more:Za (Zx×V)):Za (Zx×V):=more.foldl (λa b=>We a b.1 b.2) s
structure M2 (X:Cx)(o:ZE)(m:Ze)(apos:Yv)(e f:ZE)(cpos:Yv):Prop where
 base:Jo X o m
 few:((RB cpos (XA [e,f] X.env)).all (λx=>!x.1)&&(Jb cpos (Je [] X.env)).all (λx=>x.1.isSome)
  && decide (([e,f]:List ZE).length+([]:List Nv).length+(if ([]:List Nv).isEmpty then 0 else 1)<30))=Zd
 line:TH apos cpos
 trees:RB cpos (XA [e,f] X.env)=[(Zi,Ye e X.env),(Zi,Ye f X.env)]
def IsD(H:Hp)(a:Zg):Prop:=(∃s,Rd H a (.dK s))\/∃s,Rd H a (.dT s)
def wL(I:Inv X p j H s)(d:IsD H a):
  s.TypeIs (.ref a) "dict" /\(∀b,Xa a=.ref b->∃ob,s.heap.get? b=Zb ob/\ob.dict=Zc)/\(a==Sd)=Zi:=by
 rcases d with⟨f,e⟩|⟨f,e⟩;{let#[_,hd,m,_,c]:=Jr I.hok e;show#[c.typeIs,λb q=>?_,hd];cases q;let#[ob,_,_,i,g,_]:=c;exact#[ob,i,g.2.1]};let#[_,hd,x,_,c]:=HM I.hok e;show#[c.typeIs,λb q=>?_,hd];cases q;let#[ob,_,_,i,g,_]:=c;exact#[ob,i,g.2.1]
def abM(C:A.units+3<Yz)(I:Inv X p x H s)(g:TJ H a y o)(n:RelV y u)(q:RelV d r)(h:∀j m,Inv X p x H m->RelV (o.getD d) j->Q j m):
  Zn (Yn X) A (call (.builtin "dict.get") [.ref a,u,r]) Q E s:=by
 rcases g with⟨f,k,e,i,l⟩|⟨f,k,b,e,i,G,l⟩;{subst i;let#[z,hd,J,rel,c]:=Jr I.hok e;show nU G9 c.typeIs aqu (aqp _ _ _) (meets_dict_get_default (XT X.prog X.w) a (Jq n) hd r) #[_,c.mapOf,h _ _ (I.tok _) ?_];rw[l];exact(rel.val k).getD q};subst i;cases (n);let#[z,hd,B,rel,c]:=HM I.hok e;show nU G9 c.typeIs aqu (aqp _ _ _) (meetsH_dict_get_default (Pb X.prog X.w) a b hd r) #[Hz C,k,B,Ma I.hok G,c,h _ _ (I.tok _) ?_];rw[l];exact(rel.val k).getD q
def abN(g ty f:TE):TE:=λb H Q=>g b H λx e=>∃a,x=.ref a/\IsD e a/\ty b e λy i=>f b i λz c=>∃o,TJ c a y o/\Q (o.getD z) c
def abO(hu:X.A.units+3<Yz)(ho:PE X o q)(he:PE X e ty)(hf:PE X f n)(m:M2 X o "get" apos e f c):PE X (.Call (.Attribute o "get" apos) [e,f] [] c) (abN q ty n):=by
 intro p s b H Q I h;show aro m.base m.few m.line G8 G9 PySem.F.type_dict_get (ZQ (ho p s b H _ I h) λu E Z=>?_);let#[x,H1,j,L,a,U,d,Y]:=Z;obtain rfl:u=Xa a:=L;let#[B,w,_]:=wL j d;show#[B,w,?_];rw[m.trees];show yR U (R5 (KF (Vu (he p E b H1 _ j Y) λiv C y H2 I2 J N=>
  KF (ZQ (hf p C b H2 _ I2 N) λfv s3 ⟨z,H3,I3,G,ov,g,M⟩=>FI ?_))))
 exact abM hu I3 g J G λw' s4 I4 i=>#[_,H3,I4,i,M]
def Bd(n:Nat)(i:Int):Prop:=i.natAbs<2^n
def Bd.mono(h:Bd n i)(k:n<=m):Bd m i:=YK h (aqa 01 k)
set_option tactic.hygienic true in
def Bd.bits(h:Bd n i):aoJ i<=n:=by
 unfold aoJ;split;{simp};rename_i b;have a:i.natAbs≠0:=by
  intro z;apply b;have:i=0:=00
  simp[this]
 have:=(ap6 a).mpr h;lia
def Bd.log(h:Bd n i)(k:n<=9000):i.natAbs.log2<9000:=by
 rcases nh i.natAbs with a|p;{rw[a];decide +kernel};exact(ap6 00).mpr (YK h (aqa 01 k))
def Bd.of(a : -(2^n)<i)(b:i<2^n):Bd n i:=by
 unfold Bd;have e:((2^n:Nat):Int)=2^n:=02
 lia
def Bd.le(h:Bd n i)(k:j.natAbs<=i.natAbs):Bd n j:=Hf k h
def abP(i j:Int):Prop:=Bd 100000 i/\Bd 100000 j
def abQ(i j:Int):Prop:=j≠0/\Bd 9000 j
def abR:Xi X (Uq .FloorDiv) (rI abQ λi j=>.int (i.fdiv j)):=EE λO O O O O O O c q=>
 floordiv_int c.1 q (.inl (PyProof.noPylong_of_log2 (c.2.log (ZU _))))
def abS(K:ZF):R2:=λx y H Q=>∃l b s z,x=.ref l/\y=.ref b/\Ya K H l s/\Ya K H b z/\s.length+z.length<=Zo/\∀p,H p=Zc->Q (.ref p) (upd H p (.lst (s++z)))
def abT:Xi X (Uq .Add) (abS X.K):=by
 intro o s σ H x y v u Q I G E h;let#[l,b,xs,zs,U,U,Z,hB,L,q]:=h;cases G;cases E;let#[a,r,p,z]:=I.list Z;let#[i,m,J,z2]:=I.list hB;let#[#[cls,dd,data,B],n,w,A,_,hd]:=id p;let#[#[C,j,data2,g],N,c,f,_,e]:=id J;simp only at A hd f e;subst A hd f e;have Y:=r.length;have M:=m.length;show f9 #[_,w,U] #[_,c,U] noFill_list_add seq_list_add PySem.F.slot_list_add PySem.F.entry_list_add (PySem.F.args_list_add_2 _ _) (list_addW l b a.toArray i.toArray n N dd j B g (by rw[YN,YN];lia)) #[w,c,?_];have ea:a.toArray++i.toArray=(a++i).toArray:=02
 rw[ea];exact#[.ref _,_,I.kI (r.append m) (by rw[Yx];exact L),U,q _ I.fresh]
def abU(h:Si x=Zd):Uv x x=Zd:=by
 cases x<;>simp_all [Uv,Si]
def abV(K:ZF):Za V->Hp->VK->Prop:=λs H Q=>∃x c C t b,s=[x,c]/\(∀u,RelV c u->u=C)/\Sf K H x t/\Oj K t C=Zb b/\Q (.bl b) H
def abW:WR X (.builtin "isinstance") (abV X.K):=by
 intro p s j H m n Q I r h;let#[x,c,C,t,b,U,i,ty,e,q]:=h;let#[u,w,U,g,f]:=vals2 r;cases i _ f;exact aaO I g ty e λa=>#[.bl b,H,I.tok a,U,q]
def Mb(i j:Int):Prop:=xX i j\/abP i j
def abX:Xi X (Uq .Mult) (rI Mb λi j=>.int (i*j)):=EE λO O O O O O O c q=>by
 rcases c with c|c;{exact mul_int q c.ok};exact mul_int q (IntMulOk.of_bits (Yp c.1.bits 01) (Yp c.2.bits 01))
def Mb.l(a : -(2^64)<i)(b:i<2^64):Mb i j:=.inl (.inl #[a,b])
def Mb.r(a : -(2^64)<j)(b:j<2^64):Mb i j:=.inl (.inr #[a,b])
theorem Zv.upd(h:H p=Zc):Zv H (upd H p o):=λb u e=>by rw[ZN (Wx e h)];exact e
structure HP (K:ZF)(C:Zg):Prop where
 makes:Ef K C=Zd
 init:Xn K (.ref C) "__init__" = Zb (Zb (.builtin "object.__init__"))
 kp:RG K C
def abY(C:Zg):TE:=λO H Q=>∀x a,H x=Zc->H a=Zc->a≠x->Q (.ref x) (upd (upd H a (.own x)) x (.ins C a []))
def abZ(M:HP X.K C)(I:Inv X p f H s)
  (h:∀x c,H x=Zc->H c=Zc->c≠x->Q (.ref x) (upd (upd H c (.own x)) x (.ins C c []))):
  Zn (Yn X) X.A (call (.ref C) []) (EP X p f Q) X.xe s:=by
 have m:=Inv.made (C:=C) I;have q:=h (s.heap.objs.size+1) s.heap.objs.size (I.hok.fresh (UT _)) (I.hok.fresh (ZU _)) (Ys (KS _));show mB (aaG I.Wk M.makes M.init (λself=>as4 (PySem.W.oi_bind self)) ?_);let#[a,g,d,n,os]:=s;have E:((a.push Qf).push (Ry C a.objs.size)).get? (a.objs.size+1)=Zb (Ry C a.objs.size):=by
  have:=YF (a.push Qf) (o:=Ry C a.objs.size) U;rwa [UQ]at this
 have j:v8 (Yn X) ((a.push Qf).push (Ry C a.objs.size)) (xI (.ref (a.objs.size+1))) (.ref C):=(as3 E).andThen .now;have i:v8 (Yn X) ((a.push Qf).push (Ry C a.objs.size)) (nX (.ref (a.objs.size+1)) (.type "object")) Zd:=j.andThen ((u6 (M:=Zr X.prog X.w) I.Wk M.makes).top.keeps λb o e=>ZY _ (ZY _ e));exact aq8 PySem.W.oi_plain PySem.W.entry_oi (@PySem.W.check_slot (Yn X) _ _ _ "object.__init__" "object" "__init__" (.ref (a.objs.size+1)) [] [] _ PySem.W.oi_kind PySem.W.oi_split i (PySem.W.oi_args (.ref (a.objs.size+1))) (Zm (MU U #[V.ref (a.objs.size+1),_,m,U,q])))
def ab0(M:HP X.K C)(g:Gl X x)(m:X.mg x=Zb (.ref C))(b:YV x|>2):PE X (.Call (.Name x p) [] [] pos) (abY C):=by
 intro a s c H Q I h;exact Lq (EA I g m (PySem.W.callWith_K0 I.Wk M.kp (abZ M I h)) b)
structure ab1 (K:ZF)(C:Zg):Prop where
 ha:Xn K (.ref C) "__class__" = Zb (Zb (.builtin "object.__class__"))
 hn:aqQ K (.builtin "object.__class__") "__get__" = Zb (Zb (.builtin "getset_descriptor.__get__"))
 htk:aqS K (.builtin "object.__class__")=Zb Zd
 hm:xt K C (.type "object")=Zb Zd
def arF(hd:xo K D=Zd)(a:aqT K (.ref D)=Zb (.type "type"))(s:aqR K (.ref C) (.ref D)=Zb b)
  (c:aqR K (.ref D) (.ref D)=Zb Zd):Oj K (.ref C) (.ref D)=Zb b:=by
 let#[g,f,_]:=aqH hd;unfold Oj;by_cases q:(Xa C==Xa D)=Zd;{rw[Zt q];have e:=Wo.mp q;rw[e,c]at s;exact s};rw[Zq q];unfold aqL;simp only;rw[Zt (by rw[f,a];rfl)];exact s
theorem Wy.get(x:Wy P w H h a o):∃ob,h.get? a=Zb ob:=by
 cases o with|lst b=>let⟨_,_,_,_,e⟩:=x;exact#[_,e]|tup b=>let⟨_,_,_,ob,e,_⟩:=x;exact#[_,e]|dK s=>let⟨_,_,_,_,o,_,_,e,_⟩:=x;exact#[_,e]|dT s=>let⟨_,_,_,_,o,_,_,e,_⟩:=x;exact#[_,e]|set S n=>let⟨o,_,_,_,e,_⟩:=x;exact#[_,e]|ins C g fs=>let⟨_,_,_,e,_⟩:=x;exact#[_,e]|own y=>let⟨_,e⟩:=x;exact#[_,e]|xd fs=>let⟨_,⟨_,_,_,e,_⟩,_⟩:=x;exact#[_,e]|rng lo hi=>let⟨_,_,_,e⟩:=x;exact#[_,e]|Ua ob u=>let⟨e,_⟩:=x;exact#[_,e]|tbl p=>exact#[_,(x)]|met f y=>exact#[_,(x)]|ext c=>let⟨_,⟨_,e⟩,_⟩:=x;exact#[_,e]
def Jt(fs:Za Zg)(c:Hp)(a h B:ZD):Prop:=∀b o,h.get? b=Zb o->b∉fs->(c b≠Zc\/∃u,a.get? b=Zb u)->B.get? b=Zb o
def ab2(u:Un fs [] p m j h)(C:Jt fs m j h B)(st:B.StaysIn i)
  (s:∀b∈fs,∀o,h.get? b=Zb o->∃s,i.get? b=Zb {o with slots:=s}):Un fs [] p m j i where
 keep:=λb o e n a x=>st b o (C b o (u.keep b o e n a x) a (.inr #[o,e]))
 slot:=λb o e n a x=>by
  let#[q,E]:=u.slot b o e n a x;let#[g,f]:=s b a _ E;exact#[g,f]
 free:=u.free
 there:=λb o e x=>by
  let#[c,E]:=u.there b o e x;by_cases a:b∈fs;{let#[g,f]:=s b a _ E;exact#[_,f]};exact#[c,st b c (C b c E a (.inr #[o,e]))]
 tups:=u.tups
 frzs:=u.frzs
 tbls:=u.tbls
def ab3(ok:Xh P w f h)(C:Jt fs f i h B)(st:B.StaysIn g)(fr:∀b∈fs,f b=Zc):Xh P w f g:=λa o e=>
 (ok a o e).stay (λb v c q=>st b v (C b v q (λz=>by
   rcases c with rfl|c;{rw[fr _ z]at e;cases e}
   ·rw[fr _ z]at c;cases c) (.inl (by
   rcases c with rfl|c
   {rw[e];exactλz=>nomatch z}
   rw[c];exactλz=>nomatch z)))) (λO q=>q) λO O q=>q
def ab4(u:Un fs [] p f g h)(ok:Xh P w f h)(C:Jt fs f g h B)(st:B.StaysIn m):Jt fs f g m B:=λb o e j c=>by
 have key:∃a,h.get? b=Zb a:=by
  rcases c with c|⟨v,c⟩;{cases q:f b with|none=>exact ZJ q c|some x=>exact(ok b x q).get};exact u.there b v c 02
 let#[a,n]:=key;have i:=C b a n j c;have E:=st b a i;rw[e]at E;cases E;exact i
def ZV(P:YZ)(w:Yt):NZ:=λo H s E e a=>∃(x t:Zg) (cls:Zh) (b:Hp) (B:ZD),
 e=.ref x/\a.os=s.os/\Nr a.gens/\Un (VN o) [] H b s.heap a.heap/\Xh P w b a.heap/\ZD.FlyingW B o x cls (.ref t) a.heap/\Jt (VN o) b s.heap a.heap B/\s.heap.get? x=Zc/\b x=Zc/\E cls Zc b
def ab5{B h a:ZD}(f:h.FunFrames B l)(up:h.UpToSlots a):∀b∈VN l,∀o,h.get? b=Zb o->∃s,a.get? b=Zb {o with slots:=s}:=λb c o e=>by
 let#[_,g,E,n]:=f.mem c;rw[e]at E;cases E;exact up b o e n
def ab6(u:Un fs c g i a h)(x:b∉c)(e:h.get? b=Zc):a.get? b=Zc:=by
 cases q:a.get? b with
 |none=>rfl
 |some o=>
  let⟨f,E⟩:=u.there b o q x;rw[e]at E;cases E
theorem Inv.Qm(I:Inv X p a H s):∀b∈VN X.stack,H b=Zc:=I.env0.Qm
section
variable {P:YZ}{w:Yt}{m:Ze->Option Zh}{base:ZD}{N:Za Ze}{q:Ze}{g:Wu}{f:Zg}{C:Zh}{A:Yr}{a:Za Wf}{s:Zj}{E:XK}{p:Za (Zg×Yg)}{n:St}{i:Hp}{j:Zj}
def ab7{E':XK}(I:Inv (Uu (ZV P w) P w K m base N q g f C A a s H E) p n i j)
  (h:ZV P w (Uu (ZV P w) P w K m base N q g f C A a s H E).stack i j E' e Q)(k:∀cls L,E' cls Zc L->E cls Zc L):
  (Uu (ZV P w) P w K m base N q g f C A a s H E).xe e Q:=by
 let#[ex,t,cls,L,B,U,ho,hg,u,ok,fl,cv,hn,M,hE]:=h;have J:=I.call' ho u ok hg (λO z=>nomatch z);have u1:Un (VN a) [] H L s.heap Q.heap:=J.base;show wpAny_leaves_onW J.env0.frames U fl λh' x up=>?_;have G:Jt (VN a) L s.heap Q.heap B:=λb o e Z c=>by
  have Y:b∉VN (Sb q g s.heap.objs.size f C::a):=λhm=>by
   have y:b=s.heap.objs.size\/b∈VN a:=by
    have:=hm;exact Yk.mp this
   rcases y with rfl|y;{rcases c with c|⟨v,c⟩;{exact c J.free};exact ZJ (Yc c) (NI _)};exact Z y
  show cv b o e Y ?_;rcases c with c|⟨v,c⟩;{exact .inl c};exact .inr (Un.there (show Un (VN a) [] H i s.heap j.heap from I.base) b v c 02)
 have fr:=λb Z=>J.Qm b (by
  exact YT _ Z)
 exact#[ex,t,cls,L,B,U,J.os,J.bare,ab2 u1 G x.1 (ab5 fl.2.2.1.2.2 up),ab3 ok G x.1 fr,x,ab4 u1 ok G x.1,ab6 (show Un (VN a) [] H i s.heap j.heap from I.base) 02 hn,M,k _ _ hE]
end
def EW(C:NZ)(X:Cx)(x:St->XK):Prop:=∀(p:Za (Zg×Yg)) (a:St) (H:Hp) (s:Zj) (e:Zh) (b:Zj),Inv X p a H s->C X.stack H s (x a) e b->X.xe e b
abbrev UG(X:Cx)(x:St->XK):Prop:=EW (ZV X.prog X.w) X x
def SV{q:Ze}{e:Wu}{f:Zg}{c:Zh}{A:Yr}{o:Za Wf}{s:Zj}{E:XK}:
  UG (Uu (ZV P w) P w K m base N q e f c A o s H E) (λO=>E):=λO O O O O O I h=>ab7 I h λO O z=>z
def wM(p:Sp)(x:St->XK)(t:TA):TE:=λa H Q=>t a H λs b=>p s b Q (x a)
def kZ(F:ZK X.prog X.w X.K X.mg X.base (ZV X.prog X.w) k f fd g i)(n:Xc k X.A)(y:Binds X.K fd g [])(m:UG X x)
  (I:Inv X p c H s)(r:ZX vs a)(h:i vs H Q (x c)):Zn (Yn X) X.A (call (.ref f) a) (EP X p c Q) X.xe s:=by
 have o:(a++[]).length=g.length:=by rw[SG,<-r.length];exact F.len _ _ _ _ h
 have b:=y s a I.Wk o;rw[SG]at b;show mB (Lj (F.run X.A X.stack s H #[a,[]] a vs Q (x c) n I.env0 b r h) λr j q=>?_);cases r with
 |error e=>exact m p c H s e j I q
 |ok z=>
  cases z with|ret u=>exact I.after q|next=>exact Qc q|brk=>exact Qc q|cont=>exact Qc q
def ab8(F:ZK X.prog X.w X.K X.mg X.base (ZV X.prog X.w) k f fd m j)(o:Xc k X.A)(z:Gl X x)(u:X.mg x=Zb (.ref f))(y:Lg X.K (.ref f)=Zd)(C:Binds X.K fd m [])(n:UG X J)
  (G:PA X (e::E) t)(c:YV x|>2)(B:TC X e E|>1)(b:VP X E pos|>1):
  PE X (.Call (.Name x p) (e::E) [] pos) (wM j J t):=by
 intro a s g H Q I h;exact Lq (EA I z u (u0 I.ok.mod.kin y (Vu (G pos a s g H _ I h) λM N L Y i r q=>#[i.Wk,kZ F o C n i r q]) B b) c)
theorem Cx.Ok.pn(ok:X.Ok)(p:Za (Zg×Yg))(E:Zh->Zj->Prop):Cx.Ok {X with pn:=p,xe:=E}:=
 #[ok.mod,ok.kind,ok.glob,ok.blt,ok.above,ok.inj,ok.has,ok.cab,ok.hd,ok.frames,ok.stk,ok.exf,ok.bs,ok.bsz,ok.noex,ok.exfs,ok.SR,ok.Qm]
noncomputable def ab9(e C:Zg):HO:=.ext λh=>∃o s,h.get? e=Zb o/\o.cls=.ref C/\o.data=.fields s
structure EX (K:ZF)(C:Zg):Prop where
 ga:Xn K (.ref C) "__getattribute__" = Zb (Zb (.builtin "BaseException.__getattribute__"))
 gn:Xn K (.ref C) "__getattr__" = Zb Zc
 cl:Xn K (.ref C) "__class__" = Zb (Zb (.builtin "object.__class__"))
 ob:xt K C (.type "object")=Zb Zd
 be:xt K C (.type "BaseException")=Zb Zd
 ic:PySem.W.isClsIn K C=Zd
theorem wN:∀{c:Za Zg}{u:Za Zh},ZX (c.map V.ref) u->u=c.map Xa
 |[],_,.nil=>rfl
 |_::_,_,.cons r t=>by rw[Xo,wN t];rw[show _=Xa _ from r]
def arG(a:PySem.W.kitMeta T=Zd)(s:xt K C (.type T)=Zb b):Oj K (.ref C) (.type T)=Zb b:=by
 unfold Oj;unfold aqL;simp only;rw[Zt a];exact s
structure CZ where
 cl:List (Ze×Zg)
 C:Zg
 s:Zj
 H:Hp
 fp:List Zg
abbrev Zz(X:Cx)(e:Wu)(N:List Ze)(z:CZ):Cx where
 prog:=X.prog
 w:=X.w
 K:=X.K
 mg:=X.mg
 base:=X.base
 A:=X.A
 N:=N
 s₀:=z.s
 H₀:=z.H
 env:=compEnvC e z.cl z.C X.env
 outer:=X.stack
 stack:=X.stack
 ex:=z.fp
 fn:=λO=>Zi
 calm:=X.calm
 pn:=[]
 xe:=λO O=>False
noncomputable def wO(own s:Wu)(N:Za Ze):Bool:=
 (own.kind==.function)&&(own.names.all λy=>y.2 != .cell&&(y.2 != .free||s.names.lookup y.1==Zb .cell||s.names.lookup y.1==Zb .free)&&(y.2 != .local||own.names.lookup y.1==Zb .local)) &&
 (N.all λx=>own.names.lookup x==Zb .free)
structure HQ (own sc:Wu)(Nc:List Ze):Prop where
 kind:own.kind=.function
 nocell:∀y∈own.names,y.2≠.cell
 free:∀y∈own.names,y.2=.free->sc.names.lookup y.1=Zb .cell\/sc.names.lookup y.1=Zb .free
 loc:∀y∈own.names,y.2=.local->own.names.lookup y.1=Zb .local
 cap:∀x∈Nc,own.names.lookup x=Zb .free
def HR(h:wO own s N=Zd):HQ own s N:=by
 unfold wO at h;simp only[XX,Oc,oB,bne_iff_ne,Wo]at h;let#[#[f,b],c]:=h;show#[f,λy a=>(b y a).1.1,λy a e=>?_,λy a e=>?_,c];{rcases (b y a).1.2 with (z|z)|z;{exact ZJ e z};{exact .inl z};exact .inr z};rcases (b y a).2 with z|z;{exact ZJ e z};exact z
def HS(h:∀y∈s.names,y.2=.free->∃c,E.cells.lookup y.1=Zb c):
  ∃C,closureFor s E=ZR C/\(∀y∈s.names,y.2=.free->∃c,C.lookup y.1=Zb c)/\∀x c,C.lookup x=Zb c->E.cells.lookup x=Zb c:=by
 have key:∀(l:Za (Ze×FZ)) g,(∀y∈l,y.2=.free->∃c,E.cells.lookup y.1=Zb c)->(∀x c,g.lookup x=Zb c->E.cells.lookup x=Zb c)->
   ∃C,(Jd l g λx r=>if (x.2==Oh)=Zd then do let a <-cellOf E x.1;ZR (QM ((x.1,a)::r))else ZR (QM r):Vb (Za (Ze×Zg)))=ZR C/\
    (∀y∈l,y.2=.free->∃c,C.lookup y.1=Zb c)/\(∀x c,g.lookup x=Zb c->∃i,C.lookup x=Zb i)/\∀x c,C.lookup x=Zb c->E.cells.lookup x=Zb c:=by
  intro l;induction l with
  |nil=>intro g _ f;exact#[g,U,λy b=>(nomatch b),λx c e=>#[c,e],f]
  |cons y r I=>
   intro g G f;let#[n,k]:=y;have B:=λy b=>G y (YT _ b);by_cases A:k=.free
   ·subst A;let#[c,J]:=G (n,.free) YY U;have o:∀x i,((n,c)::g).lookup x=Zb i->E.cells.lookup x=Zb i:=λx i e=>by
     rw[Wn]at e;cases m:x==n with
     |true=>rw[m]at e;cases e;rw[eq_of_beq m];exact J
     |false=>rw[m]at e;exact f x i e
    let#[C,w,u,q,p]:=I ((n,c)::g) B o;show#[C,?_,?_,?_,p]
    ·have j:cellOf E n=ZR c:=by unfold cellOf;rw[J]
     rw[FQ];simp only[j];exact w
    {intro y b z;rcases Yk.mp b with rfl|b;{exact q n c 02};exact u y b z};intro x i e;cases m:x==n with|true=>exact q x c (by rw[Wn,m])|false=>exact q x i (by rw[Wn,m];exact e)
   let#[C,w,u,q,p]:=I g B f;have L:(k==Oh)=Zi:=↑A
   show#[C,?_,?_,q,p];{rw[FQ];simp only[L];exact w};intro y b z;rcases Yk.mp b with rfl|b;{exact ZJ z A};exact u y b z
 let#[C,w,u,_,p]:=key s.names [] h (λx c e=>by cases e);show#[C,?_,u,p];have e:closureFor s E=(Jd s.names ([]:Za (Ze×Zg)) (λx r=>if (x.2==Oh)=Zd then do let a <-cellOf E x.1;ZR (QM ((x.1,a)::r))else ZR (QM r)) >>= λr=>ZR r:Vb (Za (Ze×Zg))):=rfl;rw[e,w,pure_bind]
theorem wR{E:Wf}{x:Ze}:∀{names:Za (Ze×FZ)}, 
  (names.map λ(n,k)=>if (k==Oh&&E.scope.kind==.function&&E.kindOf n==Zb .cell)then (n,K3)else (n,k)).lookup x =
   (names.lookup x).map λk=>if (k==Oh&&E.scope.kind==.function&&E.kindOf x==Zb .cell)then K3 else k
 |[]=>rfl
 |(n,k)::r=>by
  have i:=@wR E x r;change Og x ((if (k==Oh&&E.scope.kind==.function&&E.kindOf n==Zb .cell)=Zd then (n,K3)else (n,k))::_)=_;cases a:x==n with
  |true=>
   have e:=eq_of_beq a;subst e;by_cases c:(k==Oh&&E.scope.kind==.function&&E.kindOf x==Zb .cell)=Zd;{rw[Zt c,Wn,Wn];simp only[Lw,KU,c,if_true]};rw[Zq c,Wn,Wn];simp only[Lw,KU,Zq c]
  |false=>
   by_cases c:(k==Oh&&E.scope.kind==.function&&E.kindOf n==Zb .cell)=Zd;{rw[Zt c,Wn,Wn,a];exact i};rw[Zq c,Wn,Wn,a];exact i
def aca{E:Wf}(h:own.names.lookup x=Zb .free):(Jg own E).names.lookup x=Zb .cell\/(Jg own E).names.lookup x=Zb .free:=by
 have e:(Jg own E).names.lookup x=_:=wR;rw[e,h];by_cases c:(Oh==Oh&&E.scope.kind==.function&&E.kindOf x==Zb .cell)=Zd;{left;simp only[KU,c,if_true]};right;simp only[KU,c];rfl
def acb{E:Wf}(h:(Jg own E).names.lookup x=Zb .cell\/(Jg own E).names.lookup x=Zb .free):own.names.lookup x=Zb .free\/own.names.lookup x=Zb .cell:=by
 have e:(Jg own E).names.lookup x=_:=wR;rw[e]at h;cases a:own.names.lookup x with
 |none=>rw[a]at h;simp at h
 |some k=>
  rw[a]at h;simp only[KU]at h;by_cases c:(k==Oh&&E.scope.kind==.function&&E.kindOf x==Zb .cell)=Zd;{simp only[XX,Wo]at c;exact .inl (by rw[c.1.1])};rw[Zq c]at h;rcases h with h|h;{exact .inr (by rw[h])};exact .inl (by rw[h])
noncomputable def pre(n:Nat)(fr:Za Nat)(a:St):St:=WN n Zc++fr.map λj=>(a[j]?).getD Zc
abbrev Uw(X:Cx)(f:Za Nat)(N:Za Ze):Prop:=f.map (X.N[·]?)=N.map Zb
def ja{Z:Hp} 
  (I:Inv X L σ H s)(hf:∀b∈fp,Vw X L H b)(hlt:∀b∈fp,b<s.heap.objs.size)(c:HQ own X.env.scope Nc)(Q:∀y∈own.names,y.2=.free->∃c,cl.lookup y.1=Zb c)(g:∀x c,cl.lookup x=Zb c->X.env.cells.lookup x=Zb c)
  (hN:Uw X fr Nc)(hC:s.heap.objs.size<=C)(un:∀fs ex,Un fs ex H Z s.heap E.heap)(hC1:Z C=Zc)(hcl:∀b,b<s.heap.objs.size->Z b=H b)(ok1:Xh X.prog X.w Z E.heap)
  (k:∀b o,s.heap.get? b=Zb o->E.heap.get? b=Zb o)(ns:E.heap.Ns C m)(eo:E.os=s.os)(eg:E.gens=s.gens):
  Inv (Zz X own (ts++Nc) #[cl,C,s,H,fp]) [] (pre ts.length fr σ) Z E:=by
 have old:∀{b:Zg}{o:Yg},s.heap.get? b=Zb o->b<s.heap.objs.size:=λe=>Yc e;have n:∀x c,X.env.cells.lookup x=Zb c->c<s.heap.objs.size:=λx c e=>by
  let#[v,o,M,_]:=I.cell x c e;exact old M
 show#[#[I.ok.mod,c.kind,I.ok.glob,I.ok.blt,hC,λx y a A f=>I.ok.inj x y a (g x a A) (g y a f),λx q=>?_,λx a z O=>(by cases z),I.ok.hd,I.ok.frames,.inl U,λb J=>?_,I.bs,Yp I.ok.bsz I.sz,λb o e J=>?_,λb J hb2=>?_,I.stack,I.mR],
  eo,by rw[eg];exact I.bare,?_,⟨m,ns,λi x v A f h3=>?_⟩,λx a h=>?_,?_,λx a h=>?_,λp hp=>ZJ hp 02,?_,?_]
 {have q:=q;rcases acb q with h|h;{exact Q (x,.free) (Lh h) U};exact ZJ U (c.nocell _ (Lh h))};{let#[_,f1,f2,B,f4,f5]:=hf b J;show#[λz=>?_,λx a h=>f4 x a (g x a h)];subst z;exact ZJ (hlt _ J) (xk.mpr hC)};{let#[_,f1,f2,B,f4,f5]:=hf b J;rcases B with B|B;{exact I.ok.noex b o e B};exact ZJ (Yc (I.ok.bs b o e).1) (xk.mpr B)};{let#[_,f1,f2,B,f4,f5]:=hf b J;rcases Yk.mp (I.Ly b hb2)with z|z;{exact f1 z};exact f2 z};{exact un _ _}
 ·by_cases hi:i<ts.length;{unfold pre at f;rw[VD ↑hi,Ny]at f;split at f<;>cases f};have A:=A;unfold pre at f;rw[UR (SH hi)]at A;rw[UR ↑hi,Rt,YC]at f;have e1:(fr.map (X.N[·]?))[i-ts.length]?=Zb (Zb x):=by rw[hN,YC,A];rfl
  rw[YC]at e1;cases e:fr[i-ts.length]? with
  |none=>rw[e]at f;cases f
  |some j=>
   rw[e]at f e1;simp only[KU,xl]at f e1;have hj:σ[j]?=Zb (Zb v):=by
    cases e2:σ[j]? with
    |none=>rw[e2]at f;cases f
    |some w'=>rw[e2]at f;exact XI Zb f
   have q:=c.cap x (YH A);have G:=c.free _ (Lh q) U;let#[m0,hns0,hl0]:=I.loc;let#[u,ru,lk]:=hl0 j x v e1 hj (.inr G);show#[u,ru,.inr #[aca q,?_]];rcases lk with⟨lk,_⟩|⟨_,a,ea,ha⟩;{have lk:X.env.scope.names.lookup x=Zb .local:=lk;rw[lk]at G;rcases G with G|G<;>cases G};let#[a',Y]:=Q _ (Lh q) U;have:=g x a' Y;rw[ea]at this;cases this;let#[o,M,hd]:=ha;exact#[a,Y,o,k _ _ M,hd]
 {let#[v,o,M,hd]:=I.cell x a (g x a h);exact#[v,o,k _ _ M,hd]};{exact hC1};{have h:=g x a h;exact(hcl _ (n x a h)).trans (I.freeC x a h)};{exact ok1};have:=XI Lc hN;simp only[ZI]at this;unfold pre;simp only[Yx,Rt,ZI,this]
def jb 
  (I:Inv X p w H s)(B:∀b∈q,Vw X p H b)(f:∀b∈q,b<s.heap.objs.size)(c:HQ own X.env.scope N)(i:∀y∈own.names,y.2=.free->∃c,u.lookup y.1=Zb c)(g:∀x c,u.lookup x=Zb c->X.env.cells.lookup x=Zb c)
  (G:Uw X fr N)(e:s.heap.objs.size<=D)(n:s.heap.objs.size<=C)(j:D≠C)
  (k:∀b o,s.heap.get? b=Zb o->a.heap.get? b=Zb o)(A:a.heap.Ns C m)(nl:a.heap.get? D=Zb {cls:=.type "list",data:=.seq #[]})(J:a.os=s.os)(L:a.gens=s.gens):
  Inv (Zz X own (z++N) #[u,C,s,H,q]) [] (pre z.length fr w) (upd H D (.lst [])) a:=by
 show ja I B f c i g G n (λO O=>Un.laid k e (I.hok.fresh e)) ?_ (λb E=>ZN (Ys (YK E e))) (I.hok.laid k e #[Wg _,[],0,.nil,nl]) k A J L;rw[ZN (XR j)];exact I.hok.fresh n
def FD 
  (I:Inv X p c H s)(g:∀b∈f,Vw X p H b)(J:Inv (Zz X own N #[u,C,s,H,f]) q a o e):Inv X p c o e:=
 I.call' (ch:=f) J.os J.base J.hok J.bare λb i=>let ⟨_,f1,_,n,m,j⟩:=g b i;#[n,f1,m,j]
def HU 
  (I:Inv X a w H s)(f:s.heap.objs.size<=C)(J:Inv X a g j i)(q:j C=Zc)(k:∀b o,b≠C->i.heap.get? b=Zb o->u.get? b=Zb o):Inv X a g j {i with heap:=u}:=by
 show J.turned k q (VO (YK I.lt f)) (.inr (Yp I.sz f)) (λx c e z=>?_) (λp m z=>?_);{let#[v,o,n,_]:=I.cell x c e;exact ZJ (Yc n) (xk.mpr (z▸f))};exact ZJ (Yc (I.pin p m).1) (xk.mpr (z▸f))
def TK(X:Cx)(i:Za ZE)(t:TT):Prop:=
 ∀(p:Za (Zg×Yg)) (s:Zj) (a:St) (H:Hp) (Q:Bool->Hp->Prop),Inv X p a H s->t a H Q->
  Zn (Yn X) X.A (Jd i Zd λc r=>if r=Zd then do let ok <-isTrue c X.env (Ye c X.env);ZR (QM ok)else ZR (QM r)) (TP X p a Q) X.xe s
def acd:TT:=λO H Q=>Q Zd H
def ace:TK X [] acd:=λp s a H Q I h=>wpAny_tests_nil #[H,I,h]
def acf(h:PT X c b):TK X [c] b:=λp s a H Q I q=>wpAny_tests_one (h p s a H Q I q)
theorem acg(I:Nat->Zj->Prop)
  (turn:∀n s,I n s->Zn (Zr p w) A (VZ J) (λr a=>match r with
   |none=>R (.ok .next) a
   | some v=>Zn (Zr p w) A (El target J v) (λO a=>Zn (Zr p w) A (QR target e v) (λO o=>
     Zn (Zr p w) A (Jd y Zd λc r=>if r=Zd then do let ok <-isTrue c e (Ye c e);ZR (QM ok)else ZR (QM r)) (λok f=>
      if ok=Zd then Zn (Zr p w) A (Ye E e) (λx j=>
       Zn (Zr p w) A (call (.builtin "list.append") [G,x]) (λO i=>∃m,m<n/\I m i) (λO O=>False) j) (λO O=>False) f
      else∃m,m<n/\I m f) (λO O=>False) o) (λO O=>False) a) (λO O=>False) a) (λO O=>False) s)
  (n:Nat)(h:I n s):
  Wv (Zr p w) A (.compLoop (.ListComp E [#[target,iter,y,0]] u pos) 0 J G e) R s:=by
 show j7 U I (λn s L=>?_) n h;change Zn _ A ((nV (.ListComp E [#[target,iter,y,0]] u pos) 0 J G e).onRaise (λx=>do xF x e;f6 x)) _ _ s;show p9 ?_;rw[compTurn_list];show Zf (QX (Zf (Xv (turn n s L) (λr a b=>?_) λO O g=>g.elim)));cases r with
 |none=>exact Zm b
 |some v=>
  show Zf (Xv b (λO a b=>?_) λO O g=>g.elim);show Zf (Xv b (λO o C=>Zf (Xv C (λok f q=>?_) λO O g=>g.elim)) λO O g=>g.elim);cases ok with
  |false=>exact Zm #[U,q]
  |true=>
   exact Zf (Zf (Xv q (λx j B=>Zf (Xv B (λO i z=>Zm (Zm #[U,z])) λO O g=>g.elim)) λO O g=>g.elim))
def wU(J:It)(g:TG)(o:TT)(p:TE)(D:Zg)(f:St)(H:Hp)(Q:Hp->Prop):Prop:=
 ∃W:Nat->Nat->St->Hp->Prop,(∃m,W 0 m f H)/\∀i m f H,W i m f H->
  (J.stop i H/\Q H)\/(J.go i H/\∃N:St->Hp->Prop,(∀c e,N c e->∃M,M<m/\W (i+1) M c e)/\∀x e,J.yld i H x e->g x f e λa q=>o a q λb n=>
   if b=Zd then p a n λy j=>∃Y,j D=Zb (.lst Y)/\Y.length<Zo/\N a (upd j D (.lst (Y++[y])))else N a n)
def wV(n:Nat)(fr:Za Nat)(w:TI)(g:TG)(f:TT)(e:TE):TE:=λa H Q=>w a H λJ b=>∀D,b D=Zc->wU J g f e D (pre n fr a) (upd b D (.lst [])) λc=>Q (.ref D) c
def ach 
  (hg:PG (Zz X own N z) tg g)(hf:TK (Zz X own N z) ifs tf)(he:PE (Zz X own N z) elt te)(hc:Xl X)(T:TV X.prog X.w X.K tg J z.fp it tn)(fo:∀c:Hp,(∀b∈z.fp,c b=Zc)->∀b∈z.fp,Vw (Zz X own N z) [] c b)
  (I:Inv (Zz X own N z) [] σ H s)(st:tn 0 s.heap)(fr:∀b∈z.fp,H b=Zc)(h:wU J g tf te D σ H Q)(hR:∀a c Y,Inv (Zz X own N z) [] a c Y->Q c->R (.ok .next) Y):
  Wv (Yn X) X.A (.compLoop (.ListComp elt [#[tg,iter,ifs,0]] sc pos) 0 (.ref it) (.ref D) (compEnvC own z.cl z.C X.env)) R s:=by
 let#[W,#[m0,w0],turn]:=h;show acg (λn Y=>∃i a c,Inv (Zz X own N z) [] a c Y/\tn i Y.heap/\(∀b∈z.fp,c b=Zc)/\W i n a c) ?_ m0 #[0,σ,H,I,st,fr,w0];rintro n s3 ⟨i,j,L,I3,M,fr3,w3⟩;rcases turn i n j L w3 with⟨stop,qn⟩|⟨go,Nx,hN,step⟩;{show ZQ (T.done (Zz X own N z) U U U hc i [] s3 j L _ I3 (fo L fr3) M stop) λr s4 Z=>?_;let#[U,I4]:=Z;exact hR j L s4 I4 qn};show ZQ (T.item (Zz X own N z) U U U hc i [] s3 j L _ I3 (fo L fr3) M go) λr s4 Z=>?_;let#[u,U,h4]:=Z;show ZQ h4 λO s5 Z=>?_;let#[x,H5,I5,r5,y5,q,fr5]:=Z;show ZQ (hg _ s5 j H5 x u _ (I5.pinned (fo H5 fr5) (T.obj _ _ q)) r5 (step x H5 y5)) λO s6 Z=>?_;let#[p,H6,I6,q6]:=Z;have again:∀{f:St}{B:Hp}{E:Zj},Inv (Zz X own N z) ([]++Pl z.fp s5.heap) f B E->Nx f B->∃m,m<n/\∃i a c,Inv (Zz X own N z) [] a c E/\tn i E.heap/\(∀b∈z.fp,c b=Zc)/\W i m a c:=λ{f B E} G n7=>by
  let#[m',hm,w7]:=hN f B n7;show#[m',hm,i+1,f,B,G.NX,T.keep _ _ _ q λb hb o e=>(G.pin (b,o) (Va _ (Va _ (Ox hb e)))).1,λb hb=>?_,w7];let#[o,e,d]:=T.obj _ _ q b hb;exact(G.pin (b,o) (Va _ (Va _ (Ox hb e)))).2.1
 show ZQ (hf _ s6 p H6 _ I6 q6) λb E Z=>?_;let#[B,G,q7]:=Z;cases b with
 |false=>exact again G q7
 |true=>
  show ZQ (he _ E p B _ G q7) λy s8 Z=>?_;let#[yv,H8,I8,r8,ys,e8,z8,n8]:=Z;exact Vu (wF _ s8 p H8 (.ref D) [yv] (.ref D) [y] (λO c=>Nx p c) I8 U (.cons r8 .nil) #[D,ys,yv,U,U,e8,z8,n8]) λO s9 O H9 I9 O q9=>again I9 q9
def jc{fr:Za Nat}{g:TG}{tf:TT}{te:TE}{J:It}{it:Zg}{u:Za Zg}{tn:Nat->ZD->Prop}{cl:Za (Ze×Zg)}
  {m:Za (Zg×Yg)}{σ:St}{s:Zj}{Q:Zg->Hp->Prop}{RR:Zh->Zg->Ol->Zj->Prop}{E:Zh->Zj->Prop}
  (hg:∀z,PG (Zz X own (N++Nc) z) tg g)(hf:∀z,TK (Zz X own (N++Nc) z) ifs tf)(he:∀z,PE (Zz X own (N++Nc) z) elt te)(hc:Xl X)(c:HQ own X.env.scope Nc)(hN:Uw X fr Nc)
  (hc1:∀y∈own.names,y.2=.free->∃c,cl.lookup y.1=Zb c)(hc2:∀x c,cl.lookup x=Zb c->X.env.cells.lookup x=Zb c)
  (I:Inv X m σ H s)(T:TV X.prog X.w X.K tg J u it tn)(st:tn 0 s.heap)(fo:∀b∈u,Vw X m H b)
  (h:∀D,H D=Zc->wU J g tf te D (pre N.length fr σ) (upd H D (.lst [])) (Q D))
  (hR:∀D C M G s',s.heap.objs.size<=C->Inv (Zz X own (N++Nc) #[cl,C,s,H,u]) [] M G s'->Q D G->RR (.ref D) C (.ok .next) s'):
  Zn (Yn X) X.A (newList []) (λacc s₃=>Zn (Yn X) X.A (newFunctionEnv own X.env.globals cl [] X.env.qual Zc .none (Zb X.env)) (λB s₄=>
   Wv (Yn X) X.A (.compStart (.ListComp elt [#[tg,iter,ifs,0]] sc pos) 0 (.ref it) acc {B with scope:=Jg own X.env}) (RR acc B.locals) s₄) E s₃) E s:=by
 show Ur (i9 c.nocell (by intro y hy;simp at hy) (λh₁ i f=>?_) c.kind);have Y:=λb j=>let ⟨o,e,_⟩:=T.obj 0 _ st b j;Yc e
 generalize Z:s.heap.push {cls:=.type "list",dict:=Zc,data:=.seq ([]:Za Zh).toArray}=H2 at i f⊢;have hC:H2.objs.size=s.heap.objs.size+1:=by rw[<-Z,UQ]
 have hDC:s.heap.objs.size≠H2.objs.size:=by rw[hC];exact Ys (KS _)
 have n:s.heap.objs.size<=H2.objs.size:=by rw[hC];exact UT _
 have below:∀b,b<s.heap.objs.size->b≠H2.objs.size:=λb j=>by rw[hC];exact Ys (NK j)
 have old:=λb o e=>f.extBut b o (below b (Yc e)) (ZY _ (Z▸ZY _ e));have st1:=T.keep _ _ _ st λb O o e=>old b o e;have I1:Inv (Zz X own (N++Nc) #[cl,H2.objs.size,s,H,u]) [] (pre N.length fr σ) (upd H s.heap.objs.size (.lst [])) {s with heap:=h₁,toks:=s.toks+([]:Za (Ze×Zh)).length}:=
  jb I fo Y c hc1 hc2 hN (ZU _) n hDC old i (f.extBut _ _ hDC (ZY _ (Z▸YF _ U))) U U
 have fo':∀G:Hp,(∀b∈u,G b=Zc)->∀b∈u,Vw (Zz X own (N++Nc) #[cl,H2.objs.size,s,H,u]) [] G b:=λG hn b j=>by
  let#[_,f1,f2,f3,f4,f5]:=fo b j;show#[hn b j,below b (Y b j),λz=>?_,.inl j,λx a e=>f4 x a (hc2 x a e),λp hp=>ZJ hp 02];rcases Yk.mp (I.Ly b z)with z|z;{exact f1 z};exact f2 z
 have fr1:∀b∈u,upd H s.heap.objs.size (.lst []) b=Zc:=λb j=>by
  rw[ZN (Ys (Y b j))];exact(fo b j).1
 have L:=ach (pos:=pos) (sc:=sc) (iter:=iter) (hg _) (hf _) (he _) hc T fo' I1 st1 fr1 (h _ I.fresh) λM G s' J' q=>hR _ _ M G s' n J' q;exact aq9 L (T.self _ 0 _ _ _ st1 L)
abbrev Sl(o:Wu)(X:Cx)(N:Za Ze):Prop:=wO o X.env.scope N=Zd
def aci(i N:Za Ze)(fr:Za Nat){g:TG}{L:TT}{M:TE}(hi:PI X G iter wi)
  (hg:∀z,PG (Zz X own (i++N) z) G g)(hf:∀z,TK (Zz X own (i++N) z) n L)(he:∀z,PE (Zz X own (i++N) z) E M)(hc:Xl X|>1)(c:Sl own X N|>1)(hN:Uw X fr N|>1)
  (hs:UY X iter|>4):PE X (.ListComp E [#[G,iter,n,0]] own pos) (wV i.length fr wi g L M):=by
 have c:=HR c;intro p s σ H Q I h;let#[cl,e0,x,w]:=HS λy hy e=>I.ok.has y.1 (c.free y hy e);show xJ U hs e0 c.kind c.loc (ZQ (hi p s σ H _ I h) λxv Z f=>ZQ f λitv Y a=>?_);let#[it,fp,tn,J,H2,e,B,T,j,f2,q]:=a;subst e;show jc hg hf he hc c hN x w B T j f2 q ?_;intro D C σ' H' s' hC A q';let#[m,u,_]:=A.loc;show#[m,u,λh' sb=>#[.ref D,H',HU B hC (FD B f2 A) A.free λb o hb e=>sb.extBut b o hb e,U,q']]
def acj{own:Wu}{pos:Yv}(B w:Za Ze)(fr:Za Nat){wi:TI}{g:TG}{tf:TT}{te:TE}(Z:X.N.Nodup)(hi:X.N[i]?=Zb x)(hx:Loc X.env.scope x)
  (hit:PI X G iter wi)(hg:∀z,PG (Zz X own (B++w) z) G g)(hf:∀z,TK (Zz X own (B++w) z) j tf)(he:∀z,PE (Zz X own (B++w) z) E te)(Q:XD (.ListComp E [#[G,iter,j,0]] own pos) (Zb (.Name x px)) f.line X.env=ZR Zd|>1)
  (hc:Xl X|>1)(c:Sl own X w|>1)(hN:Uw X fr w|>1)
  (hs:UY X iter|>4)(hfn:Vl X x|>3):
  PS X (.Assign [.Name x px] (.ListComp E [#[G,iter,j,0]] own pos) f) (Pk (wV B.length fr wi g tf te) (Ov i)):=by
 have c:=HR c;intro p s σ H D0 I h;let#[cl,e0,hc1,hc2]:=HS λy hy e=>I.ok.has y.1 (c.free y hy e);rw[arf _ _ _ _ Q];show Zf (QX (Zf ?_));show Zf (Xv (xJ U hs e0 c.kind c.loc
  (ZQ (hit p s σ H _ I h) λxv s₁ u=>ZQ u λitv s₂ n=>?_)) (λO s' hq=>Zm (Zm hq)) λO O e=>e)
 let#[it,fp,tn,J,H2,e,A,T,L,f2,q]:=n;subst e;show jc hg hf he hc c hN hc1 hc2 A T L f2 q ?_;intro D C σ' H' s' hC J' q';show i6 (xS (FD A f2 J') Z hi hx (v:=.ref D) U (λs4 I4 zq=>?_) hfn);let#[a,M,ha]:=zq;let#[m,Y,_]:=J'.loc;have hCa:C≠a:=by
  rcases ha with rfl|ha;{exact VO (YK A.lt hC)};let#[v,o,ho,_]:=A.cell x a ha;exact VO (YK (Yc ho) hC)
 show#[m,Y.sameBut M hCa,λh' sb=>#[_,H',HU A hC I4 J'.free λb o hb e=>sb.extBut b o hb e,q']]
noncomputable def EY(x:Ze):It:=#[λi O=>i<x.cps.size,λi H v a=>a=H/\∃c,x.cps[i]?=Zb c/\v=.str ⟨[c].toArray⟩,λi O=>x.cps.size<=i]
def ack(x:Ze)(t:Tok)(f:Zg)(n:String)(B:n = "str_ascii_iterator" \/n = "str_iterator"):TV P w K tg (EY x) [f] f (λi h=>h.IsStrIter f n x t i) where
 mem:=02
 obj:=λi h st b j=>by
  have e:b=f:=by simpa using j
  subst e;let#[o,e,c,d]:=st;exact#[o,e,λv z=>by rw[d]at z;cases z]
 keep:=λi h g st k=>let ⟨o,ho,r⟩:=st;#[o,k f 02 o ho,r]
 item:=by
  intro X hP Q hK Z i p s N H E I C st Y;subst hP Q hK;let#[M,f1,f2,L,J,G]:=C f 02;have hi:i<x.cps.size:=Y;have m:=TX hi;have fin:∀g,g.IsStrIter f n x t (i+1)->VB f s.heap g->∃u,Zb (nQ #[[x.cps[i]].toArray] s.toks)=Zb u/\Zn (Yn X) X.A (El tg (.ref f) u)
    (λO s2=>∃y H',Inv X p N H' s2/\RelV y u/\(EY x).yld i H y H'/\s2.heap.IsStrIter f n x t (i+1)/\∀b∈[f],H' b=Zc) E {s with heap:=g,toks:=s.toks+1}:=λg a q=>by
   have I1:Inv X p N H {s with heap:=g,toks:=s.toks+1}:=I.turned (λb o j e=>(q.2 b j).trans e) M f1 L J G;let#[o,e,c,d]:=id a;exact#[_,U,Jl e c d (by rcases B with rfl | rfl<;>decide) #[.str ⟨[x.cps[i]].toArray⟩,H,I1,⟨_,rfl⟩,⟨rfl,_,m,rfl⟩,a,λb j=>(C b j).1]]
  rcases B with rfl|rfl;{exact wpAny_pyNext_ascii_item st m λg a q=>fin g a q};exact wpAny_pyNext_wide_item st m λg a q=>fin g a q
 done:=by
  intro X hP Q hK Z i p s N H E I C st Y;subst hP Q hK;let#[M,f1,f2,L,J,G]:=C f 02;have m:x.cps[i]?=Zc:=↑(show x.cps.size<=i from Y)
  rcases B with rfl|rfl;{exact wpAny_pyNext_ascii_end (I.ok.hd Z) st m λg eb=>#[U,I.turned (λb o j e=>eb b o j e) M f1 L J G]};exact wpAny_pyNext_wide_end (I.ok.hd Z) st m λg eb=>#[U,I.turned (λb o j e=>eb b o j e) M f1 L J G]
 self:=λO O O O O st h=>by
  rcases B with rfl|rfl;{exact wpAny_pyIter_striter_ascii st h};exact wpAny_pyIter_striter_wide st h
def acn(b:TE):TI:=λa H R=>b a H λx c=>∃y,x=.str y/\R (EY y) c
def aco{l:ZE}(w:PE X l g):PI X j l (acn g):=by
 intro p s c H R I h;show ZQ (w p s c H _ I h) λv a Z=>?_;let#[x,B,i,m,y,e,q]:=Z;subst e;let#[t,U]:=m;have fin:∀n:String,(n = "str_ascii_iterator" \/n = "str_iterator")->PIE X p c j R (.ref a.heap.objs.size) {a with heap:=a.heap.push {cls:=.type n,data:=.fields [.str y t,.int 0 0].toArray}}:=λn u=>by
  show#[_,[a.heap.objs.size],_,_,B,U,i.kept λb o e=>ZY _ e,ack y t _ n u,⟨_,YF _ rfl,rfl,rfl⟩,λb A=>?_,q];have z:b=a.heap.objs.size:=by simpa using A
  subst z;exact i.Qn (ZU _) (i.hok.fresh (ZU _))
 cases f:y.cps.all (· < 128);{exact wpAny_pyIter_wide f (fin _ (.inr U))};exact wpAny_pyIter_ascii f (fin _ (.inl U))
def jd{bs:Za Bool}:∀{u:Za Zh},ZX (bs.map V.bl) u->∀i,i<bs.length->u[i]?=Zb (.bool (bs.getD i Zi)):=by
 induction bs with
 |nil=>intro u _ i hi;simp at hi
 |cons b r I=>
  intro u h i hi;cases h with
  |cons c a=>
   cases c;cases i with|zero=>rfl|succ j=>simpa using I a j ↑hi
def all_range(bs:Za Bool):(Vj bs.length).all (λi=>bs.getD i Zi)=bs.all id:=by
 induction bs with
 |nil=>rfl
 |cons b r I=>
  rw[Yu,M8,KL,IQ,KL,<-I];rfl
def any_range(bs:Za Bool):(Vj bs.length).any (λi=>bs.getD i Zi)=bs.any id:=by
 induction bs with
 |nil=>rfl
 |cons b r I=>
  rw[Yu,M8,SF,FN,SF,<-I];rfl
def acp(E:Xl X):WR X (.builtin "all") (λx H Q=>∃p,∃bs:Za Bool,x=[.ref p]/\Ya X.K H p (bs.map V.bl)/\Q (.bl (bs.all id)) H):=by
 intro c s y H x M Q I r h;let#[p,bs,U,C,q]:=h;let#[u,U,B]:=vals1 r;cases B;let#[a,w,f,Y]:=I.list C;have n:=w.length;rw[ZI]at n;show call_all_walk (Hx f.isList ?_);have j:p≠s.heap.objs.size:=by
  let#[o,_,e,_]:=f;exact Ys (Yc e)
 have m:(s.heap.push {cls:=.type "list_iterator",data:=.fields [.ref p,.int 0 0].toArray}).IsList p a.toArray:=f.isList.at λo e=>ZY _ e;show#[_,_,_,_,_,_,λi=>bs.getD i Zi,U,nR (show X.A.in1.handled=Zc from I.ok.hd E) s.heap.objs.size p j a.toArray,#[#[_,YF _ U,U,U],m],?_,?_]
 ·intro i v N Z E' g G;have hi:i<bs.length:=by
   have:=(T9.mp g).1;simp only[YN]at this;lia
  have e:=jd w i hi;rw[show a.toArray[i]?=a[i]? by simp,e]at g;cases g;exact QY G
 intro J z k;have L:Inv X c y H {s with heap:=J,toks:=z}:=I.kept λb o e=>k b o ↑(Ys (Yc e)) (ZY _ e);show#[.bl _,H,L,U,?_];rw[YN,<-n,all_range];exact q
def acq(E:Xl X):WR X (.builtin "any") (λx H Q=>∃p,∃bs:Za Bool,x=[.ref p]/\Ya X.K H p (bs.map V.bl)/\Q (.bl (bs.any id)) H):=by
 intro c s y H x M Q I r h;let#[p,bs,U,C,q]:=h;let#[u,U,B]:=vals1 r;cases B;let#[a,w,f,Y]:=I.list C;have n:=w.length;rw[ZI]at n;show call_any_walk (Hx f.isList ?_);have j:p≠s.heap.objs.size:=by
  let#[o,_,e,_]:=f;exact Ys (Yc e)
 have m:(s.heap.push {cls:=.type "list_iterator",data:=.fields [.ref p,.int 0 0].toArray}).IsList p a.toArray:=f.isList.at λo e=>ZY _ e;show#[_,_,_,_,_,_,λi=>bs.getD i Zi,U,nR (show X.A.in1.handled=Zc from I.ok.hd E) s.heap.objs.size p j a.toArray,#[#[_,YF _ U,U,U],m],?_,?_]
 ·intro i v N Z E' g G;have hi:i<bs.length:=by
   have:=(T9.mp g).1;simp only[YN]at this;lia
  have e:=jd w i hi;rw[show a.toArray[i]?=a[i]? by simp,e]at g;cases g;exact QY G
 intro J z k;have L:Inv X c y H {s with heap:=J,toks:=z}:=I.kept λb o e=>k b o ↑(Ys (Yc e)) (ZY _ e);show#[.bl _,H,L,U,?_];rw[YN,<-n,any_range];exact q
def acr:∀{u:Za Zh},ZX (Y.map V.str) u->StrsAre u Y:=by
 induction Y with
 |nil=>intro u h;cases h;exact .nil
 |cons y r i=>
  intro u h;cases h with
  |cons b a=>
   let⟨t,rfl⟩:=b;exact .cons _ _ (i a)
def acs:LC X "str.join" (λx b H Q=>∃sep p,∃y:Za Ze,x=.str sep/\b=[.ref p]/\Ya X.K H p (y.map V.str)/\(y.map (·.length)).sum+y.length*sep.length<=16777216/\Q (.str (Eg sep y)) H):=by
 intro c s o H x b v w Q I f r h;let#[sep,p,y,U,U,n,a,q]:=h;let#[t,U]:=f;let#[u,U,i]:=vals1 r;cases i;let#[m,g,j,z]:=I.list n;exact join_list j.isList ↑(acr g) a λe k=>#[.str _,H,I.tok k,#[e,U],q]
def acu:Oz X (λx lo hi H Q=>∃y,x=.str y/\y.length<=Zo/\Q (.str (Tw y lo hi)) H):=by
 intro p s g H x v w o lo hi A Q I m a n f h;let#[y,U,z,q]:=h;let#[t,U]:=m;show#["str",_,F.slot_str_getitem.lookup,f8 _ _ _,?_];have fin:∀c k,EP X p g Q (.str (Tw y lo hi) c) {s with toks:=k}:=λc k=>#[.str _,H,I.tok k,#[c,U],q]
 cases n with
 |none=>
  cases f with|none=>exact mE (l:=Zc) (u:=Zc) (st:=Zc) a U (nZ #[Yp (xx y _ _) z,fin])|int j b=>exact mE (l:=Zc) (u:=Zb (j,b)) (st:=Zc) a U (nZ #[Yp (xx y _ _) z,fin])
 |int i e=>
  cases f with|none=>exact mE (l:=Zb (i,e)) (u:=Zc) (st:=Zc) a U (nZ #[Yp (xx y _ _) z,fin])|int j b=>exact mE (l:=Zb (i,e)) (u:=Zb (j,b)) (st:=Zc) a U (nZ #[Yp (xx y _ _) z,fin])
noncomputable def Tp:ZE->Bool
 |.Starred ..=>Zi
 |_=>Zd
noncomputable def Vd:Za ZE->Bool
 |[]=>Zd
 |e::E=>Tp e&&Vd E
def Mf(h:Tp e=Zd):XA (e::s) E=(Zi,Ye e E)::XA s E:=by
 cases e<;>first|rfl|cases h
theorem HV:∀{E:Za ZE},Vd E=Zd->∀pos,(RB pos (XA E a)).any (·.1)=Zi
 |[],_,_=>rfl
 |e::E,h,pos=>by
  unfold Vd at h;rw[XX]at h;rw[Mf h.1];change(Zi||(RB pos (XA E a)).any (·.1))=Zi;rw[HV h.2 pos];rfl
def Sn(c:PE X e a)(b:PA X E t)(h:Tp e=Zd|>1):PA X (e::E) (wj a t):=aaR c b (Mf h)
def wW{t:TA}{id:String}{r:Za V->Hp->VK->Prop}(f:WR X (.builtin id) r)(g:Gl X x)(m:X.mg x=Zc)(c:RC x=Zb (.builtin id))(i:PA X (e::E) t)(a:Vd (e::E)=Zd|>1)(n:x ≠ "__name__" |>2)(b:YV x|>2):
  PE X (.Call (.Name x p) (e::E) [] pos) (EJ r t):=by
 have h:=a;unfold Vd at h;rw[XX]at h;exact aaW f g m c i n b (Mf h.1) (HV h.2 pos)
def jf(f:WR X (.type T) r)(g:Gl X x)(m:X.mg x=Zc)(c:RC x=Zb (.type T))(i:PA X (e::E) t)(a:Vd (e::E)=Zd|>1)(n:x ≠ "__name__" |>2)(b:YV x|>2):
  PE X (.Call (.Name x p) (e::E) [] pos) (EJ r t):=by
 have h:=a;unfold Vd at h;rw[XX]at h;exact aaX f g m c i n b (Mf h.1) (HV h.2 pos)
structure QE (X:Cx)(e:ZE)(t:TE):Prop where
 get:PE X e t
structure QA (X:Cx)(es:List ZE)(t:TA):Prop where
 get:PA X es t
structure QSs (X:Cx)(st:List ZH)(t:TS):Prop where
 get:Tz X st t
def UZ.HW{st:ZH}{f:Zg}{fd:ZZ}{N e:Za Ze}{k:Nat}{p:Sp}(F:UZ K x a st f fd)(S:Yh N e (ZL st))(len:∀b H Q E,p b H Q E->b.length=e.length)
  (y:∀(c:Zh) (A:Yr) (o:Za Wf) (s:Zj) (H:Hp) (b:Za V) (Q:VK) (E:XK),Xc k (A.deeper (Sb a (ZL st) s.heap.objs.size f c))->p b H Q E->
   ∃t,QSs (Uu C P w K m base N a (ZL st) f c A o s H E) (Vx st) t/\t {nx:=λO z=>Q .non z,rt:=Q} (start N b) H):ZK P w K m base C (k+1) f fd e p:=by
 let#[B,od,kV,u,pm,I,c,G,j,U,lk,i]:=F.ex;show wm lk i S len λA o s H b Q E n g=>?_;let#[t,h,q]:=y c A o s H b Q E n g;exact#[t,h.get,q]
def acv{zs:Za Ze}(h:∀z∈zs,z.length<=m):(zs.map (·.length)).sum<=zs.length*m:=by
 induction zs with
 |nil=>simp
 |cons z r i=>
  have c:=h z YY;have b:=i λZ a=>h Z (YT _ a);simp only[Xo,nc,Yu,apW,ap9];lia
def acw:UG X (λO O O O=>False):=λO O O O O O O h=>by
 let#[_,_,_,_,_,_,_,_,_,_,_,_,_,_,z]:=h;exact z.elim
def Ju(F:ZK X.prog X.w X.K X.mg X.base (ZV X.prog X.w) k f fd c s)(i:Xc k X.A)(n:Gl X x)(m:X.mg x=Zb (.ref f))(j:Lg X.K (.ref f)=Zd)(o:Binds X.K fd c [])(g:UG X u)
  (q:QA X (e::E) t)(a:Vd (e::E)=Zd|>1)(b:YV x|>2):QE X (.Call (.Name x p) (e::E) [] pos) (wM s u t):=by
 have h:=a;unfold Vd at h;rw[XX]at h;exact#[ab8 F i n m j o g q.get b (Mf h.1) (HV h.2 pos)]
inductive RH (R:V->V->Bool->Prop):List V->List V->Bool->Prop
 | nil:RH R [] [] Zd
 | left (y:V) (ys:List V):RH R [] (y::ys) Zi
 | right (x:V) (xs:List V):RH R (x::xs) [] Zi
 | cons {x y:V}{xs ys:List V}{b c:Bool}:R x y b->RH R xs ys c->RH R (x::xs) (y::ys) (b&&c)
def Qo(K:ZF)(H:Hp):Nat->V->V->Bool->Prop
 |0,x,y,b=>(Si x=Zd/\Si y=Zd/\b=Uv x y)\/∃a,x=.ref a/\y=.ref a/\b=Zd
 |n+1,x,y,b=>Qo K H n x y b\/∃a c s Y,x=.ref a/\y=.ref c/\((YW K H a s/\YW K H c Y)\/(Ya K H a s/\Ya K H c Y))/\RH (Qo K H n) s Y b
def RH.ans(h:RH R s Y b):
  ∃e:Nat->Bool,(∀(j:Nat) x y,s[j]?=Zb x->Y[j]?=Zb y->R x y (e j))/\b=((Vj (min s.length Y.length)).all e&&s.length==Y.length):=by
 induction h with
 |nil=>exact#[λO=>Zd,λj x y e=>by simp at e,U]
 |left y Y=>exact#[λO=>Zd,λj x y e=>by simp at e,02]
 |right x s=>exact#[λO=>Zd,λj x y O e=>by simp at e,02]
 |@cons x y s Y b c g _ i=>
  let⟨e,n,m⟩:=i;show#[λj=>match j with | 0=>b | j+1=>e j,λj f a p o=>?_,?_]
  ·cases j with
   |zero=>
    have E:x=f:=↑p
    have u:y=a:=by simpa using o
    subst E u;exact g
   |succ j=>exact n j f a (by assumption) (by assumption)
  have E:min (x::s).length (y::Y).length=min s.length Y.length+1:=by simp[Nat.min_def];split<;>rfl
  have q:((x::s).length==(y::Y).length)=(s.length==Y.length):=02
  rw[E,q,M8,KL,IQ,m,Bool.and_assoc];rfl
def acx(I:Inv X pins σ H s):∀(n:Nat) {A:Yr}{x y:V}{u v:Zh}{b:Bool},Qo X.K H n x y b->RelV x u->RelV y v->A.units+n<Yz->nM A s u v b:=by
 intro n;induction n with
 |zero=>
  intro A x y u v b h E C _;rcases h with⟨fx,fy,rfl⟩|⟨a,rfl,rfl,rfl⟩;{exact kj E C fx fy};cases E;cases C;exact o6 _
 |succ n ih=>
  intro A x y u v b h E C hu;rcases h with h|⟨a,c,q,Y,rfl,rfl,hq,G⟩;{exact ih h E C 00};cases E;cases C;by_cases hac:a=c
  ·subst hac;have hb:b=Zd:=by
    have key:∀{Z w:Za V}{b:Bool},Z=w->RH (Qo X.K H n) Z w b->(∀(j:Nat) z,Z[j]?=Zb z->∀B,Qo X.K H n z z B->B=Zd)->b=Zd:=by
     intro Z w b e G hz;induction G with
     |nil=>rfl
     |left=>cases e
     |right=>cases e
     |cons i _ J=>
      cases e;rw[hz 0 _ U _ i,J U λj z hj B hb=>hz (j+1) z ↑hj B hb];rfl
    have g:∀(n:Nat) z B,Qo X.K H n z z B->B=Zd:=by
     intro n;induction n with
     |zero=>
      intro z B h;rcases h with⟨f,_,rfl⟩|⟨_,_,_,rfl⟩;{exact abU f};rfl
     |succ n ihn=>
      intro z B h;rcases h with h|⟨a,c,q,Y,rfl,e,hq,G⟩;{exact ihn z B h};cases e;have L:q=Y:=by
       rcases hq with⟨i,p⟩|⟨i,p⟩;{exact I.EB i p};exact I.HB i p
      have Q:∀{Z w:Za V}{b:Bool},Z=w->RH (Qo X.K H n) Z w b->b=Zd:=by
       intro Z w b e G;induction G with
       |nil=>rfl
       |left=>cases e
       |right=>cases e
       |cons i _ J=>
        cases e;rw[ihn _ _ i,J U];rfl
      exact Q L G
    have L:q=Y:=by
     rcases hq with⟨i,p⟩|⟨i,p⟩;{exact I.EB i p};exact I.HB i p
    exact key L G λj z hj B hb=>g n z B hb
   subst hb;exact o6 _
  let#[e,he,U]:=G.ans;show nM.of_refs hac ?_;rcases hq with⟨i,p⟩|⟨i,p⟩
  ·let#[us,N,p1,_]:=I.tuple i;let#[w,M,p2,_]:=I.tuple p;have l1:=N.length;have l2:=M.length;have z:=SeqAt.RcAt.tuples (A:=A) (e:=e) (p1) (p2) 00 (λj j1 j2=>?_);{rw[YN,YN,<-l1,<-l2]at z;exact z};simp only[YN]at j1 j2;let#[u,o,E]:=N.get (ZA (show j<q.length by lia));let#[v,m,C]:=M.get (ZA (show j<Y.length by lia));have z1:us[j]=u:=by rw[ZA j1]at o;exact VE o
   have z2:w[j]=v:=by rw[ZA j2]at m;exact VE m
   simp only[N6];rw[z1,z2];exact ih (he j _ _ (ZA (show j<q.length by lia)) (ZA (show j<Y.length by lia))) E C (by change A.units+1+n<Yz;lia)
  let#[us,N,p1,_]:=I.list i;let#[w,M,p2,_]:=I.list p;have l1:=N.length;have l2:=M.length;by_cases hsz:q.length=Y.length
  ·have z:=SeqAt.RcAt.lists (A:=A) (e:=e) p1.isList p2.isList (by simp only[YN];lia) 00 (λj j1 j2=>?_);{rw[YN,<-l1]at z;rw[<-hsz,nu,Lw,MV];exact z};simp only[YN]at j1 j2;let#[u,o,E]:=N.get (ZA (show j<q.length by lia));let#[v,m,C]:=M.get (ZA (show j<Y.length by lia));have z1:us[j]=u:=by rw[ZA j1]at o;exact VE o
   have z2:w[j]=v:=by rw[ZA j2]at m;exact VE m
   simp only[N6];rw[z1,z2];exact ih (he j _ _ (ZA (show j<q.length by lia)) (ZA (show j<Y.length by lia))) E C (by change A.units+1+n<Yz;lia)
  rw[show(q.length==Y.length)=Zi by simpa using hsz,KD];exact SeqAt.RcAt.lists_lengths p1.isList p2.isList (by simp only[YN,bne_iff_ne];lia) 00
def wX(K:ZF)(neg:Bool):R2:=λx y H Q=>∃n a c s Y b,n<=90/\x=.ref a/\y=.ref c/\((YW K H a s/\YW K H c Y)\/(Ya K H a s/\Ya K H c Y))/\RH (Qo K H n) s Y b/\Q (.bl (if neg then !b else b)) H
def EZ(I:Inv X p E H s){A:Yr}{c Y:Za V}{f w:Za Zh}{e:Nat->Bool}(i:ZX c f)(g:ZX Y w)(C:∀(j:Nat) x y,c[j]?=Zb x->Y[j]?=Zb y->Qo X.K H n x y (e j))(B:A.units+1+n<Yz):
  ∀j (N:j<f.toArray.size) (M:j<w.toArray.size),nM A.in1 s f.toArray[j] w.toArray[j] (e j):=by
 intro j m J;have G:=i.length;have L:=g.length;simp only[YN]at m J;let#[u,b,q]:=i.get (ZA (show j<c.length by lia));let#[v,a,o]:=g.get (ZA (show j<Y.length by lia));have Z:f[j]=u:=by rw[ZA m]at b;exact VE b
 have z:w[j]=v:=by rw[ZA J]at a;exact VE a
 simp only[N6];rw[Z,z];exact acx I n (C j _ _ (ZA (show j<c.length by lia)) (ZA (show j<Y.length by lia))) q o B
def acy(hu:X.A.units+100<Yz):Xi X (Xq .Eq) (wX X.K Zi):=by
 intro w s Z H x y v u Q I J G h;let#[n,a,c,o,Y,b,hn,U,U,M,N,q]:=h;cases J;cases G;let#[e,B,U]:=N.ans;rcases M with⟨m,j⟩|⟨m,j⟩;{let#[E,g,i,_]:=I.tuple m;let#[C,f,p,_]:=I.tuple j;show SeqAt.eq_tupleAt (i) (p) 00 (EZ I g f B 00) ?_;rw[YN,YN,<-g.length,<-f.length];exact#[.bl _,H,I,U,q]};let#[E,g,i,_]:=I.list m;let#[C,f,p,_]:=I.list j;have L:=g.length;have l2:=f.length;by_cases z:o.length=Y.length;{show SeqAt.eq_listAt i.isList p.isList (by simp only[YN];lia) 00 (EZ I g f B 00) ?_;rw[<-z,nu,Lw,MV]at q;rw[YN,<-L];exact#[.bl _,H,I,U,q]};rw[show(o.length==Y.length)=Zi by simpa using z,KD]at q;exact SeqAt.eq_list_lengthsAt i.isList p.isList (by simp only[YN,bne_iff_ne];lia) 00 #[.bl Zi,H,I,U,q]
def acz(hu:X.A.units+100<Yz):Xi X (Xq .NotEq) (wX X.K Zd):=by
 intro w s Z H x y v u Q I J G h;let#[n,a,c,o,Y,b,hn,U,U,M,N,q]:=h;cases J;cases G;let#[e,B,U]:=N.ans;rcases M with⟨m,j⟩|⟨m,j⟩;{let#[E,g,i,_]:=I.tuple m;let#[C,f,p,_]:=I.tuple j;show as8 (i) (p) 00 (EZ I g f B 00) _ _ _ _ ?_;rw[YN,YN,<-g.length,<-f.length];exact#[.bl _,H,I,U,q]};let#[E,g,i,_]:=I.list m;let#[C,f,p,_]:=I.list j;have L:=g.length;have l2:=f.length;by_cases z:o.length=Y.length;{show as6 i.isList p.isList (by simp only[YN];lia) 00 (EZ I g f B 00) _ _ _ _ ?_;rw[<-z,nu,Lw,MV]at q;rw[YN,<-L];exact#[.bl _,H,I,U,q]};rw[show(o.length==Y.length)=Zi by simpa using z,KD]at q;exact as7 i.isList p.isList (by simp only[YN,bne_iff_ne];lia) 00 _ _ _ _ #[.bl Zd,H,I,U,q]
def acA(C:Zg)(p:Sp)(s:Za V)(E:St->XK)(t:TA):TE:=λc H Q=>t c H λe b=>∀x a,b x=Zc->b a=Zc->a≠x->
 p (.ref x::(e++s)) (upd (upd b a (.own x)) x (.ins C a [])) (λv f=>v=.non/\Q (.ref x) f) (E c)
def acB(M:Mk X.K C f)(F:ZK X.prog X.w X.K X.mg X.base CX k f fd o y)(L:Xc (k+1) X.A)(Y:Binds X.K fd o ds)(hd:ZX c ds)
  (J:EW CX X E)(I:Inv X p g H s)(r:ZX m b)
  (h:∀x i,H x=Zc->H i=Zc->i≠x->y (.ref x::(m++c)) (upd (upd H i (.own x)) x (.ins C i [])) (λv H2=>v=.non/\Q (.ref x) H2) (E g)):
  Zn (Yn X) X.A (call (.ref C) b) (EP X p g Q) X.xe s:=by
 have q:=h (s.heap.objs.size+1) s.heap.objs.size (I.hok.fresh (UT _)) (I.hok.fresh (ZU _)) (Ys (KS _));have j:=Inv.made (C:=C) I;have n:ZX (V.ref (s.heap.objs.size+1)::(m++c)) (Xa (s.heap.objs.size+1)::(b++ds)):=.cons U (r.append hd);have N:(Xa (s.heap.objs.size+1)::b++ds).length=o.length:=by
  have e:=n.length;rw[F.len _ _ _ _ q]at e;exact e.symm
 show mB (aaF I.Wk M.makes M.init (Wo.mp M.fn) (Lj (F.run _ X.stack _ _ #[Xa (s.heap.objs.size+1)::b,[]] (Xa (s.heap.objs.size+1)::(b++ds)) _ _ (E g) (L.make C b [])
  (j.env0.make C b []) (Y _ (Xa (s.heap.objs.size+1)::b) j.Wk N) n q) λr z a=>?_))
 cases r with
 |error e=>exact J p g _ _ e z j a
 |ok Z=>
  cases Z with
  |ret u=>
   let⟨v,H',I3,B,rfl,G⟩:=j.after a;exact#[B,#[V.ref (s.heap.objs.size+1),H',I3,U,G]]
  |next=>exact Qc a
  |brk=>exact Qc a
  |cont=>exact Qc a
def acC(M:Mk X.K C f)(F:ZK X.prog X.w X.K X.mg X.base N k f fd n m)(u:Xc (k+1) X.A)(z:Gl X x)(y:X.mg x=Zb (.ref C))(B:Binds X.K fd n ds)(hd:ZX g ds)(o:EW N X L)
  (G:QA X (e::E) t)(b:Vd (e::E)=Zd|>1)(c:YV x|>2):QE X (.Call (.Name x p) (e::E) [] pos) (acA C m g L t):=by
 have h:=b;unfold Vd at h;rw[XX]at h;show#[?_];intro a s j H Q I J;exact Lq (EA I z y (u0 I.ok.mod.kin M.kp (Vu (G.get pos a s j H _ I J) λZ s1 Y H1 i r q=>#[i.Wk,acB M F u B hd o i r q]) (Mf h.1) (HV h.2 pos)) c)
def Xc.Da(r:Xc k A):A.units+100<Yz:=by have:=r.un;lia
def acD(r o n:R2)(m j i g:TE):TE:=λa H Q=>m a H λx u=>j a u λy s=>r x y s λz e=>∃k,z=.bl k/\
 (if k=Zd then i a e λw q=>o y w q λZ c=>∃b,Z=.bl b/\(if b=Zd then g a c λf p=>n w f p Q else Q (.bl Zi) c)else Q (.bl Zi) e)
def acE(ho:Xi X (Xq op) r)(j:Xi X (Xq f) r')(i:Xi X (Xq o) g)(ha:PE X a ta)(hb:PE X b tb)(hc:PE X c Y)(hd:PE X d N)
  (hm:nY [op,f,o] [b,c,d]=Zi:=by with_unfolding_all rfl):PE X (.Compare a [op,f,o] [b,c,d] pos) (acD r r' g ta tb Y N):=by
 intro p s e H Q I h;show Compare_chain (ZQ (ha p s e H _ I h) λv s1 Z=>?_) hm;let#[x,H1,I1,r1,q1]:=Z;show chain_link (ZQ (hb p s1 e H1 _ I1 q1) λu s2 Z=>?_);let#[y,H2,I2,g,q2]:=Z;show ZQ (ho p s2 e H2 x y v u _ I2 r1 g q2) λd s3 Z=>?_;let#[z,G,C,r3,k,U,A]:=Z;cases r3;show QY ?_;cases k with
 |false=>exact ite_ff #[.bl Zi,G,C,U,A]
 |true=>
  show ite_tt (chain_link (ZQ (hc p s3 e G _ C A) λw s4 Z=>?_));let#[m,H4,I4,n,q4]:=Z;show ZQ (j p s4 e H4 y m u w _ I4 g n q4) λd' s5 J=>?_;let#[z2,E,B,r5,k2,U,q]:=J;cases r5;show QY ?_;cases k2 with
  |false=>exact ite_ff #[.bl Zi,E,B,U,q]
  |true=>
   show ite_tt (chain_last (ZQ (hd p s5 e E _ B q) λM s6 Z=>?_));let#[L,H6,I6,r6,q6]:=Z;exact i p s6 e H6 m L w M Q I6 n r6 q6
theorem HX(x:Ze):x.length=x.cps.toList.length:=rfl
def OC(x y:Ze):(x++y).cps.toList=x.cps.toList++y.cps.toList:=by
 change(x.cps++y.cps).toList=_;simp
theorem Dc(c:Nat):(#[[c].toArray]:Ze).cps.toList=[c]:=rfl
def HY(a:0<=j)(h:j<=x.cps.toList.length):(Tw x Zc (Zb j)).cps.toList=x.cps.toList.take j.toNat:=by
 have:=eq_of_beq (slice_closes_to #[a,h]);rw[this];simp
def acF(b:0<=i)(a:i<=j)(h:j<=x.cps.toList.length):(Tw x (Zb i) (Zb j)).cps.toList=(x.cps.toList.drop i.toNat).take (j-i).toNat:=by
 have:=eq_of_beq (slice_closes #[b,a,h]);rw[this]
def acG(Z:Za Ze):(Eg "" Z).cps.toList=(Z.map λz=>z.cps.toList).flatten:=by
 change(asm "" Z).cps.toList=_;rw[StrLaws.glued_eq_join];induction Z with
 |nil=>rfl
 |cons a l i=>
  cases l with
  |nil=>simp[Ze.join]
  |cons b r=>
   show((a++("" : Ze))++Ze.join "" (b::r)).cps.toList=_;rw[OC,OC,i];rw[show("" : Ze).cps.toList=[]from rfl];simp
def Jv:LC X "list.append" EL:=wF
def jg:LC X "list.extend" wG:=abq
def acH:LC X "list.pop" wH:=abr
def acI(K:ZF)(e:TE):TI:=λc H R=>e c H λx b=>∃a,x=.ref a/\(((∃s,Ya K b a s)/\R (Itl K a) b)\/((∃s,YW K b a s)/\R (Itt K a) b))
def acJ(E:PE X l y):PI X G l (acI X.K y):=by
 intro f s u H R I h;show ZQ (E f s u H _ I h) λv c z=>?_;let#[x,n,i,B,Q]:=z;let#[a,e,q]:=Q;subst e;cases B;rcases q with⟨⟨w,j⟩,q⟩|⟨⟨w,j⟩,q⟩
 ·let#[g,A,p,C]:=i.list j;show Hx p.isList ?_;show#[c.heap.objs.size,[c.heap.objs.size],_,_,n,U,i.kept λb o e=>ZY _ e,N4 a _,⟨_,YF _ rfl,rfl,rfl⟩,λb m=>?_,q];have e:b=c.heap.objs.size:=by simpa using m
  subst e;exact i.Qn (ZU _) (i.hok.fresh (ZU _))
 let#[g,A,p,C]:=i.tuple j;show arx (p) ?_;show#[c.heap.objs.size,[c.heap.objs.size],_,_,n,U,i.kept λb o e=>ZY _ e,N9 a _,⟨_,YF _ rfl,rfl,rfl⟩,λb m=>?_,q];have e:b=c.heap.objs.size:=by simpa using m
 subst e;exact i.Qn (ZU _) (i.hok.fresh (ZU _))
theorem jh:∀{c:Za String}{u:Za Zh},ZX (c.map V.ty) u->u=c.map NQ
 |[],_,.nil=>rfl
 |_::_,_,.cons r s=>by rw[Xo,jh s];cases r;rfl
def acK(K:ZF):Za V->Hp->VK->Prop:=λx H Q=>∃(a p:Zg) (c:Za String) (b:Bool) (T:String),x=[.ref a,.ref p]/\(((∃y,H a=Zb (.lst y))/\T = "list")\/((∃y,H a=Zb (.tup y))/\T = "tuple"))/\
 H p=Zb (.tup (c.map V.ty))/\xr K (.type T) (c.map NQ)=Zb b/\Q (.bl b) H
def acL:WR X (.builtin "isinstance") (acK X.K):=by
 intro i s M H N Z Q I r h;let#[a,m,cs,b,T,U,C,G,e,q]:=h;let#[u,Y,U,A,x]:=vals2 r;cases A;cases x;let#[_,B,w,ob,j,c,n,hd]:=(I.hok m _ G)
 have L:=jh w;subst L;let#[c0,dd,dt,sl]:=ob;dsimp only at c hd;subst c hd;rcases C with⟨⟨y,E⟩,rfl⟩|⟨⟨y,E⟩,rfl⟩
 ·let#[_,_,n',_,g]:=(I.hok a _ E)
  exact aqK u5 I.Wk #[_,g,U] j e (λz=>nomatch z) λf=>#[.bl b,H,I.tok f,U,q]
 let#[_,_,_,p]:=(I.hok a _ E)
 let#[o,g,J,_]:=p;exact aqK aqN I.Wk #[o,g,J] j e (λz=>nomatch z) λf=>#[.bl b,H,I.tok f,U,q]
structure Mg (K:ZF)(x qual:Ze)(st:ZH)(f:Zg)(fd:ZZ)(ds:List Zh):Prop where
 ex:∃(oc:Zh) (od:Option Zg) (kV doc pm:Zh) (an:Option Zg) (cdv ct:Zh) (osl:Array (Option Zh)) (D:Zg) (o:Yg) (n:Nat),
  fd=SJ x qual (SU st) (Vx st) (ZL st) (.ref D) kV doc pm an cdv ct/\K.lookup f=Zb #[oc,od,.func fd,osl]/\KZ K cdv qual=Zd/\K.lookup D=Zb o/\o.data=.seq ds.toArray n
 kp:RG K f
def Mg.HW{st:ZH}{f:Zg}{fd:ZZ}{ds:Za Zh}{N g:Za Ze}{k:Nat}{p:Sp}(F:Mg K x b st f fd ds)(S:Yh N g (ZL st))(len:∀e H Q E,p e H Q E->e.length=g.length)
  (y:∀(c:Zh) (A:Yr) (a:Za Wf) (s:Zj) (H:Hp) (e:Za V) (Q:VK) (E:XK),Xc k (A.deeper (Sb b (ZL st) s.heap.objs.size f c))->p e H Q E->
   ∃t,QSs (Uu C P w K M base N b (ZL st) f c A a s H E) (Vx st) t/\t {nx:=λO B=>Q .non B,rt:=Q} (start N e) H):ZK P w K M base C (k+1) f fd g p:=by
 let#[G,od,kV,z,pm,J,c,I,m,D,o,n,U,lk,j,_,_]:=F.ex;show wm lk j S len λA a s H e Q E u i=>?_;let#[t,h,q]:=y c A a s H e Q E u i;exact#[t,h.get,q]
def Mg.binds{st:ZH}{ps:Za Ze}(F:Mg K x q st f fd ds)
  (h:∀(D:Zg) (o:Yg) (n:Nat) (kV c pm:Zh) (A:Option Zg) (C a:Zh) (s:Zj) (u:Za Zh),s.heap.get? D=Zb o->o.data=.seq ds.toArray n->(u++ds').length=ps.length->II s (SJ x q (SU st) (Vx st) (ZL st) (.ref D) kV c pm A C a) #[u,[]] (ps.zip (u++ds'))):Binds K fd ps ds':=by
 let#[m,od,kV,c,pm,A,C,a,b,D,o,n,U,lk,i,j,e]:=F.ex;intro s u I g;exact h D o n kV c pm A C a s u (I _ _ j) e g
end L2
namespace MA
def acM(a b:Int):Ul b (a.fmod b)=Ul a b:=by
 rw[Int.fmod_def,Int.gcd_sub_mul_left_right,Int.gcd_comm]
def acN(a b:Int)(h:b≠0):(a.fmod b).natAbs<b.natAbs:=by
 rcases apb h with n|p
 ·have f:(-a).fmod (-b)=-(a.fmod b):=by rw[Int.neg_fmod_neg]
  have c:=ao7 (-a) (show 0 < -b by lia);have e:=ao8 (-a) (show 0 < -b by lia);rw[f]at c e;rw[<-api,<-api b];exact aph e c
 have c:=ao7 a p;exact aph (ao8 a p) c
structure Low (p q:Int):Prop where
 pos:0<q
 cop:Ul p q=1
def wY(h:b≠0):(0:Int)<(Ul a b:Int):=by
 have:Ul a b≠0:=λz=>h (Int.gcd_eq_zero_iff.mp z).2;lia
def acO(g:b≠0)(hd:d=(Ul a b:Int)\/d=-(Ul a b:Int))(s:0<b*d):
  Low (a.fdiv d) (b.fdiv d)/\a.fdiv d*b=a*b.fdiv d/\(a.fdiv d).natAbs<=a.natAbs/\(b.fdiv d).natAbs<=b.natAbs:=by
 have G:=wY (a:=a) g;have e:d≠0:=00
 have n:d.natAbs=Ul a b:=by rcases hd with h|h<;>lia
 have o:d ∣ a:=by
  rcases hd with h|h;{rw[h];exact ao9 a b};rw[h];exact apj.mpr (ao9 a b)
 have m:d ∣ b:=by
  rcases hd with h|h;{rw[h];exact Q0 a b};rw[h];exact apj.mpr (Q0 a b)
 have f:=ao6 o;have E:=ao6 m;show#[#[?_,?_],?_,apg a d,apg b d]
 ·rw[<-E,ape]at s;have c:0<d*d:=by
   rcases apb e with h|h;{exact Int.mul_pos_of_neg_of_neg h h};exact Q4 h h
  exact apl s c
 ·have h:=Int.gcd_mul_right (a.fdiv d) d (b.fdiv d);rw[f,E,n]at h;have j:1*Ul a b=Ul (a.fdiv d) (b.fdiv d)*Ul a b:=by rw[ap9];exact h
  exact(Nat.eq_of_mul_eq_mul_right 00 j).symm
 have:a.fdiv d*b=a.fdiv d*(b.fdiv d*d):=by rw[E]
 rw[this];have i:a*b.fdiv d=a.fdiv d*d*b.fdiv d:=by rw[f]
 rw[i,ape,Int.mul_comm d]
def arH(h:Ul p q=1)(k:q ∣ p*r):q ∣ r:=by
 have b:Nat.Coprime q.natAbs p.natAbs:=by
  change Nat.gcd q.natAbs p.natAbs=1;rw[Nat.gcd_comm];exact h
 have a:q.natAbs ∣ p.natAbs*r.natAbs:=by
  rw[<-Int.natAbs_mul];exact apf.mpr k
 exact apf.mp (b.dvd_of_dvd_mul_left a)
end MA
namespace MA
open L2
end MA
namespace L2
open PySem
end L2
namespace MA
end MA
namespace MA
section
variable {a:Type} [DecidableEq a]
end
end MA
namespace MA
section
variable {a:Type} [DecidableEq a]
end
end MA
namespace L2
inductive D where
 | non | bl (b:Bool) | int (i:Int) | str (x:Ze) | ty (n:String) | rf (a:Zg)
 | tup (xs:List D) | lst (xs:List D) | scr (xs:List D) | obj (C:Zg) (fs:List (Ze×D)) | dic (kvs:List (Zx×D)) | dit (kvs:List (Zu×D)) | exc (C:Zg)
 deriving Inhabited
mutual
def Rp(K:ZF)(H:Hp):D->V->Prop
 |.non,v=>v=.non
 |.bl b,v=>v=.bl b
 |.int i,v=>v=.int i
 |.str x,v=>v=.str x
 |.ty n,v=>v=.ty n
 |.rf a,v=>v=.ref a
 |.tup xs,v=>∃a vs,v=.ref a/\H a=Zb (.tup vs)/\Zw K H xs vs
 |.lst xs,v=>∃a vs,v=.ref a/\H a=Zb (.lst vs)/\Zw K H xs vs
 |.scr xs,v=>∃a vs,v=.ref a/\Ya K H a vs/\Zw K H xs vs
 |.obj C gs,v=>∃a dx fs,v=.ref a/\H a=Zb (.ins C dx fs)/\XZ K H gs fs
 |.dic gs,v=>∃a kvs,v=.ref a/\H a=Zb (.dK kvs)/\WU K H gs kvs
 |.dit gs,v=>∃a kvs,v=.ref a/\H a=Zb (.dT kvs)/\Xz K H gs kvs
 |.exc C,v=>∃a,v=.ref a/\H a=Zb (ab9 a C)
def Zw(K:ZF)(H:Hp):List D->List V->Prop
 |[],vs=>vs=[]
 |d::ds,vs=>∃v us,vs=v::us/\Rp K H d v/\Zw K H ds us
def XZ(K:ZF)(H:Hp):List (Ze×D)->List (Ze×V)->Prop
 |[],fs=>fs=[]
 |(k,d)::gs,fs=>∃v us,fs=(k,v)::us/\Rp K H d v/\XZ K H gs us
def WU(K:ZF)(H:Hp):List (Zx×D)->List (Zx×V)->Prop
 |[],fs=>fs=[]
 |(k,d)::gs,fs=>∃v us,fs=(k,v)::us/\Rp K H d v/\WU K H gs us
def Xz(K:ZF)(H:Hp):List (Zu×D)->List (Zu×V)->Prop
 |[],fs=>fs=[]
 |(k,d)::gs,fs=>∃v us,fs=(k,v)::us/\Rp K H d v/\Xz K H gs us
end
def YW.same(e:Zv H b)(h:YW K H a x):YW K b a x:=by
 rcases h with (h|⟨o,h⟩)|h;{exact .inl (.inl (e _ _ h))};{exact .inl (.inr #[o,e _ _ h])};exact .inr h
mutual
theorem Rp.same(s:Zv H H'):∀(d:D) {v:V},Rp K H d v->Rp K H' d v
 |.non | .bl _ | .int _ | .str _ | .ty _ | .rf _=>λh=>h
 |.tup xs | .lst xs=>λh=>by let#[a,vs,e,h1,h2]:=h;exact#[a,vs,e,s _ _ h1,Zw.same s xs h2]
 |.scr xs=>λh=>by let#[a,vs,e,h1,h2]:=h;exact#[a,vs,e,s.seq h1,Zw.same s xs h2]
 |.obj _ gs=>λh=>by let#[a,dx,fs,e,h1,h2]:=h;exact#[a,dx,fs,e,s _ _ h1,XZ.same s gs h2]
 |.dic gs=>λh=>by let#[a,fs,e,h1,h2]:=h;exact#[a,fs,e,s _ _ h1,WU.same s gs h2]
 |.dit gs=>λh=>by let#[a,fs,e,h1,h2]:=h;exact#[a,fs,e,s _ _ h1,Xz.same s gs h2]
 |.exc _=>λh=>by let#[a,e,h1]:=h;exact#[a,e,s _ _ h1]
theorem Zw.same(s:Zv H H'):∀(ds:List D) {vs:List V},Zw K H ds vs->Zw K H' ds vs
 |[],_,h=>h
 |d::ds,_,⟨v,us,e,h1,h2⟩=>#[v,us,e,Rp.same s d h1,Zw.same s ds h2]
theorem XZ.same(s:Zv H H'):∀(ds:List (Ze×D)) {vs:List (Ze×V)},XZ K H ds vs->XZ K H' ds vs
 |[],_,h=>h
 |(k,d)::ds,_,⟨v,us,e,h1,h2⟩=>#[v,us,e,Rp.same s d h1,XZ.same s ds h2]
theorem WU.same(s:Zv H H'):∀(ds:List (Zx×D)) {vs:List (Zx×V)},WU K H ds vs->WU K H' ds vs
 |[],_,h=>h
 |(k,d)::ds,_,⟨v,us,e,h1,h2⟩=>#[v,us,e,Rp.same s d h1,WU.same s ds h2]
theorem Xz.same(s:Zv H H'):∀(ds:List (Zu×D)) {vs:List (Zu×V)},Xz K H ds vs->Xz K H' ds vs
 |[],_,h=>h
 |(k,d)::ds,_,⟨v,us,e,h1,h2⟩=>#[v,us,e,Rp.same s d h1,Xz.same s ds h2]
end
noncomputable def HO.isT:HO->Bool
 |.tup _=>Zd
 |_=>Zi
def Ta(H:Hp)(b:Zg):Prop:=∃o,H b=Zb o/\o.isT=Zi
def Ta.go(n:Ta H b)(s:Zv H a):Ta a b:=by
 let#[o,h,t]:=n;exact#[o,s _ _ h,t]
def Ta.no(n:Ta H b)(h:H b=Zc):False:=by
 let#[o,z,t]:=n;rw[h]at z;cases z
def Ta.ne(n:Ta H b)(h:H p=Zc):b≠p:=λe=>n.no (e▸h)
def Vi(h:H b=Zb o)(t:o.isT=Zi|>1):Ta H b:=#[o,h,t]
structure YD (H0 H H0' H':Hp):Prop where
 s:Zv H H'
 s0:Zv H0 H0'
 sub:Zv H0' H'
 new:∀b,H0 b=Zc->Ta H b->H0' b=Zc
theorem YD.refl(h:Zv a H):YD a H a H:=#[.refl _,.refl _,h,λO z O=>z]
theorem YD.trans(a:YD j H i g)(b:YD i g f e):YD j H f e:=
 #[a.s.trans b.s,a.s0.trans b.s0,b.sub,λc z n=>b.new c (a.new c z n) (n.go a.s)]
def YD.grow(h:Zv a H)(s:Zv H b):YD a H a b:=#[s,.refl _,h.trans s,λO z O=>z]
def YD.put(h:Zv f H)(a:H p=Zc):YD f H (upd f p o) (upd H p o):=by
 show#[Zv.upd a,Zv.upd (h.free a),λb u e=>?_,λb z n=>?_];{by_cases c:b=p;{subst c;rw[YQ]at e⊢;exact e};rw[ZN c]at e⊢;exact h _ _ e};rw[ZN (n.ne a)];exact z
inductive MO where
 | lst (xs:List D) | dic (kvs:List (Zx×D)) | dit (kvs:List (Zu×D)) | ins (C dx:Zg) (fs:List (Ze×D))
abbrev Mu:=Za (Zg×MO)
def RJ(K:ZF)(a:Hp):MO->HO->Prop
 |.lst x,o=>∃b,o=.lst b/\Zw K a x b
 |.dic g,o=>∃s,o=.dK s/\WU K a g s
 |.dit g,o=>∃s,o=.dT s/\Xz K a g s
 |.ins C c g,o=>∃fs,o=.ins C c fs/\XZ K a g fs
theorem RJ.same(s:Zv c b)(h:RJ K c m o):RJ K b m o:=by
 cases m with|lst x=>let⟨a,e,r⟩:=h;exact#[a,e,r.same s]|dic x=>let⟨a,e,r⟩:=h;exact#[a,e,r.same s]|dit x=>let⟨a,e,r⟩:=h;exact#[a,e,r.same s]|ins C f x=>let⟨a,e,r⟩:=h;exact#[a,e,r.same s]
def RJ.nt(h:RJ K b m o):o.isT=Zi:=by
 cases m with|lst x=>let⟨s,rfl,r⟩:=h;rfl|dic x=>let⟨s,rfl,r⟩:=h;rfl|dit x=>let⟨s,rfl,r⟩:=h;rfl|ins C a x=>let⟨s,rfl,r⟩:=h;rfl
inductive Slot where
 | un | v (d:D) | own (xs:List D) | ob (a dx C:Zg) (fs:List (Ze×D)) | od (kvs:List (Zx×D)) | on (kvs:List (Zu×D)) | st (a:Zg) (μ:Mu)
abbrev ZG:=Za Slot
noncomputable def Slot.isOwn:Slot->Bool
 |.own _=>Zd
 |.ob _ _ _ _=>Zd
 |.od _=>Zd
 |.on _=>Zd
 |.st _ _=>Zd
 |_=>Zi
def Slot.foot:Slot->Option V->Zg->Prop
 |.own _,o,b=>o=Zb (.ref b)
 |.ob _ _ _ _,o,b=>o=Zb (.ref b)
 |.od _,o,b=>o=Zb (.ref b)
 |.on _,o,b=>o=Zb (.ref b)
 |.st _ a,_,b=>∃m,a.lookup b=Zb m
 |_,_,_=>False
def Slot.Pm{s:Slot}(h:s.foot o b):s.isOwn=Zd:=by
 cases s with|un=>exact h.elim|v d=>exact h.elim|_=>rfl
def Mh(K:ZF)(c H:Hp):Slot->Option V->Prop
 |.un,_=>True
 |.v d,o=>∃v,o=Zb v/\Rp K c d v
 |.own x,o=>∃a e,o=Zb (.ref a)/\c a=Zc/\H a=Zb (.lst e)/\Zw K c x e
 |.ob a i C g,o=>∃fs,o=Zb (.ref a)/\c a=Zc/\H a=Zb (.ins C i fs)/\XZ K c g fs
 |.od g,o=>∃a s,o=Zb (.ref a)/\c a=Zc/\H a=Zb (.dK s)/\WU K c g s
 |.on g,o=>∃a s,o=Zb (.ref a)/\c a=Zc/\H a=Zb (.dT s)/\Xz K c g s
 |.st a f,o=>o=Zb (.ref a)/\∀b m,f.lookup b=Zb m->c b=Zc/\∃u,H b=Zb u/\RJ K c m u
structure Zy (K:ZF)(B0 B H0 H:Hp)(σ:St)(ds:ZG):Prop where
 ext:YD B0 B H0 H
 slot:∀(i:Nat) s,ds[i]?=Zb s->Mh K H0 H s ((σ[i]?).getD Zc)
 young:∀(i:Nat) s a,ds[i]?=Zb s->s.foot ((σ[i]?).getD Zc) a->B a=Zc
 sep:∀(i j:Nat) s t a,i≠j->ds[i]?=Zb s->ds[j]?=Zb t->s.foot ((σ[i]?).getD Zc) a->t.foot ((σ[j]?).getD Zc) a->False
 len:σ.length=ds.length
section
variable {G B E p I:Hp}{A:St}{ds:ZG}
def Mh.ext(h:Mh K E H s o)(e:YD E H p I):Mh K p I s o:=by
 cases s with
 |un=>trivial
 |v d=>let⟨v,i,f⟩:=h;exact#[v,i,f.same e.s0]
 |own x=>
  let⟨a,n,i,f,c,g⟩:=h;exact#[a,n,i,e.new a f (Vi c),e.s _ _ c,g.same e.s0]
 |ob a w C j=>
  let⟨fs,i,f,c,g⟩:=h;exact#[fs,i,e.new a f (Vi c),e.s _ _ c,g.same e.s0]
 |od j=>
  let⟨a,fs,i,f,c,g⟩:=h;exact#[a,fs,i,e.new a f (Vi c),e.s _ _ c,g.same e.s0]
 |on j=>
  let⟨a,fs,i,f,c,g⟩:=h;exact#[a,fs,i,e.new a f (Vi c),e.s _ _ c,g.same e.s0]
 |st a q=>
  show#[h.1,λb m l=>?_];let#[f,u,c,g]:=h.2 b m l;exact#[e.new b f (Vi c g.nt),u,e.s _ _ c,g.same e.s0]
theorem Zy.sub(c:Zy K G B E H A ds):Zv E H:=c.ext.sub
def Zy.go(c:Zy K G B E H A ds)(e:YD E H p I):Zy K G B p I A ds:=
 #[c.ext.trans e,λi s q=>(c.slot i s q).ext e,c.young,c.sep,c.len]
def wZ(h:i<A.length)(j:Nat):((A.set i o)[j]?).getD Zc=if j=i then o else (A[j]?).getD Zc:=by
 by_cases e:j=i;{subst e;rw[Zt U,FR h];rfl};rw[Zq e,KN (λz=>e z.symm)]
def VQ(h:i<ds.length)(j:Nat):(ds.set i s)[j]?=if j=i then Zb s else ds[j]?:=by
 by_cases e:j=i;{subst e;rw[Zt U,FR h]};rw[Zq e,KN (λz=>e z.symm)]
def vc{l:Za b}(h:¬i<l.length):l.set i a=l:=List.set_eq_of_length_le (SH h)
def Zy.Mi(c:Zy K G B E H A ds){i:Nat}(q:ds[i]?=Zb s)(f:s.foot ((A[i]?).getD Zc) a):E a=Zc/\H a≠Zc:=by
 have h:=c.slot i s q;cases s with
 |own x=>
  let⟨b,y,j,g,e,n⟩:=h;have f:_=_:=f;rw[j]at f;cases f;exact#[g,by rw[e];simp]
 |ob b z C o=>
  let⟨fs,j,g,e,n⟩:=h;have f:_=_:=f;rw[j]at f;cases f;exact#[g,by rw[e];simp]
 |od o=>
  let⟨b,fs,j,g,e,n⟩:=h;have f:_=_:=f;rw[j]at f;cases f;exact#[g,by rw[e];simp]
 |on o=>
  let⟨b,fs,j,g,e,n⟩:=h;have f:_=_:=f;rw[j]at f;cases f;exact#[g,by rw[e];simp]
 |st b w=>
  let⟨m,l⟩:=f;let#[g,u,e,n]:=h.2 _ _ l;exact#[g,by rw[e];simp]
 |un=>exact f.elim
 |v d=>exact f.elim
set_option tactic.hygienic true in
def Zy.lay(c:Zy K G B E H A ds)(i:Nat)(h:Mh K E H s o)(f:∀a,s.foot o a->B a=Zc)(e:∀a (j:Nat) t,j≠i->ds[j]?=Zb t->s.foot o a->t.foot ((A[j]?).getD Zc) a->False):Zy K G B E H (A.set i o) (ds.set i s):=by
 by_cases hi:i<ds.length;case neg=>
  rw[vc hi,vc (by rw[c.len];exact hi)];exact c
 have b:i<A.length:=by rw[c.len];exact hi
 show#[c.ext,λj t q=>?_,λj t a q w=>?_,λj k t u a ne q r w x=>?_,by rw[KO,KO];exact c.len];{rw[VQ hi]at q;rw[wZ b];split at q;{cases q;rw[Zt (by assumption)];exact h};rw[Zq (by assumption)];exact c.slot j t q};{rw[VQ hi]at q;rw[wZ b]at w;split at q;{cases q;rw[Zt (by assumption)]at w;exact f a w};rw[Zq (by assumption)]at w;exact c.young j t a q w};rw[VQ hi]at q r;rw[wZ b]at w x;split at q;{rename_i z;cases q;rw[Zt z]at w;have n:k≠i:=λy=>ne (z.trans y.symm);rw[Zq n]at r x;exact e a k u n r w x};rename_i z;rw[Zq z]at w;split at r;{rename_i y;cases r;rw[Zt y]at x;exact e a j t z q x w};rename_i y;rw[Zq y]at x;exact c.sep j k t u a ne q r w x
def Zy.ji(c:Zy K G B E H A ds)(i:Nat){s:Slot}(b:s.isOwn=Zi)(h:Mh K E H s o):Zy K G B E H (A.set i o) (ds.set i s):=
 c.lay i h (λa f=>by rw[Slot.Pm f]at b;cases b) λa j t O O f=>by rw[Slot.Pm f]at b;cases b
def Zy.vd(c:Zy K G B E H A ds)(i:Nat)(h:Rp K E d v):Zy K G B E H (A.set i (Zb v)) (ds.set i (.v d)):=c.ji i U #[v,U,h]
def Zy.Dd(c:Zy K G B E H A ds)(i:Nat){a:Zg}(e:YD E H p I)(n:H a=Zc)(N:p a=Zc)(h:I a=Zb (.lst m))(r:Zw K p x m):Zy K G B p I (A.set i (Zb (.ref a))) (ds.set i (.own x)):=by
 show(c.go e).lay i #[a,m,U,N,h,r] (λb f=>?_) λb j t O q f g=>?_;{have f:Zb (V.ref a)=Zb (V.ref b):=f;cases f;exact c.ext.s.free n};have f:Zb (V.ref a)=Zb (V.ref b):=f;cases f;exact(c.Mi q g).2 n
def Zy.acP(c:Zy K G B E H A ds)(i:Nat){a:Zg}(e:YD E H p I)(n:H a=Zc)(N:p a=Zc)(h:I a=Zb (.dT m))(r:Xz K p x m):Zy K G B p I (A.set i (Zb (.ref a))) (ds.set i (.on x)):=by
 show(c.go e).lay i #[a,m,U,N,h,r] (λb f=>?_) λb j t O q f g=>?_;{have f:Zb (V.ref a)=Zb (V.ref b):=f;cases f;exact c.ext.s.free n};have f:Zb (V.ref a)=Zb (V.ref b):=f;cases f;exact(c.Mi q g).2 n
set_option tactic.hygienic true in
def Zy.write(c:Zy K G B E H A ds){i:Nat}(q:ds[i]?=Zb s)(f:s.foot ((A[i]?).getD Zc) a)(Y:∀b,s'.foot ((A[i]?).getD Zc) b->s.foot ((A[i]?).getD Zc) b)
  (h:Mh K E (upd H a o) s' ((A[i]?).getD Zc)):Zy K G B E (upd H a o) A (ds.set i s'):=by
 have hi:=(YM.mp q).1;let#[h0,hn]:=c.Mi q f;have hB:=c.young i s a q f;show#[⟨λb u z=>?_,c.ext.s0,λb u z=>?_,c.ext.new⟩,λj t r=>?_,λj t b r x=>?_,λj k t u b L r y x z=>?_,by rw[KO];exact c.len];{rw[ZN (λy=>by rw[y,hB]at z;cases z)];exact c.ext.s _ _ z};{rw[ZN (λy=>by rw[y,h0]at z;cases z)];exact c.sub _ _ z}
 ·rw[VQ hi]at r;split at r;{cases r;rename_i z;rw[z];exact h};rename_i z;have old:=c.slot j t r;have N:∀b,t.foot ((A[j]?).getD Zc) b->b≠a:=λb x y=>c.sep j i t s a z r q (y▸x) f;cases t with
  |un=>trivial
  |v d=>exact old
  |own xs=>
   let⟨b,J,e,w,n,g⟩:=old;exact#[b,J,e,w,by rw[ZN (N b e)];exact n,g]
  |ob b dx C Z=>
   let⟨J,e,w,n,g⟩:=old;exact#[J,e,w,by rw[ZN (N b e)];exact n,g]
  |od Z=>
   let⟨b,J,e,w,n,g⟩:=old;exact#[b,J,e,w,by rw[ZN (N b e)];exact n,g]
  |on Z=>
   let⟨b,J,e,w,n,g⟩:=old;exact#[b,J,e,w,by rw[ZN (N b e)];exact n,g]
  |st b μ=>
   show#[old.1,λb' m l=>?_];let#[w,u,n,g]:=old.2 b' m l;exact#[w,u,by rw[ZN (N b' #[m,l])];exact n,g]
 {rw[VQ hi]at r;split at r;{rename_i z;cases r;rw[z]at x;exact c.young i s b q (Y b x)};exact c.young j t b r x};rw[VQ hi]at r y;split at r;{rename_i Q;cases r;rw[Zq (λM=>L (Q.trans M.symm))]at y;rw[Q]at x;exact c.sep i k s u b (Q▸L) q y (Y b x) z};split at y;{rename_i M;cases y;rw[M]at z;exact c.sep j i t s b (M▸L) r q x (Y b z)};exact c.sep j k t u b L r y x z
def Zy.push(c:Zy K G B E H A ds)(q:ds[i]?=Zb (.own x)):∃a s,(A[i]?).getD Zc=Zb (.ref a)/\H a=Zb (.lst s)/\Zw K E x s/\
  ∀p I u,YD E H p I->Zw K p ys u->Zy K G B p (upd I a (.lst u)) A (ds.set i (.own ys)):=by
 let#[a,s,g,n,j,m]:=c.slot i _ q;exact#[a,s,g,j,m,λp I u e r=>(c.go e).write q g (λb f=>f) #[a,u,g,e.new a n (Vi j),YQ,r]]
def Zy.acQ(c:Zy K G B E H A ds)(q:ds[i]?=Zb (.on x)):∃a s,(A[i]?).getD Zc=Zb (.ref a)/\H a=Zb (.dT s)/\Xz K E x s/\
  ∀p I u,YD E H p I->Xz K p y u->Zy K G B p (upd I a (.dT u)) A (ds.set i (.on y)):=by
 let#[a,s,g,n,j,m]:=c.slot i _ q;exact#[a,s,g,j,m,λp I u e r=>(c.go e).write q g (λb f=>f) #[a,u,g,e.new a n (Vi j),YQ,r]]
end
noncomputable def Slot.peek:Slot->Slot
 |.own x=>.v (.lst x)
 |.od a=>.v (.dic a)
 |.on a=>.v (.dit a)
 |s=>s
mutual
def D.Mj:D->Bool
 |.tup xs=>D.Sq xs
 |.obj _ fs=>D.De fs
 |.lst _=>Zi
 |.scr _=>Zi
 |.dic _=>Zi
 |.dit _=>Zi
 |_=>Zd
def D.Sq:List D->Bool
 |[]=>Zd
 |d::ds=>d.Mj&&D.Sq ds
def D.De:List (Ze×D)->Bool
 |[]=>Zd
 |(_,d)::ds=>d.Mj&&D.De ds
end
section
variable {H0 H1:Hp}
def OD(H0 H1:Hp):Prop:=∀b o,H1 b=Zb o->H0 b=Zb o\/(H0 b=Zc/\((∃a,o=.lst a)\/(∃s,o=.dK s)\/∃s,o=.dT s))
mutual
theorem Rp.less(l:OD H0 H1):∀(d:D) {v:V},d.Mj=Zd->Rp K H1 d v->Rp K H0 d v
 |.non | .bl _ | .int _ | .str _ | .ty _ | .rf _=>λO h=>h
 |.tup xs=>λz h=>by
  let#[a,vs,e,h1,h2]:=h
  show#[a,vs,e,?_,Zw.less l xs z h2]
  rcases l _ _ h1 with y|⟨_,⟨us,y⟩|⟨us,y⟩|⟨us,y⟩⟩
  ·exact y
  ·cases y
  ·cases y
  ·cases y
 |.lst _ | .scr _ | .dic _ | .dit _=>λz O=>(XQ z).elim
 |.obj _ gs=>λz h=>by
  let#[a,dx,fs,e,h1,h2]:=h
  show#[a,dx,fs,e,?_,XZ.less l gs z h2]
  rcases l _ _ h1 with y|⟨_,⟨us,y⟩|⟨us,y⟩|⟨us,y⟩⟩
  ·exact y
  ·cases y
  ·cases y
  ·cases y
 |.exc _=>λO h=>by
  let#[a,e,h1]:=h
  show#[a,e,?_]
  rcases l _ _ h1 with y|⟨_,⟨us,y⟩|⟨us,y⟩|⟨us,y⟩⟩
  ·exact y
  ·cases y
  ·cases y
  ·cases y
theorem Zw.less(l:OD H0 H1):∀(ds:List D) {vs:List V},D.Sq ds=Zd->Zw K H1 ds vs->Zw K H0 ds vs
 |[],_,_,h=>h
 |d::ds,_,z,⟨v,us,e,h1,h2⟩=>by
  unfold D.Sq at z
  rw[XX]at z
  exact#[v,us,e,Rp.less l d z.1 h1,Zw.less l ds z.2 h2]
theorem XZ.less(l:OD H0 H1):∀(ds:List (Ze×D)) {vs:List (Ze×V)},D.De ds=Zd->XZ K H1 ds vs->XZ K H0 ds vs
 |[],_,_,h=>h
 |(k,d)::ds,_,z,⟨v,us,e,h1,h2⟩=>by
  unfold D.De at z
  rw[XX]at z
  exact#[v,us,e,Rp.less l d z.1 h1,XZ.less l ds z.2 h2]
end
end
noncomputable def peekAt(p:Za Nat)(ds:ZG):ZG:=p.foldl (λds i=>ds.modify i Slot.peek) ds
section
variable {A B g p E:Hp}{w:St}{ds:ZG}
set_option tactic.hygienic true in
def Zy.Ua(c:Zy K A B g H w ds){i:Nat}(q:ds[i]?=Zb s)(e1:(w[i]?).getD Zc=Zb (.ref a))(f:s.foot ((w[i]?).getD Zc) a)(h2:H a=Zb o)(hr:Rp K (upd g a o) d (.ref a)):
  Zy K A B (upd g a o) H w (ds.set i (.v d))/\Zv g (upd g a o):=by
 have hi:=(YM.mp q).1;let#[h1,hn]:=c.Mi q f;have e:Zv g (upd g a o):=Zv.upd h1;have hB:=c.young i _ a q f;have L:Zv (upd g a o) H:=λb o' z=>by
  by_cases M:b=a;{subst M;rw[YQ]at z;rw[h2];exact z};rw[ZN M]at z;exact c.sub _ _ z
 show#[#[⟨c.ext.s,c.ext.s0.trans e,L,λb z n=>?_⟩,λj t r=>?_,λj t b r x=>?_,λj k t u b nj r y x z=>?_,by rw[KO];exact c.len],e];{rw[ZN (n.ne hB)];exact c.ext.new b z n}
 ·rw[VQ hi]at r;split at r;{rename_i z;cases r;rw[z,e1];exact#[.ref a,U,hr]};rename_i z;have old:=c.slot j t r;have N:∀b,t.foot ((w[j]?).getD Zc) b->b≠a:=λb x y=>c.sep j i t _ a z r q (y▸x) f;cases t with
  |un=>trivial
  |v d=>let⟨v,z1,Z⟩:=old;exact#[v,z1,Z.same e]
  |own ys=>
   let⟨b,G,f1,f2,J,I⟩:=old;exact#[b,G,f1,by rw[ZN (N b f1)];exact f2,J,I.same e]
  |ob b dx C Q=>
   let⟨G,f1,f2,J,I⟩:=old;exact#[G,f1,by rw[ZN (N b f1)];exact f2,J,I.same e]
  |od Q=>
   let⟨b,G,f1,f2,J,I⟩:=old;exact#[b,G,f1,by rw[ZN (N b f1)];exact f2,J,I.same e]
  |on Q=>
   let⟨b,G,f1,f2,J,I⟩:=old;exact#[b,G,f1,by rw[ZN (N b f1)];exact f2,J,I.same e]
  |st b μ=>
   show#[old.1,λY m l=>?_];let#[g1,u,g2,g3]:=old.2 Y m l;exact#[by rw[ZN (N Y #[m,l])];exact g1,u,g2,g3.same e]
 {rw[VQ hi]at r;split at r;{cases r;exact x.elim};exact c.young j t b r x};rw[VQ hi]at r y;split at r;{cases r;exact x.elim};split at y;{cases y;exact z.elim};exact c.sep j k t u b nj r y x z
set_option tactic.hygienic true in
def Zy.peek1(c:Zy K A B g H w ds)(i:Nat):∃x,Zy K A B x H w (ds.modify i Slot.peek)/\Zv g x/\OD g x/\∀b,x b≠Zc->g b=Zc->H b≠Zc:=by
 have f:ds.modify i Slot.peek=ds->∃x,Zy K A B x H w (ds.modify i Slot.peek)/\Zv g x/\OD g x/\∀b,x b≠Zc->g b=Zc->H b≠Zc:=λe=>
  #[g,by rw[e];exact c,.refl _,λb o z=>.inl z,λb z y=>ZJ y z]
 cases q:ds[i]? with
 |none=>exact f (List.modify_eq_self (List.getElem?_eq_none_iff.mp q))
 |some s=>
  have em:ds.modify i Slot.peek=ds.set i s.peek:=by
   show FO λj=>?_;have hi:=(YM.mp q).1;by_cases z:i=j;{subst z;simp[hi,(YM.mp q).2]};simp[z]
  have hi:=(YM.mp q).1;have same:s.peek=s->ds.modify i Slot.peek=ds:=λe=>by
   rw[em,e];show FO λj=>?_;rw[VQ hi];split;{rename_i z;rw[z,q]};rfl
  have fin:∀{a:Zg}{o:HO},H a=Zb o->g a=Zc->((∃I,o=.lst I)\/(∃J,o=.dK J)\/∃J,o=.dT J)->OD g (upd g a o)/\∀b,(upd g a o) b≠Zc->g b=Zc->H b≠Zc:=by
   intro a o m n ho;show#[λb u z=>?_,λb z y=>?_];{by_cases Y:b=a;{subst Y;rw[YQ]at z;cases z;exact .inr #[n,ho]};rw[ZN Y]at z;exact .inl z};by_cases Y:b=a;{subst Y;rw[m];simp};rw[ZN Y]at z;exact ZJ y z
  cases s with
  |un=>exact f (same U)
  |v d=>exact f (same U)
  |ob a dx C gs=>exact f (same U)
  |st a μ=>exact f (same U)
  |own L=>
   let⟨a,I,G,n,m,Z⟩:=c.slot i _ q;let#[c1,M]:=c.Ua (d:=.lst L) q G G m #[a,I,U,YQ,Z.same (Zv.upd n)];let#[Q,N]:=fin m n (.inl #[_,U]);exact#[_,by rw[em];exact c1,M,Q,N]
  |od L=>
   let⟨a,I,G,n,m,Z⟩:=c.slot i _ q;let#[c1,M]:=c.Ua (d:=.dic L) q G G m #[a,I,U,YQ,Z.same (Zv.upd n)];let#[Q,N]:=fin m n (.inr (.inl #[_,U]));exact#[_,by rw[em];exact c1,M,Q,N]
  |on L=>
   let⟨a,I,G,n,m,Z⟩:=c.slot i _ q;let#[c1,M]:=c.Ua (d:=.dit L) q G G m #[a,I,U,YQ,Z.same (Zv.upd n)];let#[Q,N]:=fin m n (.inr (.inr #[_,U]));exact#[_,by rw[em];exact c1,M,Q,N]
theorem Zy.peekAt(c:Zy K A B g H w ds)(f:Za Nat):∃a,Zy K A B a H w (peekAt f ds)/\Zv g a/\OD g a/\∀b,a b≠Zc->g b=Zc->H b≠Zc:=by
 induction f generalizing g ds with
 |nil=>exact#[g,c,.refl _,λb o z=>.inl z,λb z y=>ZJ y z]
 |cons i f I=>
  let⟨a,u,s,m,N⟩:=c.peek1 i;let#[x,C,j,L,n]:=I u;show#[x,C,s.trans j,λb o z=>?_,λb z y=>?_];{rcases L b o z with y|⟨y,e⟩;{exact m b o y};exact .inr #[s.free y,e]};by_cases q:a b=Zc;{exact n b z q};exact N b q y
set_option tactic.hygienic true in
def YD.OG(e:YD c H p E)(s:Zv g c)(sub:Zv g H)(l:OD g c)(n:∀b,c b≠Zc->g b=Zc->H b≠Zc):∃a,YD g H a E/\OD a p/\Zv a p:=by
 show#[λb=>if g b=Zc/\c b≠Zc then Zc else p b,⟨e.s,λb o z=>?_,λb o z=>?_,λb z y=>?_⟩,λb o z=>?_,λb o z=>?_];{change(if _ then Zc else p b)=_;rw[Zq (λy=>by rw[z]at y;cases y.1)];exact e.s0 _ _ (s _ _ z)};{have z:=z;split at z;{cases z};exact e.sub _ _ z};{change(if _ then Zc else p b)=_;split;{rfl};rename_i q;show e.new b ?_ y;cases r:c b with|none=>rfl|some o=>exact ZJ #[z,by rw[r];simp] q}
 ·show(if _ then Zc else p b)=_\/(if _ then Zc else p b)=_/\_;split
  ·rename_i q;right;show#[U,?_];cases r:c b with
   |none=>exact ZJ r q.2
   |some u=>
    rcases l b u r with y|⟨_,y⟩;{rw[q.1]at y;cases y};have:=e.s0 _ _ r;rw[z]at this;cases this;exact y
  exact .inl z
 have z:(if g b=Zc/\c b≠Zc then Zc else p b)=Zb o:=z;split at z;{cases z};exact z
end
abbrev DE:=ZG->(D->Prop)->(Zg->Prop)->Prop
abbrev DT:=ZG->(Bool->Prop)->(Zg->Prop)->Prop
abbrev DA:=ZG->(Za D->Prop)->(Zg->Prop)->Prop
abbrev DO:=ZG->(Option Int->Prop)->(Zg->Prop)->Prop
abbrev KE(K:ZF)(c H:Hp)(q:D->Prop)(Q:VK):Prop:=∀v d a b,YD c H a b->Rp K a d v->q d->Q v b
abbrev KX(E:St->XK)(b:St)(H:Hp)(x:Zg->Prop):Prop:=∀C a,Zv H a->x C->E b (.ref C) Zc a
def KX.go(k:KX E a H x)(s:Zv H c):KX E a c x:=λC e b h=>k C e (s.trans b) h
def KE.go(k:KE K f H q Q)(e:YD f H c b):KE K c b q Q:=λv d a g E r h=>k v d a g (e.trans E) r h
def SD(K:ZF)(E:St->XK)(e:TE)(c:DE):Prop:=∀{f B b H:Hp}{a:St}{ds:ZG}{q:D->Prop}{x:Zg->Prop}{Q:VK},Zy K f B b H a ds->c ds q x->KE K b H q Q->KX E a H x->e a H Q
def Pn(K:ZF)(E:St->XK)(g:TT)(i:DT):Prop:=∀{j B e H:Hp}{a:St}{ds:ZG}{q:Bool->Prop}{x:Zg->Prop}{Q:Bool->Hp->Prop},Zy K j B e H a ds->i ds q x->(∀b c f,YD e H c f->q b->Q b f)->KX E a H x->g a H Q
def vf(K:ZF)(E:St->XK)(g:TA)(i:DA):Prop:=∀{j B e H:Hp}{b:St}{ds:ZG}{q:Za D->Prop}{x:Zg->Prop}{Q:Za V->Hp->Prop},Zy K j B e H b ds->i ds q x->(∀c s a f,YD e H a f->Zw K a s c->q s->Q c f)->KX E b H x->g b H Q
def acR(K:ZF)(E:St->XK)(f:TO)(g:DO):Prop:=∀{j B c H:Hp}{a:St}{ds:ZG}{q:Option Int->Prop}{x:Zg->Prop}{Q:Option Int->Hp->Prop},Zy K j B c H a ds->g ds q x->(∀i b e,YD c H b e->q i->Q i e)->KX E a H x->f a H Q
structure JE (X:Cx)(XE:St->XK)(e:ZE)(de:DE):Prop where
 ex:∃te,PE X e te/\SD X.K XE te de
structure JT (X:Cx)(XE:St->XK)(e:ZE)(de:DT):Prop where
 ex:∃te,PT X e te/\Pn X.K XE te de
structure JW (X:Cx)(XE:St->XK)(e:ZE)(de:DT):Prop where
 ex:∃te,PW X e te/\Pn X.K XE te de
structure WV (X:Cx)(XE:St->XK)(es:List ZE)(de:DA):Prop where
 ex:∃te,PA X es te/\vf X.K XE te de
structure JO (X:Cx)(XE:St->XK)(e:Option ZE)(de:DO):Prop where
 ex:∃te,PO X e te/\acR X.K XE te de
def sV:Option Slot->(D->Prop)->Prop
 |some (.v d),q=>q d
 |_,_=>False
def acS(h:sV s q):∃d,s=Zb (.v d)/\q d:=by
 unfold sV at h;split at h;{exact#[_,U,h]};exact h.elim
def sO:Option Slot->(Za D->Prop)->Prop
 |some (.own d),q=>q d
 |_,_=>False
def Df(h:sO s q):∃d,s=Zb (.own d)/\q d:=by
 unfold sO at h;split at h;{exact#[_,U,h]};exact h.elim
def sS:Option Slot->(Zg->Mu->Prop)->Prop
 |some (.st a b),q=>q a b
 |_,_=>False
def Dg(h:sS s q):∃a b,s=Zb (.st a b)/\q a b:=by
 unfold sS at h;split at h;{exact#[_,_,U,h]};exact h.elim
def aB:D->(Bool->Prop)->Prop
 |.bl b,q=>q b
 |_,_=>False
def HZ(h:aB d q):∃b,d=.bl b/\q b:=by
 unfold aB at h;split at h;{exact#[_,U,h]};exact h.elim
def aI:D->(Int->Prop)->Prop
 |.int b,q=>q b
 |_,_=>False
def Dh(h:aI d q):∃b,d=.int b/\q b:=by
 unfold aI at h;split at h;{exact#[_,U,h]};exact h.elim
def aT:D->(Za D->Prop)->Prop
 |.tup b,q=>q b
 |_,_=>False
def jj(h:aT d q):∃b,d=.tup b/\q b:=by
 unfold aT at h;split at h;{exact#[_,U,h]};exact h.elim
def Ga(f:D->(D->Prop)->Prop):Za D->(D->Prop)->Prop
 |[d]=>f d
 |_=>λO=>False
def Di(h:Ga f x q):∃d,x=[d]/\f d q:=by
 rcases x with _|⟨d,_|⟨_,_⟩⟩;{exact h.elim};{exact#[d,U,h]};exact h.elim
def lC:Za D->(D->Za D->Prop)->Prop
 |d::ds,q=>q d ds
 |_,_=>False
def jk(h:lC d q):∃a as,d=a::as/\q a as:=by
 unfold lC at h;split at h;{exact#[_,_,U,h]};exact h.elim
def lz:Nat->Za D->Prop->Prop
 |0,[],p=>p
 |n+1,_::x,p=>lz n x p
 |_,_,_=>False
theorem Gb:∀{n:Nat}{xs:Za D}{p:Prop},lz n xs p->xs.length=n/\p
 |0,[],_,h=>#[U,h]
 |n+1,_::xs,_,h=>#[XI (· + 1) (Gb (xs:=xs) h).1,(Gb (xs:=xs) h).2]
 |0,_::_,_,h=>h.elim
 |_+1,[],_,h=>h.elim
def Gc:Za Nat->D->Prop->Prop
 |[],_,p=>p
 |_,d,p=>d.Mj=Zd/\p
def Ge(h:Gc b d p):(b=[]\/d.Mj=Zd)/\p:=by
 cases b with|nil=>exact#[.inl U,h]|cons a as=>exact#[.inr h.1,h.2]
theorem acT:(a::l).map f=f a::l.map f:=rfl
theorem acU:([]:Za a).map f=[]:=rfl
theorem acV:(!true)=Zi:=rfl
theorem acW:(!false)=Zd:=rfl
theorem vg:(if Zd=Zd then p else q)=p:=rfl
theorem vh:(if Zi=Zd then p else q)=q:=rfl
theorem acX:(a::l).modifyHead f=f a::l:=rfl
theorem acY:(a::l).foldl f b=l.foldl f (f b a):=rfl
theorem acZ:([]:Za a).foldl f b=b:=rfl
theorem ac0:sV (Zb (.v d)) q=q d:=rfl
theorem ac1:sO (Zb (.own d)) q=q d:=rfl
theorem ac2:sS (Zb (.st a b)) q=q a b:=rfl
theorem vi:aB (.bl b) q=q b:=rfl
theorem ac3:aI (.int b) q=q b:=rfl
theorem ac4:aT (.tup b) q=q b:=rfl
theorem ac5:lC (d::ds) q=q d ds:=rfl
theorem ac6:lz 0 [] p=p:=rfl
theorem ac7:lz (n+1) (d::x) p=lz n x p:=rfl
theorem ac8:Gc [] d p=p:=rfl
theorem ac9:Gc (a::as) d p=(d.Mj=Zd/\p):=rfl
def Dj(i:Nat):DE:=λds q O=>sV ds[i]? q
def dC(d:D):DE:=λO q O=>q d
def Ux(h:o.getD Zc=Zb v):o=Zb (Zb v):=by
 cases o with
 |none=>cases h
 |some o=>exact XI Zb h
def jv(i:Nat)(hN:X.N[i]?=Zb x|>1)(b:Vk X.env.scope x|>3)(hd:YV x|>2)
  (a:Vv x|>2):JE X f (.Name x pos) (Dj i):=
 #[_,pv i hN b hd a,λc h k O=>by
  let#[d,e,h]:=acS h;let#[v,E,r]:=c.slot i _ e;exact#[v,Ux E,k v d _ _ (.refl c.sub) r h]]
def Xm:JE X x (.Constant (.int i) j pos) (dC (.int i)):=#[_,C5,λc h k O=>k _ (.int i) _ _ (.refl c.sub) U h]
def ada:JE X x (.Constant (.bool b) j pos) (dC (.bl b)):=#[_,C6,λc h k O=>k _ (.bl b) _ _ (.refl c.sub) U h]
def jl:JE X E (.Constant (.str x) j pos) (dC (.str x)):=#[_,C8,λc h k O=>k _ (.str x) _ _ (.refl c.sub) U h]
def Dk:JE X x (.Constant .none j pos) (dC .non):=#[_,C7,λc h k O=>k _ .non _ _ (.refl c.sub) U h]
def Gf(d:D)(g:Gl X x)(m:X.mg x=Zb u)(r:RelV v u)(a:∀K H,Rp K H d v)(hd:YV x|>2):JE X E (.Name x pos) (dC d):=
 #[_,C9 g m r hd,λc h k O=>k _ _ _ _ (.refl c.sub) (a _ _) h]
def Jw(g:Gl X x)(m:X.mg x=Zc)(a:RC x=Zb (.type n))(b:x≠("__name__" : Ze)|>2)(hd:YV x|>2):JE X E (.Name x pos) (dC (.ty n)):=
 #[_,D3 (v:=.ty n) g m a U b hd,λc h k O=>k _ (.ty n) _ _ (.refl c.sub) U h]
def Dl:DA:=λO q O=>q []
def Dm(c:DE)(b:DA):DA:=λds q x=>c ds (λa=>b ds (λas=>q (a::as)) x) x
def Yw:WV X x [] Dl:=#[_,Sg,λc h k O=>k _ [] _ _ (.refl c.sub) U h]
def ZO(j:JE X x e q)(i:WV X x n o)(h:Tp e=Zd|>1):WV X x (e::n) (Dm q o):=by
 let#[z,g,w]:=j.ex;let#[y,p,u]:=i.ex;exact#[_,Sn g p h,λc h k kx=>w c h (λv a G C e r h=>u (c.go e) h (λb as B A E f m=>k _ (a::as) _ _ (e.trans E) #[v,b,U,r.same E.s0,f] m) (kx.go e.s)) kx]
def Jx(K:ZF)(r:R2)(g:D->D->(D->Prop)->Prop):Prop:=∀{c H:Hp}{x y:V}{a b:D}{q:D->Prop}{Q:VK},Zv c H->Rp K c a x->Rp K c b y->g a b q->KE K c H q Q->r x y H Q
structure Wl (X:Cx)(f:Zh->Zh->Vb Zh)(g:D->D->(D->Prop)->Prop):Prop where
 ex:∃r,Xi X f r/\Jx X.K r g
def Jy(g:D->D->(D->Prop)->Prop)(e c:DE):DE:=λds q x=>e ds (λa=>c ds (λb=>g a b q) x) x
def Dp(w:SD K x i p)(q:SD K x f o)(l:Jx K r g):SD K x (Jm r i f) (Jy g p o):=λc h k kx=>
 w c h (λv a B A e m h=>q (c.go e) h (λu b z y E j n=>l (c.go (e.trans E)).sub (m.same E.s0) j n (k.go (e.trans E))) (kx.go e.s)) kx
def UH(e:Wl X (Uq op) g)(i:JE X x a m)(f:JE X x b j):JE X x (.BinOp a op b pos) (Jy g m j):=by
 let#[r,o,l]:=e.ex;let#[u,c,q]:=i.ex;let#[s,p,n]:=f.ex;exact#[_,lq o c p,Dp q n l]
def Dq(e:Wl X (Xq op) g)(i:JE X x a n)(f:JE X x b j)(m:Hm op b=Zi):JE X x (.Compare a [op] [b] pos) (Jy g n j):=by
 let#[r,o,l]:=e.ex;let#[w,c,s]:=i.ex;let#[u,p,q]:=f.ex;exact#[_,aat o c p m,Dp s q l]
def jm(g G:D->D->(D->Prop)->Prop)(i f e:DE):DE:=λds q x=>i ds (λa=>f ds (λb=>g a b λz=>aB z λk=>if k=Zd then e ds (λc=>G b c q) x else q (.bl Zi)) x) x
def dB(e:DE):DT:=λds q x=>e ds (λd=>aB d q) x
def jn(d:SD K x f i):Pn K x (xY f) (dB i):=λc h k kx=>
 d c h (λv a m j e r Z=>by let#[b,z,g]:=HZ Z;subst z;exact#[b,r,k b _ _ e g]) kx
def LJ(e:Wl X (Xq op) g)(i:JE X x a n)(f:JE X x b j)(m:Hm op b=Zi):JT X x (.Compare a [op] [b] pos) (dB (Jy g n j)):=by
 let#[r,o,l]:=e.ex;let#[w,c,s]:=i.ex;let#[u,p,q]:=f.ex;exact#[_,lH o c p m,jn (Dp s q l)]
def adb{x:St->XK}{g G:D->D->(D->Prop)->Prop}(N:Wl X (Xq op) g)(i:Wl X (Xq f) G)(ha:JE X x a da)(hb:JE X x b db)(Y:JE X x c dc)
  (Q:nY [op,f] [b,c]=Zi:=by with_unfolding_all rfl):JT X x (.Compare a [op,f] [b,c] pos) (dB (jm g G da db dc)):=by
 let#[r,o,l]:=N.ex;let#[r',L,M]:=i.ex;let#[ta,J,d1]:=ha.ex;let#[tb,I,d2]:=hb.ex;let#[tc,C,d3]:=Y.ex;show#[_,aav o L J I C Q,jn λc h k kx=>?_];show d1 c h (λv a H1 H2 e B h=>d2 (c.go e) h (λu b H3 H4 m n h'=>?_) (kx.go e.s)) kx;show l (c.go (e.trans m)).sub (B.same m.s0) n h' λz d H5 H6 w A Z=>?_;let#[p,U,q]:=HZ Z;show#[p,A,?_];have E:=(e.trans m).trans w;cases p with
 |true=>
  exact d3 (c.go E) q (λw' cc H7 H8 j y h4=>M (c.go (E.trans j)).sub (n.same (w.trans j).s0) y h4 (k.go (E.trans j))) (kx.go E.s)
 |false=>
  exact k _ (.bl Zi) _ _ E U q
def D.Gg:D->(Bool->Prop)->Prop
 |.non,q=>q Zi
 |.bl b,q=>q b
 |.int i,q=>q (i != 0)
 |.str y,q=>y.length<=Zo/\q ((y.length:Int) != 0)
 |.lst x,q=>q (!x.isEmpty)
 |.scr x,q=>q (!x.isEmpty)
 |.tup x,q=>q (!x.isEmpty)
 |_,_=>False
def Zw.empty(h:Zw K H x s):s.isEmpty=x.isEmpty:=by
 cases x with|nil=>rw[show s=[]from h];rfl|cons d ds=>let⟨v,u,rfl,_⟩:=h;rfl
theorem Zw.length:∀{x:Za D}{s:Za V},Zw K H x s->s.length=x.length
 |[],_,h=>by rw[show _=[]from h];rfl
 |d::ds,_,⟨v,u,e,_,h⟩=>by rw[e,Yu,Yu,Zw.length h]
def jo(e:DE):DT:=λds q x=>e ds (λd=>d.Gg q) x
def ade(s:Zv g H)(r:Rp K g d v)(h:d.Gg q):∃b,xZ K v H b/\q b:=by
 cases d with
 |non=>rw[show v=.non from r];exact#[Zi,U,h]
 |bl b=>rw[show v=.bl b from r];exact#[b,U,h]
 |int i=>rw[show v=.int i from r];exact#[_,U,h]
 |str y=>rw[show v=.str y from r];exact#[_,#[h.1,U],h.2]
 |lst x=>
  let⟨a,c,rfl,f,e⟩:=r;exact#[_,.inl #[c,Ya.of (s _ _ f),U],by rw[e.empty];exact h]
 |scr x=>
  let⟨a,c,rfl,f,e⟩:=r;exact#[_,.inl #[c,s.seq f,U],by rw[e.empty];exact h]
 |tup x=>
  let⟨a,c,rfl,f,e⟩:=r;exact#[_,.inr (.inl #[c,YW.of (s _ _ f),U]),by rw[e.empty];exact h]
 |_=>exact h.elim
def vj(h:JE X x e j)(f:(∀whole,isTrue e X.env whole=(do let v <-whole;Om e.pos;RD [v] (truthy v)))|>4):JT X x e (jo j):=by
 let#[m,p,d]:=h.ex;show#[_,aay p f,λc h k kx=>d c h (λv a o n e r h=>?_) kx];let#[b,i,g]:=ade (c.go e).sub r h;exact#[b,i,k b _ _ e g]
def jq(d:DT):DT:=λds q x=>d ds (λb=>q (!b)) x
def jr(d e:DT):DT:=λds q x=>d ds (λb=>if b=Zd then e ds q x else q Zi) x
def dOr(d e:DT):DT:=λds q x=>d ds (λb=>if b=Zd then q Zd else e ds q x) x
def adf(h:JT X x a d):JT X x (.UnaryOp .Not a pos) (jq d):=by
 let#[g,p,d]:=h.ex;exact#[_,D6 p,λc h k kx=>d c h (λb j i e f=>k _ _ _ e f) kx]
def vk(h:JT X x a d):JW X x (.BoolOp .And [a] pos) d:=by
 let#[e,p,d]:=h.ex;exact#[_,pw_and1 p,d]
def adg(h:JT X x a d):JW X x (.BoolOp .Or [a] pos) d:=by
 let#[e,p,d]:=h.ex;exact#[_,pw_or1 p,d]
def Dr{rest:Za ZE}(i:JT X x a d)(f:JW X x (.BoolOp .And (b::rest) pos) e):JW X x (.BoolOp .And (a::b::rest) pos) (jr d e):=by
 let#[q,g,n]:=i.ex;let#[o,p,m]:=f.ex;show#[_,pw_and g p,λc h k kx=>n c h (λb z y e f=>?_) kx];cases b with
 |true=>
  exact m (c.go e) f (λB w u E j=>k _ _ _ (e.trans E) j) (kx.go e.s)
 |false=>
  exact k _ _ _ e f
def adh{rest:Za ZE}(i:JT X x a d)(f:JW X x (.BoolOp .Or (b::rest) pos) e):JW X x (.BoolOp .Or (a::b::rest) pos) (dOr d e):=by
 let#[q,g,n]:=i.ex;let#[o,p,m]:=f.ex;show#[_,pw_or g p,λc h k kx=>n c h (λb z y e f=>?_) kx];cases b with
 |true=>
  exact k _ _ _ e f
 |false=>
  exact m (c.go e) f (λB w u E j=>k _ _ _ (e.trans E) j) (kx.go e.s)
def vl(h:JW X x e d):JT X x e d:=by
 let#[a,p,d]:=h.ex;exact#[_,p.pt,d]
def js(c b:DE):DE:=λds q x=>c ds (λa=>aB a λk=>if k=Zd then b ds q x else q (.bl Zi)) x
def jt(c b:DE):DE:=λds q x=>c ds (λa=>aB a λk=>if k=Zd then q (.bl Zd)else b ds q x) x
def ju(b:DE):DE:=λds q x=>b ds (λa=>aB a λk=>q (.bl (!k))) x
def vm(h:JE X x a d):JE X x (.BoolOp op [a] pos) d:=by
 let#[e,p,d]:=h.ex;exact#[_,E1 p,d]
def jw{rest:Za ZE}(i:JE X x a m)(f:JE X x (.BoolOp .And (b::rest) pos) j):JE X x (.BoolOp .And (a::b::rest) pos) (js m j):=by
 let#[u,g,o]:=i.ex;let#[q,p,n]:=f.ex;show#[_,E3 g p,λc h k kx=>o c h (λv a y w e r z=>?_) kx];let#[b,U,f]:=HZ z;show#[b,r,?_];cases b with
 |true=>
  exact n (c.go e) f (k.go e) (kx.go e.s)
 |false=>
  exact k _ (.bl Zi) _ _ e U f
def jx{rest:Za ZE}(i:JE X x a m)(f:JE X x (.BoolOp .Or (b::rest) pos) j):JE X x (.BoolOp .Or (a::b::rest) pos) (jt m j):=by
 let#[u,g,o]:=i.ex;let#[q,p,n]:=f.ex;show#[_,E4 g p,λc h k kx=>o c h (λv a y w e r z=>?_) kx];let#[b,U,f]:=HZ z;show#[b,r,?_];cases b with
 |true=>
  exact k _ (.bl Zd) _ _ e U f
 |false=>
  exact n (c.go e) f (k.go e) (kx.go e.s)
def adi(g:JE X x a i):JE X x (.UnaryOp .Not a pos) (ju i):=by
 let#[m,p,j]:=g.ex;show#[_,E5 p,λc h k kx=>j c h (λv a o n e r z=>?_) kx];let#[b,U,f]:=HZ z;exact#[b,r,k _ (.bl (!b)) _ _ e U f]
def jy(c:DT)(e a:DE):DE:=λds q x=>c ds (λb=>if b=Zd then e ds q x else a ds q x) x
def adk(j:JT X x c n)(m:JE X x a q)(f:JE X x b o):JE X x (.IfExp c a b pos) (jy n q o):=by
 let#[z,i,y]:=j.ex;let#[B,g,w]:=m.ex;let#[A,p,u]:=f.ex;show#[_,E6 i g p,λc h k kx=>y c h (λb E C e f=>?_) kx];cases b with
 |true=>
  exact w (c.go e) f (k.go e) (kx.go e.s)
 |false=>
  exact u (c.go e) f (k.go e) (kx.go e.s)
def T3(a:DA):DE:=λds q x=>a ds (λs=>s.length<=Zo/\q (.tup s)) x
def jz(a:DA):DE:=λds q x=>a ds (λs=>s.length<=Zo/\q (.lst s)) x
def LK(r:Zw K a x s)(h:a p=Zc):Rp K (upd a p (.tup s)) (.tup x) (.ref p):=#[p,s,U,YQ,r.same (Zv.upd h)]
def SW(r:Zw K a x s)(h:a p=Zc):Rp K (upd a p (.lst s)) (.lst x) (.ref p):=#[p,s,U,YQ,r.same (Zv.upd h)]
def LL(h:WV X j E g):JE X j (.Tuple E m pos) (T3 g):=by
 let#[n,f,i]:=h.ex;show#[_,aaU f,λc h k kx=>i c h (λs x q o e r b=>#[by rw[r.length];exact b.1,λp a=>?_]) kx];exact k _ (.tup x) _ _ (e.trans (.put e.sub a)) (LK r (e.sub.free a)) b.2
def adl(h:WV X j E g):JE X j (.List E pos) (jz g):=by
 let#[m,f,i]:=h.ex;show#[_,EI f,λc h k kx=>i c h (λs x o n e r b=>#[by rw[r.length];exact b.1,λp a=>?_]) kx];exact k _ (.lst x) _ _ (e.trans (.put e.sub a)) (SW r (e.sub.free a)) b.2
theorem Zw.get:∀{x:Za D}{s:Za V}{i:Nat}{d:D},Zw K H x s->x[i]?=Zb d->∃v,s[i]?=Zb v/\Rp K H d v
 |[],_,_,_,_,e=>by simp at e
 |d::ds,_,0,_,⟨v,u,e,h,_⟩,q=>by
  simp at q;subst q e;exact#[v,U,h]
 |d::ds,_,i+1,_,⟨v,u,e,_,h⟩,q=>by
  subst e;let#[w,b,a]:=Zw.get h (by assumption);exact#[w,by assumption,a]
theorem Zw.app:∀{x y:Za D}{s u:Za V},Zw K H x s->Zw K H y u->Zw K H (x++y) (s++u)
 |[],_,_,_,e,h=>by rw[show _=[]from e];exact h
 |d::ds,_,_,_,⟨v,w,e,h,a⟩,k=>by
  subst e;exact#[v,_,U,h,Zw.app a k]
theorem Zw.drop:∀{x:Za D}{s:Za V}(n:Nat),Zw K H x s->Zw K H (x.drop n) (s.drop n)
 |_,_,0,h=>h
 |[],_,n+1,h=>by rw[show _=[]from h];rfl
 |d::ds,_,n+1,⟨v,w,e,_,h⟩=>by
  subst e;exact Zw.drop n h
theorem Zw.take:∀{x:Za D}{s:Za V}(n:Nat),Zw K H x s->Zw K H (x.take n) (s.take n)
 |_,_,0,_=>rfl
 |[],_,n+1,h=>by rw[show _=[]from h];rfl
 |d::ds,_,n+1,⟨v,w,e,h,a⟩=>by
  subst e;exact#[v,_,U,h,Zw.take n a]
def Zw.snoc(h:Zw K H x s)(r:Rp K H d v):Zw K H (x++[d]) (s++[v]):=h.app #[v,[],U,r,U]
noncomputable def D.flat:D->Bool
 |.non=>Zd
 |.bl _=>Zd
 |.int _=>Zd
 |.str _=>Zd
 |_=>Zi
noncomputable def D.toV:D->V
 |.bl b=>.bl b
 |.int i=>.int i
 |.str x=>.str x
 |.ty n=>.ty n
 |.rf a=>.ref a
 |_=>.non
def LN(f:d.flat=Zd)(r:Rp K H d v):v=d.toV/\Si v=Zd:=by
 cases d with
 |non=>rw[show v=.non from r];exact#[U,U]
 |bl b=>rw[show v=.bl b from r];exact#[U,U]
 |int i=>rw[show v=.int i from r];exact#[U,U]
 |str x=>rw[show v=.str x from r];exact#[U,U]
 |_=>cases f
theorem vo:∀{x:Za D}{s:Za V},x.all D.flat=Zd->Zw K H x s->s=x.map D.toV/\s.all Si=Zd
 |[],_,_,r=>by rw[show _=[]from r];exact#[U,U]
 |d::ds,_,f,⟨v,u,e,h,a⟩=>by
  rw[KL,XX]at f;let#[b,f1]:=LN f.1 h;let#[E,f2]:=vo f.2 a;subst e;exact#[by rw[E,b];rfl,by rw[KL,f1,f2];rfl]
def aL:D->(Za D->Prop)->Prop
 |.lst b,q=>q b
 |_,_=>False
def jA(h:aL d q):∃b,d=.lst b/\q b:=by
 cases d with|lst b=>exact#[b,U,h]|_=>exact h.elim
def Gh(x y:D)(q:D->Prop):Prop:=match x with
 |.int i=>aI y λj=>q (.int (i+j))
 |.str i=>match y with
  |.str j=>i.length+j.length<=Zo/\q (.str (i++j))
  |_=>False
 |.lst s | .scr s=>aL y λY=>s.length+Y.length<=Zo/\q (.lst (s++Y))
 |.tup s=>aT y λY=>s≠[]/\s.length+Y.length<=Zo/\q (.tup (s++Y))
 |_=>False
def Ml:Wl X (Uq .Add) Gh:=by
 show#[_,aae.or (aaz.or (abT.or abb)),λ{E H x y a b q Q} s o n h k=>?_];cases a with
 |int i=>
  let⟨j,rfl,h⟩:=Dh h;rw[show x=.int i from o,show y=.int j from n];exact .inl #[i,j,U,U,k _ (.int (i+j)) _ _ (.refl s) U h]
 |str i=>
  cases b with
  |str j=>
   rw[show x=.str i from o,show y=.str j from n];exact .inr (.inl #[i,j,U,U,h.1,k _ (.str (i++j)) _ _ (.refl s) U h.2])
  |_=>exact h.elim
 |lst C=>
  let⟨Y,rfl,h⟩:=jA h;let#[A,g,U,m,c]:=o;let#[B,u,U,w,e]:=n;show .inr (.inr (.inl #[A,B,g,u,U,U,Ya.of (s _ _ m),Ya.of (s _ _ w),by rw[c.length,e.length];exact h.1,λp f=>?_]));exact k _ (.lst _) _ _ (.put s f) (SW (c.app e) (s.free f)) h.2
 |scr C=>
  let⟨Y,rfl,h⟩:=jA h;let#[A,g,U,m,c]:=o;let#[B,u,U,w,e]:=n;show .inr (.inr (.inl #[A,B,g,u,U,U,s.seq m,Ya.of (s _ _ w),by rw[c.length,e.length];exact h.1,λp f=>?_]));exact k _ (.lst _) _ _ (.put s f) (SW (c.app e) (s.free f)) h.2
 |tup C=>
  let⟨Y,rfl,h⟩:=jj h;let#[A,g,U,m,c]:=o;let#[B,u,U,w,e]:=n;show .inr (.inr (.inr #[A,B,g,u,U,U,YW.of (s _ _ m),YW.of (s _ _ w),?_,by rw[c.length,e.length];exact h.2.1,λz=>?_,λO p f=>?_]));{intro z;have:=c.length;rw[z]at this;exact h.1 (MZ this.symm)};{show k _ (.tup _) _ _ (.refl s) #[A,g,U,m,?_] h.2.2;have:=c.app e;rw[z,SG]at this;exact this};exact k _ (.tup _) _ _ (.put s f) (LK (c.app e) (s.free f)) h.2.2
 |_=>exact h.elim
def Jz(C:Int->Int->Prop)(g:Int->Int->D):D->D->(D->Prop)->Prop
 |.int i,.int j=>λq=>C i j/\q (g i j)
 |_,_=>λO=>False
def Mm(g:Int->Int->D):D->D->(D->Prop)->Prop
 |.int i,.int j=>λq=>q (g i j)
 |_,_=>λO=>False
set_option tactic.hygienic true in
def vp(o:Xi X f (rI C g))(p:∀i j,c i j->C i j)(n:∀K H i j,c i j->Rp K H (G i j) (g i j)):Wl X f (Jz c G):=by
 show#[_,o,λ{u H x y a b q Q} s m e h k=>?_];unfold Jz at h;split at h;{rename_i i j;rw[show x=.int i from m,show y=.int j from e];exact#[i,j,U,U,p _ _ h.1,k _ (G i j) _ _ (.refl s) (n _ _ i j h.1) h.2]};exact h.elim
set_option tactic.hygienic true in
def Gi(o:Xi X f (Oy g))(m:∀K H i j,Rp K H (G i j) (g i j)):Wl X f (Mm G):=by
 show#[_,o,λ{n H x y a b q Q} s e c h k=>?_];unfold Mm at h;split at h;{rename_i i j;rw[show x=.int i from e,show y=.int j from c];exact#[i,j,U,U,k _ (G i j) _ _ (.refl s) (m _ _ i j) h]};exact h.elim
noncomputable def LO(i j:Int):Int:=if 0<=j then i/j else i.fdiv j
noncomputable def Mo(i j:Int):Int:=if 0<=j then i%j else i.fmod j
def vq(i j:Int):LO i j=i.fdiv j:=by
 unfold LO;split;{rw[Int.fdiv_eq_ediv_of_nonneg _ (by assumption)]};rfl
def jB(i j:Int):Mo i j=i.fmod j:=by
 unfold Mo;split;{rw[Int.fmod_eq_emod_of_nonneg _ (by assumption)]};rfl
def Ds:Wl X (Uq .Sub) (Mm λi j=>.int (i-j)):=Gi aaf λO O O O=>rfl
def yL(j:Int):Prop:=j.natAbs<1073741824\/Bd 9000 j
def yL.bd(h:yL j):Bd 9000 j:=by
 rcases h with h|h;{exact Bd.mono (n:=30) (by assumption) 02};exact h
def vr:Wl X (Uq .FloorDiv) (Jz (λO j=>j≠0/\yL j) λi j=>.int (LO i j)):=vp abR (λi j h=>#[h.1,h.2.bd]) λO O i j O=>by rw[vq];rfl
def Mp:Wl X (Uq .Mod) (Jz (λO j=>j≠0) λi j=>.int (Mo i j)):=vp aag (λi j h=>h) λO O i j O=>by rw[jB];rfl
def adm:Wl X (Uq .Pow) (Jz lB λi j=>.int (i^j.toNat)):=vp aah (λi j h=>h) λO O O O O=>rfl
def vt:D->D->(D->Prop)->Prop
 |.int i,.int j=>λq=>Mb i j/\q (.int (i*j))
 |.lst x,.int k=>λq=>-(2^63)<=k/\k<2^63/\x.length*k.toNat<=Zo/\q (.lst (WN k.toNat x).flatten)
 |_,_=>λO=>False
theorem Zw.flatten(h:Zw K H x s):∀n,Zw K H (WN n x).flatten (WN n s).flatten
 |0=>rfl
 |n+1=>h.app (Zw.flatten h n)
set_option tactic.hygienic true in
def adn:Wl X (Uq .Mult) vt:=by
 show#[_,abX.or abu,λ{o H x y a b q Q} s e c h k=>?_];unfold vt at h;split at h;{rename_i i j;rw[show x=.int i from e,show y=.int j from c];exact .inl #[i,j,U,U,h.1,k _ (.int (i*j)) _ _ (.refl s) U h.2]};{rename_i Y j;let#[A,m,U,n,g]:=e;rw[show y=.int j from c];show .inr #[A,j,m,U,U,s _ _ n,h.1,h.2.1,by rw[g.length];exact h.2.2.1,λp f=>?_];exact k _ (.lst _) _ _ (.put s f) (SW (g.flatten _) (s.free f)) h.2.2.2};exact h.elim
def dLe:D->D->(D->Prop)->Prop:=Mm λi j=>.bl (decide (i<=j))
def dGt:D->D->(D->Prop)->Prop:=Mm λi j=>.bl (decide (j<i))
def dGe:D->D->(D->Prop)->Prop:=Mm λi j=>.bl (decide (j<=i))
def jC:Wl X (Xq .LtE) dLe:=Gi aam λO O O O=>rfl
def ado:Wl X (Xq .Gt) dGt:=Gi aan λO O O O=>rfl
def adp:Wl X (Xq .GtE) dGe:=Gi aao λO O O O=>rfl
def dLt:D->D->(D->Prop)->Prop:=Mm λi j=>.bl (decide (i<j))
def adq:Wl X (Xq .Lt) dLt:=Gi aal λO O O O=>rfl
noncomputable def D.Qp:D->Bool
 |.non=>Zd
 |_=>Zi
def vu:D->D->(D->Prop)->Prop
 |a,.non=>λq=>q (.bl a.Qp)
 |_,_=>λO=>False
def vw:D->D->(D->Prop)->Prop
 |a,.non=>λq=>q (.bl (!a.Qp))
 |_,_=>λO=>False
def jD(r:Rp K H d v):decide (v=.non)=d.Qp:=by
 cases d with|non=>rw[show v=.non from r];rfl|bl b=>rw[show v=.bl b from r];rfl|int i=>rw[show v=.int i from r];rfl|str i=>rw[show v=.str i from r];rfl|ty i=>rw[show v=.ty i from r];rfl|rf i=>rw[show v=.ref i from r];rfl|tup x=>let⟨a,s,rfl,_⟩:=r;rfl|lst x=>let⟨a,s,rfl,_⟩:=r;rfl|obj C x=>let⟨a,s,_,rfl,_⟩:=r;rfl|dic x=>let⟨a,s,rfl,_⟩:=r;rfl|dit x=>let⟨a,s,rfl,_⟩:=r;rfl|exc x=>let⟨a,rfl,_⟩:=r;rfl|scr x=>let⟨a,s,rfl,_⟩:=r;rfl
def vx:Wl X (Xq .Is) vu:=by
 show#[_,aaq,λ{f H x y a b q Q} s e c h k=>?_];unfold vu at h;split at h;{show#[c,?_];rw[jD e];exact k _ (.bl _) _ _ (.refl s) U h};exact h.elim
def jE:Wl X (Xq .IsNot) vw:=by
 show#[_,aar,λ{f H x y a b q Q} s e c h k=>?_];unfold vw at h;split at h;{show#[c,?_];rw[jD e];exact k _ (.bl _) _ _ (.refl s) U h};exact h.elim
noncomputable def D.Dt(a b:D):Bool:=Uv a.toV b.toV
noncomputable def Qa(x:D)(s:Za D):Bool:=s.any λy=>y.Dt x
noncomputable def Mq(i j:Ze):Bool:=!(R1 j i 0 j.length 1).isEmpty
def Pp(neg:Bool):D->D->(D->Prop)->Prop
 |a,.lst x=>λq=>a.flat=Zd/\x.all D.flat=Zd/\q (.bl (if neg then !Qa a x else Qa a x))
 |a,.tup x=>λq=>a.flat=Zd/\x.all D.flat=Zd/\q (.bl (if neg then !Qa a x else Qa a x))
 |.str i,.str j=>λq=>q (.bl (if neg then !Mq i j else Mq i j))
 |_,_=>λO=>False
def jF(a:D)(x:Za D):MS a.toV (x.map D.toV)=Qa a x:=by
 unfold MS Qa D.Dt;rw[FN];rfl
def jG(neg:Bool):Jx K (λx y H Q=>rIn K neg x y H Q\/∃i j,x=.str i/\y=.str j/\Q (.bl (if neg then !Mq i j else Mq i j)) H) (Pp neg):=by
 intro o H x y a b q Q s f e h k;unfold Pp at h;split at h;{let#[p,c,U,m,g]:=e;let#[n,f1]:=LN h.1 f;let#[E,f2]:=vo h.2.1 g;show .inl #[p,c,U,.inl (Ya.of (s _ _ m)),f1,f2,?_];rw[n,E,jF];exact k _ (.bl _) _ _ (.refl s) U h.2.2};{let#[p,c,U,m,g]:=e;let#[n,f1]:=LN h.1 f;let#[E,f2]:=vo h.2.1 g;show .inl #[p,c,U,.inr (YW.of (s _ _ m)),f1,f2,?_];rw[n,E,jF];exact k _ (.bl _) _ _ (.refl s) U h.2.2};{exact .inr #[_,_,f,e,k _ (.bl _) _ _ (.refl s) U h]};exact h.elim
def vy:Wl X (Xq .In) (Pp Zi):=#[_,abl.or aap,jG Zi]
def adt:Wl X (Xq .NotIn) (Pp Zd):=#[_,kr.or aas,jG Zd]
def Uy(x y:D)(q:D->Prop):Prop:=aI y λi=>match x with
 |.lst s | .scr s | .tup s=>∃d,Xp s i=Zb d/\q d
 |.str z=>z.length<=Zo/\∃c,Xp z.cps.toList i=Zb c/\q (.str #[[c].toArray])
 |_=>False
def Du(r:Zw K H x s)(h:Xp x i=Zb d):∃v,Xp s i=Zb v/\Rp K H d v:=by
 unfold Xp at h⊢;rw[r.length];cases e:Sh x.length i with
 |none=>rw[e]at h;cases h
 |some j=>
  rw[e]at h;exact r.get h
def jH:Jx K (rIx K) Uy:=by
 intro w H x y a b q Q s o n h k;let#[i,U,h]:=Dh h;cases a with
 |lst u=>
  let⟨p,g,rfl,m,j⟩:=o;let#[d,e,f]:=h;let#[v,E,r]:=Du j e;exact .inl #[p,g,_,v,U,n,Ya.of (s _ _ m),E,k _ d _ _ (.refl s) r f]
 |scr u=>
  let⟨p,g,rfl,m,j⟩:=o;let#[d,e,f]:=h;let#[v,E,r]:=Du j e;exact .inl #[p,g,_,v,U,n,s.seq m,E,k _ d _ _ (.refl s) r f]
 |tup u=>
  let⟨p,g,rfl,m,j⟩:=o;let#[d,e,f]:=h;let#[v,E,r]:=Du j e;exact .inr (.inl #[p,g,_,v,U,n,YW.of (s _ _ m),E,k _ d _ _ (.refl s) r f])
 |str z=>
  let⟨l,c,e,f⟩:=h;exact .inr (.inr #[_,_,c,o,n,l,e,k _ (.str _) _ _ (.refl s) U f])
 |_=>exact h.elim
def XJ(f:JE X x a i)(e:JE X x b g)(s:EK b:=by exactλ_ _=>rfl):JE X x (.Subscript a b pos) (Jy Uy i g):=by
 let#[o,c,m]:=f.ex;let#[n,p,j]:=e.ex;exact#[_,wy wA c p s,Dp m j jH]
noncomputable def SX(x:Za D)(lo hi:Option Int):Za D:=(x.drop (HT.Yo x.length 0 lo)).take (HT.Yo x.length x.length hi-HT.Yo x.length 0 lo)
def vz{lo hi:Option Int}(r:Zw K H x s):Zw K H (SX x lo hi) (Jp s lo hi):=by
 unfold SX Jp;rw[r.length];exact(r.drop _).take _
def Dv:D->Option Int->Option Int->(D->Prop)->Prop
 |.lst x,lo,hi=>λq=>q (.lst (SX x lo hi))
 |.scr x,lo,hi=>λq=>q (.lst (SX x lo hi))
 |.str y,lo,hi=>λq=>y.length<=Zo/\q (.str (Tw y lo hi))
 |_,_,_=>λO=>False
def jI:DO:=λO q O=>q Zc
def jJ(d:DE):DO:=λds q x=>d ds (λa=>aI a λi=>q (Zb i)) x
def adu:JO X x Zc jI:=#[_,aa6,λc h k O=>k Zc _ _ (.refl c.sub) h]
def adv(h:JE X x e f):JO X x (Zb e) (jJ f):=by
 let#[g,p,d]:=h.ex;exact#[_,aa7 p,λc h k kx=>d c h (λv a m j e r Z=>by let#[i,z,b]:=Dh Z;subst z;exact#[i,r,k _ _ _ e b]) kx]
def jK(e:DE)(dl b:DO):DE:=λds q x=>e ds (λa=>dl ds (λlo=>b ds (λhi=>Dv a lo hi q) x) x) x
def jL{lo hi:Option ZE}{dl u:DO}{pos z:Yv}(C:JE X x e I)(b:JO X x lo dl)(B:JO X x hi u):JE X x (.Subscript e (.Slice lo hi Zc z) pos) (jK I dl u):=by
 let#[Y,A,M]:=C.ex;let#[N,y,L]:=b.ex;let#[Q,w,J]:=B.ex;show#[_,lW (abk.or acu) A y w,λc h k kx=>M c h (λv a H1 H2 e r h=>L (c.go e) h (λlo H3 H4 i G=>J (c.go (e.trans i)) G (λhi H5 Z q f=>?_) (kx.go (e.trans i).s)) (kx.go e.s)) kx];have E:=(e.trans i).trans q;have g:=(c.go E).sub;have m:=r.same (i.trans q).s0;unfold Dv at f;split at f;{let#[p,j,U,o,n]:=m;exact .inl #[p,j,U,Ya.of (g _ _ o),λl b=>k _ (.lst _) _ _ (E.trans (.put g b)) (SW (vz n) (g.free b)) f]};{let#[p,j,U,o,n]:=m;exact .inl #[p,j,U,g.seq o,λl b=>k _ (.lst _) _ _ (E.trans (.put g b)) (SW (vz n) (g.free b)) f]};{exact .inr #[_,m,f.1,k _ (.str _) _ _ E U f.2]};exact f.elim
def jM(e:DE):DE:=λds q x=>e ds (λa=>aI a λi=>q (.int (-i))) x
def vA(h:JE X x a f):JE X x (.UnaryOp .USub a pos) (jM f):=by
 let#[g,p,d]:=h.ex;exact#[_,aad aai p,λc h k kx=>d c h (λv a m j e r Z=>by let#[i,z,b]:=Dh Z;subst z;exact#[i,r,k _ (.int (-i)) _ _ e U b]) kx]
def adw(K:ZF)(r:Za V->Hp->VK->Prop)(g:Za D->(D->Prop)->Prop):Prop:=∀{a H:Hp}{s:Za V}{x:Za D}{q:D->Prop}{Q:VK},Zv a H->Zw K a x s->g x q->KE K a H q Q->r s H Q
structure Sr (X:Cx)(f:Zh)(g:List D->(D->Prop)->Prop):Prop where
 ex:∃r,WR X f r/\adw X.K r g
def dCB(g:Za D->(D->Prop)->Prop)(a:DA):DE:=λds q x=>a ds (λs=>g s q) x
def RK{f:DA}{id:String}{g:Za D->(D->Prop)->Prop}(s:Sr X (.builtin id) g)(q:Gl X x)(m:X.mg x=Zc)(j:RC x=Zb (.builtin id))(u:WV X y (e::E) f)
  (a:Vd (e::E)=Zd|>1)(n:x≠("__name__" : Ze)|>2)(b:YV x|>2):JE X y (.Call (.Name x p) (e::E) [] pos) (dCB g f):=by
 let#[r,o,l]:=s.ex;let#[B,i,w]:=u.ex;exact#[_,wW o q m j i a n b,λc h k kx=>w c h (λA z G C e r h=>l e.sub r h (k.go e)) kx]
def Pq(q:Sr X (.type T) g)(j:Gl X x)(m:X.mg x=Zc)(i:RC x=Zb (.type T))(s:WV X y (e::E) u)
  (a:Vd (e::E)=Zd|>1)(n:x≠("__name__" : Ze)|>2)(b:YV x|>2):JE X y (.Call (.Name x p) (e::E) [] pos) (dCB g u):=by
 let#[r,o,l]:=q.ex;let#[B,f,w]:=s.ex;exact#[_,jf o j m i f a n b,λc h k kx=>w c h (λA z G C e r h=>l e.sub r h (k.go e)) kx]
def UI(h:Zw K H [d] s):∃v,s=[v]/\Rp K H d v:=by
 let#[v,u,U,r,e]:=h;exact#[v,by rw[show u=[]from e],r]
def Gj(h:Zw K H [d,e] s):∃v u,s=[v,u]/\Rp K H d v/\Rp K H e u:=by
 let#[v,b,U,r,h]:=h;let#[u,U,a]:=UI h;exact#[v,u,U,r,a]
def Gk:Za D->(D->Prop)->Prop:=Ga λd q=>match d with
 |.lst x | .scr x | .tup x=>q (.int x.length)
 |.str z=>z.length<=Zo/\q (.int z.length)
 |_=>False
def Gm:Sr X (.builtin "len") Gk:=by
 show#[_,kz.or abm,λ{f H e x q Q} s r h k=>?_];let#[d,U,h]:=Di h;let#[v,U,w]:=UI r;cases d with
 |lst x=>
  let⟨p,a,rfl,c,b⟩:=w;show .inl #[p,a,U,.inl (Ya.of (s _ _ c)),?_];rw[b.length];exact k _ (.int _) _ _ (.refl s) U h
 |scr x=>
  let⟨p,a,rfl,c,b⟩:=w;show .inl #[p,a,U,.inl (s.seq c),?_];rw[b.length];exact k _ (.int _) _ _ (.refl s) U h
 |tup x=>
  let⟨p,a,rfl,c,b⟩:=w;show .inl #[p,a,U,.inr (YW.of (s _ _ c)),?_];rw[b.length];exact k _ (.int _) _ _ (.refl s) U h
 |str z=>
  rw[show v=.str _ from w];exact .inr #[_,U,h.1,k _ (.int _) _ _ (.refl s) U h.2]
 |_=>exact h.elim
def vB:Za D->(D->Prop)->Prop
 |[.int i]=>λq=>q (.int (if i<0 then -i else i))
 |_=>λO=>False
def adx:Sr X (.builtin "abs") vB:=by
 show#[_,aaA,λ{b H a x q Q} s r h k=>?_];unfold vB at h;split at h;{let#[v,U,e]:=UI r;rw[show v=.int _ from e];exact#[_,U,k _ (.int _) _ _ (.refl s) U h]};exact h.elim
def vC:Za D->(D->Prop)->Prop:=Ga λd q=>match d with
 |.int i=>q (.int i)
 |.bl b=>q (.int (if b then 1 else 0))
 |_=>False
def ady:Sr X (.type "int") vC:=by
 show#[_,aaB,λ{c H a x q Q} s r h k=>?_];let#[d,U,h]:=Di h;let#[v,U,e]:=UI r;cases d with
 |int i=>
  rw[show v=.int _ from e];exact .inl #[_,U,k _ (.int _) _ _ (.refl s) U h]
 |bl b=>
  rw[show v=.bl _ from e];exact .inr #[_,U,k _ (.int _) _ _ (.refl s) U h]
 |_=>exact h.elim
def vD:Za D->(D->Prop)->Prop:=Ga λd q=>match d with
 |.lst x | .scr x | .tup x=>q (.lst x)
 |_=>False
def vE:Sr X (.type "list") vD:=by
 show#[_,abn,λ{g H f x q Q} s r h k=>?_];let#[d,U,h]:=Di h;let#[v,U,w]:=UI r;cases d with
 |lst x=>
  let⟨p,b,rfl,e,c⟩:=w;exact#[p,b,U,.inl (Ya.of (s _ _ e)),λl a=>k _ (.lst _) _ _ (.put s a) (SW c (s.free a)) h]
 |scr x=>
  let⟨p,b,rfl,e,c⟩:=w;exact#[p,b,U,.inl (s.seq e),λl a=>k _ (.lst _) _ _ (.put s a) (SW c (s.free a)) h]
 |tup x=>
  let⟨p,b,rfl,e,c⟩:=w;exact#[p,b,U,.inr (YW.of (s _ _ e)),λl a=>k _ (.lst _) _ _ (.put s a) (SW c (s.free a)) h]
 |_=>exact h.elim
def Dw:Za D->(D->Prop)->Prop:=Ga λd q=>match d with
 |.lst x | .tup x=>q (.tup x)
 |_=>False
def vF:Sr X (.type "tuple") Dw:=by
 show#[_,abo,λ{g H f x q Q} s r h k=>?_];let#[d,U,h]:=Di h;let#[v,U,w]:=UI r;cases d with
 |lst x=>
  let⟨p,a,rfl,b,c⟩:=w;exact#[p,a,U,.inl #[Ya.of (s _ _ b),λl e=>k _ (.tup _) _ _ (.put s e) (LK c (s.free e)) h]]
 |tup x=>
  let⟨p,a,rfl,b,c⟩:=w;exact#[p,a,U,.inr #[YW.of (s _ _ b),k _ (.tup _) _ _ (.refl s) #[p,a,U,b,c] h]]
 |_=>exact h.elim
noncomputable def PY:Za D->Option (Za Bool)
 |[]=>Zb []
 |.bl b::r=>(PY r).map (b :: ·)
 |_::_=>Zc
theorem vG:∀{x:Za D}{bs:Za Bool}{s:Za V},PY x=Zb bs->Zw K H x s->s=bs.map V.bl
 |[]=>λe r=>by cases e;exact r
 |d::ds=>λe r=>by
  let#[v,u,z,h,a]:=r;cases d with
  |bl b=>
   unfold PY at e;cases q:PY ds with
   |none=>rw[q]at e;cases e
   |some c=>
    rw[q]at e;cases e;rw[z,vG q a,show v=.bl b from h];rfl
  |_=>cases e
def JA:Za D->(D->Prop)->Prop
 |[.lst x]=>λq=>∃bs,PY x=Zb bs/\q (.bl (bs.all id))
 |_=>λO=>False
def vH:Za D->(D->Prop)->Prop
 |[.lst x]=>λq=>∃bs,PY x=Zb bs/\q (.bl (bs.any id))
 |_=>λO=>False
def adz(c:Xl X|>1):Sr X (.builtin "all") JA:=by
 show#[_,acp c,λ{i H g x q Q} s r h k=>?_];unfold JA at h;split at h;{let#[v,U,p,w,U,a,f]:=UI r;let#[bs,e,b]:=h;rw[vG e f]at a;exact#[p,bs,U,Ya.of (s _ _ a),k _ (.bl _) _ _ (.refl s) U b]};exact h.elim
def adA(c:Xl X|>1):Sr X (.builtin "any") vH:=by
 show#[_,acq c,λ{i H g x q Q} s r h k=>?_];unfold vH at h;split at h;{let#[v,U,p,w,U,a,f]:=UI r;let#[bs,e,b]:=h;rw[vG e f]at a;exact#[p,bs,U,Ya.of (s _ _ a),k _ (.bl _) _ _ (.refl s) U b]};exact h.elim
mutual
def D.SY:D->D->Bool
 |.tup xs,.tup ys=>D.VF xs ys
 |.lst xs,.lst ys=>D.VF xs ys
 |a,b=>Uv a.toV b.toV
def D.VF:List D->List D->Bool
 |[],[]=>Zd
 |x::xs,y::ys=>D.SY x y&&D.VF xs ys
 |_,_=>Zi
end
noncomputable def OH(R:D->D->Bool):Za D->Za D->Bool
 |x::s,y::Y=>R x y&&OH R s Y
 |_,_=>Zd
noncomputable def D.Mr:Nat->D->D->Bool
 |0=>λa b=>a.flat&&b.flat
 |n+1=>λa b=>match a,b with
  |.tup x,.tup y=>OH (D.Mr n) x y
  |.lst x,.lst y=>OH (D.Mr n) x y
  |a,b=>a.flat&&b.flat
def vI(h:a.flat=Zd):D.SY a b=Uv a.toV b.toV:=by
 cases a with
 |tup _=>cases h
 |lst _=>cases h
 |non=>unfold D.SY;rfl
 |bl _=>unfold D.SY;rfl
 |int _=>unfold D.SY;rfl
 |str _=>unfold D.SY;rfl
 |_=>cases h
theorem Gn(h:∀{a b x y},R a b=Zd->Rp K H a x->Rp K H b y->p x y (D.SY a b)):∀{s Y:Za D}{f g:Za V},OH R s Y=Zd->Zw K H s f->Zw K H Y g->RH p f g (D.VF s Y)
 |[],[]=>λO r c=>by rw[show _=[]from r,show _=[]from c];exact .nil
 |[],y::Y=>λO r c=>by
  let#[u,g,e,_,_]:=c;rw[show _=[]from r,e];exact .left _ _
 |x::s,[]=>λO r c=>by
  let#[v,f,e,_,_]:=r;rw[show _=[]from c,e];exact .right _ _
 |x::s,y::Y=>λo r c=>by
  let#[v,f,e,n,m]:=r;let#[u,g,E,j,i]:=c;unfold OH at o;rw[XX]at o;rw[e,E];exact .cons (h o.1 n j) (Gn h o.2 m i)
def jN:∀(n:Nat) {a b:D}{x y:V},D.Mr n a b=Zd->Rp K H a x->Rp K H b y->Qo K H n x y (D.SY a b):=by
 have q:∀n {a b:D}{x y:V},(a.flat&&b.flat)=Zd->Rp K H a x->Rp K H b y->Qo K H n x y (D.SY a b):=by
  intro n a b x y o r c;rw[XX]at o;let#[w,f1]:=LN o.1 r;let#[E,f2]:=LN o.2 c;induction n with|zero=>exact .inl #[f1,f2,by rw[vI o.1,w,E]]|succ n i=>exact .inl i
 intro n;induction n with
 |zero=>intro a b x y o r c;exact q 0 (by assumption) r c
 |succ n i=>
  intro a b x y o r c;unfold D.Mr at o;split at o;{let#[p,s,U,m,j]:=r;let#[e,u,U,g,f]:=c;unfold D.SY;exact .inr #[p,e,s,u,U,U,.inl #[YW.of m,YW.of g],Gn (λo r c=>i o r c) o j f]};{let#[p,s,U,m,j]:=r;let#[e,u,U,g,f]:=c;unfold D.SY;exact .inr #[p,e,s,u,U,U,.inr #[Ya.of m,Ya.of g],Gn (λo r c=>i o r c) o j f]};exact q (n+1) o r c
def Ms(neg:Bool):D->D->(D->Prop)->Prop
 |.tup x,.tup y=>λq=>OH (D.Mr 80) x y=Zd/\q (.bl (if neg then !D.VF x y else D.VF x y))
 |.lst x,.lst y=>λq=>OH (D.Mr 80) x y=Zd/\q (.bl (if neg then !D.VF x y else D.VF x y))
 |a,b=>λq=>a.flat=Zd/\b.flat=Zd/\EG a.toV b.toV=Zd/\q (.bl (if neg then !decide (a.toV=b.toV)else decide (a.toV=b.toV)))
def jO(neg:Bool):Jx K (λx y H Q=>(EG x y=Zd/\Q (.bl (if neg then !decide (x=y)else decide (x=y))) H)\/wX K neg x y H Q) (Ms neg):=by
 intro A H x y a b q Q s m j h k;unfold Ms at h;split at h;{let#[p,i,U,g,f]:=m;let#[w,u,U,e,c]:=j;exact .inr #[80,p,w,i,u,_,01,U,U,.inl #[YW.of (s _ _ g),YW.of (s _ _ e)],Gn (λo r n=>jN 80 o r n) h.1 (f.same s) (c.same s),k _ (.bl _) _ _ (.refl s) U h.2]};{let#[p,i,U,g,f]:=m;let#[w,u,U,e,c]:=j;exact .inr #[80,p,w,i,u,_,01,U,U,.inr #[Ya.of (s _ _ g),Ya.of (s _ _ e)],Gn (λo r n=>jN 80 o r n) h.1 (f.same s) (c.same s),k _ (.bl _) _ _ (.refl s) U h.2]};let#[g,f,e,c]:=h;let#[z,_]:=LN g m;let#[E,_]:=LN f j;rw[z,E];exact .inl #[e,k _ (.bl _) _ _ (.refl s) U c]
def vJ(u:X.A.units+100<Yz):Wl X (Xq .Eq) (Ms Zi):=#[_,aaj.or (acy u),jO Zi]
def adB(u:X.A.units+100<Yz):Wl X (Xq .NotEq) (Ms Zd):=#[_,aak.or (acz u),jO Zd]
noncomputable def D.JB:D->Option String
 |.non=>Zb "NoneType"
 |.bl _=>Zb "bool"
 |.int _=>Zb "int"
 |.str _=>Zb "str"
 |.lst _=>Zb "list"
 |.tup _=>Zb "tuple"
 |_=>Zc
noncomputable def Gp(t n:String):Bool:=t==n||(t == "bool" && n == "int")
def adC(r:Rp K H d v)(e:d.JB=Zb t):Sf K H v (.type t):=by
 cases d with
 |non=>cases e;rw[show v=.non from r];exact .non
 |bl b=>cases e;rw[show v=.bl b from r];exact .bl b
 |int b=>cases e;rw[show v=.int b from r];exact .int b
 |str b=>cases e;rw[show v=.str b from r];exact .str b
 |lst x=>cases e;let#[a,s,U,h,_]:=r;exact .lst h
 |tup x=>cases e;let#[a,s,U,h,_]:=r;exact .tup h
 |_=>cases e
noncomputable def JC:Za String:=["int", "str", "bool", "list", "tuple"]
def adD{d:D}(e:d.JB=Zb t)(a:n∈JC):Oj K (.type t) (.type n)=Zb (Gp t n):=by
 unfold JC at a;simp only[Yk,Qd,or_false]at a;cases d with
 |non=>cases e;rcases a with rfl | rfl | rfl | rfl | rfl<;>with_unfolding_all rfl
 |bl b=>cases e;rcases a with rfl | rfl | rfl | rfl | rfl<;>with_unfolding_all rfl
 |int b=>cases e;rcases a with rfl | rfl | rfl | rfl | rfl<;>with_unfolding_all rfl
 |str b=>cases e;rcases a with rfl | rfl | rfl | rfl | rfl<;>with_unfolding_all rfl
 |lst x=>cases e;rcases a with rfl | rfl | rfl | rfl | rfl<;>with_unfolding_all rfl
 |tup x=>cases e;rcases a with rfl | rfl | rfl | rfl | rfl<;>with_unfolding_all rfl
 |_=>cases e
noncomputable def T7:Za D->Option (Za Zg)
 |[]=>Zb []
 |.rf a::r=>(T7 r).map (a :: ·)
 |_::_=>Zc
noncomputable def IC:Za D->Option (Za String)
 |[]=>Zb []
 |.ty a::r=>(IC r).map (a :: ·)
 |_::_=>Zc
theorem vK:∀{x:Za D}{bs:Za String}{s:Za V},IC x=Zb bs->Zw K H x s->s=bs.map V.ty
 |[]=>λe r=>by cases e;exact r
 |d::ds=>λe r=>by
  let#[v,u,z,h,a]:=r;cases d with
  |ty b=>
   unfold IC at e;cases q:IC ds with
   |none=>rw[q]at e;cases e
   |some c=>
    rw[q]at e;cases e;rw[z,vK q a,show v=.ty b from h];rfl
  |_=>cases e
def jP(K:ZF)(n:String):D->(D->Prop)->Prop
 |.exc C=>λq=>∃b,EX K C/\Oj K (.ref C) (.type n)=Zb b/\q (.bl b)
 |x=>λq=>∃t,x.JB=Zb t/\n∈JC/\q (.bl (Gp t n))
def adE(K:ZF)(B:Zg):D->(D->Prop)->Prop
 |.exc C=>λq=>∃b,EX K C/\Oj K (.ref C) (.ref B)=Zb b/\q (.bl b)
 |.obj C _=>λq=>∃b,Wp K C/\ab1 K C/\Oj K (.ref C) (.ref B)=Zb b/\q (.bl b)
 |_=>λO=>False
def adF(K:ZF)(c:Za D):D->(D->Prop)->Prop
 |.exc C=>λq=>∃as b,T7 c=Zb as/\EX K C/\xr K (.ref C) (as.map Xa)=Zb b/\q (.bl b)
 |.lst _=>λq=>∃as b,IC c=Zb as/\xr K (.type "list") (as.map NQ)=Zb b/\q (.bl b)
 |.tup _=>λq=>∃as b,IC c=Zb as/\xr K (.type "tuple") (as.map NQ)=Zb b/\q (.bl b)
 |_=>λO=>False
def jQ(K:ZF)(x:D):D->(D->Prop)->Prop
 |.ty n=>jP K n x
 |.rf B=>adE K B x
 |.tup c=>adF K c x
 |_=>λO=>False
def Wq(K:ZF):Za D->(D->Prop)->Prop
 |[x,c]=>jQ K x c
 |_=>λO=>False
set_option tactic.hygienic true in
def adG(h:jP K n x q):(∃C b,x=.exc C/\EX K C/\Oj K (.ref C) (.type n)=Zb b/\q (.bl b))\/∃t,x.JB=Zb t/\n∈JC/\q (.bl (Gp t n)):=by
 cases x;case exc C=>let⟨b,h⟩:=h;exact .inl #[C,b,U,h]
 all_goals exact .inr h
def aox(K:ZF)(T:String)(r:V->Za V->Hp->VK->Prop)(g:D->Za D->(D->Prop)->Prop):Prop:=∀{a H:Hp}{v:V}{s:Za V}{d:D}{x:Za D}{q:D->Prop}{Q:VK},Zv a H->Rp K a d v->Zw K a x s->g d x q->KE K a H q Q->r v s H Q
def tyD(T:String):D->Prop
 |.str _=>T = "str"
 |.lst _=>T = "list"
 |.scr _=>T = "list"
 |_=>False
def adH(r:Rp K H d v)(h:tyD T d):HF K T v H:=by
 cases d with|str x=>rw[show v=.str x from r];exact h|lst b=>let⟨a,s,rfl,e,_⟩:=r;exact .inl #[h,s,Ya.of e]|scr b=>let⟨a,s,rfl,e,_⟩:=r;exact .inl #[h,s,e]|_=>exact h.elim
structure JMt (X:Cx)(T id:String)(g:D->List D->(D->Prop)->Prop):Prop where
 ex:∃r,LC X id r/\aox X.K T r g
def dBM(T:String)(g:D->Za D->(D->Prop)->Prop)(b:DE)(a:DA):DE:=λds q x=>b ds (λo=>tyD T o/\a ds (λs=>g o s q) x) x
def adI{name:Ze}{apos C:Yv}{T id:String}{g:D->Za D->(D->Prop)->Prop}(p:G6 T)(slot:PySem.Slot T name id)(y:xI (.builtin id)=ZR (.type "method_descriptor"))(A:JMt X T id g)(z:JE X x o J)(B:WV X x (e::E) I)
  (b:Jo X o name|>1)
  (w:LD X (e::E) C|>1)
  (a:TH apos C|>1)(u:TC X e E|>1)(n:VP X E C|>1):
  JE X x (.Call (.Attribute o name apos) (e::E) [] C) (dBM T g J I):=by
 let#[r,m,l]:=A.ex;let#[Y,q,M]:=z.ex;let#[Z,j,L]:=B.ex;exact#[_,OB p slot y m q j b w a u n,λc h k kx=>M c h (λv o H1 H2 e r h=>#[adH (r.same e.sub) h.1,L (c.go e) h.2 (λQ N H3 H4 f i G=>l (c.go (e.trans f)).sub (r.same f.s0) i G (k.go (e.trans f))) (kx.go e.s)]) kx]
noncomputable def MT:Za D->Option (Za Ze)
 |[]=>Zb []
 |.str a::r=>(MT r).map (a :: ·)
 |_::_=>Zc
theorem jR:∀{x:Za D}{bs:Za Ze}{s:Za V},MT x=Zb bs->Zw K H x s->s=bs.map V.str
 |[]=>λe r=>by cases e;exact r
 |d::ds=>λe r=>by
  let#[v,u,z,h,a]:=r;cases d with
  |str b=>
   unfold MT at e;cases q:MT ds with
   |none=>rw[q]at e;cases e
   |some c=>
    rw[q]at e;cases e;rw[z,jR q a,show v=.str b from h];rfl
  |_=>cases e
def vL:D->Za D->(D->Prop)->Prop
 |.str sep,[.lst x]=>λq=>∃y,MT x=Zb y/\(y.map (·.length)).sum+y.length*sep.length<=16777216/\q (.str (Eg sep y))
 |_,_=>λO=>False
def adJ:JMt X "str" "str.join" vL:=by
 show#[_,acs,λ{i H v g d x q Q} s r b h k=>?_];unfold vL at h;split at h;{let#[u,U,p,w,U,a,f]:=UI b;let#[y,e,l,c]:=h;rw[jR e f]at a;exact#[_,p,y,r,U,Ya.of (s _ _ a),l,k _ (.str _) _ _ (.refl s) U c]};exact h.elim
structure LQ where
 nx:ZG->Prop
 rt:D->Prop
 xc:ZG->Zg->Prop
 bk:ZG->Prop:=λO=>False
 ct:ZG->Prop:=λO=>False
 rb:D->ZG->Prop:=λO O=>False
 ro:List D->ZG->Prop:=λO O=>False
abbrev DS:=ZG->LQ->Prop
abbrev DG:=D->ZG->(ZG->Prop)->Prop
abbrev JD:=Za D->ZG->(ZG->Prop)->Prop
structure Dx (K:ZF)(XE:St->XK)(B0 B:Hp)(e:LQ)(T:Xb):Prop where
 nx:∀H0 Hq σ ds,Zy K B0 B H0 Hq σ ds->e.nx ds->T.nx σ Hq
 rt:∀v d H0 Hq,YD B0 B H0 Hq->Rp K H0 d v->e.rt d->T.rt v Hq
 xc:∀H0 Hq σ ds C,Zy K B0 B H0 Hq σ ds->e.xc ds C->XE σ (.ref C) Zc Hq
 bk:∀H0 Hq σ ds,Zy K B0 B H0 Hq σ ds->e.bk ds->T.bk σ Hq
 ct:∀H0 Hq σ ds,Zy K B0 B H0 Hq σ ds->e.ct ds->T.ct σ Hq
 rb:∀v d H0 Hq σ ds,Zy K B0 B H0 Hq σ ds->Rp K H0 d v->e.rb d ds->T.rt v Hq
 ro:∀a vs ys H0 Hq σ ds,Zy K B0 B H0 Hq σ ds->B a=Zc->H0 a=Zc->Hq a=Zb (.lst vs)->Zw K H0 ys vs->(∀(i:Nat) s,ds[i]?=Zb s->s.foot ((σ[i]?).getD Zc) a->False)->e.ro ys ds->T.rt (.ref a) Hq
def Dx.kx{ds:ZG}(o:Dx K x g B e T)(c:Zy K g B b H a ds):KX x a H (e.xc ds):=λC f s h=>o.xc b f a ds C (c.go (YD.grow c.sub s)) h
def OI(K:ZF)(x:St->XK)(c:TS)(s:DS):Prop:=∀{b B f H:Hp}{a:St}{ds:ZG}{e:LQ}{T:Xb},Zy K b B f H a ds->s ds e->Dx K x b B e T->c T a H
def Keeps(ds a:ZG):Prop:=∀(i:Nat) s,a[i]?=Zb s->s.isOwn=Zd->ds[i]?=Zb s
def Pt(K:ZF)(g:TG)(i:DG):Prop:=∀{f B c H:Hp}{e:St}{ds:ZG}{v:V}{d:D}{q:ZG->Prop}{Q:St->Hp->Prop},Zy K f B c H e ds->Rp K c d v->i d ds q->(∀b a,Zy K f B c H b a->Keeps ds a->q a->Q b H)->g v e H Q
def adK(K:ZF)(g:Jk)(i:JD):Prop:=∀{f B c H:Hp}{e:St}{ds:ZG}{s:Za V}{x:Za D}{q:ZG->Prop}{Q:St->Hp->Prop},Zy K f B c H e ds->Zw K c x s->i x ds q->(∀b a,Zy K f B c H b a->Keeps ds a->q a->Q b H)->g s e H Q
structure JS (X:Cx)(XE:St->XK)(st:ZH)(s:DS):Prop where
 ex:∃ts,PS X st ts/\OI X.K XE ts s
structure TL (X:Cx)(XE:St->XK)(st:List ZH)(s:DS):Prop where
 ex:∃ts,Tz X st ts/\OI X.K XE ts s
structure JG (X:Cx)(tg:ZE)(g:DG):Prop where
 ex:∃t,PG X tg t/\Pt X.K t g
structure Gq (X:Cx)(tg:List ZE)(g:JD):Prop where
 ex:∃t,HC X tg t/\adK X.K t g
def VG(i:Nat):DG:=λd ds q=>q (ds.set i (.v d))
def Dy:JD:=λx ds q=>lz 0 x (q ds)
def JH(g:DG)(r:JD):JD:=λx ds q=>lC x λd y=>g d ds λa=>r y a q
def TN(n:Nat)(g:JD):DG:=λd ds q=>aT d λx=>lz n x (g x ds q)
def adL:Keeps ds (ds.set i (.v d)):=λj s e w=>by
 by_cases hi:i<ds.length;{rw[VQ hi]at e;split at e;{cases e;cases w};exact e};rw[vc hi]at e;exact e
def Keeps.trans(h:Keeps a b)(k:Keeps b c):Keeps a c:=λi s e w=>h i s (k i s e w) w
def Keeps.refl:Keeps a a:=λi s e w=>e
def Dz(i:Nat):Pt K (Ov i) (VG i):=λc r h k=>k _ _ (c.vd i r) adL h
def adM(b:X.N.Nodup)(hi:X.N[i]?=Zb x)(a:Loc X.env.scope x)(f:Vl X x|>3):JG X (.Name x pos) (VG i):=
 #[_,F7 b hi a f,Dz i]
def jS:Gq X [] Dy:=#[_,K2,λc r h k=>by
 let#[e,h]:=Gb h;cases MZ e;exact#[r,k _ _ c .refl h]]
def vM(w:JG X e g)(f:Gq X E r)(s:(Qi (e::E) X.env).map (·.2)=QR e X.env::(Qi E X.env).map (·.2)|>1):Gq X (e::E) (JH g r):=by
 let#[I,o,A]:=w.ex;let#[G,p,z]:=f.ex;show#[_,L5 o p s,λc r h k=>?_];let#[d,Y,U,h]:=jk h;let#[v,u,U,n,m]:=r;exact#[v,u,U,A c n h λj y B q x=>z B m x λa i C b f=>k a i C (q.trans b) f]
def DB(h:Gq X E g)(j:Xl X|>1)(i:(Qi E X.env).length=n|>1)(b:(Qi E X.env).findIdx? (·.1)=Zc|>1):JG X (.Tuple E k pos) (TN n g):=by
 let#[w,p,u]:=h.ex;show#[_,L7 j p i b,λc r h k=>?_];let#[x,e,o]:=jj h;let#[l,q]:=Gb o;subst e;let#[a,s,U,m,f]:=r;exact#[a,s,U,YW.of (c.sub _ _ m),by rw[f.length];exact l,u c f q k]
def jT:DS:=λds e=>e.nx ds
def jU(s t:DS):DS:=λds e=>s ds {e with nx:=λa=>t a e}
def jV:TL X x [] jT:=#[_,mW,λc h o=>o.nx _ _ _ _ c h]
def Ub{st:ZH}(h:JS X x st s):TL X x [st] s:=by
 let#[t,p,d]:=h.ex;exact#[_,xT p,d]
def Xy{st:ZH}{rest:Za ZH}(h:JS X x st s)(b:TL X x rest t):TL X x (st::rest) (jU s t):=by
 let#[m,a,g]:=h.ex;let#[j,p,f]:=b.ex;exact#[_,mX a p,λc h o=>g c h #[λn H i ds C e=>f C e o,o.rt,o.xc,o.bk,o.ct,o.rb,o.ro]]
def LR(a:DE)(g:DG):DS:=λds e=>a ds (λd=>g d ds e.nx) (e.xc ds)
def DC(d:SD K x f n)(m:Pt K t g):OI K x (Pk f t) (LR n g):=λc h o=>
 d c h (λv a q p e r h=>m (c.go e) r h λb j C O i=>o.nx _ _ _ _ C i) (o.kx c)
def adN(g:X.N.Nodup)(hi:X.N[i]?=Zb x)(b:Loc X.env.scope x)(c:JE X E e j)(s:XD e (Zb (.Name x a)) pos.line X.env=ZR Zi|>1)
  (f:Vl X x|>3):JS X E (.Assign [.Name x a] e pos) (LR j (VG i)):=by
 let#[m,p,d]:=c.ex;exact#[_,Ow g hi b p s f,DC d (Dz i)]
def adO(c:JE X x e i)(b:JG X tg g)(s:mx [tg] e pos.line X.env=ZR Zi|>1)(w:mq [tg] e X.env=ZR Zc|>1)
  (f:(Qi [tg] X.env).map (·.2)=[QR tg X.env]|>1):JS X x (.Assign [tg] e pos) (LR i g):=by
 let#[m,p,d]:=c.ex;let#[t,a,j]:=b.ex;exact#[_,xV p a s w f,DC d j]
def jW(a:DE):DS:=λds e=>a ds (λO=>e.nx ds) (e.xc ds)
def adP(b:JE X x e f)(s:XD e Zc pos.line X.env=ZR Zi|>1):JS X x (.Expr e pos) (jW f):=by
 let#[g,p,d]:=b.ex;exact#[_,Pj p s,λc h o=>d c h (λv a j i e r h=>o.nx _ _ _ _ (c.go e) h) (o.kx c)]
def jX(p:Za Nat)(a:DE):DS:=λds e=>a (peekAt p ds) e.rt (e.xc ds)
def Mt(b:Za Nat)(f:JE X x e g):JS X x (.Return (Zb e) pos) (jX b g):=by
 let#[j,p,d]:=f.ex;show#[_,xU p,λc h o=>?_];let#[i,C,_]:=c.peekAt b;exact d C h (λv a i m e r h=>o.rt _ _ _ _ (C.ext.trans e) r h) (o.kx c)
def dIf(p:Za Nat)(c:DT)(s t:DS):DS:=λds e=>c (peekAt p ds) (λb=>if b=Zd then s ds e else t ds e) (e.xc ds)
def Qq(p:Za Nat){s t:DS}(m:JT X x c w)(u:TL X x a s)(q:TL X x b t):JS X x (.If c a b pos) (dIf p w s t):=by
 let#[B,j,A]:=m.ex;let#[I,i,z]:=u.ex;let#[G,g,y]:=q.ex;show#[_,mY j i g,λc h o=>?_];let#[Q,C,f,L,n]:=c.peekAt p;show A C h (λb N M e h=>?_) (o.kx c);let#[J,E,_]:=e.OG f c.sub L n;cases b with
 |true=>
  exact z (c.go E) h o
 |false=>
  exact y (c.go E) h o
def adQ(s:DS):DS:=λds e=>∃M:ZG->Prop,s ds {e with nx:=M}/\∀a,M a->e.nx a
def vN{st:ZH}(h:JS X x st s):JS X x st (adQ s):=by
 let#[t,p,d]:=h.ex;show#[_,p,λc h o=>?_];let#[M,h,k]:=h;exact d c h #[λe H b ds C a=>o.nx _ _ _ _ C (k ds a),o.rt,o.xc,o.bk,o.ct,o.rb,o.ro]
def Walks(K:ZF)(J:It)(s:Za D)(w:Hp):Prop:=∀(i:Nat) (b H:Hp),Zv w b->Zv b H->
 (i<s.length->J.go i H/\∀x c,J.yld i H x c->∃a,YD b H a c/\∃d,s[i]?=Zb d/\Rp K a d x)/\(s.length<=i->J.stop i H)
abbrev DI:=ZG->(Za D->Prop)->(Zg->Prop)->Prop
def Gs(K:ZF)(E:St->XK)(w:TI)(i:DI):Prop:=∀{f B c H:Hp}{b:St}{ds:ZG}{q:Za D->Prop}{x:Zg->Prop}{R:It->Hp->Prop},Zy K f B c H b ds->i ds q x->(∀J s a e,YD c H a e->Walks K J s a->q s->R J e)->KX E b H x->w b H R
structure JI (X:Cx)(XE:St->XK)(tg iter:ZE)(di:DI):Prop where
 ex:∃wi,PI X tg iter wi/\Gs X.K XE wi di
def jY(h:Ya K w a b)(r:Zw K w g b):Walks K (Itl K a) g w:=by
 intro i m H f s;have c:=(f.trans s).seq h;show#[λhi=>?_,λhi=>#[b,c,by rw[r.length];exact hi]];let#[v,e,j]:=r.get (ZA hi);show#[⟨b,v,c,e⟩,λx n y=>?_];let#[U,y]:=y;have:=y b c;rw[e]at this;cases this;exact#[m,.refl s,_,ZA hi,j.same f]
def adR(h:YW K w a b)(r:Zw K w g b):Walks K (Itt K a) g w:=by
 intro i m H f s;have c:=h.same (f.trans s);show#[λhi=>?_,λhi=>#[b,c,by rw[r.length];exact hi]];let#[v,e,j]:=r.get (ZA hi);show#[⟨b,v,c,e⟩,λx n y=>?_];let#[U,y]:=y;have:=y b c;rw[e]at this;cases this;exact#[m,.refl s,_,ZA hi,j.same f]
noncomputable def intsFrom(lo:Int)(n:Nat):Za D:=(Vj n).map λi:Nat=>.int (lo+i)
def adS{lo:Int}:Walks K (ED lo n) (intsFrom lo n) w:=by
 intro i b H c s;have a:(intsFrom lo n).length=n:=by unfold intsFrom;simp
 show#[λhi=>?_,λhi=>by rw[a]at hi;exact hi];rw[a]at hi;show#[hi,λx e y=>?_];let#[U,U]:=y;show#[b,.refl s,.int (lo+i),?_,U];unfold intsFrom;rw[YC,List.getElem?_range hi];rfl
noncomputable def signs(x:Ze):Za D:=x.cps.toList.map λc=>.str #[[c].toArray]
def adT:Walks K (EY x) (signs x) w:=by
 intro i b H f s;have a:(signs x).length=x.cps.size:=by unfold signs;simp
 show#[λhi=>?_,λhi=>by rw[a]at hi;exact hi];rw[a]at hi;show#[hi,λv g y=>?_];let#[U,c,e,U]:=y;show#[b,.refl s,.str #[[c].toArray],?_,U];unfold signs;rw[YC,Rn,e];rfl
noncomputable def LU(s:Za D):Za D:=s.mapIdx λi x=>.tup [.int i,x]
def adU(h:JE X E l b):JI X E g l (λds q x=>b ds (λd=>match d with | .str y=>q (signs y) | _=>False) x):=by
 let#[f,p,d]:=h.ex;show#[_,aco p,λc h k kx=>d c h (λv a j i e r h=>?_) kx];split at h;{exact#[_,r,k _ _ _ _ e adT h]};exact h.elim
def vO(e:DE):DI:=λds q x=>e ds (λd=>match d with | .lst s=>q s | .scr s=>q s | .tup s=>q s | _=>False) x
def JK(h:JE X x l g):JI X x i l (vO g):=by
 let#[j,p,d]:=h.ex;show#[_,acJ p,λc h k kx=>d c h (λv a n m e r h=>?_) kx];split at h;{let#[a,s,U,b,f]:=r;exact#[a,U,.inl #[#[s,Ya.of (e.sub _ _ b)],k _ _ _ _ e (jY (Ya.of b) f) h]]};{let#[a,s,U,b,f]:=r;exact#[a,U,.inl #[#[s,e.sub.seq b],k _ _ _ _ e (jY b f) h]]};{let#[a,s,U,b,f]:=r;exact#[a,U,.inr #[#[s,YW.of (e.sub _ _ b)],k _ _ _ _ e (adR (YW.of b) f) h]]};exact h.elim
def jZ(a:DA):DI:=λds q x=>a ds (λs=>∃j:Int,s=[.int j]/\-(2^62)<=j/\j<2^62/\q (intsFrom 0 j.toNat)) x
def DF(g:Gl X "range")(m:X.mg "range" = Zc)(f:WV X x [a] q)(s:XA [a] X.env=[(Zi,Ye a X.env)]|>1):JI X x y (.Call (.Name "range" p) [a] [] pos) (jZ q):=by
 let#[A,p,d]:=f.ex;show#[_,X9 g m p s,λc h k kx=>d c h (λw u C B e r z=>?_) kx];let#[j,U,o,n,i]:=z;let#[v,U,b]:=UI r;exact#[j,by rw[show v=.int j from b],o,n,k _ _ _ _ e adS i]
def YD.OJ(e:YD W B c H)(h:Zv a W)(n:∀b,a b=Zc->Ta B b->W b=Zc):YD a B c H:=#[e.s,h.trans e.s0,e.sub,λb z y=>e.new b (n b z y) y]
theorem Zy.OJ(c:Zy K W B f H e ds)(h:Zv a W)(n:∀b,a b=Zc->Ta B b->W b=Zc):Zy K a B f H e ds:=#[c.ext.OJ h n,c.slot,c.young,c.sep,c.len]
def Zy.rebase(c:Zy K g B a H e ds)(h:Zv g W)(f:Zv W a):Zy K W B a H e ds:=
 #[#[c.ext.s,f,c.ext.sub,λb z y=>c.ext.new b (h.free z) y],c.slot,c.young,c.sep,c.len]
def RL(g:DG)(b:DS)(e:LQ):Za D->ZG->Prop
 |[],ds=>e.nx ds
 |x::s,ds=>g x ds λa=>b a {e with nx:=RL g b e s,ct:=RL g b e s,bk:=e.nx}
def adV(i:DI)(g:DG)(b:DS):DS:=λds e=>∃f:Za Nat,i (peekAt f ds) (λx=>RL g b e x (peekAt f ds)) (e.xc ds)
def LV{b:DS}{pos:Yv}(hp:nG (Yn X) X.A X.env X.xe)(hi:JI X XE tg iter di)(hg:JG X tg g)(hb:TL X XE body b)(hc:Xl X|>1)
  (hs:UY X iter|>4):JS X XE (.For tg iter body [] pos) (adV di g b):=by
 let#[wi,p0,d0]:=hi.ex;let#[t,p1,d1]:=hg.ex;let#[tb,p2,d2]:=hb.ex;show#[_,aab hp hc p0 p1 p2 hs,λ{B0 B H0 H σ ds e T} c h o=>?_];let#[fz,h]:=h;let#[H1,c1,_]:=c.peekAt fz;show d0 c1 h (λJ I H2 H3 e1 w h=>?_) (o.kx c);have n:=c1.ext.s0.trans e1.s0;have p:=(c1.ext.trans e1).new;show#[λi m Y H'=>m=I.length-i/\i<=I.length/\∃G Q,Zy X.K B0 B G H' Y Q/\Zv H2 G/\RL g b e (I.drop i) Q,#[_,U,Wg _,H2,_,c1.go e1,.refl _,h],?_];rintro i m Y H' ⟨rfl,hi,G,Q,c',s',Z⟩;let#[w1,w2]:=w i G H' s' c'.sub;by_cases u:i<I.length;{right;let#[go,yld]:=w1 u;rw[Od u]at Z;show#[go,λM H4=>∃L z,Zy X.K B0 B L H4 M z/\Zv H2 L/\RL g b e (I.drop (i+1)) z,λM H4 ⟨H5,z,c2,s2,l2⟩=>⟨_,by omega,rfl,u,H5,z,c2,s2,l2⟩,λx H4 y=>?_];let#[H5,e5,d,ed,rd]:=yld x H4 y;rw[ZA u]at ed;cases ed;exact d1 (c'.go e5) rd Z λM z c2 O h2=>d2 (e:={e with nx:=λN=>RL g b e (I.drop (i+1)) N,ct:=λN=>RL g b e (I.drop (i+1)) N,bk:=e.nx}) (c2.rebase n (s'.trans e5.s0)) h2 #[λs E j f q l3=>⟨s,f,q.OJ n p,q.ext.s0,l3⟩,λv d' s E x3=>o.rt v d' s E (x3.OJ n p),λs E j f C q=>o.xc s E j f C (q.OJ n p),λs E j f q=>o.nx s E j f (q.OJ n p),λs E j f q l3=>⟨s,f,q.OJ n p,q.ext.s0,l3⟩,λv d' s E j f q=>o.rb v d' s E j f (q.OJ n p),λa vs ys s E j f q=>o.ro a vs ys s E j f (q.OJ n p)]};left;have hx:I.drop i=[]:=IU (SH u);rw[hx]at Z;exact#[w2 00,o.nx _ _ _ _ c' Z]
def adW(p:Za Nat)(c:DT)(b:DS):DS:=λds e=>∃W:Nat->ZG->Prop,(∃m,W m ds)/\∀m ds,W m ds->
 c (peekAt p ds) (λk=>if k=Zd then b ds {e with nx:=λa=>∃M,M<m/\W M a,ct:=λa=>∃M,M<m/\W M a,bk:=e.nx}else e.nx ds) (e.xc ds)
def ie(s:Za Nat)(Z:nG (Yn X) X.A X.env X.xe)(hc:JT X x c dc)(hb:TL X x body b):JS X x (.While c body [] pos) (adW s dc b):=by
 let#[tc,N,d0]:=hc.ex;let#[tb,L,d1]:=hb.ex;show#[_,N3 Z N L,λ{G B H0 H σ ds e T} c h o=>?_];let#[W,#[m,w],h]:=h;show#[λm i y=>∃n g,Zy X.K G B n y i g/\W m g,#[m,H0,ds,c,w],?_];rintro m i y ⟨n,g,C,I⟩;let#[H1,c1,J,Y,Q]:=C.peekAt s;show d0 c1 (h m g I) (λk H2 H3 e h=>?_) (o.kx C);let#[H4,E,_]:=e.OG J C.sub Y Q;cases k with
 |true=>
  exact#[λf u=>∃M,M<m/\∃j a,Zy X.K G B j u f a/\W M a,λf u z=>z,d1 (C.go E) h #[λj H7 f a q ⟨M,l,p⟩=>⟨M,l,j,a,q,p⟩,o.rt,o.xc,o.nx,λj H7 f a q ⟨M,l,p⟩=>#[M,l,j,a,q,p],o.rb,o.ro]]
 |false=>
  exact o.nx _ _ _ _ (C.go E) h
def OL(K:ZF)(E:St->XK)(i:TE)(j:DA):Prop:=∀{m B g H:Hp}{c:St}{ds:ZG}{q:Za D->Prop}{x:Zg->Prop}{Q:VK},Zy K m B g H c ds->j ds q x->
 (∀a f s b e,YD g H b e->H a=Zc->b a=Zc->e a=Zb (.lst f)->Zw K b s f->q s->Q (.ref a) e)->KX E c H x->i c H Q
structure JF (X:Cx)(XE:St->XK)(e:ZE)(df:DA):Prop where
 ex:∃te,PE X e te/\OL X.K XE te df
def JL(f:DA):DE:=λds q x=>f ds (λs=>q (.lst s)) x
def ig(e:YD i H c g)(n:H a=Zc)(N:c a=Zc)(h:g a=Zb o):YD i H (upd c a o) g:=by
 show#[e.s,e.s0.trans (Zv.upd N),λb u z=>?_,λb z y=>?_];{by_cases f:b=a;{subst f;rw[YQ]at z;rw[h];exact z};rw[ZN f]at z;exact e.sub _ _ z};rw[ZN (y.ne n)];exact e.new b z y
def vP(d:OL K E b g):SD K E b (JL g):=λc h k kx=>
 d c h (λa s x i j e n N f r q=>k _ (.lst x) _ _ (ig e n N f) (SW r N) q) kx
def JF.je(h:JF X x e f):JE X x e (JL f):=by
 let#[a,p,d]:=h.ex;exact#[_,p,vP d]
def SZ(h:WV X n E j):JF X n (.List E pos) (λds q x=>j ds (λa=>a.length<=Zo/\q a) x):=by
 let#[u,i,m]:=h.ex;show#[_,EI i,λc h k kx=>m c h (λg a o w e r f=>#[by rw[r.length];exact f.1,λp b=>?_]) kx];exact k p g a o _ (e.trans (.grow e.sub (Zv.upd b))) (e.s.free b) (e.sub.free b) YQ r f.2
def XN:St->XK:=λO O O O=>False
noncomputable def PX(n:Nat)(fr:Za Nat)(ds:ZG):ZG:=WN n .un++fr.map λj=>match ds[j]? with
 |some (.v d)=>.v d
 |_=>.un
def UJ(g:DG)(f:DT)(e:DE)(q:Za D->Prop):Za D->ZG->Za D->Prop
 |[],_,a=>q a
 |x::s,ds,a=>g x ds λc=>f c (λb=>if b=Zd then e c (λy=>a.length<Zo/\UJ g f e q s c (a++[y])) (λO=>False)else UJ g f e q s c a) (λO=>False)
def JN(n:Nat)(fr:Za Nat)(i:DI)(g:DG)(f:DT)(e:DE):DA:=λds q x=>i ds (λs=>UJ g f e q s (PX n fr ds) []) x
def OM:DT:=λO q O=>q Zd
def Tb(ds:ZG):Prop:=∀(i:Nat) s,ds[i]?=Zb s->s.isOwn=Zi
def Tb.keeps(h:Tb ds)(k:Keeps ds a):Tb a:=λi s e=>by
 cases w:s.isOwn with
 |false=>rfl
 |true=>rw[h i s (k i s e w)]at w;cases w
def adX(n:Nat)(fr:Za Nat)(a:St)(i:Nat):((pre n fr a)[i]?).getD Zc=if i<n then Zc else ((fr[i-n]?).map λj=>(a[j]?).getD Zc).getD Zc:=by
 unfold pre;by_cases h:i<n;{rw[Zt h,VD (by rw[Rt];exact h),Ny,Zt h];rfl};rw[Zq h,UR (by rw[Rt];exact SH h),Rt,YC]
set_option tactic.hygienic true in
def vQ(c:Zy K m B b H f ds)(s:Zv H g)(n:Nat)(fr:Za Nat):Zy K b H b g (pre n fr f) (PX n fr ds)/\Tb (PX n fr ds):=by
 have no:Tb (PX n fr ds):=λi s e=>by
  unfold PX at e;by_cases h:i<n;{rw[VD (by rw[Rt];exact h),Ny,Zt h]at e;cases e;rfl};rw[UR (by rw[Rt];lia),Rt,YC]at e;cases q:fr[i-n]? with
  |none=>rw[q]at e;cases e
  |some j=>
   rw[q]at e;cases e;dsimp only;split<;>rfl
 show#[#[.grow c.sub s,λi t e=>?_,λi t a e w=>?_,λi j t u a O e O w=>?_,?_],no]
 ·rw[adX];unfold PX at e;by_cases h:i<n;{rw[VD (by rw[Rt];exact h),Ny,Zt h]at e;cases e;trivial};rw[Zq h];rw[UR (by rw[Rt];lia),Rt,YC]at e;cases q:fr[i-n]? with
  |none=>rw[q]at e;cases e
  |some j=>
   rw[q]at e;cases e;dsimp only[KU,G4];split;{rename_i d Q;let#[v,E,r]:=c.slot j _ Q;exact#[v,E,r]};trivial
 {have:=no i t e;rw[Slot.Pm w]at this;cases this};{have:=no i t e;rw[Slot.Pm w]at this;cases this};unfold pre PX;simp
def Zy.aside(c:Zy K m B e H f ds)(n:Tb ds)(g:B a=Zc)(i:e a=Zc):Zy K m B e (upd H a o) f ds:=by
 show#[⟨λb u z=>?_,c.ext.s0,λb u z=>?_,c.ext.new⟩,λj t r=>?_,c.young,c.sep,c.len];{rw[ZN (λy=>by rw[y,g]at z;cases z)];exact c.ext.s _ _ z};{rw[ZN (λy=>by rw[y,i]at z;cases z)];exact c.sub _ _ z};have old:=c.slot j t r;have w:=n j t r;cases t with
 |un=>trivial
 |v d=>exact old
 |own _=>cases w
 |ob _ _ _ _=>cases w
 |od _=>cases w
 |on _=>cases w
 |st _ _=>cases w
def ik{XE:St->XK}{di:DI}{g:DG}{f:DT}{e:DE}(n:Nat)(fr:Za Nat)(d0:Gs K XE wi di)(d1:Pt K t g)(d2:Pn K XN tf f)(d3:SD K XN te e):OL K XE (wV n fr wi t tf te) (JN n fr di g f e):=by
 intro B0 B H0 H σ ds q x Q c h k kx;show d0 c h (λJ Y H1 H2 e1 w h=>λG hD=>?_) kx;let#[c1,no1]:=vQ (c.go e1) (Zv.upd hD) n fr;show#[λi m Z H'=>m=Y.length-i/\i<=Y.length/\∃j C A L,Zy K H1 H2 j H' Z C/\Tb C/\j G=Zc/\H' G=Zb (.lst L)/\Zw K j A L/\UJ g f e q (Y.drop i) C A,#[_,U,Wg _,H1,_,[],[],c1,no1,(e1.sub.free hD),YQ,U,h],?_];rintro i m Z H' ⟨rfl,hi,j,C,A,L,c',no',n',hv,r',hl⟩;let#[w1,w2]:=w i j H' c'.ext.s0 c'.sub;by_cases p:i<Y.length
 ·right;let#[go,yld]:=w1 p;rw[Od p]at hl;show#[go,λI H4=>∃o a E vs2,Zy K H1 H2 o H4 I a/\Tb a/\o G=Zc/\H4 G=Zb (.lst vs2)/\Zw K o E vs2/\UJ g f e q (Y.drop (i+1)) a E,λI H4 ⟨a1,a2,a3,a4,a5⟩=>⟨_,by omega,rfl,p,a1,a2,a3,a4,a5⟩,λy H4 z=>?_];let#[H5,e5,d,ed,rd]:=yld y H4 z;rw[ZA p]at ed;cases ed;show d1 (c'.go e5) rd hl λI a c2 kp h2=>?_;have N:=no'.keeps kp;have v5:=e5.s _ _ hv;show d2 c2 h2 (λb H6 H7 M h6=>?_) (λO O O h=>h.elim);have n6:=M.new G (e5.new G n' (Vi hv)) (Vi v5);have v6:=M.s _ _ v5;cases b with
  |false=>
   exact#[H6,a,A,L,c2.go M,N,n6,v6,r'.same (e5.trans M).s0,h6]
  |true=>
   show d3 (c2.go M) h6 (λu y' H8 H9 e8 r8 h8=>?_) (λO O O h=>h.elim);have n8:=e8.new G n6 (Vi v6);have ra:=r'.same (e5.trans (M.trans e8)).s0;show#[L,(e8.s _ _ v6),by rw[ra.length];exact h8.1,H8,a,A++[y'],L++[u],((c2.go M).go e8).aside N hD n8,N,n8,YQ,ra.snoc r8,h8.2]
 left;have hx:Y.drop i=[]:=IU 00;rw[hx]at hl;show#[w2 00,k G L A j H' (e1.trans c'.ext) (e1.s.free hD) n' hv r' hl]
structure Tc (X:Cx)(XE:St->XK)(ifs:List ZE)(d:DT):Prop where
 ex:∃t,TK X ifs t/\Pn X.K XE t d
def vR:Tc X x [] OM:=#[_,ace,λc h k kx=>k _ _ _ (.refl c.sub) h]
def iq(h:JT X x c d):Tc X x [c] d:=by
 let#[t,p,d]:=h.ex;exact#[_,acf p,d]
def ir(k:KX XN a H x):x=λO=>False:=funext λC=>propext #[λh=>k C H (.refl _) h,λh=>h.elim]
def vS{Xf:o->Cx}(n:∀z,(Xf z).K=K)(h:∀z,JE (Xf z) XN e i):∃f,(∀z,PE (Xf z) e f)/\SD K XN f i:=by
 show#[λb H Q=>∃j B g ds q,Zy K j B g H b ds/\i ds q (λO=>False)/\KE K g H q Q,λz=>?_,λc hd k kx=>?_];{rintro a s b H Q I ⟨j,B,g,ds,q,c,hd,k⟩;let#[f,p,d]:=(h z).ex;have m:=n z;subst m;exact p a s b H Q I (d c hd k λO O O h=>h.elim)};rw[ir kx]at hd;exact#[_,_,_,_,_,c,hd,k]
def Gu{Xf:x->Cx}(w:∀z,(Xf z).K=K)(h:∀z,Tc (Xf z) XN i m):∃f,(∀z,TK (Xf z) i f)/\Pn K XN f m:=by
 show#[λe H Q=>∃o B j ds q,Zy K o B j H e ds/\m ds q (λO=>False)/\∀b g n,YD j H g n->q b->Q b n,λz=>?_,λc hd k kx=>?_];{rintro a s e H Q I ⟨o,B,j,ds,q,c,hd,k⟩;let#[f,p,d]:=(h z).ex;have u:=w z;subst u;exact p a s e H Q I (d c hd k λO O O h=>h.elim)};rw[ir kx]at hd;exact#[_,_,_,_,_,c,hd,k]
def Gv{Xf:y->Cx}(w:∀z,(Xf z).K=K)(h:∀z,JG (Xf z) m g):∃t,(∀z,PG (Xf z) m t)/\Pt K t g:=by
 show#[λv i H Q=>∃j B f ds d q,Zy K j B f H i ds/\Rp K f d v/\g d ds q/\∀b a,Zy K j B f H b a->Keeps ds a->q a->Q b H,λz=>?_,λc r hd k=>#[_,_,_,_,_,_,c,r,hd,k]];rintro e s i H v u Q I n ⟨j,B,f,ds,d,q,c,r,hd,k⟩;let#[A,p,x]:=(h z).ex;have o:=w z;subst o;exact p e s i H v u Q I n (x c r hd k)
def iw{x:St->XK}{E a iter:ZE}(s N:Za Ze)(fr:Za Nat){b:DI}{g:DG}{f:DT}{e:DE}(hi:JI X x a iter b)
  (q:∀z,JG (Zz X own (s++N) z) a g)(u:∀z,Tc (Zz X own (s++N) z) XN i f)(w:∀z,JE (Zz X own (s++N) z) XN E e)(y:Xl X|>1)(c:Sl own X N|>1)(A:Uw X fr N|>1)
  (o:UY X iter|>4):JF X x (.ListComp E [#[a,iter,i,0]] own pos) (JN s.length fr b g f e):=by
 let#[J,n,I]:=hi.ex;let#[t,m,G]:=Gv (Xf:=λz=>Zz X own (s++N) z) (λO=>rfl) q;let#[L,j,C]:=Gu (Xf:=λz=>Zz X own (s++N) z) (λO=>rfl) u;let#[M,p,B]:=vS (Xf:=λz=>Zz X own (s++N) z) (λO=>rfl) w;exact#[_,aci s N fr n m j p y c A o,ik _ fr I G C B]
def Wa(s N:Za Ze)(fr:Za Nat)(hi:JI X x a iter q)
  (j:∀z,JG (Zz X own (s++N) z) a g)(m:∀z,Tc (Zz X own (s++N) z) XN i f)(n:∀z,JE (Zz X own (s++N) z) XN E e)(o:Xl X|>1)(c:Sl own X N|>1)(p:Uw X fr N|>1)
  (b:UY X iter|>4):JE X x (.ListComp E [#[a,iter,i,0]] own pos) (JL (JN s.length fr q g f e)):=(iw s N fr hi j m n o c p b).je
def vT(i:Nat)(f:DA):DS:=λds e=>f ds (λx=>e.nx (ds.set i (.own x))) (e.xc ds)
def adY(i:Nat)(d:OL K x b g):OI K x (Pk b (Ov i)) (vT i g):=λc h o=>
 d c h (λa m s j p e n N f r q=>o.nx _ _ _ _ (c.Dd i e n N f r) q) (o.kx c)
def Qr(g:X.N.Nodup)(hi:X.N[i]?=Zb x)(b:Loc X.env.scope x)(c:JF X E e j)(s:XD e (Zb (.Name x a)) pos.line X.env=ZR Zi|>1)
  (f:Vl X x|>3):JS X E (.Assign [.Name x a] e pos) (vT i j):=by
 let#[m,p,d]:=c.ex;exact#[_,Ow g hi b p s f,adY i d]
def vU(p:Za Nat)(i:Nat)(f:DA):DS:=λds e=>f (peekAt p ds) (λx=>e.nx ((if D.Sq x=Zd then ds else peekAt p ds).set i (.own x))) (e.xc ds)
def adZ(p:Za Nat)(i:Nat)(d:OL K y f w):OI K y (Pk f (Ov i)) (vU p i w):=λ{Y B Q H z ds e T} c h o=>by
 let#[M,C,g,m,j]:=c.peekAt p;show d C h (λa A x J I E n N b r q=>?_) (o.kx c);by_cases hi:D.Sq x=Zd;{rw[Zt hi]at q;let#[G,u,L,s]:=E.OG g c.sub m j;exact o.nx _ _ _ _ (c.Dd i u n (s.free N) b (Zw.less L x hi r)) q};rw[Zq hi]at q;exact o.nx _ _ _ _ (C.Dd i E n N b r) q
def ad0{j:St->XK}{E b iter:ZE}{i:Nat}{x:Ze}{u a:Yv}{S:DS}(s n:Za Ze)(fr:Za Nat){y:DI}{g:DG}{f:DT}{e:DE}(o:X.N.Nodup)(p:X.N[i]?=Zb x)(J:Loc X.env.scope x)(hi:JI X j b iter y)
  (M:∀z,JG (Zz X own (s++n) z) b g)(Q:∀z,Tc (Zz X own (s++n) z) XN I f)(Y:∀z,JE (Zz X own (s++n) z) XN E e)(w:XD (.ListComp E [#[b,iter,I,0]] own pos) (Zb (.Name x u)) a.line X.env=ZR Zd)
  (Z:Xl X)(c:Sl own X n)(hN:Uw X fr n)
  (L:UY X iter)(q:Vl X x)
  (hS:∀m,OL X.K j m (JN s.length fr y g f e)->OI X.K j (Pk m (Ov i)) S):
  JS X j (.Assign [.Name x u] (.ListComp E [#[b,iter,I,0]] own pos) a) S:=by
 let#[wi,G,d0]:=hi.ex;let#[t,C,d1]:=Gv (Xf:=λz=>Zz X own (s++n) z) (λO=>rfl) M;let#[tf,B,d2]:=Gu (Xf:=λz=>Zz X own (s++n) z) (λO=>rfl) Q;let#[m,A,d3]:=vS (Xf:=λz=>Zz X own (s++n) z) (λO=>rfl) Y;exact#[_,acj s n fr o p J G C B A w Z c hN L q,hS _ (ik _ fr d0 d1 d2 d3)]
def LW(s n:Za Ze)(fr:Za Nat)(j:X.N.Nodup)(m:X.N[i]?=Zb x)(q:Loc X.env.scope x)(hi:JI X L b iter J)
  (y:∀z,JG (Zz X own (s++n) z) b g)(A:∀z,Tc (Zz X own (s++n) z) XN I f)(B:∀z,JE (Zz X own (s++n) z) XN E e)(w:XD (.ListComp E [#[b,iter,I,0]] own pos) (Zb (.Name x p)) a.line X.env=ZR Zd|>1)
  (C:Xl X|>1)(c:Sl own X n|>1)(G:Uw X fr n|>1)
  (u:UY X iter|>4)(o:Vl X x|>3):
  JS X L (.Assign [.Name x p] (.ListComp E [#[b,iter,I,0]] own pos) a) (LR (JL (JN s.length fr J g f e)) (VG i)):=
 ad0 s n fr j m q hi y A B w C c G u o λM d=>DC (vP d) (Dz i)
def DH(p:Za Nat)(i:Nat)(a:DE)(w:Za D->D->(Za D->Prop)->Prop):DS:=λds e=>sO ds[i]? λx=>a (peekAt p ds) (λd=>Gc p d (w x d λy=>e.nx (ds.set i (.own y)))) (e.xc ds)
def iy{R:Xb->St->Zg->VK}(A:Za Nat)(i:Nat)(d:SD K XE Z de)
  (L:∀{b:St}{T:Xb}{l:Zg}{u:Za V}{m f:Hp}{x:Za D}{a:D}{y:V}{q:Za D->Prop},f l=Zb (.lst u)->Zv m f->Zw K m x u->Rp K m a y->w x a q->(∀Y g,Zw K m Y g->q Y->T.nx b (upd f l (.lst g)))->R T b l y f)
  (hw:∀{b:St}{H:Hp}{T:Xb}{l:Zg}{u:Za V},b[i]?=Zb (Zb (.ref l))->H l=Zb (.lst u)->Z b H (R T b l)->Q T b H):OI K XE Q (DH A i de w):=by
 intro B0 B m H b ds e T c h o;let#[x,hi,h]:=Df h;let#[l,u,J,h1,G,M]:=c.slot i _ hi;show hw (Ux J) G ?_;by_cases j:A=[]
 {subst j;show d c h (λv a N f E r h=>?_) (o.kx c);show L (E.s _ _ G) E.sub (M.same E.s0) r (Ge h).2 λY g z C=>?_;let#[a',p,f1,f2,f3,I]:=c.push hi;rw[J]at f1;cases f1;exact o.nx _ _ _ _ (I N f g E z) C};let#[N,c1,s1,l1,n1]:=c.peekAt A;show d c1 h (λv a f H3 E r h=>?_) (o.kx c);let#[H4,n,l4,_]:=E.OG s1 c.sub l1 n1;have h:=Ge h;show L (n.s _ _ G) n.sub (M.same n.s0) (Rp.less l4 a (h.1.resolve_left j) r) h.2 λY g z C=>?_;let#[a',p,f1,f2,f3,I]:=c.push hi;rw[J]at f1;cases f1;exact o.nx _ _ _ _ (I H4 H3 g n z) C
def iz:Za D->D->(Za D->Prop)->Prop:=λx d q=>x.length<Zo/\q (x++[d])
def iA:Za D->D->(Za D->Prop)->Prop:=λx d q=>match d with
 |.lst y=>x.length+y.length<=Zo/\q (x++y)
 |_=>False
def Qs{E:St->XK}(z:Za Nat)(i:Nat)(M:JE X E e de)(Q:X.N[i]?=Zb x|>1)(I:Vk X.env.scope x|>3)
  (m:Tp e=Zd|>1)(f:SL (.Name x p) "append" X.env (Ye (.Name x p) X.env)=Ye (.Name x p) X.env|>1)
  (w:LD X [e] c|>1)
  (b:TH apos c|>1)(J:TC X e []|>1)(n:VP X [] c|>1)
  (j:XD (.Call (.Attribute (.Name x p) "append" apos) [e] [] c) Zc pos.line X.env=ZR Zi|>1)(hd:YV x|>2)(o:Vv x|>2):
  JS X E (.Expr (.Call (.Attribute (.Name x p) "append" apos) [e] [] c) pos) (DH z i de iz):=by
 let#[te,G,d1]:=M.ex;show#[_,Pj (OB Lf IJ Ee Jv (pv i Q I hd o) (Sn G Sg m) f w b J n) j,iy (R:=λT g l y B=>EL (.ref l) [y] B λO H3=>T.nx g H3) z i d1 ?_ ?_];{intro g T l u H0 B xs a y q Z s r C A k;exact#[l,u,y,U,U,Z,by rw[r.length];exact A.1,k _ _ (r.snoc C) A.2]};intro g H T l u L Y h;exact#[.ref l,L,.inl #[U,u,Ya.of Y],h]
def ad1{E:St->XK}(B:Za Nat)(i:Nat)(Z:JE X E e de)(hN:X.N[i]?=Zb x|>1)(M:Vk X.env.scope x|>3)
  (z:Tp e=Zd|>1)(g:SL (.Name x p) "extend" X.env (Ye (.Name x p) X.env)=Ye (.Name x p) X.env|>1)
  (w:LD X [e] c|>1)
  (f:TH apos c|>1)(Q:TC X e []|>1)(n:VP X [] c|>1)
  (o:XD (.Call (.Attribute (.Name x p) "extend" apos) [e] [] c) Zc pos.line X.env=ZR Zi|>1)(hd:YV x|>2)(A:Vv x|>2):
  JS X E (.Expr (.Call (.Attribute (.Name x p) "extend" apos) [e] [] c) pos) (DH B i de iA):=by
 let#[te,L,d1]:=Z.ex;show#[_,Pj (OB Lf R8 aqE jg (pv i hN M hd A) (Sn L Sg z) g w f Q n) o,iy (R:=λT m l y G=>wG (.ref l) [y] G λO H3=>T.nx m H3) B i d1 ?_ ?_];{intro m T l u H0 G xs a y q h1 s r J j k;unfold iA at j;split at j;{let#[b,I,U,h2,C]:=J;exact#[l,b,u,I,U,U,h1,s _ _ h2,by rw[r.length,C.length];exact j.1,k _ _ (r.app C) j.2]};exact j.elim};intro m H T l u Y hH h;exact#[.ref l,Y,.inl #[U,u,Ya.of hH],h]
theorem Zw.set(r:Rp K H d v):∀{s:Za D}{a:Za V}(j:Nat),Zw K H s a->Zw K H (s.set j d) (a.set j v)
 |[],_,_,h=>by rw[show _=[]from h];rfl
 |x::s,_,0,⟨u,b,e,_,h⟩=>by subst e;exact#[v,b,U,r,h]
 |x::s,_,j+1,⟨u,b,e,c,h⟩=>by subst e;exact#[u,_,U,c,Zw.set r j h]
def vV(i:Nat)(g:DG):DS:=λds e=>sO ds[i]? λz=>∃x d,z=x++[d]/\g d (ds.set i (.own x)) e.nx
theorem iB:∀{s:Za D}{d:D}{b:Za V},Zw K H (s++[d]) b->∃a v,b=a++[v]/\Zw K H s a/\Rp K H d v
 |[],_,_,h=>by
  let#[v,U,r]:=UI h;exact#[[],v,U,U,r]
 |x::s,d,_,⟨u,a,e,g,h⟩=>by
  subst e;let#[w,v,U,f,c]:=iB h;exact#[u::w,v,U,#[u,w,U,g,f],c]
def ad2{x:St->XK}(i:Nat)(q:Pt K t g):OI K x (Pk (kH K "list" wH (Ez i)) t) (vV i g):=λ{J B s H w ds e T} c h o=>by
 let#[z,hi,y,d,U,h]:=Df h;let#[l,A,E,f1,f2,n]:=c.slot i _ hi;let#[u,v,U,j,f]:=iB n;show#[.ref l,Ux E,.inl #[U,_,Ya.of f2],l,u++[v],v,U,U,f2,02,?_];rw[List.dropLast_concat];let#[I,b,g1,g2,g3,G]:=c.push hi;rw[E]at g1;cases g1;exact q (G s H u (.refl c.sub) j) f h λa p C O m=>o.nx _ _ _ _ C m
def ad3(i:Nat)(n:JG X b g)(o:X.N[i]?=Zb x|>1)(m:Vk X.env.scope x|>3)
  (a:SL (.Name x p) "pop" X.env (Ye (.Name x p) X.env)=Ye (.Name x p) X.env|>1)(e:TH apos c|>1)
  (s:mx [b] (.Call (.Attribute (.Name x p) "pop" apos) [] [] c) pos.line X.env=ZR Zi|>1)(w:mq [b] (.Call (.Attribute (.Name x p) "pop" apos) [] [] c) X.env=ZR Zc|>1)
  (q:(Qi [b] X.env).map (·.2)=[QR b X.env]|>1)(hd:YV x|>2)(f:Vv x|>2):
  JS X E (.Assign [b] (.Call (.Attribute (.Name x p) "pop" apos) [] [] c) pos) (vV i g):=by
 let#[t,j,u]:=n.ex;exact#[_,xV (abp Lf aoZ PySem.F.type_list_pop acH (pv i o m hd f) a e) j s w q,ad2 i u]
theorem XZ.lookup:∀{g:Za (Ze×D)}{fs:Za (Ze×V)},XZ K H g fs->g.lookup f=Zb d->∃v,fs.lookup f=Zb v/\Rp K H d v
 |[],_,_,e=>by cases e
 |(k,a)::g,_,⟨v,u,e,r,h⟩,q=>by
  subst e;rw[Wn]at q⊢;cases z:f==k with
  |true=>rw[z]at q;cases q;exact#[v,U,r]
  |false=>rw[z]at q;exact XZ.lookup h q
theorem XZ.vW:∀{g:Za (Ze×D)}{fs:Za (Ze×V)},XZ K H g fs->g.lookup f=Zc->fs.lookup f=Zc
 |[],_,h,_=>by rw[show _=[]from h];rfl
 |(k,a)::g,_,⟨v,u,e,r,h⟩,q=>by
  subst e;rw[Wn]at q⊢;cases z:f==k with
  |true=>rw[z]at q;cases q
  |false=>rw[z]at q;exact XZ.vW h q
def iC(K:ZF)(f:Ze)(e:DE):DE:=λds q x=>e ds (λd=>∃C g v,d=.obj C g/\Wp K C/\Xx K C f/\g.lookup f=Zb v/\q v) x
def JP{b:DE}(i:X.K=K)(h:JE X E e b)(g:Jo X e f|>1):JE X E (.Attribute e f pos) (iC K f b):=by
 subst i;let#[B,p,d]:=h.ex;show#[_,we p g,λc h k kx=>d c h (λv a J I e r z=>?_) kx];let#[C,G,w,U,y,x,s,q]:=z;let#[a,A,fs,U,o,n]:=r;let#[u,m,j]:=n.lookup s;exact#[a,C,A,fs,u,U,e.sub _ _ o,y,x,m,k _ w _ _ e j q]
noncomputable def PZ(f:Ze)(v:D):Za (Ze×D)->Za (Ze×D)
 |[]=>[(f,v)]
 |(g,w)::r=>if g=f then (g,v)::r else (g,w)::PZ f v r
abbrev YB:=Za D->(D->Prop)->(Zg->Prop)->Prop
def Yy(K:ZF)(g:YB):Sp:=λc H Q E=>∃a s q x,Zv a H/\Zw K a s c/\g s q x/\KE K a H q Q/\∀C b,Zv H b->x C->E (.ref C) Zc b
def Mv:UG X XN:=acw
def IE(g:YB)(a:DA):DE:=λds q x=>a ds (λs=>g s q x) x
def ad4(F:ZK X.prog X.w X.K X.mg X.base (ZV X.prog X.w) k f fd m (Yy X.K g))(q:Xc k X.A)(z:Gl X x)(u:X.mg x=Zb (.ref f))(y:Lg X.K (.ref f)=Zd)(B:Binds X.K fd m [])(o:UG X i)
  (C:WV X i (e::E) G)(a:Vd (e::E)=Zd|>1)(b:YV x|>2):JE X i (.Call (.Name x p) (e::E) [] pos) (IE g G):=by
 let#[M,n,I]:=C.ex;exact#[_,(Ju F q z u y B o #[n] a b).get,λc h k kx=>I c h (λL j J N e r h=>#[J,j,_,_,e.sub,r,h,k.go e,(kx.go e.s)]) kx]
structure iD (P:YZ)(w:Yt)(K:ZF)(mg:Ze->Option Zh)(base:ZD)(k:Nat)(C:Zg)(m:Ze)(g:YB):Prop where
 cl:Wp K C
 ok:∃f fd ps,IG K C m f/\ZK P w K mg base (ZV P w) k f fd ps (Yy K g)/\Binds K fd ps []
def vX(P:YZ)(w:Yt)(K:ZF)(M:Ze->Option Zh)(base:ZD)(k:Nat)(m:Ze)(b:DE)(a:DA):DE:=λds q x=>b ds (λo=>∃C G g,o=.obj C G/\iD P w K M base k C m g/\G.lookup m=Zc/\a ds (λs=>g (o::s) q x) x) x
def iE(X:Cx)(E:St->XK)(k:Nat)(m:Ze)(g:TE)(t:TA):TE:=λb H Q=>g b H λx c=>∃a C i fs s,x=.ref a/\c a=Zb (.ins C i fs)/\(Wp X.K C/\∃f fd p,IG X.K C m f/\ZK X.prog X.w X.K X.mg X.base (ZV X.prog X.w) k f fd p s/\Binds X.K fd p [])/\fs.lookup m=Zc/\
 t b c λe j=>s (x::e) j Q (E b)
def iG(hr:Xc k X.A)(Y:UG X XE)(he:PE X o G)(ha:PA X (e::E) t)
  (b:TC X e E)(g:VP X E pos)
  (Z:Ye (.Call (.Attribute o m apos) (e::E) [] pos) X.env=(do
   let j <-Ye o X.env
   Om apos.atName
   let (f,first) <-RD [j] (xE j m pl)
   callWith pos f first (RB pos (XA (e::E) X.env)) (Jb pos (Je [] X.env)))):
  PE X (.Call (.Attribute o m apos) (e::E) [] pos) (iE X XE k m G t):=by
 intro p s i H Q I h;show PySem.W.methodCall_KW (ZQ (he p s i H _ I h) λu J z=>?_) Z;let#[x,H1,y,L,a,C,dx,fs,sp,ex,ea,N,l,q]:=z;let#[c,f,fd,ps,n,F,hb]:=N;subst ex;obtain rfl:u=Xa a:=L;exact aaJ y ea c n l (u0 (first:=[.ref a]) I.ok.mod.kin n.kp (Vu (ha pos p J i H1 _ y q) λus s2 B H2 w r M=>#[w.Wk,kZ (vs:=.ref a::B) F hr hb Y w (.cons U r) M]) b g)
def ad5{k:Nat}{m:Ze}{P:YZ}{w:Yt}{M:Ze->Option Zh}{base:ZD}(e1:X.prog=P)(e2:X.w=w)(e3:X.K=K)(e4:X.mg=M)(e5:X.base=base)(d1:SD X.K b y dO)(d2:vf X.K b t da):SD X.K b (iE X b k m y t) (vX P w K M base k m dO da):=by
 subst e1 e2 e3 e4 e5;intro B0 B H0 H σ ds q x Q c h J kx;show d1 c h (λv o H1 H2 e r z=>?_) kx;let#[C,Z,g,U,I,l,h]:=z;let#[a,n,fs,U,j,i]:=r;let#[cl,f,fd,G,L,F,N]:=I;exact#[a,C,n,fs,_,U,e.sub _ _ j,#[cl,f,fd,G,L,F,N],i.vW l,d2 (c.go e) h (λu p H3 H4 E A Y=>#[H3,.obj C Z::p,_,_,(e.trans E).sub,#[_,u,U,#[a,n,fs,U,E.s0 _ _ j,i.same E.s0],A],Y,J.go (e.trans E),kx.go (e.trans E).s]) (kx.go e.s)]
def Ra{base:ZD}{k:Nat}{m:Ze}{pos apos:Yv}{e o:ZE}{E:Za ZE}{i:DE}{g:DA}{p:Vb Bool}(u:Xc k X.A)(q:UG X x)(y:JE X x o i)(z:WV X x (e::E) g)
  (J:X.prog=P|>1)(I:X.w=w|>1)(G:X.K=K|>1)(C:X.mg=M|>1)(B:X.base=base|>1)
  (a:TC X e E|>1)(b:VP X E pos|>1)
  (s:Ye (.Call (.Attribute o m apos) (e::E) [] pos) X.env=(do
   let c <-Ye o X.env
   Om apos.atName
   let (f,first) <-RD [c] (xE c m p)
   callWith pos f first (RB pos (XA (e::E) X.env)) (Jb pos (Je [] X.env)))|>1):JE X x (.Call (.Attribute o m apos) (e::E) [] pos) (vX P w K M base k m i g):=by
 let#[Q,n,N]:=y.ex;let#[Y,j,L]:=z.ex;exact#[_,iG u q n j a b s,ad5 J I G C B N L]
def iH(M:HP X.K C)(i:Gl X x)(m:X.mg x=Zb (.ref C))(b:YV x|>2):JE X o (.Call (.Name x p) [] [] pos) (dC (.obj C [])):=
 #[_,ab0 M i m b,λ{s B g H n ds q x Q} c h k kx=>λa f j hd ne=>by
  have E:YD g H g (upd H f (.own a)):=.grow c.sub (Zv.upd hd);have e:upd H f (.own a) a=Zc:=by rw[ZN ne.symm];exact j
  exact k _ (.obj C []) _ _ (E.trans (.put E.sub e)) #[a,f,[],U,YQ,U] h]
abbrev Pu:=Za D->(Za (Ze×D)->Prop)->(Zg->Prop)->Prop
def vY(a:Zg)(H c:Hp):Prop:=∀b o,b≠a->H b=Zb o->c b=Zb o
def OO(K:ZF)(C:Zg)(g:Pu):Sp:=λm H Q E=>∃a i u f s q x,m=.ref a::u/\H a=Zb (.ins C i [])/\f a=Zc/\Zv f H/\Zw K f s u/\g s q x/\
 (∀G fs c e,vY a H e->Zv f c->Zv c e->(∀b,f b=Zc->Ta H b->c b=Zc)->e a=Zb (.ins C i fs)->XZ K c G fs->q G->Q .non e)/\∀j e,vY a H e->x j->E (.ref j) Zc e
def iI(C:Zg)(g:Pu)(s:Za D)(b:DA):DE:=λds q x=>b ds (λa=>g (a++s) (λG=>q (.obj C G)) x) x
def JQ(M:Mk X.K C f)(F:ZK X.prog X.w X.K X.mg X.base CX k f fd ps (OO X.K C g))(hr:Xc (k+1) X.A)(hg:Gl X x)(hm:X.mg x=Zb (.ref C))(G:Binds X.K fd ps ds)(hd:ZX dvs ds)(hdd:∀H,Zw X.K H dds dvs)(hx:EW CX X XE)
  (ha:WV X XE (e::es) da)(Y:Vd (e::es)=Zd|>1)(hdb:YV x|>2):JE X XE (.Call (.Name x p) (e::es) [] pos) (iI C g dds da):=by
 let#[ta,p1,d1]:=ha.ex;show#[_,(acC M F hr hg hm G hd hx #[p1] Y hdb).get,λ{B0 B H0 H σ ds q x Q} c h kq kx=>d1 c h (λvs xs H1 u ee r h=>λa j i Z ne=>?_) kx];have s2:=ee.sub;have N:upd u j (.own a) a=Zc:=by rw[ZN ne.symm];exact i
 have E:Zv u (upd (upd u j (.own a)) a (.ins C j [])):=(Zv.upd Z).trans (Zv.upd N);have m:=s2.free i;show#[a,j,vs++dvs,H1,xs++dds,λgs=>q (.obj C gs),x,U,YQ,m,s2.trans E,r.app (hdd H1),h,λgs fs H0' I J s0 sub nw hfa rf hq=>⟨rfl,?_⟩,λC' I J L=>?_]
 ·have up:Zv u I:=λb o z=>J b o (λy=>by rw[y,i]at z;cases z) (E _ _ z);have n:=nw a m (Vi YQ);have ext:YD H1 u (upd H0' a (.ins C j fs)) I:=by
   show#[up,s0.trans (Zv.upd n),λb o z=>?_,λb z y=>?_];{by_cases G:b=a;{subst G;rw[YQ]at z;rw[hfa];exact z};rw[ZN G]at z;exact sub _ _ z};rw[ZN (y.ne i)];exact nw b z (y.go E)
  exact kq _ (.obj C gs) _ _ (ee.trans ext) #[a,j,fs,U,YQ,rf.same (Zv.upd n)] hq
 show kx C' I (ee.s.trans λb o z=>J b o (λy=>by rw[y,i]at z;cases z) (E _ _ z)) L
theorem XZ.put(r:Rp K H d v):∀{g:Za (Ze×D)}{fs:Za (Ze×V)},XZ K H g fs->XZ K H (PZ f d g) (Ut f v fs)
 |[],_,h=>by rw[show _=[]from h];exact#[v,[],U,r,U]
 |(k,b)::g,_,⟨u,s,e,a,h⟩=>by
  subst e;unfold PZ Ut;split;{exact#[v,s,U,r,h]};exact#[u,_,U,a,XZ.put r h]
theorem XZ.length:∀{g:Za (Ze×D)}{fs:Za (Ze×V)},XZ K H g fs->fs.length=g.length
 |[],_,h=>by rw[show _=[]from h];rfl
 |(k,b)::g,_,⟨u,s,e,a,h⟩=>by subst e;rw[Yu,Yu,XZ.length h]
def iJ(K:ZF)(p:Za Nat)(i:Nat)(f:Ze)(b:DE):DS:=λds e=>∃a x C g,ds[i]?=Zb (.ob a x C g)/\Wp K C/\Xx K C f/\g.length<1000/\b (peekAt p ds) (λd=>e.nx ((peekAt p ds).set i (.ob a x C (PZ f d g)))) (e.xc ds)
def ad6{i:Nat}(h:ds[i]?=Zb (.ob a x C g)):(peekAt pk ds)[i]?=Zb (.ob a x C g):=by
 induction pk generalizing ds with
 |nil=>exact h
 |cons j pk I=>
  show I ?_;rw[List.getElem?_modify,h];by_cases z:j=i;{simp[z,Slot.peek]};simp[z]
def Uz(j:Za Nat)(i:Nat){y:DE}(Q:X.K=K)(L:JE X XE e y)(M:X.N[i]?=Zb x|>1)(G:Vk X.env.scope x|>3)
  (I:XD e (Zb (.Attribute (.Name x p) f apos)) pos.line X.env=ZR Zi|>1)(hd:YV x|>2)(m:Vv x|>2):JS X XE (.Assign [.Attribute (.Name x p) f apos] e pos) (iJ K j i f y):=by
 subst Q;let#[te,A,d1]:=L.ex;show#[_,wg (pv i M G hd m) A I,λ{B0 B H0 H σ ds e T} c h o=>?_];let#[a,w,C,gs,hi,h1,Z,Y,h]:=h;let#[Hp,q,_]:=c.peekAt j;have g:=ad6 (pk:=j) hi;let#[fs,n,f1,f2,u]:=q.slot i _ g;show d1 q h (λv d H1 H2 E r J=>#[.ref a,Ux n,a,C,w,fs,U,E.s _ _ f2,h1,Z,by rw[u.length];exact Y,?_]) (o.kx c);show o.nx _ _ _ _ ((q.go E).write g n (λb z=>z) (s':=.ob a w C (PZ f d gs)) #[_,n,E.new a f1 (Vi f2),YQ,(u.same E.s0).put r]) J
noncomputable def RM(N:Za Ze)(x:Za D):ZG:=x.map .v++WN (N.length-x.length) .un
def iK(s:Zv b H)(r:Zw K b x c)(g:x.length<=N.length):Zy K b H b H (start N c) (RM N x):=by
 have no:∀(i:Nat) t,(RM N x)[i]?=Zb t->t.isOwn=Zi:=λi t e=>by
  unfold RM at e;by_cases h:i<x.length;{rw[VD (by rw[ZI];exact h),YC,ZA h]at e;cases e;rfl};rw[UR (by rw[ZI];exact SH h),ZI,Ny]at e;split at e;{cases e;rfl};cases e
 show#[.refl s,λi t e=>?_,λi t a e q=>?_,λi j t u a O e O q=>?_,?_];{unfold RM at e;unfold start;by_cases h:i<x.length;{rw[VD (by rw[ZI];exact h),YC,ZA h]at e;cases e;let#[v,E,f]:=r.get (ZA h);rw[VD (by rw[ZI,r.length];exact h),YC,E];exact#[v,U,f]};rw[UR (by rw[ZI];lia),ZI,Ny]at e;split at e;{cases e;trivial};cases e};{have:=no i t e;rw[Slot.Pm q]at this;cases this};{have:=no i t e;rw[Slot.Pm q]at this;cases this};unfold start RM;simp only[Yx,ZI,Rt,r.length]
def UZ.YR{P:YZ}{st:ZH}{f:Zg}{fd:ZZ}{N u:Za Ze}{k:Nat}{g:YB}(F:UZ K x m st f fd)(S:Yh N u (ZL st))(len:∀a q x,g a q x->a.length=u.length)
  (y:∀(i:Zh) (A:Yr) (o:Za Wf) (s:Zj) (H:Hp) (E:XK),Xc k (A.deeper (Sb m (ZL st) s.heap.objs.size f i))->
   ∃b,TL (Uu (ZV P w) P w K mg base N m (ZL st) f i A o s H E) (λO=>E) (Vx st) b/\∀a q x,g a q x->b (RM N a) {nx:=λO=>q .non,rt:=q,xc:=λO=>x}):ZK P w K mg base (ZV P w) (k+1) f fd u (Yy K g):=by
 have G:u.length<=N.length:=by have:=XI Lc S.pre;rw[WL]at this;lia
 show F.HW S (λM H Q E Z=>by let#[H0,a,q,x,s,r,h,_]:=Z;rw[r.length];exact len a q x h) λi A o s H M Q E hr z=>?_;let#[H0,a,q,x,Y,r,h,J,kx]:=z;let#[b,j,hb]:=y i A o s H E hr;let#[t,p,d]:=j.ex;show#[t,#[p],d (iK Y r (by rw[len a q x h];exact G)) (hb a q x h) #[λn I L ds c B=>J _ .non _ _ c.ext U B,λv d n I e rv B=>J _ _ _ _ e rv B,λn I L ds C c hx=>kx C I c.ext.s hx,λO O O O O h=>h.elim,λO O O O O h=>h.elim,λO O O O O O O O h=>h.elim,λO O O O O O O O O O O O O h=>h.elim]]
def iL{st:ZH}{f C:Zg}{N ps:Za Ze}{g:Pu}{cdv:Zh}{A:Yr}{G:Za Wf}{s:Zj}{vs:Za V}{Q:VK}{E:XK}(hpl:ps.length<=N.length)(len:∀m q x,g m q x->m.length+1=ps.length)
  (J:∃b,TL (Uu CX P w K mg base N Z (ZL st) f cdv A G s H E) (λO=>E) (Vx st) b/\∀a L m q x,g m q x->b (.ob a L C []::(m.map .v++WN (N.length-(m.length+1)) .un)) {nx:=λds=>∃gs,ds[0]?=Zb (.ob a L C gs)/\q gs,rt:=λO=>False,xc:=λO=>x})
  (hsp:OO K C g vs H Q E):∃t,QSs (Uu CX P w K mg base N Z (ZL st) f cdv A G s H E) (Vx st) t/\t {nx:=λO I=>Q .non I,rt:=Q} (start N vs) H:=by
 let#[a,L,Y,H0,m,q,x,U,ha,h0,s0,r,h,kq,kx]:=hsp;let#[b,j,hb]:=J;let#[t,p,d]:=j.ex;have hl:=len m q x h;let B:Hp:=λc=>if c=a then Zc else H c
 have sBH:Zv B H:=λc o z=>by
  have z:(if c=a then Zc else H c)=Zb o:=z;split at z;{cases z};exact z
 have hBa:B a=Zc:=Zt U;have len1:(start N (.ref a::Y)).length=(Slot.ob a L C []::(m.map Slot.v++WN (N.length-(m.length+1)) Slot.un)).length:=by
  unfold start;simp only[Yx,ZI,Rt,Yu,r.length];lia
 have Kz:∀i,(start N (.ref a::Y))[i+1]?=(Y.map Zb++WN (N.length-(Y.length+1)) Zc)[i]?:=λi=>by
  unfold start;simp
 have n:∀(i:Nat) t,(Slot.ob a L C []::(m.map Slot.v++WN (N.length-(m.length+1)) Slot.un))[i]?=Zb t->t.isOwn=Zd->i=0:=λi t e w=>by
  cases i with
  |zero=>rfl
  |succ i=>
   rw[O8]at e;by_cases hi:i<m.length;{rw[VD (by rw[ZI];exact hi),YC,ZA hi]at e;cases e;cases w};rw[UR (by rw[ZI];exact SH hi),ZI,Ny]at e;split at e;{cases e;cases w};cases e
 have c:Zy K H0 B H0 H (start N (.ref a::Y)) (.ob a L C []::(m.map .v++WN (N.length-(m.length+1)) .un)):=by
  show#[⟨sBH,.refl _,s0,λb z O=>z⟩,λi t e=>?_,λi t b e w=>?_,λi j t u b ne e e' w w'=>ne ((n i t e (Slot.Pm w)).trans (n j u e' (Slot.Pm w')).symm),len1]
  ·cases i with
   |zero=>
    cases e;exact#[[],U,h0,ha,U]
   |succ i=>
    rw[O8]at e;rw[Kz];by_cases hi:i<m.length;{rw[VD (by rw[ZI];exact hi),YC,ZA hi]at e;cases e;let#[v,e1,r1]:=r.get (ZA hi);rw[VD (by rw[ZI,r.length];exact hi),YC,e1];exact#[v,U,r1]};rw[UR (by rw[ZI];lia),ZI,Ny]at e;split at e;{cases e;trivial};cases e
  have:=n i t e (Slot.Pm w);subst this;cases e;have z:Zb (V.ref a)=Zb (V.ref b):=w;cases z;exact hBa
 have so:∀{I:Hp},Zv B I->vY a H I:=λsh b o ne z=>sh b o (by change(if b=a then Zc else H b)=_;rw[Zq ne];exact z);show#[t,#[p],d c (hb a L m q x h) #[λH0' I σ ds M ⟨gs,e,hq⟩=>?_,λO O O O O O h=>h.elim,λH0' I σ ds C' M hx=>kx C' I (so M.ext.s) hx,λO O O O O h=>h.elim,λO O O O O h=>h.elim,λO O O O O O O O h=>h.elim,λO O O O O O O O O O O O O h=>h.elim]];let#[fs,f0,f1,f2,f3]:=M.slot 0 _ e;show kq gs fs H0' I (so M.ext.s) M.ext.s0 M.sub (λb z y=>?_) f2 f3 hq;by_cases hb:b=a;{rw[hb];exact f1};show M.ext.new b z ?_;change∃o,(if b=a then Zc else H b)=Zb o/\_;rw[Zq hb];exact y
def UZ.JR{st:ZH}{f C:Zg}{fd:ZZ}{N p:Za Ze}{k:Nat}{g:Pu}(F:UZ K x j st f fd)(S:Yh N p (ZL st))(len:∀i q x,g i q x->i.length+1=p.length)
  (y:∀(c:Zh) (A:Yr) (o:Za Wf) (s:Zj) (H:Hp) (E:XK),Xc k (A.deeper (Sb j (ZL st) s.heap.objs.size f c))->
   ∃b,TL (Uu J P w K M base N j (ZL st) f c A o s H E) (λO=>E) (Vx st) b/\∀a u i q x,g i q x->b (.ob a u C []::(i.map .v++WN (N.length-(i.length+1)) .un)) {nx:=λds=>∃G,ds[0]?=Zb (.ob a u C G)/\q G,rt:=λO=>False,xc:=λO=>x}):ZK P w K M base J (k+1) f fd p (OO K C g):=by
 have n:p.length<=N.length:=by have:=XI Lc S.pre;rw[WL]at this;lia
 show F.HW S (λB H Q E z=>by let#[a,u,L,Y,i,q,x,e,_,_,_,r,h,_]:=z;rw[e,Yu,r.length];exact len i q x h) λc A o s H B Q E I m=>?_;exact iL n len (y c A o s H E I) m
def Mg.JR{st:ZH}{f C:Zg}{fd:ZZ}{ds:Za Zh}{N p:Za Ze}{k:Nat}{g:Pu}(F:Mg K x j st f fd ds)(S:Yh N p (ZL st))(len:∀i q x,g i q x->i.length+1=p.length)
  (y:∀(c:Zh) (A:Yr) (o:Za Wf) (s:Zj) (H:Hp) (E:XK),Xc k (A.deeper (Sb j (ZL st) s.heap.objs.size f c))->
   ∃b,TL (Uu J P w K M base N j (ZL st) f c A o s H E) (λO=>E) (Vx st) b/\∀a u i q x,g i q x->b (.ob a u C []::(i.map .v++WN (N.length-(i.length+1)) .un)) {nx:=λds=>∃G,ds[0]?=Zb (.ob a u C G)/\q G,rt:=λO=>False,xc:=λO=>x}):ZK P w K M base J (k+1) f fd p (OO K C g):=by
 have n:p.length<=N.length:=by have:=XI Lc S.pre;rw[WL]at this;lia
 show F.HW S (λB H Q E z=>by let#[a,u,L,Y,i,q,x,e,_,_,_,r,h,_]:=z;rw[e,Yu,r.length];exact len i q x h) λc A o s H B Q E I m=>?_;exact iL n len (y c A o s H E I) m
def ZK.DJ{f:Zg}{fd:ZZ}{c:Za Ze}{p b:Sp}(F:ZK P w K m base (ZV P w) k f fd c p)
  (h:∀a H Q E,b a H Q E->p a H Q (λO O O=>False)):ZK P w K m base LI k f fd c b:=by
 show#[λa H Q E q=>F.len a H Q _ (h _ _ _ _ q),λA o s H args u a Q E n x y i j=>?_];show Lj (F.run A o s H args u a Q _ n x y i (h _ _ _ _ j)) λr C g=>?_;cases r with
 |ok B=>cases B<;>exact g
 |error e=>
  let⟨_,_,_,_,_,_,_,_,_,_,_,_,_,_,z⟩:=g;exact z.elim
def DK(K:ZF):Sp:=λs H Q O=>∃(a:Zg) (n:Za Int),s=[.ref a]/\Ya K H a (n.map V.int)/\n.length<=63/\∀b,Q (.bl Zd) b
def iM:YB:=λx q O=>∃n:Za Int,x=[.scr (n.map .int)]/\n.length<=63/\q (.bl Zd)
theorem Gw:∀N:Za Int,Zw K H (N.map .int) (N.map V.int)
 |[]=>rfl
 |n::N=>#[.int n,_,U,U,Gw N]
def ZK.law{f:Zg}{fd:ZZ}{p:Za Ze}(F:ZK P w K m base (ZV P w) k f fd p (Yy K iM)):ZK P w K m base LI k f fd p (DK K):=
 F.DJ λs H Q E ⟨a,n,e,c,b,q⟩=>#[H,[.scr (n.map .int)],λd=>d=.bl Zd,λO=>False,.refl _,by subst e;exact⟨_,[],rfl,⟨a,_,rfl,c,Gw n⟩,rfl⟩,⟨n,rfl,b,rfl⟩,λv d g i e r z=>by subst z;rw[show v=.bl Zd from r];exact q i,λO O O h=>h.elim]
theorem ad7:Gh (.int i) (.int j) q=q (.int (i+j)):=rfl
theorem ad8:Gh (.str i) (.str j) q=(i.length+j.length<=Zo/\q (.str (i++j))):=rfl
theorem ad9:Gh (.lst i) (.lst j) q=(i.length+j.length<=Zo/\q (.lst (i++j))):=rfl
theorem aea:Gh (.tup i) (.tup j) q=(i≠[]/\i.length+j.length<=Zo/\q (.tup (i++j))):=rfl
theorem aeb:Jz C g (.int i) (.int j) q=(C i j/\q (g i j)):=rfl
theorem aec:Mm g (.int i) (.int j) q=q (g i j):=rfl
theorem aed:vt (.int i) (.int j) q=(Mb i j/\q (.int (i*j))):=rfl
theorem aee:dLt (.int i) (.int j) q=q (.bl (decide (i<j))):=rfl
theorem aef:dLe (.int i) (.int j) q=q (.bl (decide (i<=j))):=rfl
theorem aeg:dGt (.int i) (.int j) q=q (.bl (decide (j<i))):=rfl
theorem aeh:dGe (.int i) (.int j) q=q (.bl (decide (j<=i))):=rfl
theorem aei:vu a .non q=q (.bl a.Qp):=rfl
theorem aej:vw a .non q=q (.bl (!a.Qp)):=rfl
theorem aek:Uy (.lst x) (.int i) q=∃d,Xp x i=Zb d/\q d:=rfl
theorem ael:Uy (.scr x) (.int i) q=∃d,Xp x i=Zb d/\q d:=rfl
theorem aem:Uy (.tup x) (.int i) q=∃d,Xp x i=Zb d/\q d:=rfl
theorem aen:Uy (.str z) (.int i) q=(z.length<=Zo/\∃c,Xp z.cps.toList i=Zb c/\q (.str #[[c].toArray])):=rfl
theorem aeo{lo hi:Option Int}:Dv (.lst x) lo hi q=q (.lst (SX x lo hi)):=rfl
theorem aep{lo hi:Option Int}:Dv (.str y) lo hi q=(y.length<=Zo/\q (.str (Tw y lo hi))):=rfl
theorem aeq:Gk [.lst x] q=q (.int x.length):=rfl
theorem aer:Gk [.scr x] q=q (.int x.length):=rfl
theorem aes:Gk [.tup x] q=q (.int x.length):=rfl
theorem aet:Gk [.str z] q=(z.length<=Zo/\q (.int z.length)):=rfl
theorem vZ:vB [.int i] q=q (.int (if i<0 then -i else i)):=rfl
theorem iO:vC [.int i] q=q (.int i):=rfl
theorem aeu:vC [.bl b] q=q (.int (if b then 1 else 0)):=rfl
theorem aev:vD [.lst x] q=q (.lst x):=rfl
theorem aew:vD [.tup x] q=q (.lst x):=rfl
theorem aex:Dw [.lst x] q=q (.tup x):=rfl
theorem aey:Ms b (.int i) (.int j) q=q (.bl (if b then !decide (i=j)else decide (i=j))):=by
 change(Zd=Zd/\Zd=Zd/\Zd=Zd/\_)=_;simp only[D.toV,true_and,V.int.injEq]
theorem aez:Ms b (.str i) (.str j) q=q (.bl (if b then !decide (i=j)else decide (i=j))):=by
 change(Zd=Zd/\Zd=Zd/\Zd=Zd/\_)=_;simp only[D.toV,true_and,V.str.injEq]
theorem aeA:Ms b (.tup x) (.tup y) q=(OH (D.Mr 80) x y=Zd/\q (.bl (if b then !D.VF x y else D.VF x y))):=rfl
theorem aeB:Ms b (.lst x) (.lst y) q=(OH (D.Mr 80) x y=Zd/\q (.bl (if b then !D.VF x y else D.VF x y))):=rfl
theorem aeC:Pp b (.str i) (.str j) q=q (.bl (if b then !Mq i j else Mq i j)):=rfl
def iP(z:Za Ze):(z.map D.str).all D.flat=Zd:=by rw[IQ,Oc];intro _ _;rfl
def aeD(z:Za Int):(z.map D.int).all D.flat=Zd:=by rw[IQ,Oc];intro _ _;rfl
def iQ(a:Ze)(Z:Za Ze):Qa (.str a) (Z.map .str)=decide (a∈Z):=by
 unfold Qa;rw[FN];induction Z with
 |nil=>rfl
 |cons z Z i=>
  rw[SF,i];have:((λy=>D.Dt y (.str a)) ∘ D.str) z=decide (z=a):=by
   change(z==a)=_;rw[Qb];simp only[Wo,UF]
  rw[this,Qb];simp only[oB,UF,Yk];exact or_congr eq_comm Iff.rfl
def aeE(a:Int)(Z:Za Int):Qa (.int a) (Z.map .int)=decide (a∈Z):=by
 unfold Qa;rw[FN];induction Z with
 |nil=>rfl
 |cons z Z i=>
  rw[SF,i];have:((λy=>D.Dt y (.int a)) ∘ D.int) z=decide (z=a):=by
   change(z==a)=_;rw[Qb];simp only[Wo,UF]
  rw[this,Qb];simp only[oB,UF,Yk];exact or_congr eq_comm Iff.rfl
theorem aeF{z:Za Ze}:Pp b (.str a) (.lst (z.map .str)) q=q (.bl (if b then !decide (a∈z)else decide (a∈z))):=by
 change(Zd=Zd/\_/\_)=_;rw[iP,iQ];simp
theorem iR{z:Za Ze}:Pp b (.str a) (.tup (z.map .str)) q=q (.bl (if b then !decide (a∈z)else decide (a∈z))):=by
 change(Zd=Zd/\_/\_)=_;rw[iP,iQ];simp
theorem aeG{z:Za Int}:Pp b (.int a) (.lst (z.map .int)) q=q (.bl (if b then !decide (a∈z)else decide (a∈z))):=by
 change(Zd=Zd/\_/\_)=_;rw[aeD,aeE];simp
def iT(bs:Za Bool):PY (bs.map .bl)=Zb bs:=by
 induction bs with|nil=>rfl|cons b bs i=>rw[Xo];unfold PY;rw[i];rfl
def aeH(bs:Za Ze):MT (bs.map .str)=Zb bs:=by
 induction bs with|nil=>rfl|cons b bs i=>rw[Xo];unfold MT;rw[i];rfl
theorem DL{bs:Za Bool}:JA [.lst (bs.map .bl)] q=q (.bl (bs.all id)):=by
 change(∃c,PY _=Zb c/\_)=_;rw[iT];simp
theorem uc{bs:Za Bool}:vH [.lst (bs.map .bl)] q=q (.bl (bs.any id)):=by
 change(∃c,PY _=Zb c/\_)=_;rw[iT];simp
theorem aeI:vL (.str sep) [.lst (y.map .str)] q=((y.map (·.length)).sum+y.length*sep.length<=16777216/\q (.str (Eg sep y))):=by
 change(∃c,MT _=Zb c/\_)=_;rw[aeH];simp
theorem DM{s:Za a}:JA [.lst (s.map λx=>.bl (f x))] q=q (.bl (s.all f)):=by
 have:=DL (q:=q) (bs:=s.map f);rw[YG,IQ]at this;exact this
def TQ(a:d.JB=Zb t)(b:n∈JC)(e:Wq K [d,.ty n] q=∃t,d.JB=Zb t/\n∈JC/\q (.bl (Gp t n))):Wq K [d,.ty n] q=q (.bl (Gp t n)):=by
 rw[e,a];simp only[xl,exists_eq_left',b,true_and]
theorem iU:Wq K [.int i,.ty "int"] q=q (.bl Zd):=TQ (t := "int") U 01 U
theorem aeJ:Wq K [.int i,.ty "bool"] q=q (.bl Zi):=TQ (t := "int") U 01 U
theorem aeK:Wq K [.int i,.ty "str"] q=q (.bl Zi):=TQ (t := "int") U 01 U
theorem aeL:Wq K [.int i,.ty "tuple"] q=q (.bl Zi):=TQ (t := "int") U 01 U
theorem aeM:Wq K [.int i,.ty "list"] q=q (.bl Zi):=TQ (t := "int") U 01 U
theorem aeN:Wq K [.bl i,.ty "bool"] q=q (.bl Zd):=TQ (t := "bool") U 01 U
theorem aeO:Wq K [.bl i,.ty "int"] q=q (.bl Zd):=TQ (t := "bool") U 01 U
theorem iV:Wq K [.str i,.ty "str"] q=q (.bl Zd):=TQ (t := "str") U 01 U
theorem iW:Wq K [.str i,.ty "int"] q=q (.bl Zi):=TQ (t := "str") U 01 U
theorem aeP:Wq K [.str i,.ty "tuple"] q=q (.bl Zi):=TQ (t := "str") U 01 U
theorem aeQ:Wq K [.tup i,.ty "tuple"] q=q (.bl Zd):=TQ (t := "tuple") U 01 U
theorem iX:Wq K [.tup i,.ty "int"] q=q (.bl Zi):=TQ (t := "tuple") U 01 U
theorem aeR:Wq K [.tup i,.ty "str"] q=q (.bl Zi):=TQ (t := "tuple") U 01 U
theorem aeS:Wq K [.lst i,.ty "list"] q=q (.bl Zd):=TQ (t := "list") U 01 U
theorem aeT:Wq K [.lst i,.ty "tuple"] q=q (.bl Zi):=TQ (t := "list") U 01 U
theorem aeU:Wq K [.lst i,.tup [.ty "list",.ty "tuple"]] q=q (.bl Zd):=by
 show propext #[?_,λh=>#[_,Zd,U,by with_unfolding_all rfl,h]];rintro⟨as,b,e,k,h⟩;cases e;cases k;exact h
theorem aeV:Wq K [.tup i,.tup [.ty "list",.ty "tuple"]] q=q (.bl Zd):=by
 show propext #[?_,λh=>#[_,Zd,U,by with_unfolding_all rfl,h]];rintro⟨as,b,e,k,h⟩;cases e;have:xr K (.type "tuple") (["list", "tuple"].map NQ)=Zb Zd:=by with_unfolding_all rfl
 rw[this]at k;cases k;exact h
theorem aeW:D.Gg (.bl b) k=k b:=rfl
theorem aeX:D.Gg (.int i) k=k (i != 0):=rfl
theorem aeY:D.Gg (.lst x) k=k (!x.isEmpty):=rfl
theorem aeZ:D.Qp .non=Zd:=rfl
theorem ae0:D.Qp (.int i)=Zi:=rfl
theorem ae1:D.Qp (.tup i)=Zi:=rfl
theorem ae2:Mo i (no_index (@nE Int n instOfNat))=i%(@nE Int n instOfNat):=rfl
theorem ae3:LO i (no_index (@nE Int n instOfNat))=i/(@nE Int n instOfNat):=rfl
def TR(h:0<j):Mo i j=i%j:=by unfold Mo;rw[Zt (oO h)]
def ae4(I:Nat->ZG->Prop)(o:I 0 ds)
  (m:∀i x ds N,s[i]?=Zb x->I i ds->(∀a,I (i+1) a->N a)->g x ds λa=>b a {e with nx:=N,ct:=N,bk:=e.nx})
  (n:∀ds,I s.length ds->e.nx ds):RL g b e s ds:=by
 have key:∀k Y i ds,Y.length=k->s.drop i=Y->i<=s.length->I i ds->RL g b e Y ds:=by
  intro k;induction k with
  |zero=>
   intro Y i ds f hd hi h;have:=MZ f;subst this;have:i=s.length:=by have:=Q9.mp hd;lia
   subst this;exact n ds h
  |succ k j=>
   intro Y i ds f hd hi h;cases Y with
   |nil=>cases f
   |cons y Y=>
    have c:i<s.length:=by
     rcases QO i s.length with z|z;{exact z};rw[IU z]at hd;cases hd
    rw[Od c]at hd;cases hd;exact m i _ ds _ (ZA c) h λa p=>j _ (i+1) a (by simp at f⊢;lia) U c p
 exact key s.length s 0 ds U U (Wg _) o
def Td{xs:Za o}{ds:ZG}(I:Nat->ZG->Prop)(m:I 0 ds)
  (s:∀i x ds N,xs[i]?=Zb x->I i ds->(∀a,I (i+1) a->N a)->g (c x) ds λa=>b a {e with nx:=N,ct:=N,bk:=e.nx})
  (j:∀ds,I xs.length ds->e.nx ds):RL g b e (xs.map c) ds:=by
 show ae4 I m (λi x ds N f hi n=>?_) (by rw[ZI];exact j);rw[YC]at f;cases q:xs[i]? with
 |none=>rw[q]at f;cases f
 |some y=>rw[q]at f;cases f;exact s i y ds N q hi n
def Mw{lo:Int}{ds:ZG}(I:Nat->ZG->Prop)(p:I 0 ds)
  (s:∀i ds N,i<n->I i ds->(∀a,I (i+1) a->N a)->g (.int (lo+i)) ds λa=>b a {e with nx:=N,ct:=N,bk:=e.nx})
  (o:∀ds,I n ds->e.nx ds):RL g b e (intsFrom lo n) ds:=by
 show Td I p (λi x ds N j hi m=>?_) (by rw[IY];exact o);let#[f,c]:=YM.mp j;rw[IY]at f;rw[List.getElem_range]at c;subst c;exact s i ds N f hi m
def JU{xs:Za w}{ds:ZG}{A:Za D}(C:ZG->Prop)(p:w->Bool)(h:w->D)(B:C ds)
  (s:∀x∈xs,∀ds (z:ZG->Prop) (N:ZG->D->Prop),C ds->(p x=Zi->∀a,C a->z a)->(p x=Zd->∀a,C a->N a (h x))->g (c x) ds λi=>f i (λb=>if b=Zd then e i (λy=>N i y) (λO=>False)else z i) (λO=>False))
  (o:A.length+xs.length<=Zo)(j:q (A++(xs.filter p).map h)):UJ g f e q (xs.map c) ds A:=by
 induction xs generalizing ds A with
 |nil=>
  unfold UJ;simpa using j
 |cons x xs I=>
  show s x (YY ..) ds _ (λi y=>A.length<Zo/\UJ g f e q (xs.map c) i (A++[y])) B (λn a u=>?_) (λn a u=>?_);{show I u (λy m=>s y (YT _ m)) (by simp at o⊢;lia) ?_;rw[yW,n]at j;exact j};show#[by simp at o;lia,I u (λy m=>s y (YT _ m)) (by simp at o⊢;lia) ?_];rw[yW,n,Zt U,Xo]at j;simpa using j
def Gx(x:Za a):x.filter (λO=>Zd)=x:=List.filter_eq_self.mpr λO O=>rfl
def UA{xs:Za a}{C:ZG}(h:a->D)(i:xs.length<=Zo)
  (f:∀x∈xs,∀N:D->Prop,N (h x)->e (.v (c x)::C) N (λO=>False))(g:q (xs.map h)):UJ (VG 0) OM e q (xs.map c) (s::C) []:=by
 show JU (λds=>∃s,ds=s::C) (λO=>Zd) h #[s,U] (λx b ds o n j O m=>?_) ↑i (by rw[Gx];exact g);let#[s,U]:=j;have z:=f x b (λy=>n (.v (c x)::C) y) (m U _ #[_,U]);assumption
def LX{xs:Za b}{s:Slot}{C:ZG}(p:b->Bool)(h:b->D)(j:xs.length<=Zo)
  (m:∀x∈xs,∀N:Bool->Prop,N (p x)->f (.v (c x)::C) N (λO=>False))
  (i:∀x∈xs,p x=Zd->∀N:D->Prop,N (h x)->e (.v (c x)::C) N (λO=>False))(w:q ((xs.filter p).map h)):UJ (VG 0) f e q (xs.map c) (s::C) []:=by
 show JU (λds=>∃s,ds=s::C) p h #[s,U] (λx g ds z y n u o=>?_) ↑j (by assumption);let#[s,U]:=n;show m x g _ ?_;cases a:p x with|true=>rw[Zt U];exact i x g a _ (o a _ #[_,U])|false=>rw[Zq XQ];exact u a _ #[_,U]
def ud{c j:g->D}{a:Za g}{s b:Slot}{C:ZG}(p:g->Bool)(h:g->D)(o:a.length<=Zo)
  (u:∀x∈a,∀N:Bool->Prop,N (p x)->f (.v (c x)::.v (j x)::C) N (λO=>False))
  (n:∀x∈a,p x=Zd->∀N:D->Prop,N (h x)->e (.v (c x)::.v (j x)::C) N (λO=>False))(A:q ((a.filter p).map h)):
  UJ (TN 2 (JH (VG 0) (JH (VG 1) Dy))) f e q (a.map λx=>.tup [c x,j x]) (s::b::C) []:=by
 show JU (λds=>∃s b,ds=s::b::C) p h #[s,b,U] (λx m ds E B w z y=>?_) ↑o (by assumption);let#[s,b,U]:=w;show u x m _ ?_;cases i:p x with|true=>rw[Zt U];exact n x m i _ (y i _ #[_,_,U])|false=>rw[Zq XQ];exact z i _ #[_,_,U]
def DN{c c':a->D}{xs:Za a}{s b:Slot}{C:ZG}(h:a->D)(j:xs.length<=Zo)
  (g:∀x∈xs,∀N:D->Prop,N (h x)->e (.v (c x)::.v (c' x)::C) N (λO=>False))(i:q (xs.map h)):
  UJ (TN 2 (JH (VG 0) (JH (VG 1) Dy))) OM e q (xs.map λx=>.tup [c x,c' x]) (s::b::C) []:=
 ud (λO=>Zd) h j (λO O O n=>n) (λx f O=>g x f) (by rw[Gx];exact i)
def ae5(h:SQ k v=Zd):v.scannable=Zd:=by
 rcases UW h with⟨i,t,rfl,rfl⟩|⟨x,t,rfl,rfl⟩<;>rfl
instance lawKey:LawfulBEq Zx where
 eq_of_beq {a b} h:=by
  cases a<;>cases b;{exact XI _ (eq_of_beq h)};{cases h};{cases h};exact XI _ (eq_of_beq h)
 rfl {a}:=by
  cases a with|inl i=>exact(Lw i:(i==i)=Zd)|inr i=>exact(Lw i:(i==i)=Zd)
instance memKey (k:Zx) (a:List Zx):Decidable (k∈a):=@List.instDecidableMemOfLawfulBEq Zx instBEqOfDecidableEq inferInstance k a
noncomputable def RN(a:Za Zx)(k:Zx):Za Zx:=if k∈a then a else a++[k]
noncomputable def VV(s:Za Zx):Za Zx:=s.foldl RN []
def iY(s:Za Zx)(k:Zx):VV (s++[k])=RN (VV s) k:=by unfold VV;rw[O7];rfl
set_option tactic.hygienic true in
def ae6(a:Za Zx)(k j:Zx):j∈RN a k↔j∈a\/j=k:=by
 unfold RN;split;{rename_i h;exact#[.inl,λz=>z.elim id λe=>e▸h]};simp
def iZ(a:Za Zx)(k:Zx):(RN a k).length=if k∈a then a.length else a.length+1:=by
 unfold RN;split<;>simp
def ue(s:Za Zx):(VV s).length<=s.length:=by
 have go:∀(s a:Za Zx),(s.foldl RN a).length<=a.length+s.length:=by
  intro s;induction s with
  |nil=>intro a;exact ZU _
  |cons k s i=>
   intro a;rw[Rr];have c:=i (RN a k);have b:=iZ a k;rw[Yu];split at b<;>lia
 have:=go s [];simpa [VV]using this
def SetOf.eq'{h:ZD}(z:h.SetOf (XT P w) a S n)(e:∀k,S k=s k)(m:n=N):h.SetOf (XT P w) a s N:=by
 rw[<-m,<-(funext e:S=s)];exact z
def ae7{A:Yr}{G:Array oK->Array oK->Prop}{a:Za Zx}{Pv:Nat->Zh->Prop}{St:Nat->Zj->Prop}
  (W:WalksS P w A.in1 I fp Y G a.length Pv St)(q:Z∉fp)(hv:∀i v,Pv i v->∃k,a[i]?=Zb k/\SQ k v=Zd)(hb:a.length+1<QU):
  ∀(m i:Nat) (s:Zj),i+m=a.length->St i s->s.heap.SetOf (XT P w) Z (λk=>decide (k∈VV (a.take i))) (VV (a.take i)).length->
   (∀f,Moved (Z::Y) G s f->f.heap.SetOf (XT P w) Z (λk=>decide (k∈VV a)) (VV a).length->R (.ok (.ret .none)) f)->
   Wv (Zr P w) A (.builtin "set.update.loop" #[[.ref Z,.ref I],[]]) R s:=by
 have g:Z∉Y:=λh=>q (W.sub _ h);intro m;induction m with
 |zero=>
  intro i s hi st u k;have ei:i=a.length:=by omega
  subst ei;rw[TZ]at u;show Qj aoV ?_;rw[KB R7 _];show Zf (m:=VZ (.ref I)) (W.done s _ _ st λf mv=>Zm (k f (mv.mono λb h=>YT _ h) ?_));let#[o,N,Q,t,B,r]:=u;exact#[o,N,Q,t,mv.heap Z _ g B,r]
 |succ m ih=>
  intro i s hi st u k;have lt:i<a.length:=00
  show Qj aoV ?_;rw[KB R7 _];show Zf (m:=VZ (.ref I)) (W.item i s _ _ lt st λv f pv x mv=>?_);let#[c,hc,n]:=hv i v pv;have L:f.heap.SetOf (XT P w) Z (λk=>decide (k∈VV (a.take i))) (VV (a.take i)).length:=by
   let#[o,N,Q,t,B,r]:=u;exact#[o,N,Q,t,mv.heap Z _ g B,r]
  have et:a.take (i+1)=a.take i++[c]:=by rw[Um,hc];rfl
  have p:(VV (a.take i)).length+1<QU:=by
   have:=ue (a.take i);rw[WL]at this;lia
  show Zf (m:=RD [v] (setAdd Z v)) (XY ?_);unfold setAdd;show XY (Zf ((XT P w).pyHash (k:=c) n (wpAny_setAddHashed_of (knd:=XT P w) (s:={f with toks:=f.toks+1}) n (ae5 n) L p λh' sb J=>?_)));have E:h'.SetOf (XT P w) Z (λk=>decide (k∈VV (a.take (i+1)))) (VV (a.take (i+1))).length:=by
   show SetOf.eq' J (λj=>?_) ?_;{rw[et,iY];simp[ae6]};rw[et,iY,iZ];simp
  exact Zm #[Ln R7 _,ih (i+1) _ 00 (W.frame _ f _ _ x (UT _) λb hb o e=>(sb.2 b (λy=>q (y▸hb))).trans e) E λz M C=>k z (apV W.gtrans ((mv.mono λb h=>YT _ h).then_heap (UT _) λb o nb e=>(sb.2 b (λy=>nb (y▸YY))).trans e) M) C]
noncomputable def Qt(L:Bool):Yg:={cls:=.type "set",dict:=Zc,data:=.set #[] 0 (.fresh 0 0 L)}
def ae8{A:Yr}{u:Array Zh}{c:Za Zx}{Q:Zh->Zj->Prop}(hh:A.handled=Zc)(hl:s.heap.IsList l u)(en:u.size=c.length)
  (hk:∀(i:Nat) v,u[i]?=Zb v->∃k,c[i]?=Zb k/\SQ k v=Zd)(hb:c.length+1<QU)
  (h:∀(p:ZD) (tk:Nat),p.SetOf (XT P w) s.heap.objs.size (λk=>decide (k∈VV c)) (VV c).length->(Ou s.heap p)->Q (.ref s.heap.objs.size) {s with heap:=p,toks:=tk}):
  Zn (Zr P w) A (call (.type "set") [.ref l]) Q E s:=by
 let#[cc,tl,hmro]:=KY.mro;have made:=KY.made;have sub:=KY.sub;have h1:=KY.notType;have h2:=KY.canCreate;have ct:=PySem.F.typeCall_set_1 (.ref l);show mB (j8 (show Zn _ _ (callAny (.type "set") _) _ _ _ from Zm #[aoQ _ (by decide +kernel),Qj PySem.F.entry_type_call ?_]));rw[Yr.under_plain (weight_type_call_type "set" [.ref l] []) U];repeat (any_goals (first|assumption|wp_step))
 show Lj (PySem.code_set_new_1 (.ref l) (E:=E) (Q₁:=λob M=>∃L:Bool,ob=.ref s.heap.objs.size/\M={s with heap:=s.heap.push (Qt L)}) λL=>#[L,U,U]) λr M C=>?_;rcases r with e|fl;{exact C};cases fl with
 |ret ob=>
  let⟨L,rfl,rfl⟩:=C;have Kz:(s.heap.push (Qt L)).get? s.heap.objs.size=Zb (Qt L):=YF _ U;have ty:Li {s with heap:=s.heap.push (Qt L)} (.ref s.heap.objs.size) "set" :=#[_,Kz,U]
  have look:=KY.init.lookup;have bnd:=KY.init.bind (.ref s.heap.objs.size);repeat (any_goals (first|assumption|wp_step))
  show Lj (aq8 (R:=wants (λr J=>r=.none/\Q (.ref s.heap.objs.size) J) E) KY.init.plain PySem.F.entry_set_init (PySem.check_set_init_1 ty ?_)) λr2 J a=>?_
  ·let#[#[c0,d0,x0,x],j,n,nl,m]:=id hl;simp only at n m;subst n;subst m;have g:(s.heap.push (Qt L)).get? l=Zb {cls:=.type "list",dict:=d0,data:=.seq u nl,slots:=x}:=ZY _ j;have Z:(s.heap.push (Qt L)).IsList l u:=#[_,g,U,nl,U]
   have n1:=PySem.F.sub_list_set;have n2:=PySem.F.sub_list_frozenset;have n3:(NQ "list" == NQ "dict")=Zi:=01
   have f:l<s.heap.objs.size:=Yc j;unfold VA.«set.__init__» noKeywords ar9;generalize gi:Qk=PI;wp_walk;subst gi;show Hx Z (Zf (wpAny_runValue ?_));have N:l≠(s.heap.push (Qt L)).objs.size:=by rw[UQ];exact Ys (NK f)
   have y:s.heap.objs.size∉[(s.heap.push (Qt L)).objs.size,l]:=by
    rw[UQ];intro z;rcases Yk.mp z with z|z;{exact ZJ z (Ys (KS _))};exact ZJ (YJ.mp z) (VO f)
   have I:((s.heap.push (Qt L)).push {cls:=.type "list_iterator",data:=.fields [.ref l,.int 0 0].toArray}).get? s.heap.objs.size=Zb (Qt L):=ZY _ Kz;have W:=(nR (prog:=P) (w:=w) (A:=A.in1.in1.in1) (by simp[hh]) (s.heap.push (Qt L)).objs.size l N u).toS;rw[en]at W;show ae7 W y hk hb c.length 0 _ (NM _) #[#[_,YF _ U,U,U],Z.push _] (SetOf.eq' ((setObjOf_fresh (knd:=XT P w) L).setOf I (by unfold QU;exact Nat.succ_pos _)) (λO=>rfl) U) λs' mv hS=>?_;let#[p,g',G,q,B]:=s';have e1:g'=s.gens:=mv.gens;have e2:G=s.drawn:=mv.drawn;have e3:B=s.os:=mv.os;subst e1;subst e2;subst e3;show Zm (show Zn _ _ (ret RA) _ _ _ from Zm #[U,h p q hS λb o e=>?_]);have Y:=Yc e;show mv.heap b o ?_ (ZY _ (ZY _ e));rw[UQ];intro z;rcases Yk.mp z with z|z;{exact ZJ z (Ys Y)};exact ZJ (YJ.mp z) (Ys (NK Y))
  ·rcases r2 with e|f2;{exact a};cases f2 with
   |ret r=>
    let⟨rfl,hq⟩:=a;repeat (any_goals (first|assumption|wp_step))
   |_=>exact a.elim
 |_=>exact C.elim
def hJ(x:s.heap.get? a=Zb {cls:=.type "list",data:=.seq j n})(o:A.handled=Zc)
  (h:∀c f,(Ou s.heap c)->Q Zc {s with heap:=c,toks:=f}):Zn (Zr P w) A (getAttr? (.ref a) "keys") Q E s:=by
 have m:En (.type "list") "keys" = ZR Zc:=by rw[xH,xD];kernel_rfl
 have N:(["__module__", "__name__", "__qualname__", "__doc__", "__annotations__"]:Za Ze).contains "keys" = Zi:=01
 let#[p,g,d,f,os]:=s;have ty:∀b,(#[p,g,d,b,os]:Zj).TypeIs (.ref a) "list" :=λO=>#[_,x,U]
 have f1:=sub_AttributeError;have C:=w6.lookup;have B:=w6.bind (.ref a);have z:=am_list_getattr_none;unfold getAttr? getAttrBy? getAttrBy;repeat (any_goals (first|assumption|exact ty _|((with_reducible show Zn _ _ (call (Zh.builtin "list.__getattribute__") _ _) _ _ _);show Eh w6 (ty _) am_entry_list_getattribute (PySem.F.args_list_getattribute_2 _ _) (meets_getattribute_miss_list a j n _ "keys" _ m N) #[x,o,λc b e i=>?_])|wp_step))
 let#[q,u,y]:=i.there;unfold getattributeRaised;repeat (any_goals (first|assumption|wp_step))
 exact h _ _ i.keeps
def DP:entryFor table "dict.update.loop" = Zb VA.«dict.update.loop»:=ara (by kernel_rfl)
def Mx:plainId "dict.update.loop" = Zd:=by decide +kernel
structure Pr where
 p:Zg
 k:Zx
 kv:Zh
 vv:Zh
def Pr.ok(h:ZD)(r:Pr):Prop:=KI h r.p [r.kv,r.vv].toArray/\SQ r.k r.kv=Zd
noncomputable def putAll(x:Za Pr):Za (Zx×Zh):=x.foldl (λa r=>Lp a r.k r.vv) []
def putAll_snoc(x:Za Pr)(r:Pr):putAll (x++[r])=Lp (putAll x) r.k r.vv:=by unfold putAll;rw[O7];rfl
def ae9{K:Type}[DecidableEq K](s:Za (K×Zh))(k:K)(v:Zh):(Lp s k v).length<=s.length+1:=by
 unfold Lp;split<;>simp
def hV(x:Za Pr):(putAll x).length<=x.length:=by
 have go:∀(x:Za Pr) a,(x.foldl (λa r=>Lp a r.k r.vv) a).length<=a.length+x.length:=by
  intro x;induction x with
  |nil=>intro a;exact ZU _
  |cons r x i=>
   intro a;have c:=i (Lp a r.k r.vv);have b:=ae9 a r.k r.vv;rw[Rr,Yu];lia
 have:=go x [];simpa [putAll]using this
def pair_items(h:KI s.heap p u)(q:Q u.toList s):Zn (Zr P w) A (ar3 (.ref p)) Q E s:=by
 let#[o,a,c,n,hd]:=h;have ty:s.TypeIs (.ref p) "tuple" :=#[o,a,c]
 show Zf (Lr ty ?_);show Zf (Zf (i8 a ?_));rw[hd];exact Zm (Zm q)
def afa{G:Array oK->Array oK->Prop}{x:Za Pr}{Pv:Nat->Zh->Prop}{St:Nat->Zj->Prop}
  (W:WalksS P w A.in1 I fp wr G x.length Pv St)(n:Z∉fp)(hv:∀i v,Pv i v->∃r,x[i]?=Zb r/\v=.ref r.p)(hz:x.length<=Zo)(g:∀r∈x,r.p∉Z::wr):
  ∀(m i:Nat) (t:Tok) (s:Zj),i+m=x.length->St i s->(∀r∈x,r.ok s.heap)->s.heap.DictOf (XT P w) Z (putAll (x.take i))->
   (∀a,Moved (Z::wr) G s a->a.heap.DictOf (XT P w) Z (putAll x)->R (.ok (.ret .none)) a)->
   Wv (Zr P w) A (.builtin "dict.update.loop" #[[.ref Z,.ref I,.int i t,.none],[]]) R s:=by
 have f:=λh=>n (W.sub _ h);intro m;induction m with
 |zero=>
  intro i t s hi st ok C k;have ei:i=x.length:=by omega
  subst ei;rw[TZ]at C;show Qj DP ?_;rw[KB Mx _];show Zf (W.done s _ _ st λa mv=>?_);show Zf (Zm (Zm (k a (mv.mono λb h=>YT _ h) ?_)));let#[o,es,ep,j,r]:=C;exact#[o,es,ep,mv.heap Z _ f j,r]
 |succ m ih=>
  intro i t s hi st ok C k;have lt:i<x.length:=00
  show Qj DP ?_;rw[KB Mx _];show Zf (W.item i s _ _ lt st λv a pv E mv=>?_);let#[r,hr,U]:=hv i v pv;have M:=YH hr;have c:∀r∈x,r.ok a.heap:=λr h=>by
   let#[#[o,j,z],y]:=ok r h;exact#[#[o,mv.heap _ _ (λq=>g r h (YT _ q)) j,z],y]
  have Y:a.heap.DictOf (XT P w) Z (putAll (x.take i)):=by
   let#[o,es,ep,j,r]:=C;exact#[o,es,ep,mv.heap Z _ f j,r]
  have et:x.take (i+1)=x.take i++[r]:=by rw[Um,hr];rfl
  have B:(putAll (x.take i)).length<=Zo:=by
   have:=hV (x.take i);rw[WL]at this;lia
  show Zf (XY (Zf (wpAny_tryCatch (pair_items (c r M).1 (XY ?_)))));show XY (Zf ((XT P w).pyHash (c r M).2 (wpAny_dictSetHashed_pairs (c r M).2 Y (λh' u J=>?_) B)));rw[<-putAll_snoc,<-et]at u;show Zm #[Ln Mx _,ih (i+1) _ _ 00 (W.frame _ a _ _ E (UT _) λb hb o e=>?_) (λr h=>?_) u λL N Q=>k L (apV W.gtrans ((mv.mono λb h=>YT _ h).then_heap (UT _) λb o nb e=>?_) N) Q];{exact(J.2 b (λy=>n (y▸hb))).trans e};{let#[#[o,j,z],y]:=c r h;exact#[#[o,(J.2 _ (λy=>g r h (y▸YY))).trans j,z],y]};exact(J.2 b (λy=>nb (y▸YY))).trans e
noncomputable def OQ:Yg:={cls:=.type "dict",data:=.dict #[]}
def afb(hh:A.handled=Zc)(hl:s.heap.get? l=Zb {cls:=.type "list",data:=.seq u.toArray n})(en:u=x.map λr=>.ref r.p)
  (ok:∀r∈x,r.ok s.heap)(hz:x.length<=Zo)
  (h:∀(m:ZD) (tk:Nat),m.DictOf (XT P w) s.heap.objs.size (putAll x)->(Ou s.heap m)->Q (.ref s.heap.objs.size) {s with heap:=m,toks:=tk}):
  Zn (Zr P w) A (call (.type "dict") [.ref l]) Q E s:=by
 show m9 (Q₁:=λob Z=>ob=.ref s.heap.objs.size/\Z={s with heap:=s.heap.push OQ}) aqz (aqA _) aqv (arh _ #[U,U]) ?_;rintro ob Z ⟨rfl,rfl⟩;have new:(s.heap.push OQ).DictOf (XT P w) s.heap.objs.size []:=asn s.heap;have c:(s.heap.push OQ).get? l=Zb {cls:=.type "list",data:=.seq u.toArray n}:=ZY _ hl;have ty:Li {s with heap:=s.heap.push OQ} (.ref l) "list" :=#[_,c,U]
 show#[new.typeIs,aqq _ _,?_];show Zf ?_;show Zf (Eu new.typeIs (Zm ?_));change Zn _ _ (aoH "dict.__init__" s.heap.objs.size (.ref l) [] .none) _ _ _;show Zf (Lr ty ?_);show Zf (hJ c (hh) λf tk1 q=>?_);have l1:f.IsList l u.toArray:=#[_,q _ _ c,U,n,U]
 have N:f.DictOf (XT P w) s.heap.objs.size []:=by
  let#[o,B,C,a,r]:=new;exact#[o,B,C,q _ _ a,r]
 have L:s.heap.objs.size<f.objs.size:=by
  let#[o,B,C,a,r]:=N;exact Yc a
 show Zf (WD (Zf (Hx l1 ?_)));have W:=(nR (prog:=P) (w:=w) (A:=A.in1.in1) (by simp[hh]) f.objs.size l (Ys (Yc (q _ _ c))) u.toArray).toS;have I:s.heap.objs.size∉[f.objs.size,l]:=λz=>by
  rcases Yk.mp z with z|z;{exact ZJ z (Ys L)};exact ZJ (YJ.mp z) (VO (Yc hl))
 have el:u.toArray.size=x.length:=by rw[en];simp
 rw[el]at W;have keep:Ou s.heap f:=λb o e=>q _ _ (ZY _ e);show Zm #[Ln Mx _,afa W I (λi v j=>?_) hz (λr M z=>?_) x.length 0 0 _ (NM _) #[#[_,YF _ U,U,U],l1.push _] (λr M=>?_) ?_ λs' mv hS=>?_];{have j:=j;rw[en]at j;simp at j;let#[r,f,h2]:=j;exact#[r,f,h2.symm]};{let#[#[o,a,_],_]:=ok r M;have g:=Yc a;rcases Yk.mp z with z|z;{exact ZJ z (Ys g)};exact ZJ (YJ.mp z) (Ys (xj g L))};{let#[#[o,a,z],y]:=ok r M;exact#[#[o,ZY _ (keep _ _ a),z],y]};{let#[o,B,C,a,r]:=N;exact#[o,B,C,ZY _ a,r]};let#[m,g',Y,G,J]:=s';have e1:g'=s.gens:=mv.gens;have e2:Y=s.drawn:=mv.drawn;have e3:J=s.os:=mv.os;subst e1;subst e2;subst e3;show#[U,h m G hS λb o e=>?_];have g:=Yc e;show mv.heap b o (λz=>?_) (ZY _ (keep _ _ e));rcases Yk.mp z with z|z;{exact ZJ z (Ys g)};exact ZJ (YJ.mp z) (Ys (xj g L))
def Gy(h:ZD)(a:Zg)(n:Nat):Prop:=∃o e E t,h.get? a=Zb o/\o.ExactSet/\o.data=.set e E t/\t.fits e.size=Zd/\e.size=n
def afc(z:Gy h a n):Wy P w H h a (.ext λh=>Gy h a n):=by
 show#[z,?_,λf c z k=>?_];{let#[o,e,E,t,b,_]:=z;exact#[o,b]};let#[o,e,E,t,b,r]:=z;exact#[o,e,E,t,k _ b,r]
def afd{a:Za Zx}:∀{s:Za Zh},ZX (a.map kV) s->s.length=a.length/\∀(i:Nat) v,s[i]?=Zb v->∃k,a[i]?=Zb k/\SQ k v=Zd:=by
 induction a with
 |nil=>intro s r;cases r;exact#[U,λi v h=>by simp at h]
 |cons k a I=>
  intro s r;cases r with
  |@cons _ u _ s b f=>
   let⟨e,h⟩:=I f;show#[by rw[Yu,Yu,e],λi v c=>?_];cases i with
   |zero=>
    simp at c;subst c;show#[k,U,?_];cases k with|inl i=>let⟨t,rfl⟩:=b;exact xO i t|inr x=>let⟨t,rfl⟩:=b;exact xP x t
   |succ i=>exact h i v (by assumption)
def afe(E:Xl X):WR X (.type "set") (λx H Q=>∃p a,x=[.ref p]/\Ya X.K H p (a.map kV)/\a.length+1<QU/\∀l,H l=Zc->Q (.ref l) (upd H l (.ext λh=>Gy h l (VV a).length))):=by
 intro b s Y H x Z Q I r h;let#[p,a,U,w,G,q]:=h;let#[u,U,c]:=vals1 r;cases c;let#[m,f,g,hz]:=I.list w;let#[e,B]:=afd f;show ae8 (I.ok.hd E) g.isList (by omega) (λi v n=>B i v ↑n) G λL tk J j=>?_;have z:Gy L s.heap.objs.size (VV a).length:=by
  let#[o,M,N,t,y,hex,hd,_,_,_,C,A]:=J;exact#[o,M,N,t,y,hex,hd,C,A]
 exact#[.ref s.heap.objs.size,_,I.laid j (ZU _) (afc z),U,q _ (I.hok.fresh (ZU _))]
def afg:WR X (.builtin "len") (λx H Q=>∃p n,x=[.ref p]/\H p=Zb (.ext λh=>Gy h p n)/\(n:Int)<2^63/\Q (.int n) H):=by
 intro a s j H x m Q I r h;let#[p,n,U,e,i,q]:=h;let#[u,U,c]:=vals1 r;cases c;let#[z,_]:=I.hok p _ e;let#[o,E,w,t,f,hex,hd,g,b]:=z;exact call_len_set f hex hd g (by rw[b];exact i) #[.int n,H,I.tok _,#[_,by rw[b]],q]
def uf(H:Hp):Za Zg->Za (Zx×V)->Prop:=Paired λa b=>H a=Zb (.tup [kV b.1,b.2])
def afh(ok:Xh P w H h):∀{g:Za Zg}{s:Za (Zx×V)},uf H g s->∃c:Za Pr,c.map (·.p)=g/\(∀r∈c,r.ok h)/\KV s (c.map λr=>(r.k,r.vv)):=by
 intro g s r;induction r with
 |nil=>exact#[[],U,λr h=>by simp at h,.nil]
 |@cons a e g s C _ A=>
  let⟨c,J,G,E⟩:=A;let#[_,I,n,B]:=ok a _ C;let#[u,j,M,f,y]:∃u j,I=u::j/\RelV (kV e.1) u/\ZX [e.2] j:=by cases n with | cons a b=>exact#[_,_,U,a,b]
  let#[m,L,o]:=vals1 y;subst M L;have z:SQ e.1 u=Zd:=by
   cases q:e.1 with|inl i=>rw[q]at f;let#[t,U]:=f;exact xO i t|inr x=>rw[q]at f;let#[t,U]:=f;exact xP x t
  show#[#[a,e.1,u,m]::c,by rw[Xo,J],λr h=>?_,.cons #[U,o] E];rcases Yk.mp h with rfl|h;{exact#[B,z]};exact G r h
def afi:∀(b:Za Pr) {s:Za (Zx×V)},KV s (b.map λr=>(r.k,r.vv))->KV (HN [] s) (putAll b):=by
 have go:∀(b:Za Pr) {s A:Za (Zx×V)}{c:Za (Zx×Zh)},KV s (b.map λr=>(r.k,r.vv))->KV A c->KV (s.foldl (λA f=>We A f.1 f.2) A) (b.foldl (λa r=>Lp a r.k r.vv) c):=by
  intro b;induction b with
  |nil=>intro s A c r e;cases r;exact e
  |cons x b I=>
   intro s A c r e;cases r with
   |@cons f _ s _ g i=>
    rw[Rr,Rr];show I i ?_;rw[g.1];exact e.put _ g.2
 exactλb s r=>go b r .nil
def afj(C:Xl X):WR X (.type "dict") (λx H Q=>∃p b a,x=[.ref p]/\H p=Zb (.lst (b.map .ref))/\uf H b a/\∀l,H l=Zc->Q (.ref l) (upd H l (.dK (HN [] a)))):=by
 intro e s J H x L Q I r h;let#[p,b,a,U,y,A,q]:=h;let#[u,U,f]:=vals1 r;cases f;let#[z,o,n,g,B]:=I.hok p _ y;let#[c,E,ok,i]:=afh I.hok A;have N:c.length=b.length:=by rw[<-E,ZI]
 rw[ZI]at z;show afb (I.ok.hd C) B (by rw[wN g,<-E,YG];rfl) ok 00 λG M hd j=>?_;have m:=afi c i;show#[.ref s.heap.objs.size,_,I.laid j (ZU _) (show Wy X.prog X.w _ G _ (.dK (HN [] a)) from#[?_,?_,_,m,hd]),U,q _ (I.hok.fresh (ZU _))];{rw[m.length];have:=hV c;lia};exact beq_false_of_ne (VO I.big)
def afk(r:KV a b):∀{s:Za Zh},s.length=b.length->(∀(i:Nat) v,s[i]?=Zb v->∃k x,b[i]?=Zb (k,x)/\SQ k v=Zd)->ZX (a.map λc=>kV c.1) s:=by
 induction r with
 |nil=>intro s e _;rw[Nz,oX]at e;rw[e];exact .nil
 |@cons c m a b j _ I=>
  intro s e h;cases s with
  |nil=>simp at e
  |cons u s=>
   show .cons ?_ (I ↑e λi v n=>?_);{let#[k,x,g,f]:=h 0 u U;simp at g;change RelV (kV c.1) u;rw[j.1,g];rcases UW f with⟨i,t,rfl,rfl⟩|⟨y,t,rfl,rfl⟩;{exact#[t,U]};exact#[t,U]};let#[k,x,g,f]:=h (i+1) v (by assumption);exact#[k,x,by assumption,f]
def afl(C:Xl X):WR X (.type "list") (λx H Q=>∃p a,x=[.ref p]/\H p=Zb (.dK a)/\∀l,H l=Zc->Q (.ref l) (upd H l (.lst (a.map λb=>kV b.1)))):=by
 intro j s G H x L Q I r h;let#[p,a,U,B,q]:=h;let#[u,U,n]:=vals1 r;cases n;let#[z,lo,J,g,hd]:=I.hok p _ B;let#[N,f]:=hd.dictAt;show PySem.W.kdl_call (PySem.W.kdl_dict lo) (I.ok.hd C) f (by rw[<-g.length];exact z) λE M A c o e m=>?_;show#[.ref s.heap.objs.size,_,I.laid o (ZU _) (show Wy X.prog X.w _ E _ (.lst (a.map λb=>kV b.1)) from#[by rw[ZI];exact z,A.toList,c,afk g ?_ ?_,e]),U,q _ (I.hok.fresh (ZU _))];{rw[VY];exact m.1};exactλi v y=>m.2 i v ↑y
noncomputable def kD:Zx->D
 |.inl i=>.int i
 |.inr x=>.str x
noncomputable def D.key:D->Option Zx
 |.int i=>Zb (.inl i)
 |.str x=>Zb (.inr x)
 |_=>Zc
def ug(k:Zx):Rp K H (kD k) (kV k):=by cases k<;>rfl
def gb(r:Rp K H (kD k) v):v=kV k:=by
 cases k<;>exact r
def afm:∀{s:Za Zx}{a:Za V},Zw K H (s.map kD) a->a=s.map kV:=by
 intro s;induction s with
 |nil=>intro a r;exact r
 |cons k s i=>
  intro a r;let#[v,u,U,c,b]:=r;rw[gb c,i b,Xo]
def gf(e:DE):DE:=λds q x=>e ds (λd=>∃s:Za Zx,d=.lst (s.map kD)/\s.length<4000/\q (.int (VV s).length)) x
def afn(w:Gl X "len")(u:X.mg "len" = Zc)(g:Gl X "set")(f:X.mg "set" = Zc)(x:JE X E e C)(y:Xl X|>1)
  (B:Tp e=Zd|>1)(b:Vd [e]=Zd|>1):JE X E (.Call (.Name "len" L) [.Call (.Name "set" J) [e] [] i] [] j) (gf C):=by
 let#[I,p,d]:=x.ex;show#[_,wW afg w u Hl (Sn (jf (afe y) g f asy (Sn p Sg B) b) Sg U) U,λc h k kx=>d c h (λv a N M e r h=>?_) kx];let#[s,U,z,q]:=h;let#[l,G,U,m,A]:=r;rw[afm A]at m;show#[l,s,U,Ya.of (e.sub _ _ m),by unfold QU;exact Nat.succ_lt_succ (YK z (Le _ _)),λn o=>#[n,_,U,YQ,?_,k _ (.int _) _ _ (e.trans (.grow e.sub (Zv.upd o))) U q]];have:=ue s;lia
noncomputable def OS(s:Za (Zx×D))(k:Zx)(d:D):Za (Zx×D):=if s.any (λa=>decide (a.1=k))then s.map (λa=>if a.1=k then (a.1,d)else a)else s++[(k,d)]
noncomputable def Pw(s more:Za (Zx×D)):Za (Zx×D):=more.foldl (λa b=>OS a b.1 b.2) s
def afo(k:Zx):∀{G:Za (Zx×D)}{s:Za (Zx×V)},WU K H G s->(s.any λa=>decide (a.1=k))=G.any λa=>decide (a.1=k):=by
 intro G;induction G with
 |nil=>intro s r;rw[show s=[]from r];rfl
 |cons g G i=>
  intro s r;let#[v,u,U,_,b]:=r;rw[SF,SF,i b]
def afp(a:Rp K H d v):∀{G:Za (Zx×D)}{s:Za (Zx×V)},WU K H G s->WU K H (G++[(k,d)]) (s++[(k,v)]):=by
 intro G;induction G with
 |nil=>intro s r;rw[show s=[]from r];exact#[v,[],U,a,U]
 |cons g G i=>
  intro s r;let#[u,e,U,c,b]:=r;exact#[u,_,U,c,i b]
def afq(c:Rp K H d v):∀{G:Za (Zx×D)}{s:Za (Zx×V)},WU K H G s->
  WU K H (G.map λa=>if a.1=k then (a.1,d)else a) (s.map λa=>if a.1=k then (a.1,v)else a):=by
 intro G;induction G with
 |nil=>intro s r;rw[show s=[]from r];rfl
 |cons g G i=>
  intro s r;let#[u,j,U,f,b]:=r;let#[g1,g2]:=g;rw[Xo,Xo];by_cases e:g1=k;{rw[Zt e,Zt e];exact#[v,_,U,c,i b]};rw[Zq e,Zq e];exact#[u,_,U,f,i b]
def afr{s:Za (Zx×V)}(r:WU K H g s)(a:Rp K H d v):WU K H (OS g k d) (We s k v):=by
 unfold OS We;rw[afo k r];split;{exact afq a r};exact afp a r
def afs:∀{more:Za (Zx×D)}{mv:Za (Zx×V)}{g:Za (Zx×D)}{s:Za (Zx×V)},WU K H more mv->WU K H g s->WU K H (Pw g more) (HN s mv):=by
 intro more;induction more with
 |nil=>intro mv g s a r;rw[show mv=[]from a];exact r
 |cons m more i=>
  intro mv g s a r;let#[v,u,U,c,b]:=a;change WU K H (Pw (OS g m.1 m.2) more) (HN (We s m.1 v) u);exact i b (afr r c)
noncomputable def Qu(a:Zx×D):D:=.tup [kD a.1,a.2]
def aft(s:Zv H w):∀{b:Za (Zx×D)}{c:Za V},Zw K H (b.map Qu) c->∃p mv,c=p.map V.ref/\uf w p mv/\WU K H b mv:=by
 intro b;induction b with
 |nil=>intro c r;exact#[[],[],r,.nil,U]
 |cons j b I=>
  intro c r;let#[v,y,U,i,g]:=r;let#[p,mv,U,u,q]:=I g;let#[a,x,U,f,o]:=i;let#[v1,e,U,n,m]:=Gj o;show#[a::p,(j.1,e)::mv,U,.cons ?_ u,e,mv,U,m,q];rw[gb n]at f;exact s _ _ f
def afu(x:Za D)(q:D->Prop):Prop:=∃s:Za (Zx×D),x=[.lst (s.map Qu)]/\q (.dic (Pw [] s))
def afv(r:WU K H g s)(a:H p=Zc):Rp K (upd H p (.dK s)) (.dic g) (.ref p):=#[p,s,U,YQ,r.same (Zv.upd a)]
def afw(f:Xl X|>1):Sr X (.type "dict") afu:=by
 show#[_,afj f,λ{n H o x q Q} s r h k=>?_];let#[c,U,e]:=h;let#[v,U,p,w,U,m,j]:=UI r;let#[b,mv,U,i,g]:=aft s j;exact#[p,b,mv,U,s _ _ m,i,λl a=>k _ (.dic _) _ _ (.put s a) (afv (afs g (show WU X.K n [] []from rfl)) (s.free a)) e]
def afx(x:Za D)(q:D->Prop):Prop:=∃s:Za (Zx×D),x=[.dic s]/\q (.lst (s.map λa=>kD a.1))
def afy:∀{G:Za (Zx×D)}{s:Za (Zx×V)},WU K H G s->Zw K H (G.map λa=>kD a.1) (s.map λa=>kV a.1):=by
 intro G;induction G with
 |nil=>intro s r;rw[show s=[]from r];rfl
 |cons g G i=>
  intro s r;let#[u,c,U,e,b]:=r;exact#[_,_,U,ug _,i b]
def afz(e:Xl X|>1):Sr X (.type "list") afx:=by
 show#[_,afl e,λ{j H i x q Q} s r h k=>?_];let#[b,U,c]:=h;let#[v,U,p,w,U,g,f]:=UI r;exact#[p,w,U,s _ _ g,λl a=>k _ (.lst _) _ _ (.put s a) (SW (afy f) (s.free a)) c]
def D.fld(K:ZF)(f:Ze)(d:D)(q:D->Prop):Prop:=∃C g v,d=.obj C g/\Wp K C/\Xx K C f/\g.lookup f=Zb v/\q v
def D.Ve(c:Wp K C)(n:Xx K C f)(l:g.lookup f=Zb v):D.fld K f (.obj C g) q=q v:=by
 show propext #[?_,λh=>#[C,g,v,U,c,n,l,h]];rintro⟨b,G,a,e,_,_,L,h⟩;cases e;rw[l]at L;cases L;exact h
theorem afA:iC K f e ds q x=e ds (λd=>d.fld K f q) x:=rfl
def WW(p:Bool)(h:ZD)(I l:Zg)(k:Nat):Prop:=if p=Zd then h.IsTupleIter I l k else h.IsListIter I l k
def Vm(p:Bool)(h:ZD)(l:Zg)(x:Array Zh):Prop:=if p=Zd then h.IsTuple l x else h.IsList l x
def WW.mv(x:WW p h I l k)(m:∀o,h.get? I=Zb o->b.get? I=Zb o):WW p b I l k:=by
 cases p<;>exact let ⟨o,a,r⟩:=x;#[o,m o a,r]
def Vm.mv(x:Vm p h l s)(m:∀o,h.get? l=Zb o->b.get? l=Zb o):Vm p b l s:=by
 cases p<;>exact let ⟨o,a,r⟩:=x;#[o,m o a,r]
def WW.at(x:WW p h I l k):∃o,h.get? I=Zb o/\o.data=.fields [.ref l,.int k 0].toArray:=by
 cases p<;>exact let ⟨o,a,_,d⟩:=x;#[o,a,d]
def LY(i:WW p s.heap I l k)(ob:Vm p s.heap l n)(f:n[k]?=Zb x)
  (j:∀e,WW p e I l (k+1)->VB I s.heap e->Q x {s with heap:=e}):Zn (Zr P w) A (aoM (.ref I)) Q E s:=by
 cases p with
 |false=>exact wpAny_nextOf_list_item i ob f j
 |true=>
  let⟨o,a,g,hd⟩:=id i;let#[ol,b,_,nl,c]:=ob;have ty:s.TypeIs (.ref I) "tuple_iterator" :=#[o,a,g]
  show Zf (UU ty nK (WQ nK ty aqy ?_ (aqt _)));show Zf (m:=Jc (.ref I) 0) (Wi a hd (x:=.ref l) U ?_);show Zf (Wi a hd (x:=.int k 0) U (Zf (RE b c ?_)));simp only[IM,f];show Zf (xM a hd 02 (Zm #[x,U,Zm (j _ (#[_,Rq _ a (aqg (nC hd _)),(aqc ..).trans g,?_]) (Ro ..))]));rw[nC hd];simp[SM]
def Gz(n:A.handled=Zc)(i:WW p s.heap I l k)(ob:Vm p s.heap l u)(j:u[k]?=Zc)
  (q:∀g e,oM I s.heap g->(∃o,g.get? e=Zb o/\o.cls=.type "StopIteration")->E (.ref e) {s with heap:=g}):Zn (Zr P w) A (aoM (.ref I)) Q E s:=by
 cases p with
 |false=>exact wpAny_nextOf_list_end n i ob j q
 |true=>
  let⟨o,b,y,hd⟩:=id i;let#[ol,c,_,nl,f]:=ob;have ty:s.TypeIs (.ref I) "tuple_iterator" :=#[o,b,y]
  show Zf (UU ty nK (WQ nK ty aqy ?_ (aqt _)));show Zf (m:=Jc (.ref I) 0) (Wi b hd (x:=.ref l) U ?_);show Zf (Wi b hd (x:=.int k 0) U (Zf (RE c f ?_)));simp only[IM,j];show Zf (WD (Zf (xM b hd 02 (Zf ?_))));show Zf (Ur (Zf (mH (a:=RA) (by first|rfl|(simp only[])) (Ur ?_ (by size_fits)))) (by size_fits));show Zf (mF ?_);rw[show A.in1.handled=Zc from n];exact Zf (Zm (mI (q _ _ (((Ro ..).extBut.push _).push _) #[_,YF _ U,U])))
structure Zp (b1 b2:Bool)(h:ZD)(z TI TO i1 i2 l1 l2:Zg)(k:Nat)(f0:Zh)(xs ys:Array Zh):Prop where
 zip:KJ h z TI TO f0
 ti:UD h TI (.ref i1) (.ref i2)
 to:∃a b,UD h TO a b
 it1:WW b1 h i1 l1 k
 it2:WW b2 h i2 l2 k
 ob1:Vm b1 h l1 xs
 ob2:Vm b2 h l2 ys
def gg{z TI TO M L l1 l2:Zg}{k:Nat}{xs ys:Array Zh}{x y:Zh}{Q:Zh->Zj->Prop}(D:Qh z TI TO M L l1 l2)(Z:Zp b1 b2 s.heap z TI TO M L l1 l2 k .none xs ys)(hx:xs[k]?=Zb x)(hy:ys[k]?=Zb y)
  (hQ:∀N,Zp b1 b2 N z TI TO M L l1 l2 (k+1) (SM s.heap.objs.size) xs ys->UD N s.heap.objs.size x y->(∀c o,c≠z->c≠TO->c≠M->c≠L->s.heap.get? c=Zb o->N.get? c=Zb o)->Q (.ref s.heap.objs.size) {s with heap:=N}):
  Zn (Zr P w) A (VA.«zip.__next__» #[[.ref z],[]]) (λfin s'=>∃v,fin=.done (.ret v)/\Q v s') E s:=by
 let#[q,I,#[a,b,hTO],h1,h2,o1,o2]:=Z;show Zf (m:=Jc (.ref z) 2) (Wi q U (x:=.bool Zi) U ?_);show Zf (Wi q U (x:=.ref TI) U (Zf (RE I U ?_)));show Zf ?_;show Zf (Wi q U (x:=.none) U (Zm ?_));show Zf (WD (Zf (Wi q U (x:=.ref TO) U (Zf (Vc q 02 λg1 gz gs=>Zf ?_)))));have m1:∀c o,c≠z->s.heap.get? c=Zb o->g1.get? c=Zb o:=λc o n e=>gs.extBut _ _ n e;simp only[M9,apU,FQ,oW];show Zf (Zf (xK (Zf (LY (h1.mv λo e=>m1 _ o D.i1z e) (o1.mv λo e=>m1 _ o D.l1z e) hx λg2 it2 j=>Zm ?_))));have m2:=λc o n n' e=>j.extBut _ _ n' (m1 c o n e);have p2:=m2 _ _ D.TOz D.TOi1 hTO;show Zf (RE p2 U (Zf (A1 p2 λg3 p3 f=>Zf (Es (Zm ?_)))));replace p3:UD g3 TO x b:=p3;have m3:=λc o n n' n'' e=>f.extBut _ _ n'' (m2 c o n n' e);show Zf (Zf (xK (Zf (LY (h2.mv λo e=>m3 _ o D.i2z D.i12.symm D.TOi2.symm e) (o2.mv λo e=>m3 _ o D.l2z D.l2i1 D.l2TO e) hy λg4 it4 G=>Zm ?_))));have p4:=G.extBut _ _ D.TOi2 p3;show Zf (RE p4 U (Zf (A1 p4 λi J g=>Zf (Es (Zm (Zm ?_))))));replace J:UD i TO x y:=J;have m5:=λc o a1 Y a3 a4 e=>g.extBut _ _ Y (G.extBut _ _ a4 (m3 c o a1 a3 Y e));show Zf (RE J U (Zf (Et ?_)));have sz:i.objs.size=s.heap.objs.size:=by rw[g.1,G.1,f.1,j.1,gs.1]
 have z5:KJ i z TI TO .ellipsis:=g.extBut _ _ D.TOz.symm (G.extBut _ _ D.i2z.symm (f.extBut _ _ D.TOz.symm (j.extBut _ _ D.i1z.symm gz)));have j1:=it2.mv λo e=>g.extBut _ _ D.TOi1.symm (G.extBut _ _ D.i12 (f.extBut _ _ D.TOi1.symm e));have j2:=it4.mv λo e=>g.extBut _ _ D.TOi2.symm e;have p:=Yc z5;show Zf (m:=asj (.ref z) (.ref i.objs.size)) ?_;have z6:KJ (i.push {cls:=.type "tuple",data:=.seq [x,y].toArray}) z TI TO .ellipsis:=ZY _ z5;show Zf (Vc z6 02 λg7 z7 B=>?_);replace z7:KJ g7 z TI TO (SM i.objs.size):=z7;show Vc z7 02 λg8 C u=>?_;replace C:KJ g8 z TI TO (SM i.objs.size):=C;have up:∀c o,c≠z->i.get? c=Zb o->g8.get? c=Zb o:=λc o n e=>u.extBut _ _ n (B.extBut _ _ n (ZY _ e));have t8:=u.extBut _ _ (VO p) (B.extBut _ _ (VO p) (YF _ U));show Zm #[_,U,?_];rw[sz]at C t8⊢;have all:=λc o a1 Y a3 a4 e=>up c o a1 (m5 c o a1 Y a3 a4 e);exact hQ g8 #[C,all _ _ D.TIz D.TITO D.TIi1 D.TIi2 I,⟨_,_,up _ _ D.TOz J⟩,j1.mv λo e=>up _ o D.i1z e,j2.mv λo e=>up _ o D.i2z e,o1.mv λo e=>all _ o D.l1z D.l1TO D.l1i1 D.l1i2 e,o2.mv λo e=>all _ o D.l2z D.l2TO D.l2i1 D.l2i2 e] t8 all
def afB{z TI TO i1 Y l1 l2:Zg}{k:Nat}{B ys:Array Zh}{Q:Fin->Zj->Prop}(hh:A.handled=Zc)(D:Qh z TI TO i1 Y l1 l2)(Z:Zp b1 b2 s.heap z TI TO i1 Y l1 l2 k .none B ys)(p:B[k]?=Zc\/ys[k]?=Zc)
  (hE:∀h' e,(∀c o,c≠z->c≠TO->c≠i1->c≠Y->s.heap.get? c=Zb o->h'.get? c=Zb o)->(∃o,h'.get? e=Zb o/\o.cls=.type "StopIteration")->E (.ref e) {s with heap:=h'}):
  Zn (Zr P w) A (VA.«zip.__next__» #[[.ref z],[]]) Q E s:=by
 let#[j,hTI,#[a,b,hTO],h1,h2,o1,o2]:=Z;show Zf (m:=Jc (.ref z) 2) (Wi j U (x:=.bool Zi) U ?_);show Zf (Wi j U (x:=.ref TI) U (Zf (RE hTI U ?_)));show Zf ?_;show Zf (Wi j U (x:=.none) U (Zm ?_));show Zf (WD (Zf (Wi j U (x:=.ref TO) U (Zf (Vc j 02 λg1 gz gs=>Zf ?_)))));have M:∀c o,c≠z->s.heap.get? c=Zb o->g1.get? c=Zb o:=λc o n e=>gs.extBut _ _ n e;simp only[M9,apU,FQ,oW];cases hx:B[k]? with
 |none=>
  show Zf (Zf (xK (Zf (Gz hh (h1.mv λo e=>M _ o D.i1z e) (o1.mv λo e=>M _ o D.l1z e) hx λg2 e i he=>?_))));let#[I,f,g]:=he;have z2:KJ g2 z TI TO .ellipsis:=i _ _ D.i1z.symm gz;have ez:e≠z:=λq=>by subst q;rw[z2]at f;cases f;simp at g
  exact Vc z2 02 λg3 O G=>hE g3 e (λc o C O c3 O q=>G.extBut _ _ C (i _ _ c3 (M _ _ C q))) #[I,G.extBut _ _ ez f,g]
 |some x=>
  have hy:=p.resolve_left λq=>by rw[hx]at q;cases q
  show Zf (Zf (xK (Zf (LY (h1.mv λo e=>M _ o D.i1z e) (o1.mv λo e=>M _ o D.l1z e) hx λg2 it2 i=>Zm ?_))));have m2:=λc o n J e=>i.extBut _ _ J (M c o n e);have p2:=m2 _ _ D.TOz D.TOi1 hTO;show Zf (RE p2 U (Zf (A1 p2 λg3 p3 G=>Zf (Es (Zm ?_)))));have L:=λc o n J N e=>G.extBut _ _ N (m2 c o n J e);show Zf (Zf (xK (Zf (Gz hh (h2.mv λo e=>L _ o D.i2z D.i12.symm D.TOi2.symm e) (o2.mv λo e=>L _ o D.l2z D.l2i1 D.l2TO e) hy λg4 e y he=>?_))));let#[I,f,g]:=he;have z4:KJ g4 z TI TO .ellipsis:=y _ _ D.i2z.symm (G.extBut _ _ D.TOz.symm (i.extBut _ _ D.i1z.symm gz));have ez:e≠z:=λq=>by subst q;rw[z4]at f;cases f;simp at g
  exact Vc z4 02 λg5 O u=>hE g5 e (λc o C c2 c3 c4 q=>u.extBut _ _ C (y _ _ c4 (L _ _ C c3 c2 q))) #[I,u.extBut _ _ ez f,g]
def afC{z TI TO I i e L:Zg}{k:Nat}{b Y:Array Zh}{x y:Zh}{Q:Option Zh->Zj->Prop}(D:Qh z TI TO I i e L)(Z:Zp m B s.heap z TI TO I i e L k .none b Y)(g:b[k]?=Zb x)(f:Y[k]?=Zb y)
  (j:∀a,Zp m B a z TI TO I i e L (k+1) (SM s.heap.objs.size) b Y->UD a s.heap.objs.size x y->(∀c o,c≠z->c≠TO->c≠I->c≠i->s.heap.get? c=Zb o->a.get? c=Zb o)->Q (Zb (.ref s.heap.objs.size)) {s with heap:=a}):
  Zn (Zr P w) A (VZ (.ref z)) Q E s:=by
 have ty:s.TypeIs (.ref z) "zip" :=#[_,Z.zip,U]
 exact Zf (SN (UU ty NN (WQ NN ty xn (gg D Z g f λa q p n=>Zm (j a q p n)) (xm _))))
def gh{z TI TO I i f L:Zg}{k:Nat}{x y:Array Zh}{Q:Option Zh->Zj->Prop}(m:A.handled=Zc)(D:Qh z TI TO I i f L)(Z:Zp u B s.heap z TI TO I i f L k .none x y)(a:x[k]?=Zc\/y[k]?=Zc)
  (q:∀b,(∀c o,c≠z->c≠TO->c≠I->c≠i->s.heap.get? c=Zb o->b.get? c=Zb o)->Q Zc {s with heap:=b}):Zn (Zr P w) A (VZ (.ref z)) Q E s:=by
 have ty:s.TypeIs (.ref z) "zip" :=#[_,Z.zip,U]
 show Zf (SN (UU ty NN (WQ NN ty xn (afB (m) D Z a λb e j n=>?_) (xm _))));let#[o,g,p]:=n;exact Zf (NU #[o,g,p] Ek (Zm (q _ j)))
def Vf(p:Bool)(K:ZF)(H:Hp)(a:Zg)(x:Za V):Prop:=if p=Zd then YW K H a x else Ya K H a x
def Inv.sq(I:Inv X c e H s)(h:Vf b X.K H a x):∃i:Za Zh,ZX x i/\Vm b s.heap a i.toArray/\x.length<=Zo:=by
 cases b with|false=>let⟨i,r,p,z⟩:=I.list h;exact#[i,r,p.isList,z]|true=>let⟨i,r,p,z⟩:=I.tuple h;exact#[i,r,p,z]
def Inv.uh(I:Inv X b e H s)(h:Vf p X.K H a x)(c:Vf p X.K H a y):x=y:=by
 cases p with|false=>exact I.HB h c|true=>exact I.EB h c
noncomputable def Itz(c B:Bool)(K:ZF)(a b:Zg):It:=
  #[λi H=>∃s Y x y,Vf c K H a s/\Vf B K H b Y/\s[i]?=Zb x/\Y[i]?=Zb y,
   λi H v e=>∃p x y,v=.ref p/\H p=Zc/\e=upd H p (.tup [x,y])/\(∀s,Vf c K H a s->s[i]?=Zb x)/\∀Y,Vf B K H b Y->Y[i]?=Zb y,
   λi H=>∃s Y,Vf c K H a s/\Vf B K H b Y/\(s.length<=i\/Y.length<=i)]
def tnz(e B:Bool)(z TI TO I i c L:Zg)(k:Nat)(h:ZD):Prop:=KJ h z TI TO .none/\UD h TI (.ref I) (.ref i)/\(∃a b,UD h TO a b)/\WW e h I c k/\WW B h i L k
def afD{b1 b2:Bool}{z TI TO B A l1 l2:Zg}(D:Qh z TI TO B A l1 l2):
  TV P w K (.Tuple elts x1 tpos) (Itz b1 b2 K l1 l2) [z,TI,TO,B,A] z (tnz b1 b2 z TI TO B A l1 l2) where
 mem:=02
 obj:=λi h st b f=>by
  let#[M,h2,#[_,_,h3],Y,N]:=st;let#[o4,g4,d4]:=Y.at;let#[o5,g5,d5]:=N.at;simp only[Yk,Qd,or_false]at f;rcases f with rfl|rfl|rfl|rfl|rfl;{exact#[_,M,λv z=>by cases z]};{exact#[_,h2,λv z=>by cases z]};{exact#[_,h3,λv z=>by cases z]};{exact#[_,g4,λv z=>by rw[d4]at z;cases z]};exact#[_,g5,λv z=>by rw[d5]at z;cases z]
 keep:=λi h h' st k=>by
  let#[M,h2,#[a,b,h3],Y,N]:=st;exact#[k z 02 _ M,k TI 02 _ h2,⟨a,b,k TO 02 _ h3⟩,Y.mv λo q=>k B 02 o q,N.mv λo q=>k A 02 o q]
 item:=by
  intro X hP hw hK g i C s σ H E I hf st hg;subst hP hw hK;let#[M,h2,h3,Y,N]:=st;let#[xs,ys,x,y,hq,L,hx,hy]:=hg;let#[its,rv,p,hz]:=I.sq hq;let#[its',rv',p',hz']:=I.sq L;let#[u,hu,ru]:=rv.get hx;let#[u',hu',ru']:=rv'.get hy;have fr:∀b,(b=z\/b=TO\/b=B\/b=A)->Vw X C H b:=λb f=>hf b (by rcases f with rfl | rfl | rfl | rfl<;>simp);show afC D #[M,h2,h3,Y,N,p,p'] ↑hu ↑hu' λh' Z t8 kp0=>?_;show#[_,U,wpAny_letOwnedTupleGo_zip Z.zip λh'' z2 sb=>?_];have lt:∀{c:Zg}{o:Yg},s.heap.get? c=Zb o->s.heap.objs.size≠c:=λe=>VO (Yc e);have G:=I.fresh;have J:∀b o,¬(b=z\/b=TO\/b=B\/b=A)->s.heap.get? b=Zb o->h''.get? b=Zb o:=λb o n q=>(sb.2 b (λe=>n (.inl e))).trans (kp0 b o (λe=>n (.inl e)) (λe=>n (.inr (.inl e))) (λe=>n (.inr (.inr (.inl e)))) (λe=>n (.inr (.inr (.inr e)))) q);show#[.ref s.heap.objs.size,upd H s.heap.objs.size (.tup [x,y]),?_,U,⟨_,x,y,rfl,G,rfl,λys hy=>by rw[I.uh hy hq];exact hx,λys hy'=>by rw[I.uh hy' L];exact hy⟩,?_,λb f=>?_]
  ·have nt:∀b o,H b=Zb o->¬(b=z\/b=TO\/b=B\/b=A):=λb o q f=>by
    have:=(fr b f).1;rw[q]at this;cases this
   have ok':Xh X.prog X.w (upd H s.heap.objs.size (.tup [x,y])) h'':=λb o q=>by
    by_cases f:b=s.heap.objs.size;{subst f;rw[YQ]at q;cases q;exact#[by change 2<=Zo;decide,[u,u'],.cons ru (.cons ru' .nil),_,((sb.2 _ (lt M)).trans t8),U,0,U]};rw[ZN f]at q;show(I.hok b o q).stay (λc v g Q=>J c v ?_ Q) (λc Q=>by rw[ZN (Wx Q G)];exact Q) λc zs Q=>by rw[ZN (Wx Q G)];exact Q
    rcases g with rfl|g;{exact nt _ _ q};exact nt _ _ g
   have I3:Inv X C σ (upd H s.heap.objs.size (.tup [x,y])) {s with heap:=h'',gens:=s.gens,drawn:=s.drawn,toks:=s.toks}:=by
    have j:∀b,b∉[z,TO,B,A]->¬(b=z\/b=TO\/b=B\/b=A):=λb f q=>f (by rcases q with rfl | rfl | rfl | rfl<;>simp);show Inv.step I (λb f=>?_) (λb o O O g q O=>J b o (j b g) q)
     (λb o O O g q O=>#[o.slots,J b o (j b g) q])
     (λb o O q n=>by rw[ZN (Ys (Yc q))];exact n)
     (λb o g q=>#[o,J b o (j b g) q])
     (λb zs q=>by rw[ZN (Wx q G)];exact q) (λb ob zs q=>by rw[ZN (Wx q G)];exact q)
     (λb ps q=>#[#[],by rw[ZN (Wx q G),q];simp]) (λm hm=>?_) ok' I.bare
    {let#[f0,f1,f2,f3,f4,f5]:=fr b ↑f;exact#[f3,f1,f4,f5]};let#[o,es,ep,ho,r]:=hm;exact#[o,es,ep,J _ o (λf=>(fr _ f).2.1 U) ho,r]
   exact I3
  {let#[w1,w2,#[a,b,w3],w4,w5,_,_]:=Z;exact#[z2,(sb.2 _ D.TIz).trans w2,⟨a,b,(sb.2 _ D.TOz).trans w3⟩,w4.mv λo q=>(sb.2 _ D.i1z).trans q,w5.mv λo q=>(sb.2 _ D.i2z).trans q]};have hb0:=(hf b f).1;let#[h1',h2',#[_,_,h3'],h4',h5']:tnz b1 b2 z TI TO B A l1 l2 i s.heap:=#[M,h2,h3,Y,N]
  let#[o4,g4,_]:=h4'.at;let#[o5,g5,_]:=h5'.at;rw[ZN (λe=>?_)];{exact hb0};simp only[Yk,Qd,or_false]at f;rcases f with rfl|rfl|rfl|rfl|rfl;{exact lt h1' e.symm};{exact lt h2' e.symm};{exact lt h3' e.symm};{exact lt g4 e.symm};exact lt g5 e.symm
 done:=by
  intro X hP hw hK g i C s σ H E I hf st hg;subst hP hw hK;let#[M,h2,h3,Y,N]:=st;let#[xs,ys,hq,L,hx]:=hg;let#[its,rv,p,hz]:=I.sq hq;let#[its',rv',p',hz']:=I.sq L;have l1:=rv.length;have l2:=rv'.length;have fr:∀b,(b=z\/b=TO\/b=B\/b=A)->Vw X C H b:=λb f=>hf b (by rcases f with rfl | rfl | rfl | rfl<;>simp);show gh (I.ok.hd g) D #[M,h2,h3,Y,N,p,p'] (by rcases hx with e | e;exact .inl (by simp;lia);exact .inr (by simp;lia)) λh' kp0=>#[U,?_]
  have J:∀b o,¬(b=z\/b=TO\/b=B\/b=A)->s.heap.get? b=Zb o->h'.get? b=Zb o:=λb o n q=>kp0 b o (λe=>n (.inl e)) (λe=>n (.inr (.inl e))) (λe=>n (.inr (.inr (.inl e)))) (λe=>n (.inr (.inr (.inr e)))) q;have nt:∀b o,H b=Zb o->¬(b=z\/b=TO\/b=B\/b=A):=λb o q f=>by
   have:=(fr b f).1;rw[q]at this;cases this
  have ok':Xh X.prog X.w H h':=λb o q=>by
   show(I.hok b o q).stay (λc v g Q=>J c v ?_ Q) (λc Q=>Q) λc zs Q=>Q;rcases g with rfl|g;{exact nt _ _ q};exact nt _ _ g
  have j:∀b,b∉[z,TO,B,A]->¬(b=z\/b=TO\/b=B\/b=A):=λb f q=>f (by rcases q with rfl | rfl | rfl | rfl<;>simp);show Inv.step I (λb f=>?_) (λb o O O g q O=>J b o (j b g) q)
   (λb o O O g q O=>#[o.slots,J b o (j b g) q]) (λb o O q n=>n) (λb o g q=>#[o,J b o (j b g) q]) (λb zs q=>q) (λb ob zs q=>q) (λb ps q=>#[#[],by rw[q];simp]) (λm hm=>?_) ok' I.bare
  {let#[f0,f1,f2,f3,f4,f5]:=fr b ↑f;exact#[f3,f1,f4,f5]};let#[o,es,ep,ho,r]:=hm;exact#[o,es,ep,J _ o (λf=>(fr _ f).2.1 U) ho,r]
 self:=λO O O O O st h=>p8 st.1 h
noncomputable def OT(p:Bool)(l:Zg):Yg:={cls:=.type (if p=Zd then "tuple_iterator" else "list_iterator"),data:=.fields [.ref l,.int 0 0].toArray}
def JV(ob:Vm p s.heap l x)(a:Q (.ref s.heap.objs.size) {s with heap:=s.heap.push (OT p l)}):Zn (Zr P w) A (Qk (.ref l)) Q E s:=by
 cases p with|false=>exact Hx ob a|true=>exact arx ob a
noncomputable def zA(h:ZD)(b:Bool)(L:Zg):ZD:=h.push (OT b L)
noncomputable def zB(h:ZD)(B b:Bool)(a L:Zg):ZD:=(zA h B a).push (OT b L)
noncomputable def zC(h:ZD)(b B:Bool)(L a:Zg):ZD:=(zB h b B L a).push {cls:=.type "tuple",data:=.seq [.ref h.objs.size,.ref (zA h b L).objs.size].toArray}
noncomputable def zD(h:ZD)(B b:Bool)(a L:Zg):ZD:=(zC h B b a L).push {cls:=.type "tuple",data:=.seq [.none,.none].toArray}
noncomputable def zE(h:ZD)(B b:Bool)(a L:Zg):ZD:=(zD h B b a L).push {cls:=.type "zip",data:=.fields [.none,.bool Zi,.bool Zi,.ref (zB h B b a L).objs.size,.ref (zC h B b a L).objs.size].toArray}
def afE(B b:Bool)(a L:Zg)(x y:Array Zh):
  Meets (VA.«zip.__new__» #[[.type "zip",.ref a,.ref L],[]]) (λO R s=>Vm B s.heap a x/\Vm b s.heap L y/\R (.ok (.ret (.ref (zD s.heap B b a L).objs.size))) {s with heap:=zE s.heap B b a L}):=
 .of_wp λP w A R s h=>by
  let#[p,g,d,c,os]:=s;let#[i,f,h]:=h;have sub:=sub_zip;have j:Vm b (aq0 #[p.push (OT B a),g,d,c,os]) L y:=f.mv λo e=>ZY _ e;wp_walk using JV i,JV j;exact#[_,U,h]
def gj(I:Vm b s.heap L z)(G:Vm B s.heap a Y)
  (h:∀g,tnz b B (s.heap.objs.size+4) (s.heap.objs.size+2) (s.heap.objs.size+3) s.heap.objs.size (s.heap.objs.size+1) L a 0 g->(∀c o,s.heap.get? c=Zb o->g.get? c=Zb o)->Q (.ref (s.heap.objs.size+4)) {s with heap:=g}):
  Zn (Zr P w) A (call (.type "zip") [.ref L,.ref a]) Q E s:=by
 show callType_new PySem.F.called_zip 01 (PySem.F.typeCall_zip_2 _ _) (PySem.F.newCall_zip_2 _ _) (λobj=>PySem.F.args_object_init_3 obj _ _) PySem.F.entry_zip_new (afE b B L a z Y) #[I,G,?_];have f:(zA s.heap b L).objs.size=s.heap.objs.size+1:=UQ ..;have N:(zB s.heap b B L a).objs.size=s.heap.objs.size+2:=by unfold zB;rw[UQ,f]
 have n:(zC s.heap b B L a).objs.size=s.heap.objs.size+3:=by unfold zC;rw[UQ,N]
 have j:(zD s.heap b B L a).objs.size=s.heap.objs.size+4:=by unfold zD;rw[UQ,n]
 have m:∀{c o},(zD s.heap b B L a).get? c=Zb o->(zE s.heap b B L a).get? c=Zb o:=λe=>ZY _ e;have kD:∀{c o},(zC s.heap b B L a).get? c=Zb o->(zE s.heap b B L a).get? c=Zb o:=λe=>m (ZY _ e);have C:∀{c o},(zB s.heap b B L a).get? c=Zb o->(zE s.heap b B L a).get? c=Zb o:=λe=>kD (ZY _ e);have p:∀{c o},(zA s.heap b L).get? c=Zb o->(zE s.heap b B L a).get? c=Zb o:=λe=>C (ZY _ e);have i:(zE s.heap b B L a).get? (zD s.heap b B L a).objs.size=Zb _:=YF _ U;have q:=m (YF _ U);have u:=kD (YF _ U);have y:=C (YF _ (by cases B<;>rfl));have J:=p (YF _ (by cases b<;>rfl));rw[N,n,j]at i;rw[f,N]at u;rw[n]at q;rw[f]at y;rw[j];have f1:WW b (zE s.heap b B L a) s.heap.objs.size L 0:=by cases b<;>exact#[_,J,U,U]
 have f2:WW B (zE s.heap b B L a) (s.heap.objs.size+1) a 0:=by cases B<;>exact#[_,y,U,U]
 exact#[⟨_,i,rfl⟩,h _ ⟨i,u,⟨_,_,q⟩,f1,f2⟩ λc o x=>p (ZY _ x)]
def afF(K:ZF)(g:TA):TI:=λf H R=>g f H λs c=>∃a b e B,s=[.ref a,.ref b]/\(∃x,Vf e K c a x)/\(∃y,Vf B K c b y)/\R (Itz e B K a b) c
def afG(hg:Gl X "zip")(hm:X.mg "zip" = Zc)(ha:PA X [a,b] L)(hv:RC "zip" = Zb (.type "zip"):=by decide +kernel)
  (hs:XA [a,b] X.env=(Zi,Ye a X.env)::XA [b] X.env|>1)(w:VP X [b] pos|>1):PI X (.Tuple E x1 x) (.Call (.Name "zip" p) [a,b] [] pos) (afF X.K L):=by
 intro f s G H R I h;show Call_ (Ph I hg hm hv (Hj (ZQ (ha pos f s G H _ I h) λJ c Z=>?_) hs w));let#[vs,H1,i,Y,q1]:=Z;let#[C,B,b1,b2,U,#[xs,hq],#[ys,n],q]:=q1;let#[u,e,e1,N,Q]:∃u e,J=u::e/\RelV (.ref C) u/\ZX [.ref B] e:=by cases Y with | cons a b=>exact#[_,_,U,a,b]
 let#[u',e2,m]:=vals1 Q;subst e1 e2;cases N;cases m;let#[its,rv,p,hz]:=i.sq hq;let#[A,M,y,hz']:=i.sq n;show gj p y λh' t kp=>p8 t.1 ?_;have lt:∀{j:Bool}{l:Zg}{z:Array Zh},Vm j c.heap l z->l<c.heap.objs.size:=λ{j l z} o=>by
  cases j<;>exact let ⟨_,ho,_⟩:=o;Yc ho
 have D:Qh (c.heap.objs.size+4) (c.heap.objs.size+2) (c.heap.objs.size+3) c.heap.objs.size (c.heap.objs.size+1) C B:=zipApart_new (lt p) (lt y);show#[_,[c.heap.objs.size+4,c.heap.objs.size+2,c.heap.objs.size+3,c.heap.objs.size,c.heap.objs.size+1],_,_,H1,U,(i.kept (t':=c.toks) kp),afD D,t,λb g=>?_,q];have g:c.heap.objs.size<=b:=by
  simp only[Yk,Qd,or_false]at g;rcases g with rfl|rfl|rfl|rfl|rfl;{exact Rv _ _};{exact Rv _ _};{exact Rv _ _};{exact ZU _};exact Rv _ _
 exact i.Qn g (i.hok.fresh g)
noncomputable def D.sq:D->Option (Za D)
 |.lst x=>Zb x
 |.scr x=>Zb x
 |.tup x=>Zb x
 |_=>Zc
noncomputable def RO(x y:Za D):Za D:=(x.zip y).map λp=>.tup [p.1,p.2]
def gk(e:DA):DI:=λds q x=>e ds (λc=>∃a b s y,c=[a,b]/\a.sq=Zb s/\b.sq=Zb y/\q (RO s y)) x
def GA(r:Rp K H d v)(e:d.sq=Zb x):∃p a s,v=.ref a/\Vf p K H a s/\Zw K H x s:=by
 cases d with
 |lst y=>cases e;let#[a,s,U,c,b]:=r;exact#[Zi,a,s,U,Ya.of c,b]
 |scr y=>cases e;let#[a,s,U,c,b]:=r;exact#[Zi,a,s,U,c,b]
 |tup y=>cases e;let#[a,s,U,c,b]:=r;exact#[Zd,a,s,U,YW.of c,b]
 |_=>cases e
theorem Vf.same(s:Zv H b)(h:Vf p K H a x):Vf p K b a x:=by
 cases p with|false=>exact s.seq h|true=>exact YW.same s h
def afH(h:Vf M K w a g)(J:Vf L K w b j)(r:Zw K w f g)(o:Zw K w Y j):Walks K (Itz M L K a b) (RO f Y) w:=by
 intro i N H m s;have n:=h.same (m.trans s);have c:=J.same (m.trans s);have A:(RO f Y).length=min f.length Y.length:=by unfold RO;simp
 show#[λhi=>?_,λhi=>#[g,j,n,c,by rw[r.length,o.length];rw[A]at hi;lia]];rw[A]at hi;let#[v,e,G]:=r.get (ZA (show i<f.length from YK hi (nr _ _)));let#[u,E,I]:=o.get (ZA (show i<Y.length from YK hi (Ea _ _)));show#[⟨g,j,v,u,n,c,e,E⟩,λx H' y=>?_];let#[p,w1,Q,U,q,U,C,B]:=y;have Z:=C g n;have z:=B j c;rw[e]at Z;rw[E]at z;cases Z;cases z;show#[upd N p (.tup [v,u]),.put s q,.tup [f[i]' 00,Y[i]' 00],?_,LK #[_,_,U,G.same m,_,_,U,I.same m,U] (s.free q)];unfold RO;rw[YC,ZA (by rw[M3];exact hi),List.getElem_zip];rfl
def afI{x}{s:Yv}(B:Gl X "zip")(A:X.mg "zip" = Zc)(C:WV X Y [a,b] J)
  (y:XA [a,b] X.env=(Zi,Ye a X.env)::XA [b] X.env|>1)(f:VP X [b] pos|>1):JI X Y (.Tuple E x s) (.Call (.Name "zip" p) [a,b] [] pos) (gk J):=by
 let#[ta,p,d]:=C.ex;show#[_,afG B A p (by decide +kernel) y f,λc h k kx=>d c h (λg ts H1 H2 e r h=>?_) kx];let#[d1,d2,xs,Z,U,I,G,z]:=h;let#[v,u,U,w,q]:=Gj r;let#[M,Q,g,U,j,o]:=GA w I;let#[L,N,m,U,i,n]:=GA q G;exact#[Q,N,M,L,U,#[g,j.same e.sub],#[m,i.same e.sub],k _ _ _ _ e (afH j i o n) z]
def hu3(a:Xc k A):A.units+3<Yz:=by have:=a.units;lia
def ui(r:Rp K H (kD k) v):v=kV k:=by
 cases k with|inl i=>exact r|inr x=>exact r
noncomputable def Mz(s:Za (Zx×D))(k:Zx):Option D:=(s.find? λa=>decide (a.1=k)).map (·.2)
theorem gm(k:Zx):∀{G:Za (Zx×D)}{s:Za (Zx×V)},WU K H G s->Mz G k=Zb d->∃v,WG s k=Zb v/\Rp K H d v
 |[],_,_,e=>by cases e
 |(j,g)::G,_,⟨v,f,E,c,b⟩,e=>by
  subst E;by_cases a:j=k
  ·have:Mz ((j,g)::G) k=Zb g:=by unfold Mz;rw[O4 ↑a];rfl
   rw[this]at e;cases e;exact#[v,HI a,c]
  have:Mz ((j,g)::G) k=Mz G k:=by unfold Mz;rw[O3 ↑a]
  rw[this]at e;let#[u,Q,q]:=gm k b e;exact#[u,by rw[HJ a];exact Q,q]
def afJ(b a:DE):DE:=λds q x=>b ds (λd=>a ds (λk=>∃s key v,d=.dic s/\k=kD key/\Mz s key=Zb v/\q v) x) x
def afK(m:X.A.units+3<Yz)(B:JE X x o J)(C:JE X x k I)(n:EV k:=by intro _ _;rfl):JE X x (.Subscript o k pos) (afJ J I):=by
 let#[Z,f,M]:=B.ex;let#[Y,p,L]:=C.ex;show#[_,kW m f p n,λc h i kx=>M c h (λv d H1 H2 e r h=>L (c.go e) h (λu kd H3 H4 E b G=>?_) (kx.go e.s)) kx];let#[g,key,w,U,U,j,z]:=G;let#[a,N,U,g1,g2]:=r;rw[ui b];let#[y,Q,q]:=gm key g2 j;exact#[a,y,U,by rw[<-Q];exact TJ.k (E.s _ _ (e.sub _ _ g1)),i _ w _ _ (e.trans E) (q.same E.s0) z]
def Ss(K:ZF)(a H:Hp)(c:Mu):Prop:=∀b m,c.lookup b=Zb m->a b=Zc/\∃u,H b=Zb u/\RJ K a m u
structure Lv (K:ZF)(μ μ':Mu)(H0 H H0' H':Hp):Prop where
 s:∀b o,μ.lookup b=Zc->H b=Zb o->H' b=Zb o
 s0:Zv H0 H0'
 sub:Zv H0' H'
 new:∀b,μ.lookup b=Zc->H0 b=Zc->Ta H b->H0' b=Zc
 ok:Ss K H0' H' μ'
 old:∀b m,μ'.lookup b=Zb m->μ.lookup b≠Zc\/H b=Zc
abbrev Rb:=Za D->Mu->(D->Mu->Prop)->Prop
def spS(K:ZF)(p:Nat)(g:Rb):Sp:=λs H Q O=>∃e x a f q,Zv e H/\Zw K e x s/\x[p]?=Zb (.rf a)/\Ss K e H f/\g x f q/\
 ∀v d b c i,Lv K f b e H c i->Rp K c d v->q d b->Q v i
set_option tactic.hygienic true in
def Zy.GB{Z:Hp}{J:St}{ds:ZG}(c:Zy K B0 B H0 H J ds){j:Nat}{a a':Zg}{E A:Mu}(q:ds[j]?=Zb (.st a E))(l:Lv K E A H0 H N Z):Zy K B0 B N Z J (ds.set j (.st a A)):=by
 have M:=(YM.mp q).1;have p:∀i t b,i≠j->ds[i]?=Zb t->t.foot ((J[i]?).getD Zc) b->E.lookup b=Zc:=λi t b ne r f=>by
  cases z:E.lookup b with|none=>rfl|some m=>exact(c.sep i j t _ b ne r q f #[m,z]).elim
 show#[⟨λb o z=>?_,c.ext.s0.trans l.s0,l.sub,λb z n=>?_⟩,λi t r=>?_,λi t b r f=>?_,λi k t u b ne r y f g=>?_,by rw[KO];exact c.len]
 ·show l.s b o ?_ (c.ext.s _ _ z);cases w:E.lookup b with
  |none=>rfl
  |some m=>have:=c.young j _ b q #[m,w];rw[z]at this;cases this
 {show l.new b ?_ (c.ext.new b z n) (n.go c.ext.s);cases w:E.lookup b with|none=>rfl|some m=>exact(n.no (c.young j _ b q #[m,w])).elim}
 ·rw[VQ M]at r;split at r;{rename_i e;cases r;rw[e];exact#[(c.slot j _ q).1,l.ok]};rename_i ne;have old:=c.slot i t r;cases t with
  |un=>trivial
  |v d=>let⟨v,z1,z2⟩:=old;exact#[v,z1,z2.same l.s0]
  |own ys=>
   let⟨b,G,f1,f2,x,I⟩:=old;exact#[b,G,f1,l.new b (p i _ b ne r f1) f2 (Vi x),l.s _ _ (p i _ b ne r f1) x,I.same l.s0]
  |ob b dx C Q=>
   let⟨G,f1,f2,x,I⟩:=old;exact#[G,f1,l.new b (p i _ b ne r f1) f2 (Vi x),l.s _ _ (p i _ b ne r f1) x,I.same l.s0]
  |od Q=>
   let⟨b,G,f1,f2,x,I⟩:=old;exact#[b,G,f1,l.new b (p i _ b ne r f1) f2 (Vi x),l.s _ _ (p i _ b ne r f1) x,I.same l.s0]
  |on Q=>
   let⟨b,G,f1,f2,x,I⟩:=old;exact#[b,G,f1,l.new b (p i _ b ne r f1) f2 (Vi x),l.s _ _ (p i _ b ne r f1) x,I.same l.s0]
  |st b ν=>
   show#[old.1,λL m w=>?_];let#[g1,u,g2,g3]:=old.2 L m w;exact#[l.new L (p i _ L ne r #[m,w]) g1 (Vi g2 g3.nt),u,l.s _ _ (p i _ L ne r #[m,w]) g2,g3.same l.s0]
 {rw[VQ M]at r;split at r;{cases r;let#[m,w]:=f;rcases l.old b m w with z|z;{cases y:E.lookup b with|none=>exact ZJ y z|some n=>exact c.young j _ b q #[n,y]};exact c.ext.s.free z};exact c.young i t b r f};have key:∀i t,i≠j->ds[i]?=Zb t->t.foot ((J[i]?).getD Zc) b->∀m,A.lookup b=Zb m->False:=λi t ne r f m w=>by
  rcases l.old b m w with z|z;{exact z (p i t b ne r f)};exact(c.Mi r f).2 z
 rw[VQ M]at r y;split at r;{rename_i Y;cases r;rw[Zq (λz=>ne (Y.trans z.symm))]at y;let#[m,w]:=f;exact key k u (λz=>ne (Y.trans z.symm)) y g m w};rename_i ni;split at y;{cases y;let#[m,w]:=g;exact key i t ni r f m w};exact c.sep i k t u b ne r y f g
theorem Lv.refl(s:Zv a H)(h:Ss K a H c):Lv K c c a H a H:=#[λO O O e=>e,.refl _,s,λO O z O=>z,h,λb m e=>.inl (by rw[e];simp)]
def gp(i:Nat):DE:=λds q O=>sS ds[i]? λa O=>q (.rf a)
def VR(i:Nat)(g:X.N[i]?=Zb x|>1)(f:Vk X.env.scope x|>3)(hd:YV x|>2)
  (b:Vv x|>2):JE X E (.Name x pos) (gp i):=
 #[_,pv i g f hd b,λc h k O=>by
  let#[a,j,e,h]:=Dg h;exact#[.ref a,Ux (c.slot i _ e).1,k (.ref a) (.rf a) _ _ (.refl c.sub) U h]]
def gq(i:Nat)(f e:DE):DE:=λds q x=>sS ds[i]? λa c=>f ds (λo=>e ds (λk=>∃b s n d,o=.rf b/\k=.int n/\c.lookup b=Zb (.lst s)/\Xp s n=Zb d/\q d) x) x
def uj(i:Nat)(G:JE X x a Y)(C:JE X x b Q)(z:EK b:=by exactλ_ _=>rfl):JE X x (.Subscript a b pos) (gq i Y Q):=by
 let#[ta,w,d1]:=G.ex;let#[tb,q,Z]:=C.ex;show#[_,wy wA w q z,λc h k kx=>?_];let#[r,μ,hi,h]:=Dg h;show d1 c h (λv o H1 H2 e p h=>Z (c.go e) h (λu n H3 H4 N m L=>?_) (kx.go e.s)) kx;let#[b,xs,n,d,U,U,B,y,A]:=L;have E:=e.trans N;let#[h0,u',J,f,U,I]:=((c.go E).slot i _ hi).2 b _ B;let#[g,M,j]:=Du I y;exact .inl #[b,f,n,g,p,m,Ya.of J,M,k _ d _ _ E j A]
def gr(i:Nat)(e:DA):DE:=λds q x=>sS ds[i]? λa c=>e ds (λos=>∃b s,os=[.rf b]/\c.lookup b=Zb (.lst s)/\q (.int s.length)) x
def JY(i:Nat)(n:Gl X "len")(m:X.mg "len" = Zc)(o:WV X z [e] x)(a:Vd [e]=Zd|>1):JE X z (.Call (.Name "len" p) [e] [] pos) (gr i x):=by
 let#[I,g,y]:=o.ex;show#[_,wW kz n m Hl g a,λc h k kx=>?_];let#[r,A,hi,h]:=Dg h;show y c h (λC B M L e f h=>?_) kx;let#[b,Y,U,j,q]:=h;let#[v,U,E]:=UI f;have E:v=.ref b:=E;subst E;let#[J,G,w,u,U,s]:=((c.go e).slot i _ hi).2 b _ j;show#[b,u,U,.inl (Ya.of w),?_];rw[s.length];exact k _ (.int _) _ _ e U q
noncomputable def Mu.put(a:Mu)(b:Zg)(m:MO):Mu:=a.map λx=>if x.1=b then (x.1,m)else x
def Mu.gu{e:Mu}(h:e.lookup b=Zb n)(c:Zg):(e.put b m).lookup c=if c=b then Zb m else e.lookup c:=by
 induction e with
 |nil=>cases h
 |cons x e I=>
  let⟨a,o⟩:=x;unfold Mu.put at I⊢;rw[Xo];by_cases A:a=b
  ·subst A;rw[Zt U,Wn,Wn];by_cases C:c=a;{subst C;simp};have:(c==a)=Zi:=↑C
   rw[this,Zq C];dsimp only;have:∀f:Mu,(f.map λx=>if x.1=a then (x.1,m)else x).lookup c=f.lookup c:=by
    intro f;induction f with
    |nil=>rfl
    |cons y f i=>
     rw[Xo];by_cases Y:y.1=a
     ·rw[Zt Y,Wn,Wn,i];have:(c==y.1)=Zi:=by rw[Y];simpa using C
      rw[this]
     rw[Zq Y,Wn,Wn,i]
   exact this e
  rw[Zq A,Wn,Wn];have g:(b==a)=Zi:=↑(XR A)
  rw[Wn,g]at h;by_cases C:c=a;{subst C;simp[A]};have:(c==a)=Zi:=↑C
  rw[this];exact I h
set_option tactic.hygienic true in
def Zy.gA(c:Zy K z B p H s ds){g:Mu}{m n:MO}{o:HO}(q:ds[i]?=Zb (.st a g))(l:g.lookup b=Zb n)(h:RJ K p m o):Zy K z B p (upd H b o) s (ds.set i (.st a (g.put b m))):=by
 have old:=c.slot i _ q;show c.write q #[n,l] (λj ⟨M,f⟩=>?_) #[old.1,λj M f=>?_];{rw[Mu.gu l]at f;split at f;{rename_i e;exact#[n,e▸l]};exact#[M,f]};rw[Mu.gu l]at f;split at f;{rename_i e;cases f;rw[e];exact#[(old.2 b n l).1,o,YQ,h]};rename_i ne;let#[y,u,x,w]:=old.2 j M f;exact#[y,u,by rw[ZN ne];exact x,w]
def gB(p:Za Nat)(i:Nat)(m f g:DE):DS:=λds e=>sS ds[i]? λa c=>g (peekAt p ds) (λd=>Gc p d (m ds (λo=>f ds (λk=>∃b x n j,o=.rf b/\k=.int n/\c.lookup b=Zb (.lst x)/\Sh x.length n=Zb j/\e.nx (ds.set i (.st a (c.put b (.lst (x.set j d)))))) (e.xc ds)) (e.xc ds))) (e.xc ds)
def afL(w:Za Nat)(i:Nat)(ht:JE X A t N)(hk:JE X A k M)(he:JE X A e de)
  (ha:(∀v,QR (.Subscript t k I) X.env v=(do
   let f <-RD [v] (Ye t X.env)
   let iv <-RD [v,f] (Ye k X.env)
   Om I
   RD [v,f,iv] (Em f iv v)
   release [v,f,iv] []))|>4)
  (hs:mx [.Subscript t k I] e pos.line X.env=ZR Zi|>1)(hw:mq [.Subscript t k I] e X.env=ZR Zc|>1)
  (y:(Qi [.Subscript t k I] X.env).map (·.2)=[QR (.Subscript t k I) X.env]|>1):
  JS X A (.Assign [.Subscript t k I] e pos) (gB w i N M de):=by
 let#[tk,p2,d2]:=hk.ex;let#[te,p1,Q]:=he.ex;let#[to,p3,d3]:=ht.ex;show#[_,xV p1 (L8 p3 p2 aoz ha) hs hw y,λ{B0 B H0 H Z ds e T} c h o=>?_];let#[r,C,hi,h]:=Dg h;have fin:∀{q p:Hp}{a:D}{v:V},YD H0 H q p->Rp X.K q a v->N ds (λo=>M ds (λk=>∃b x n j,o=.rf b/\k=.int n/\C.lookup b=Zb (.lst x)/\Sh x.length n=Zb j/\e.nx (ds.set i (.st r (C.put b (.lst (x.set j a)))))) (e.xc ds)) (e.xc ds)->lh to tk kh v Z p T.nx:=by
  intro q p a v E ra h;show d3 (c.go E) h (λf od H3 H4 u ro h=>d2 (c.go (E.trans u)) h (λkv kd H5 H6 L rk h=>?_) ((o.kx c).go (E.trans u).s)) ((o.kx c).go E.s);let#[b,x,n,j,U,U,G,ij,hq]:=h;have z:=(E.trans u).trans L;have Y:=c.go z;let#[h0,u',y,vs,U,J]:=(Y.slot i _ hi).2 b _ G;show#[b,vs,n,j,ro,rk,y,by rw[J.length];exact ij,?_];exact o.nx _ _ _ _ (Y.gA hi G (m:=.lst (x.set j a)) #[_,U,Zw.set (ra.same (u.trans L).s0) j J]) hq
 by_cases g:w=[]
 {subst g;exact Q c h (λv a q p E r h=>fin E r (Ge h).2) (o.kx c)};let#[q,c1,s1,l1,n1]:=c.peekAt w;show Q c1 h (λv a p H3 E r h=>?_) (o.kx c);let#[H4,z,l4,_]:=E.OG s1 c.sub l1 n1;exact fin z (Rp.less l4 a ((Ge h).1.resolve_left g) r) (Ge h).2
def gC(p:Za Nat)(i:Nat)(f:DA):DS:=λds e=>f (peekAt p ds) (λx=>D.Sq x=Zd/\∀a,e.nx (ds.set i (.st a [(a,.lst x)]))) (e.xc ds)
def Zy.newS(c:Zy K y B w H u ds)(i:Nat){x:Za D}(e:YD w H f p)(n:H a=Zc)(N:f a=Zc)(h:p a=Zb (.lst o))(r:Zw K f x o):Zy K y B f p (u.set i (Zb (.ref a))) (ds.set i (.st a [(a,.lst x)])):=by
 have one:∀b m,([(a,MO.lst x)]:Mu).lookup b=Zb m->b=a/\m=.lst x:=λb m l=>by
  rw[Wn]at l;by_cases e:b=a;{subst e;simp at l;exact#[U,l.symm]};have:(b==a)=Zi:=↑e
  rw[this]at l;cases l
 show(c.go e).lay i (s:=.st a [(a,.lst x)]) #[U,λb m l=>?_] (λb ⟨m,l⟩=>?_) λb j t _ q ⟨m,l⟩ g=>?_;{let#[U,U]:=one b m l;exact#[N,_,h,o,U,r]};{let#[U,U]:=one b m l;exact c.ext.s.free n};let#[U,U]:=one b m l;exact(c.Mi q g).2 n
def afM(f:Za Nat){pos b:Yv}(G:X.N.Nodup)(hi:X.N[i]?=Zb x)(y:Loc X.env.scope x)(C:JF X Y e M)(z:XD e (Zb (.Name x b)) pos.line X.env=ZR Zi|>1)
  (A:Vl X x|>3):JS X Y (.Assign [.Name x b] e pos) (gC f i M):=by
 let#[te,p,d]:=C.ex;show#[_,Ow G hi y p z A,λ{B0 B H0 H Z ds e T} c h o=>?_];let#[H1,Q,j,w,m]:=c.peekAt f;show d Q h (λa vs s H2 H3 J n u E r q=>?_) (o.kx c);let#[H4,I,L,g]:=J.OG j c.sub w m;exact o.nx _ _ _ _ (c.newS i I n (g.free u) E (Zw.less L s q.1 r)) (q.2 a)
def gE(p:Za Nat)(a:DE):DS:=λds e=>a (peekAt p ds) (λd=>e.rb d (peekAt p ds)) (e.xc ds)
def DQ(b:Za Nat)(f:JE X x e g):JS X x (.Return (Zb e) pos) (gE b g):=by
 let#[n,p,d]:=f.ex;show#[_,xU p,λ{w B u H m ds e T} c h o=>?_];let#[q,C,s,L,N]:=c.peekAt b;exact d C h (λv a j i E r h=>o.rb v a j i _ _ (C.go E) r h) (o.kx c)
end L2
namespace HT
open PySem PySem.Spec PyProof.Rows L2
def afN{items:Array Zh}{g u:Zh}{lo hi:Option Int}{Q:Zh->Zj->Prop}(b:KI s.heap t items)(m:s.heap.IsSliceOf i g u .none)(o:Nu g lo)(n:Nu u hi)
  (j:Yo items.size 0 lo=0/\Yo items.size items.size hi=items.size)
  (h:Q (.ref t) s):Zn (Zr p w) A (NS (.ref t) (.ref i)) Q E s:=by
 let#[os,c,e,q]:=id m;have f:s.TypeIs (.ref i) "slice" :=#[os,c,e]
 unfold NS;try with_reducible show XY ?_
 show Zf (u7 b.typeIs 01 ?_);show Zf (UU b.typeIs Hk
  (WQ Hk b.typeIs arc ?_ (aq6 _ _)))
 change Zn _ _ (R4 (.ref t) >>= _) _ _ s;show Zf (tupleItemsOf_ b ?_);show Zf (Lr f ?_);show Zf (lV m o n ?_);have a:(((Yo items.size 0 lo:Nat):Int)==0&&(1:Int)==1&&(Yo items.size items.size hi-Yo items.size 0 lo)==items.size)=Zd:=by
  rw[j.1,j.2];simp
 change Zn _ _ (if (((Yo items.size 0 lo:Nat):Int)==0&&1==1&&(Yo items.size items.size hi-Yo items.size 0 lo)==items.size)=Zd then _ else _) _ _ s;rw[Zt a];exact Zf (Zf (Lr b.typeIs (Zm (Zf (WD (Zm #[_,U,Zm h]))))))
end HT
namespace L2
def afO(K:ZF):V->Option Int->Option Int->Hp->VK->Prop:=λx lo hi H Q=>∃a s,x=.ref a/\YW K H a s/\
 (HT.Yo s.length 0 lo=0/\HT.Yo s.length s.length hi=s.length)/\Q (.ref a) H
def afP:Oz X (afO X.K):=by
 intro p s m H x v y o lo hi z Q I e j f u h;let#[a,c,U,g,w,q]:=h;cases e;let#[i,r,b,A]:=I.tuple g;have n:i.toArray.size=c.length:=by rw[YN];exact r.length.symm
 show#["tuple",_,Hk.lookup,b.typeIs,?_];show HT.afN b j f u (by rw[n];exact w) ?_;exact#[.ref a,H,I,U,q]
def gF(e:DE)(dl b:DO):DE:=λds q x=>e ds (λa=>dl ds (λlo=>b ds (λhi=>∃s,a=.tup s/\q (.tup (SX s lo hi))) x) x) x
def gG{lo hi:Option ZE}{dl u:DO}{pos A:Yv}(G:JE X n e L)(g:JO X n lo dl)(C:JO X n hi u):JE X n (.Subscript e (.Slice lo hi Zc A) pos) (gF L dl u):=by
 let#[ta,B,Q]:=G.ex;let#[Y,z,N]:=g.ex;let#[Z,y,M]:=C.ex;show#[_,lW (afP.or aa9) B z y,λc h k kx=>Q c h (λv a H1 H2 e r h=>N (c.go e) h (λlo H3 H4 E J=>M (c.go (e.trans E)) J (λhi H5 H6 o I=>?_) (kx.go (e.trans E).s)) (kx.go e.s)) kx];have m:=(e.trans E).trans o;have f:=(c.go m).sub;let#[x,U,q]:=I;let#[p,b,U,j,i]:=r.same (E.trans o).s0;by_cases w:HT.Yo b.length 0 lo=0/\HT.Yo b.length b.length hi=b.length
 ·show .inl #[p,b,U,YW.of (f _ _ j),w,?_];have:SX x lo hi=x:=by
   unfold SX;rw[i.length]at w;rw[w.1,w.2,apu,nA,TZ]
  rw[this]at q;exact k _ (.tup x) _ _ m #[p,b,U,j,i] q
 exact .inr #[p,b,U,YW.of (f _ _ j),w,λl g=>k _ (.tup _) _ _ (m.trans (.put f g)) (LK (vz i) (f.free g)) q]
def ZK.never{k:Nat}{f:Zg}{fd:ZZ}{b:Za Ze}{p:Sp}(h:∀a H Q E,¬p a H Q E):ZK P w K m base C k f fd b p:=
 #[λa H Q E q=>(h _ _ _ _ q).elim,λA o s H args u a Q E O O O O q=>(h _ _ _ _ q).elim]
def afQ{a:Zg}{g:Mu}(s:Zv y H)(r:Zw K y x u)(Q:x.length<=N.length)(L:x[p]?=Zb (.rf a))(M:Ss K y H g):
  ∃B:Hp,(∀b,g.lookup b=Zc->B b=H b)/\(∀b m,g.lookup b=Zb m->B b=Zc)/\Zy K y B y H (start N u) ((RM N x).set p (.st a g)):=by
 have c:=iK s r Q;let B:Hp:=λb=>if g.lookup b=Zc then H b else Zc
 have w:∀b,g.lookup b=Zc->B b=H b:=λb e=>Zt e;have A:∀b m,g.lookup b=Zb m->B b=Zc:=λb m e=>Zq (by rw[e];simp);have Z:Zy K y B y H (start N u) (RM N x):=by
  show#[⟨λb o z=>?_,.refl _,s,λb z n=>z⟩,c.slot,λi t b e f=>?_,c.sep,c.len];{by_cases e:g.lookup b=Zc;{rw[w b e]at z;exact z};have:B b=Zc:=Zq e;rw[this]at z;cases z};by_cases I:g.lookup b=Zc;{rw[w b I];exact c.young i t b e f};exact Zq I
 let#[v,G,J]:=r.get L;subst J;have C:=(YM.mp G).1;have Y:((start N u)[p]?).getD Zc=Zb (.ref a):=by
  unfold start;rw[VD (by rw[ZI];exact C),YC,G];rfl
 have E:p<(start N u).length:=by
  unfold start;rw[Yx,ZI];exact Nat.lt_add_right _ C
 have no:∀(i:Nat) t b,(RM N x)[i]?=Zb t->t.foot (((start N u)[i]?).getD Zc) b->False:=λi t b e f=>by
  have:=Slot.Pm f;unfold RM at e;by_cases h:i<x.length;{rw[VD (by rw[ZI];exact h),YC,ZA h]at e;cases e;cases this};rw[UR (by rw[ZI];exact SH h),ZI,Ny]at e;split at e;{cases e;cases this};cases e
 show#[B,w,A,?_];have:=Z.lay p (s:=.st a g) #[Y,M] (λb ⟨m,l⟩=>A b m l) λb j t O q O f=>no j t b q f;have e:(start N u).set p (((start N u)[p]?).getD Zc)=start N u:=by
  rw[ZA E];exact apP E
 rw[e]at this;exact this
def Lv.of{p:Nat}{g f:Mu}(i:∀b,g.lookup b=Zc->B b=H b)(C:∀b m,g.lookup b=Zb m->B b=Zc)(A:Ss K u H g)(c:Zy K u B j w x ds)(q:ds[p]?=Zb (.st a f)):Lv K g f u H j w:=by
 show#[λb o e z=>c.ext.s _ _ (by rw[i b e];exact z),c.ext.s0,c.sub,λb e z n=>c.ext.new b z (by unfold Ta;rw[i b e];exact n),(c.slot p _ q).2,λb m e=>?_];have y:=c.young p _ b q #[m,e];cases z:g.lookup b with|none=>right;rw[<-i b z];exact y|some M=>left;simp
def UZ.MB{P:YZ}{base:ZD}{st:ZH}{f:Zg}{fd:ZZ}{N I:Za Ze}{k p:Nat}{g:Rb}(F:UZ K x u st f fd)(S:Yh N I (ZL st))(len:∀m n q,g m n q->m.length=I.length)
  (y:∀(C:Zh) (A:Yr) (o:Za Wf) (s:Zj) (H:Hp) (E:XK),Xc k (A.deeper (Sb u (ZL st) s.heap.objs.size f C))->
   ∃b,TL (Uu (ZV P w) P w K mg base N u (ZL st) f C A o s H E) (λO=>E) (Vx st) b/\∀m n a q,m[p]?=Zb (.rf a)->g m n q->
    b ((RM N m).set p (.st a n)) {nx:=λds=>∃G i,ds[p]?=Zb (.st G i)/\q .non i,rt:=λO=>False,xc:=λO O=>False,rb:=λd ds=>∃G i,ds[p]?=Zb (.st G i)/\q d i}):ZK P w K mg base (ZV P w) (k+1) f fd I (spS K p g):=by
 have Y:I.length<=N.length:=by have:=XI Lc S.pre;rw[WL]at this;lia
 show F.HW S (λvs H Q E zq=>by let#[H0,m,a,n,q,s,r,Z,J,h,_]:=zq;rw[r.length];exact len m n q h) λC A o s H vs Q E hr L=>?_;let#[H0,m,a,n,q,s0,r,Z,J,h,kq]:=L;let#[b,j,hb]:=y C A o s H E hr;let#[t,pt,d]:=j.ex;let#[B,b1,b2,c]:=afQ s0 r (by rw[len m n q h];exact Y) Z J;show#[t,#[pt],d c (hb m n a q Z h) #[λz H' σ ds c' ⟨G,i,e,M⟩=>kq .non .non i z H' (.of b1 b2 J c' e) U M,λO O O O O O h=>h.elim,λO O O O O O h=>h.elim,λO O O O O h=>h.elim,λO O O O O h=>h.elim,λv d z H' σ ds c' r' ⟨G,i,e,M⟩=>kq v d i z H' (.of b1 b2 J c' e) r' M,λO O O O O O O O O O O O O h=>h.elim]]
def DR(p j:Nat)(g:Rb)(f:DA)(k:D->ZG->LQ->Prop):DS:=λds e=>∃A c,ds[j]?=Zb (.st A c)/\f ds (λx=>(∃a,x[p]?=Zb (.rf a))/\g x c λd b=>k d (ds.set j (.st A b)) e) (e.xc ds)
def gH{k:D->ZG->LQ->Prop}(d1:vf K L Y da){I B H0:Hp}{A:St}{ds:ZG}{e:LQ}{T:Xb}(c:Zy K I B H0 H A ds)(h:DR p j g da k ds e)(o:Dx K L I B e T){Q:VK}
  (kq:∀v d x n y,Zy K I B n y A x->Rp K n d v->(∀i,i≠j->x[i]?=ds[i]?)->(∀i s a u,i≠j->ds[i]?=Zb s->s.foot ((A[i]?).getD Zc) a->H a=Zb u->y a=Zb u)->k d x e->Q v y):wM (spS K p g) L Y A H Q:=by
 let#[a0,J,C,h]:=h;show d1 c h (λvs N H1 H2 E r h=>?_) (o.kx c);let#[#[a,hp],h]:=h;have G:=c.go E;show#[H1,N,a,J,_,E.sub,r,hp,(G.slot j _ C).2,h,λv d M n y l Z hq=>?_];show kq v d _ n y (G.GB (a':=a) C l) Z (λi ne=>by rw[KN (XR ne)]) (λi s b u ne q f z=>l.s b u ?_ (E.s _ _ z)) hq;cases w:J.lookup b with|none=>rfl|some m=>exact(G.sep i j s _ b ne q C f #[m,w]).elim
def DU(p j:Nat)(F:ZK X.prog X.w X.K X.mg X.base (ZV X.prog X.w) k f fd s (spS X.K p g))(I:Xc k X.A)(Q:Gl X x)(L:X.mg x=Zb (.ref f))(M:Lg X.K (.ref f)=Zd)(Z:Binds X.K fd s [])(z:UG X n)
  (ha:WV X n (e::E) da)(hN:X.N.Nodup)(hi:X.N[i]?=Zb y)(u:Loc X.env.scope y)(b:Vd (e::E)=Zd|>1)(m:YV x|>2)(G:XD (.Call (.Name x np) (e::E) [] C) (Zb (.Name y a)) pos.line X.env=ZR Zi|>1)
  (Y:Vl X y|>3):JS X n (.Assign [.Name y a] (.Call (.Name x np) (e::E) [] C) pos) (DR p j g da λd ds e=>e.nx (ds.set i (.v d))):=by
 let#[ta,q,d1]:=ha.ex;exact#[_,Ow hN hi u (Ju F I Q L M Z z #[q] b m).get G Y,λ{B0 B H0 H σ ds e T} c h o=>gH d1 c h o λv d ds' H0' H' c' r O O J=>o.nx _ _ _ _ (c'.vd i r) J]
def afR{XE:St->XK}(i p j:Nat)(Y:i≠j){g:Rb}{x y:Ze}{np apos b C s pos:Yv}{e:ZE}{E:Za ZE}{da:DA}(F:ZK X.prog X.w X.K X.mg X.base (ZV X.prog X.w) k f fd ps (spS X.K p g))(hr:Xc k X.A)(hg:Gl X x)(hm:X.mg x=Zb (.ref f))(hk:Lg X.K (.ref f)=Zd)(hb:Binds X.K fd ps [])(hx:UG X XE)
  (ha:WV X XE (e::E) da)(Q:Vd (e::E)=Zd|>1)(Z:YV x|>2)
  (hN:X.N[i]?=Zb y|>1)(hv:Vk X.env.scope y|>3)
  (u:Tp (.Call (.Name x np) (e::E) [] C)=Zd|>1)(m:SL (.Name y b) "append" X.env (Ye (.Name y b) X.env)=Ye (.Name y b) X.env|>1)
  (G:((RB s (XA [.Call (.Name x np) (e::E) [] C] X.env)).all (λx=>!x.1)&&(Jb s (Je [] X.env)).all (λx=>x.1.isSome)
   && decide ([ZE.Call (.Name x np) (e::E) [] C].length+([]:Za Nv).length+(if ([]:Za Nv).isEmpty then 0 else 1)<30))=Zd|>1)
  (a:TH apos s|>1)(hs:XA [.Call (.Name x np) (e::E) [] C] X.env=(Zi,Ye (.Call (.Name x np) (e::E) [] C) X.env)::XA [] X.env|>1)(n:VP X [] s|>1)
  (M:XD (.Call (.Attribute (.Name y b) "append" apos) [.Call (.Name x np) (e::E) [] C] [] s) Zc pos.line X.env=ZR Zi|>1)(hd:YV y|>2)(hcd:Vv y|>2):
  JS X XE (.Expr (.Call (.Attribute (.Name y b) "append" apos) [.Call (.Name x np) (e::E) [] C] [] s) pos) (λds e=>∃q,ds[i]?=Zb (.own q)/\q.length<Zo/\DR p j g da (λd ds e=>e.nx (ds.set i (.own (q++[d])))) ds e):=by
 let#[ta,p1,d1]:=ha.ex;show#[_,Pj (OB Lf IJ Ee Jv (pv i hN hv hd hcd) (Sn (Ju F hr hg hm hk hb hx #[p1] Q Z).get Sg u) m G a hs n) M,λ{B0 B H0 H σ ds e T} c h o=>?_];let#[q,hi,hl,h]:=h;let#[l,us,e1,f1,f2,f3]:=c.slot i _ hi;show#[.ref l,Ux e1,.inl #[U,us,Ya.of f2],?_];show gH d1 c h o λv d ds' H0' H' c' r same keep hq=>?_;have z:ds'[i]?=Zb (.own q):=by rw[same i Y];exact hi
 let#[l',L,J,f1',f2',I]:=c'.slot i _ z;rw[e1]at J;cases J;show#[l,L,v,U,U,f2',by rw[I.length];exact hl,?_];let#[a',DV,g1,g2,g3,g4]:=c'.push (ys:=q++[d]) z;rw[e1]at g1;cases g1;exact o.nx _ _ _ _ (g4 H0' H' _ (.refl c'.sub) (I.snoc r)) hq
def LZ(h:([(a,m)]:Mu).lookup b=Zb n):b=a/\n=m:=by
 rw[Wn]at h;by_cases e:b=a;{subst e;simp at h;exact#[U,h.symm]};have:(b==a)=Zi:=↑e
 rw[this]at h;cases h
structure Xd (K:ZF)(mg:Ze->Option Zh)(x:Ze)(st:ZH)(ps:List Ze)(f:Zg)(d:ZZ):Prop where
 F:UZ K x x st f d
 m:mg x=Zb (.ref f)
 a:Binds K d ps []
def Xe(K:ZF)(x:Ze)(st:ZH)(p:Za Ze)(f:Zg):Prop:=WO K Xw x=Zb (Zb (.ref f))/\∃fd,UZ K x x st f fd/\Binds K fd p []
def afS{st:ZH}{od A:Option Zg}{o:Array (Option Zh)}{kV e pm C g:Zh}(a:WO K Xw x=Zb (Zb (.ref f)))
  (l:K.lookup f=Zb #[i,od,.func (SJ x x (SU st) (Vx st) (ZL st) .none kV e pm A C g),o])(c:KZ K C x=Zd)(k:RG K f)
  (b:∀(kV e pm:Zh) (A:Option Zg) (C g:Zh) (u:Za Zh),u.length=p.length->nT (SJ x x (SU st) (Vx st) (ZL st) .none kV e pm A C g) #[u,[]]=ZR (p.zip u)):Xe K x st p f:=#[a,_,HH l c k,(HH l c k).binds b]
def Xe.get{st:ZH}{m:Ze->Option Zh}(z:Xe K x st p f)(X:K.In h)(G:h.Ns Xw m):∃d,Xd K m x st p f d:=
 let ⟨a,d,F,b⟩:=z
 #[d,F,SK X G a,b]
def uk{x:Ze}{st:ZH}{e:ZE}{E:Za ZE}{g:YB}{p pos:Yv}{i:DA}(F:ZK X.prog X.w X.K X.mg X.base (ZV X.prog X.w) k f fd s (Yy X.K g))(B:Xd X.K X.mg x st s f fd)(o:Xc k X.A)(n:UG X j)(u:WV X j (e::E) i)(q:Gl X x|>1)
  (b:Vd (e::E)=Zd|>1)(c:YV x|>2):JE X j (.Call (.Name x p) (e::E) [] pos) (IE g i):=ad4 F o q B.m B.F.kp B.a n u b c
def us1{P:Za b->Prop}(h:∀a,P [a]):∀u,u.length=1->P u | [a],_=>h a
def DV{P:Za c->Prop}(h:∀a b,P [a,b]):∀s,s.length=2->P s | x::s,l=>us1 (P:=λu=>P (x::u)) (h x) s (Hg l)
def us3{P:Za e->Prop}(h:∀a b c,P [a,b,c]):∀s,s.length=3->P s | x::s,l=>DV (P:=λu=>P (x::u)) (h x) s (Hg l)
def us4{P:Za e->Prop}(h:∀a b c d,P [a,b,c,d]):∀s,s.length=4->P s | x::s,l=>us3 (P:=λu=>P (x::u)) (h x) s (Hg l)
def DW{P:Za f->Prop}(h:∀a b c d e,P [a,b,c,d,e]):∀s,s.length=5->P s | x::s,l=>us4 (P:=λu=>P (x::u)) (h x) s (Hg l)
def DY{P:Za g->Prop}(h:∀a b c d e f,P [a,b,c,d,e,f]):∀s,s.length=6->P s | x::s,l=>DW (P:=λu=>P (x::u)) (h x) s (Hg l)
def us7{P:Za i->Prop}(h:∀a b c d e f g,P [a,b,c,d,e,f,g]):∀s,s.length=7->P s | x::s,l=>DY (P:=λu=>P (x::u)) (h x) s (Hg l)
def afT{e I l:Zg}{k:Nat}{xs:Array Zh}{x old:Zh}{Q:Zh->Zj->Prop}(L:IP s.heap e I k old)(it:WW z s.heap I l k)(ob:Vm z s.heap l xs)(hx:xs[k]?=Zb x)(ne:e≠I)
  (hQ:∀u,Q6 u e I ((k:Int)+1) x s.heap.objs.size->WW z u I l (k+1)->u.get? s.heap.objs.size=Zb {cls:=.type "tuple",data:=.seq [.int k s.toks,x].toArray}->(∀b o,b≠e->b≠I->s.heap.get? b=Zb o->u.get? b=Zb o)->Q (.ref s.heap.objs.size) {s with heap:=u,toks:=s.toks+1}):
  Zn (Zr P w) A (VA.«enumerate.__next__» #[[.ref e],[]]) (λf s'=>∃v,f=.done (.ret v)/\Q v s') E s:=by
 let#[p,g,d,a,os]:=s;have nl:p.objs.size≠e:=VO (Yc L);show Zf (m:=Jc (.ref e) 2) (Wi L U (x:=.ref I) U (Zf (LY it ob hx λh1 i1 j=>?_)));have j:VB I p h1:=j;have e1:=(j.2 e ne).trans L;show Zf (Wi e1 U (x:=SM k) U (Zf (Wi e1 U (x:=.none) U (Zf (wpAny_mkInt ?_)))));show Zf (Vc e1 02 λh2 e2 G=>?_);show Zf (Vc e2 02 λc e3 i=>?_);have i:VB e h2 c:=i;show Zf (m:=newTuple [.int k a,x]) (Et ?_);have z3:c.objs.size=p.objs.size:=by rw[i.1,G.1,j.1]
 have y:IP (c.push {cls:=.type "tuple",data:=.seq [.int k a,x].toArray}) e I (k+1) old:=ZY _ e3;have t4:(c.push {cls:=.type "tuple",data:=.seq [.int k a,x].toArray}).get? p.objs.size=Zb {cls:=.type "tuple",data:=.seq [.int k a,x].toArray}:=by rw[<-z3];exact YF _ U
 have k4:∀b o,b≠e->b≠I->p.get? b=Zb o->(c.push {cls:=.type "tuple",data:=.seq [.int k a,x].toArray}).get? b=Zb o:=λb o N J q=>ZY _ (i.extBut b o N (G.extBut b o N (j.extBut b o J q)));have i4:WW z (c.push {cls:=.type "tuple",data:=.seq [.int k a,x].toArray}) I l (k+1):=i1.mv λo q=>ZY _ (i.extBut _ o ne.symm (G.extBut _ o ne.symm q));rw[z3];generalize c.push {cls:=.type "tuple",data:=.seq [.int k a,x].toArray}=h4 at y t4 k4 i4;change Zn _ _ (_ >>= _) _ _ #[h4,g,d,a+1,os];show Zf ?_;show Zf (Wi y U (x:=.none) U (Zm ?_));show Zf (WD (Zf (Wi y U (x:=old) U (Zf (Vc y 02 λh5 e5 s5=>?_)))));have e5:IP h5 e I (k+1) x:=e5;show Zf ?_;show Zf (Vc e5 02 λY Z C=>?_);have C:VB e h5 Y:=C;have Z:Q6 Y e I (k+1) x p.objs.size:=Z;show Vc Z 02 λM e7 B=>Zf (Es (Zm ?_));have B:VB e Y M:=B;have up:∀b o,b≠e->h4.get? b=Zb o->M.get? b=Zb o:=λb o n q=>B.extBut b o n (C.extBut b o n (s5.extBut b o n q));exact#[_,U,hQ M e7 (i4.mv λo q=>up _ o ne.symm q) (up _ _ nl t4) λb o N J q=>up b o N (k4 b o N J q)]
def afU{e I l:Zg}{k:Nat}{g:Array Zh}{x old:Zh}{Q:Option Zh->Zj->Prop}(i:IP s.heap e I k old)(j:WW p s.heap I l k)(ob:Vm p s.heap l g)(m:g[k]?=Zb x)(ne:e≠I)
  (n:∀f,Q6 f e I ((k:Int)+1) x s.heap.objs.size->WW p f I l (k+1)->f.get? s.heap.objs.size=Zb {cls:=.type "tuple",data:=.seq [.int k s.toks,x].toArray}->(∀b o,b≠e->b≠I->s.heap.get? b=Zb o->f.get? b=Zb o)->Q (Zb (.ref s.heap.objs.size)) {s with heap:=f,toks:=s.toks+1}):
  Zn (Zr P w) A (VZ (.ref e)) Q E s:=by
 have ty:s.TypeIs (.ref e) "enumerate" :=#[_,i,U]
 exact Zf (SN (UU ty nJ (WQ nJ ty aqw (afT i j ob m ne λf a b c k=>Zm (n f a b c k)) (aqr _))))
def afV{e I l:Zg}{k:Nat}{c:Array Zh}{old:Zh}{Q:Option Zh->Zj->Prop}(n:A.handled=Zc)(f:IP s.heap e I k old)(i:WW p s.heap I l k)(ob:Vm p s.heap l c)(g:c[k]?=Zc)
  (u:∀b,oM I s.heap b->Q Zc {s with heap:=b}):Zn (Zr P w) A (VZ (.ref e)) Q E s:=by
 have ty:s.TypeIs (.ref e) "enumerate" :=#[_,f,U]
 show Zf (SN (UU ty nJ (WQ nJ ty aqw ?_ (aqr _))));exact Zf (m:=Jc (.ref e) 2) (Wi f U (x:=.ref I) U (Zf (Gz n i ob g λb x a ⟨o,j,q⟩=>Zf (NU #[o,j,q] Ek (Zm (u _ a))))))
noncomputable def DZ(h:ZD)(p:Bool)(l:Zg):ZD:=(h.push (OT p l)).push {cls:=.type "enumerate",data:=.fields [.none,.bool Zi,.ref h.objs.size,SM 0,.none,.none].toArray}
set_option tactic.hygienic true in
def afW(p:Bool)(l:Zg)(x:Array Zh):
  Meets (VA.«enumerate.__new__» #[[.type "enumerate",.ref l],[]]) (λO R s=>Vm p s.heap l x/\R (.ok (.ret (.ref (s.heap.push (OT p l)).objs.size))) {s with heap:=DZ s.heap p l}):=
 .of_wp λP w A R s h=>by
  let#[i,g,d,j,os]:=s;let#[f,h]:=h;have sub:=sub_enumerate;have e:Vm p (aq0 #[i,g,d,j,os]) l x:=f;let#[#[c,y,u,q],b,a]:∃o,i.get? l=Zb o/\o.cls=.type (if p=Zd then "tuple" else "list"):=by cases p<;>exact let ⟨o,m,n,_⟩:=f;#[o,m,n]
  have a:c=_:=a;subst a;cases p with
  |false=>
   wp_walk using FH b;show arC λst=>Zm ?_;split;{rename_i c _ _ _ _ _;cases (c==NQ "enumerate")<;>(wp_walk using FH b,JV e;exact#[_,U,h])};wp_walk using FH b,JV e;exact#[_,U,h]
  |true=>
   wp_walk using FH b;show arC λst=>Zm ?_;split;{rename_i c _ _ _ _ _;cases (c==NQ "enumerate")<;>(wp_walk using FH b,JV e;exact#[_,U,h])};wp_walk using FH b,JV e;exact#[_,U,h]
def afX(ob:Vm p s.heap l x)
  (h:∀a,IP a (s.heap.objs.size+1) s.heap.objs.size 0 .none->WW p a s.heap.objs.size l 0->(Ou s.heap a)->Q (.ref (s.heap.objs.size+1)) {s with heap:=a}):
  Zn (Zr P w) A (call (.type "enumerate") [.ref l]) Q E s:=by
 show callType_new PySem.F.called_enumerate 01 (PySem.F.typeCall_enumerate_1 _) (PySem.F.newCall_enumerate_1 _) (λobj=>PySem.F.args_object_init_2 obj _) PySem.F.entry_enumerate_new (afW p l x) #[ob,?_];have z:(s.heap.push (OT p l)).objs.size=s.heap.objs.size+1:=UQ ..;have e:(DZ s.heap p l).get? (s.heap.push (OT p l)).objs.size=Zb _:=YF _ U;have c:(DZ s.heap p l).get? s.heap.objs.size=Zb (OT p l):=ZY _ (YF _ (by cases p<;>rfl));rw[z]at e⊢;have f:WW p (DZ s.heap p l) s.heap.objs.size l 0:=by cases p<;>exact#[_,c,U,U]
 exact#[⟨_,e,rfl⟩,h _ e f λb o q=>ZY _ (ZY _ q)]
noncomputable def ItB(b:Bool)(K:ZF)(a:Zg):It:=
  #[λi H=>∃s x,Vf b K H a s/\s[i]?=Zb x,
   λi H x c=>∃p y,x=.ref p/\H p=Zc/\c=upd H p (.tup [.int i,y])/\∀s,Vf b K H a s->s[i]?=Zb y,
   λi H=>∃s,Vf b K H a s/\s.length<=i]
def afY{G:Yv}(a e g:Zg)(M:e≠g):
    TV P w K (.Tuple elts x1 G) (ItB tp K a) [e,g] e (λi h=>(∃old,IP h e g i old)/\WW tp h g a i) where
  mem:=02
  obj:=λi h st b y=>by
    let#[#[old,A],st2]:=st;let#[o,B,d]:=st2.at;have e:b=e\/b=g:=↑y
    rcases e with rfl|rfl
    · exact#[_,A,λv z=>by
        have z':oH _=R6 v:=z
        cases z']
    exact#[o,B,λv z=>by rw[d]at z;cases z]
  keep:=λi h h' st k=>by
    let#[#[old,A],B]:=st;exact#[⟨old,k e 02 _ A⟩,B.mv λo q=>k g 02 o q]
  item:=by
    intro X hP hw hK f i C s σ H E I Z st hg;subst hP hw hK;let#[#[old,A],B]:=st;let#[xs,x,Y,hx]:=hg;let#[its,rv,p,hz]:=I.sq Y;let#[u,hu,ru]:=rv.get hx;let#[f0,f1,f2,f3,f4,f5]:=Z e 02;let#[g0,g1,g2,g3,g4,g5]:=Z g 02;show afU A B p ↑hu M λh' a1 a2 a3 a5=>?_;show#[_,U,wpAny_letOwnedTupleGo_enum a1 λN b1 b2=>?_];have L:=VO (Yc A);have hpi:s.heap.objs.size≠g:=by
      let#[o,h2',_]:=B.at;exact VO (Yc h2')
    have j:=I.fresh;have J:=λb o z1 z2 q=>(b2.2 b z1).trans (a5 b o z1 z2 q);have tp:=(b2.2 _ L).trans a3;show#[.ref s.heap.objs.size,upd H s.heap.objs.size (.tup [.int i,x]),?_,U,⟨_,x,rfl,j,rfl,λys hy=>by rw[I.uh hy Y];exact hx⟩,⟨⟨u,b1⟩,a2.mv λo q=>(b2.2 g (XR M)).trans q⟩,λb y=>?_]
    ·
      have nt:∀b o,H b=Zb o->b≠e/\b≠g:=λb o q=>#[Wx q f0,Wx q g0]
      have ok':Xh X.prog X.w (upd H s.heap.objs.size (.tup [.int i,x])) N:=λb o q=>by
        by_cases y:b=s.heap.objs.size;{subst y;rw[YQ]at q;cases q;exact#[by change 2<=Zo;decide,[.int i s.toks,u],.cons #[_,U] (.cons ru .nil),_,tp,U,0,U]};rw[ZN y]at q;show(I.hok b o q).stay (λc v f Q=>J c v ?_ ?_ Q) (λc Q=>by rw[ZN (Wx Q j)];exact Q) λc zs Q=>by rw[ZN (Wx Q j)];exact Q
        {rcases f with rfl|f;{exact(nt _ _ q).1};exact(nt _ _ f).1};rcases f with rfl|f;{exact(nt _ _ q).2};exact(nt _ _ f).2
      have I3:Inv X C σ (upd H s.heap.objs.size (.tup [.int i,x])) {s with heap:=N,gens:=s.gens,drawn:=s.drawn,toks:=s.toks+1}:=by
       show Inv.step I (ch:=[e,g]) (λb y=>?_) (λb o O O f q O=>J b o (λz=>f (by simp[z])) (λz=>f (by simp[z])) q)
        (λb o O O f q O=>#[o.slots,J b o (λz=>f (by simp[z])) (λz=>f (by simp[z])) q])
        (λb o O q n=>by rw[ZN (Ys (Yc q))];exact n)
        (λb o f q=>#[o,J b o (λz=>f (by simp[z])) (λz=>f (by simp[z])) q])
        (λb zs q=>by rw[ZN (Wx q j)];exact q) (λb ob zs q=>by rw[ZN (Wx q j)];exact q)
        (λb ps q=>#[#[],by rw[ZN (Wx q j),q];simp]) (λm hm=>?_) ok' I.bare
       · have z:b=e\/b=g:=↑y
         rcases z with rfl|rfl;{exact#[f3,f1,f4,f5]};exact#[g3,g1,g4,g5]
       let#[o,es,ep,ho,r]:=hm;exact#[o,es,ep,J _ o (XR f1) (XR g1) ho,r]
      exact I3
    have z:b=e\/b=g:=↑y
    rcases z with rfl|rfl;{rw[ZN (XR L)];exact f0};rw[ZN (XR hpi)];exact g0
  done:=by
    intro X hP hw hK f i C s σ H E I Z st hg;subst hP hw hK;let#[#[old,A],B]:=st;let#[xs,Y,hx]:=hg;let#[its,rv,p,hz]:=I.sq Y;let#[g0,g1,g2,g3,g4,g5]:=Z g 02;have hl:=rv.length;exact afV (I.ok.hd f) A B p (by simp;lia) λh' eb=>#[U,I.turned (λb o y e=>eb b o y e) g0 g1 g3 g4 g5]
  self:=λO O O O O st h=>by
    let#[#[old,A],B]:=st;exact arv A h
def afZ(K:ZF)(e:TA):TI:=λc H R=>e c H λs b=>∃a p,s=[.ref a]/\(∃x,Vf p K b a x)/\R (ItB p K a) b
def af0{p pos:Yv}{c:Yv}(A:Gl X "enumerate")(y:X.mg "enumerate" = Zc)(G:PA X [a] j)(w:XA [a] X.env=[(Zi,Ye a X.env)]|>1):
  PI X (.Tuple E Y c) (.Call (.Name "enumerate" p) [a] [] pos) (afZ X.K j):=by
 intro f s g H R I h;show Call_ (Ph I A y boot_enumerate (Hj (ZQ (G pos f s g H _ I h) λus e Z=>?_) w U));let#[vs,M,i,n,Q]:=Z;let#[l,tp,U,#[N,x],q]:=Q;let#[u,U,m]:=vals1 n;cases m;let#[o,rv,p,hz]:=i.sq x;show afX p λh' C L J=>?_;show arv C ?_;show#[_,[e.heap.objs.size+1,e.heap.objs.size],_,_,M,U,(i.kept (t':=e.toks) J),afY l _ _ (Nat.succ_ne_self _),⟨⟨_,C⟩,L⟩,λb B=>?_,q];have z:b=e.heap.objs.size+1\/b=e.heap.objs.size:=↑B
 rcases z with rfl|rfl;{exact i.Qn (UT _) (i.hok.fresh (UT _))};exact i.Qn (ZU _) (i.hok.fresh (ZU _))
def af1(h:Vf o K n a c)(r:Zw K n b c):Walks K (ItB o K a) (LU b) n:=by
 intro i u H g s;have f:=h.same (g.trans s);have m:(LU b).length=b.length:=by unfold LU;simp
 show#[λhi=>?_,λhi=>#[c,f,by rw[r.length];rw[m]at hi;exact hi]];rw[m]at hi;let#[v,e,q]:=r.get (ZA hi);show#[⟨c,v,f,e⟩,λx z y=>?_];let#[p,w,U,j,U,y]:=y;have:=y c f;rw[e]at this;cases this;show#[upd u p (.tup [.int i,v]),.put s j,.tup [.int i,b[i]],?_,?_];{unfold LU;rw[apA,ZA hi];rfl};exact LK #[_,_,U,U,_,_,U,q.same g,U] (s.free j)
def D.GC:D->(Za D->Prop)->Prop
 |.lst x,q=>q x
 |.scr x,q=>q x
 |.tup x,q=>q x
 |_,_=>False
def D.af2{d:D}(h:d.GC q):∃x,d.sq=Zb x/\q x:=by
 unfold D.GC at h;split at h;{exact#[_,U,h]};{exact#[_,U,h]};{exact#[_,U,h]};exact h.elim
theorem af3:(D.lst x).GC q=q x:=rfl
theorem af4:(D.tup x).GC q=q x:=rfl
def gI(a:DA):DI:=λds q x=>a ds (λs=>lC s λd r=>lz 0 r (d.GC λy=>q (LU y))) x
def gJ{x}{s:Yv}(j:Gl X "enumerate")(m:X.mg "enumerate" = Zc)(n:WV X G [a] C)(i:XA [a] X.env=[(Zi,Ye a X.env)]|>1):JI X G (.Tuple E x s) (.Call (.Name "enumerate" p) [a] [] pos) (gI C):=by
 let#[L,p,d]:=n.ex;show#[_,af0 j m p i,λc h k kx=>d c h (λJ I N M e r h=>?_) kx];let#[y,Y,U,B]:=jk h;let#[z,A]:=Gb B;cases MZ z;let#[Z,u,q]:=D.af2 A;let#[v,U,g]:=UI r;let#[f,a,w,U,b,o]:=GA g u;exact#[a,f,U,#[w,b.same e.sub],k _ _ _ _ e (af1 b o) q]
def GD(a b:Za Ze)(h:(a++b).Nodup:=by decide +kernel):(a++b).Nodup:=h
section
variable {E:St->XK}
def Uc(i:Nat){x:Ze}{pos:Yv}(b:X.N.Nodup)(hi:X.N[i]?=Zb x|>1)(a:Loc X.env.scope x:=by first|exact .inl U|exact .inr U)(f:Vl X x|>3):JG X (.Name x pos) (VG i):=adM b hi a f
def VH(i:Nat){x:Ze}{e:ZE}{a:DE}{pos p:Yv}(g:X.N.Nodup)(c:JE X E e a)(hi:X.N[i]?=Zb x|>1)(b:Loc X.env.scope x:=by first|exact .inl U|exact .inr U)(s:XD e (Zb (.Name x p)) pos.line X.env=ZR Zi|>1)
  (f:Vl X x|>3):JS X E (.Assign [.Name x p] e pos) (LR a (VG i)):=adN g hi b c s f
def Xr{n k:Nat}{f:Zg}{fd:ZZ}{c:Za Ze}{x:Ze}{st:ZH}{e:ZE}{s:Za ZE}{g:YB}{p pos:Yv}{i:DA}(F:ZK X.prog X.w X.K X.mg X.base (ZV X.prog X.w) k f fd c (Yy X.K g))(B:Xd X.K X.mg x st c f fd)(m:Xc n X.A)(u:WV X E (e::s) i)
  (j:UG X E:=by first|exact SV|exact Mv|exact passX_try)(o:k<=n|>2)(q:Gl X x|>1)(a:Vd (e::s)=Zd|>1)(b:YV x|>2):JE X E (.Call (.Name x p) (e::s) [] pos) (IE g i):=uk F B (m.mono o) j u q a b
end
section
open Builtin Builtin.Str
end
noncomputable def Ca:Zx ⊕ Za Zx->D
 |.inl k=>kD k
 |.inr l=>.tup (l.map kD)
noncomputable def Vn(k:Zu):D:=.tup (k.map Ca)
theorem gK:∀{l:Za Zx}{s:Za V},Zw K H (l.map kD) s->s=l.map kV
 |[],_,h=>h
 |k::l,_,⟨v,u,e,b,a⟩=>by rw[e,ui b,gK a];rfl
theorem uo:∀{k:Zu}{s:Za V},Zw K H (k.map Ca) s->Pg H k s
 |[],_,h=>h
 |.inl k::f,_,⟨v,u,e,b,a⟩=>#[u,by rw[e,ui b],uo a]
 |.inr l::f,_,⟨v,u,e,b,a⟩=>by
  let#[c,s,U,i,g]:=(b)
  exact#[c,u,e,by rw[i,gK g],uo a]
def MC{k:Zu}(r:Rp K H (Vn k) v):∃b,v=.ref b/\XU H k b:=by
 let#[b,s,U,c,a]:=r;exact#[b,U,s,c,uo a]
def XU.same{k:Zu}(h:XU H k b)(s:Zv H a):XU a k b:=h.stay λO O e=>s _ _ e
noncomputable def WK(s:Za (Zu×D))(k:Zu):Option D:=(s.find? λa=>decide (a.1=k)).map (·.2)
def Px(j k:Zu)(g:D)(G:Za (Zu×D)):WK ((j,g)::G) k=if j=k then Zb g else WK G k:=by
 unfold WK;by_cases h:j=k;{rw[O4 ↑h,Zt h];rfl};rw[O3 ↑h,Zq h]
theorem Ka(k:Zu):∀{G:Za (Zu×D)}{s:Za (Zu×V)},Xz K H G s->(∀d,WK G k=Zb d->∃v,WG s k=Zb v/\Rp K H d v)/\(WK G k=Zc->WG s k=Zc)
 |[],_,h=>#[λO e=>(nomatch e),λO=>by rw[show _=[]from h];rfl]
 |(j,g)::G,_,⟨v,u,E,c,b⟩=>by
  subst E;rw[Px];let#[I,i]:=Ka k b;by_cases a:j=k;{rw[Zt a,HI a];exact#[λd e=>by cases e;exact⟨v,rfl,c⟩,λe=>(nomatch e)]};rw[Zq a,HJ a];exact#[I,i]
theorem GF:∀{g:Za (Zu×D)}{s:Za (Zu×V)},Xz K H g s->s.length=g.length
 |[],_,h=>by rw[show _=[]from h];rfl
 |(k,d)::g,_,⟨v,u,e,_,h⟩=>by subst e;rw[Yu,Yu,GF h]
def gL(b a:DE):DE:=λds q x=>b ds (λd=>a ds (λk=>∃s key v,d=.dit s/\k=Vn key/\WK s key=Zb v/\q v) x) x
def GH(z:X.A.units+3<Yz)(G:JE X x o M)(I:JE X x k L)(B:EV k:=by intro _ _;rfl):JE X x (.Subscript o k pos) (gL M L):=by
 let#[t1,g,Y]:=G.ex;let#[t2,p,N]:=I.ex;show#[_,kW z g p B,λc h j kx=>Y c h (λv d H1 H2 e r h=>N (c.go e) h (λu kd H3 H4 E f J=>?_) (kx.go e.s)) kx];let#[i,key,w,U,U,n,C]:=J;let#[a,Z,U,g1,g2]:=r;let#[b,U,m]:=MC f;let#[y,Q,q]:=(Ka key g2).1 w n;exact#[a,y,U,by rw[<-Q];exact TJ.t (E.s _ _ (e.sub _ _ g1)) (m.same E.sub),j _ w _ _ (e.trans E) (q.same E.s0) C]
def gM(c b a:DE):DE:=λds q x=>c ds (λd=>∃s,d=.dit s/\b ds (λk=>a ds (λz=>∃key,k=Vn key/\q ((WK s key).getD z)) x) x) x
def gN(hu:X.A.units+3<Yz)(ho:JE X x o dO)(hk:JE X x e dk)(hx:JE X x f dx)(m:M2 X o "get" apos e f C:=by exact#[U,U,U,U]):JE X x (.Call (.Attribute o "get" apos) [e,f] [] C) (gM dO dk dx):=by
 let#[t1,M,d1]:=ho.ex;let#[t2,L,d2]:=hk.ex;let#[t3,J,d3]:=hx.ex;show#[_,abO hu M L J m,λc h p kx=>d1 c h (λv d H1 H2 e r h=>?_) kx];let#[j,U,h]:=h;let#[a,n,U,g1,g2]:=r;show#[a,U,.inr #[n,.inl (e.sub _ _ g1)],d2 (c.go e) h (λu kd H3 H4 E G h'=>d3 (c.go (e.trans E)) h' (λw z H5 H6 g B h2=>?_) (kx.go (e.trans E).s)) (kx.go e.s)];let#[key,U,q]:=h2;let#[b,U,N]:=MC G;let#[Z,Y]:=Ka key g2;show#[WG n key,TJ.t (g.s _ _ (E.s _ _ (e.sub _ _ g1))) (N.same (E.sub.trans g.s)),?_];cases i:WK j key with
 |none=>
  rw[i]at q;rw[Y i];exact p _ z _ _ ((e.trans E).trans g) B q
 |some d=>
  rw[i]at q;let#[y,I,Q]:=Z d i;rw[I];exact p _ d _ _ ((e.trans E).trans g) (Q.same (E.trans g).s0) q
def af5(e:X.A.units+3<Yz):Xi X (Xq .NotIn) (λx y H Q=>∃a o,y=.ref a/\TJ H a x o/\Q (.bl (!o.isSome)) H):=by
 intro p s f H x y v u Q I c b h;let#[a,o,U,g,q]:=h;cases b;exact abD e I g c λj i=>#[.bl _,H,i,U,q]
def Cb(f:Bool->Bool):D->D->(D->Prop)->Prop
 |k,.dit s=>λq=>∃key,k=Vn key/\q (.bl (f (WK s key).isSome))
 |_,_=>λO=>False
def af6{f:Bool->Bool}(h:Cb f a b q):∃s key,b=.dit s/\a=Vn key/\q (.bl (f (WK s key).isSome)):=by
 unfold Cb at h;split at h;{let#[key,e,h]:=h;exact#[_,key,U,e,h]};exact h.elim
def af7{g:Za (Zu×D)}{s:Za (Zu×V)}(r:Xz K H g s)(k:Zu):(WG s k).isSome=(WK g k).isSome:=by
 let#[I,i]:=Ka k r;cases h:WK g k with|none=>rw[i h];rfl|some d=>let⟨v,e,_⟩:=I d h;rw[e];rfl
def af8(u:X.A.units+3<Yz):Wl X (Xq .NotIn) (Cb not):=by
 show#[_,af5 u,λ{n H x y a b q Q} s f e h k=>?_];let#[g,key,U,U,j]:=af6 h;let#[p,m,U,g1,g2]:=e;let#[c,U,i]:=MC f;show#[p,_,U,TJ.t (s _ _ g1) (i.same s),?_];rw[af7 g2];exact k _ (.bl _) _ _ (.refl s) U j
def gO(i:Nat):DS:=λds e=>e.nx (ds.set i (.on []))
def gP(m:X.N.Nodup)(hi:X.N[i]?=Zb x)(f:Loc X.env.scope x)(g:XD (.Dict [] [] s) (Zb (.Name x a)) pos.line X.env=ZR Zi|>1)
  (j:Vl X x|>3):JS X E (.Assign [.Name x a] (.Dict [] [] s) pos) (gO i):=by
 show#[_,Ow m hi f wK g j,λ{u B n H q ds e T} c h o=>?_];intro p b;exact o.nx _ _ _ _ (c.acP i (YD.grow c.sub (Zv.upd b)) b (c.sub.free b) YQ (show Xz X.K n [] []from rfl)) h
noncomputable def VX(s:Za (Zu×D))(k:Zu)(d:D):Za (Zu×D):=if (s.any λa=>decide (a.1=k))then s.map (λa=>if a.1=k then (a.1,d)else a)else s++[(k,d)]
theorem gQ(k:Zu):∀{g:Za (Zu×D)}{s:Za (Zu×V)},Xz K H g s->(s.any λa=>decide (a.1=k))=g.any λa=>decide (a.1=k)
 |[],_,h=>by rw[show _=[]from h];rfl
 |(j,d)::g,_,⟨v,u,e,_,h⟩=>by subst e;rw[SF,SF,gQ k h]
theorem uq{k:Zu}(r:Rp K H d v):∀{G:Za (Zu×D)}{s:Za (Zu×V)},Xz K H G s->Xz K H (G.map λa=>if a.1=k then (a.1,d)else a) (s.map λa=>if a.1=k then (a.1,v)else a)
 |[],_,h=>by rw[show _=[]from h];rfl
 |(j,g)::G,_,⟨u,f,e,c,h⟩=>by
  subst e;rw[Xo,Xo];by_cases b:j=k;{rw[Zt b,Zt b];exact#[v,_,U,r,uq r h]};rw[Zq b,Zq b];exact#[u,_,U,c,uq r h]
theorem gR{k:Zu}(r:Rp K H d v):∀{G:Za (Zu×D)}{s:Za (Zu×V)},Xz K H G s->Xz K H (G++[(k,d)]) (s++[(k,v)])
 |[],_,h=>by rw[show _=[]from h];exact#[v,[],U,r,U]
 |(j,g)::G,_,⟨u,b,e,a,h⟩=>by subst e;exact#[u,_,U,a,gR r h]
def ur{k:Zu}{g:Za (Zu×D)}{s:Za (Zu×V)}(h:Xz K H g s)(r:Rp K H d v):Xz K H (VX g k d) (We s k v):=by
 unfold VX We;rw[gQ k h];split;{exact uq r h};exact gR r h
def gS(p:Za Nat)(i:Nat)(a b:DE):DS:=λds e=>∃s,ds[i]?=Zb (.on s)/\b (peekAt p ds) (λd=>(p=[]\/d.Mj=Zd)/\a ds (λk=>∃key,k=Vn key/\s.length<Zo/\e.nx (ds.set i (.on (VX s key d)))) (e.xc ds)) (e.xc ds)
def gT(w:Za Nat)(i:Nat)(hu:X.A.units+3<Yz)(hk:JE X Z k Q)(he:JE X Z e de)(hN:X.N[i]?=Zb x|>1)(hv:Vk X.env.scope x|>3)
  (hs:XD e (Zb (.Subscript (.Name x p) k I)) pos.line X.env=ZR Zi|>1)(hd:YV x|>2)(C:Vv x|>2):
  JS X Z (.Assign [.Subscript (.Name x p) k I] e pos) (gS w i Q de):=by
 let#[tk,p2,d2]:=hk.ex;let#[te,p1,Y]:=he.ex;show#[_,abK hu (pv i hN hv hd C) p2 p1 hs,λ{B0 B H0 H u ds e T} c h o=>?_];let#[f,hi,h]:=h;let#[l,us,M,f1,f2,L]:=c.slot i _ hi;have fin:∀{n m:Hp}{a:D}{v:V},YD H0 H n m->Rp X.K n a v->Q ds (λk=>∃key,k=Vn key/\f.length<Zo/\e.nx (ds.set i (.on (VX f key a)))) (e.xc ds)->
   ∃x,u[i]?=Zb (Zb x)/\tk u m λy q=>∃b j,x=.ref b/\Js q b y v j/\T.nx u j:=by
  intro n m a v E r h;show#[.ref l,Ux M,d2 (c.go E) h (λkv kd q j J rk ⟨key,z,hz,hq⟩=>?_) ((o.kx c).go E.s)];subst z;have G:=E.trans J;let#[b,U,kb]:=MC rk;have hl:=GF L;show#[l,_,U,Js.t (G.s _ _ f2) (kb.same J.sub) 00,?_];let#[a',us',g1,g2,g3,g4]:=c.acQ hi;rw[M]at g1;cases g1;exact o.nx _ _ _ _ (g4 q j _ G (ur (L.same G.s0) (r.same J.s0))) hq
 by_cases g:w=[]
 {subst g;exact Y c h (λv a n m E r h=>fin E r h.2) (o.kx c)};let#[n,c1,s1,l1,n1]:=c.peekAt w;show Y c1 h (λv a m q E r h=>?_) (o.kx c);let#[j,e4,l4,_]:=E.OG s1 c.sub l1 n1;exact fin e4 (Rp.less l4 a (h.1.resolve_left g) r) h.2
noncomputable def Kb(E:ZE)(G:Za QL)(own:Wu)(pos:Yv)(k:Nat)(a:Zh)(e:Wf):Vb Unit:=match G[k]? with
 |some g=>do
  let x <-Ye g.iter e
  Om g.iter.pos
  let x <-Hs g.iter e x
  let _ <-runOwn (.compStart (.ListComp E G own pos) k (<-RD [x] (Qk x)) a e) e
 |none=>do let _ <-call (.builtin "list.append") [a,<-Ye E e]
section
variable {u C iter:ZE}{G:Za QL}{B:Za ZE}{own:Wu}{q:Yv}{k:Nat}{o:YZ}{w:Yt}{A:Yr}{R:Ol->Zj->Prop}{s:Zj}{z y:Zh}{j:Wf}
def af9{M:Qe}{g:QL}{f:Unit->Vb c}{Q:c->Zj->Prop}{E:Zh->Zj->Prop}(m:G[k]?=Zb g)(h:Zn M A (Kb u G own q k y j >>= f) Q E s):
  Zn M A (Ye g.iter j >>= λx=>Om g.iter.pos >>= λO=>Hs g.iter j x >>= λx=>RD [x] (Qk x) >>= λi=>runOwn (.compStart (.ListComp u G own q) k i y j) j >>= λO=>f ()) Q E s:=by
 intro e p a;have b:=h e p a;unfold Kb at b;simp only[m,Vb.wp_bind',Vb.wp_pure']at b⊢;exact b
theorem aga(hk:G[k]?=Zb #[C,iter,B,0])(h0:∀g,G[k+1]?=Zb g->g.is_async=0)(I:Nat->Zj->Prop)
  (turn:∀n s,I n s->Zn (Zr o w) A (VZ z) (λr p=>match r with
   |none=>R (.ok .next) p
   | some v=>Zn (Zr o w) A (El C z v) (λO p=>Zn (Zr o w) A (QR C j v) (λO Q=>
     Zn (Zr o w) A (Jd B Zd λc r=>if r=Zd then do let ok <-isTrue c j (Ye c j);ZR (QM ok)else ZR (QM r)) (λok M=>
      if ok=Zd then Zn (Zr o w) A (Kb u G own q (k+1) y j) (λO i=>∃m,m<n/\I m i) (λO O=>False) M
      else∃m,m<n/\I m M) (λO O=>False) Q) (λO O=>False) p) (λO O=>False) p) (λO O=>False) s)
  (n:Nat)(h:I n s):Wv (Zr o w) A (.compLoop (.ListComp u G own q) k z y j) R s:=by
 show j7 U I (λn s hI=>?_) n h;change Zn _ A ((nV (.ListComp u G own q) k z y j).onRaise (λx=>do xF x j;f6 x)) _ _ s;show p9 ?_;unfold nV;simp only[hk];show Zf (QX ?_);show Zf (Xv (turn n s hI) (λr p L=>?_) λO O N=>N.elim);cases r with
 |none=>exact Zm L
 |some v=>
  show Zf (Xv L (λO p L=>?_) λO O N=>N.elim);show Zf (Xv L (λO Q Y=>Zf (Xv Y (λok M J=>?_) λO O N=>N.elim)) λO O N=>N.elim);cases ok with
  |false=>exact Zm #[U,J]
  |true=>
   have fin:∀{i:Zj},(∃m,m<n/\I m i)->Zn (Zr o w) A (again (.compLoop (.ListComp u G own q) k z y j)) (λfin Z=>match fin with
     |PySem.Fin.done f=>R (.ok f) Z
     | PySem.Fin.again c'=>c'=.compLoop (.ListComp u G own q) k z y j/\∃m,m<n/\I m Z) (notedBy (Zr o w) A j λe Z=>R (.error e) Z) i:=λE=>Zm #[U,E]
   cases hg:G[k+1]? with
   |none=>
    unfold Kb at J;rw[Zt U,hg]at J;exact Zf (Xv J (λO i E=>fin E) λO O N=>N.elim)
   |some g=>
    have:=h0 g hg;let#[a,b,c,d]:=g;cases (this);exact af9 hg (Zf (Xv J (λO i E=>fin E) λO O N=>N.elim))
def agb(f:G[k]?=Zb #[C,iter,B,0])(c:Wv (Zr o w) A (.compLoop (.ListComp u G own q) k z y j) R s)
  (h:Zn (Zr o w) A (Qk z) (λi a=>Wv (Zr o w) A (.compLoop (.ListComp u G own q) k i y j) R a) (notedBy (Zr o w) A j λx a=>R (.error x) a) s):
  Wv (Zr o w) A (.compStart (.ListComp u G own q) k z y j) R s:=by
 show j8 ?_;change Zn _ A ((j9 (.ListComp u G own q) k z y j).onRaise (λx=>do xF x j;Om arn)) _ _ _;show wpAny_notedAt ?_;unfold j9;have e:(clausesOf (.ListComp u G own q))[k]?=Zb #[C,iter,B,0]:=f;simp only[e];show Zf (QV (wpAny_ite ?_));split
 ·first
   | exact Zf (Zm (Zm (MU U c)))
   | exact Zm (MU U c)
 first
  |exact Zf (WD (Zf (QX (Zf (Xv h (λi a b=>Zm (MU U b)) λO O x=>x)))))
  |(show Zf (WD ?_);exact Zf (QX (Zf (Xv h (λi a b=>Zm (MU U b)) λO O x=>x))))
end
abbrev Qv:=Zg->St->Hp->(St->Hp->Prop)->Prop
def gU(e:TE):Qv:=λD a H N=>e a H λy b=>∃Y,b D=Zb (.lst Y)/\Y.length<Zo/\N a (upd b D (.lst (Y++[y])))
def GI(J:It)(g:TG)(n:TT)(A:St->Hp->(St->Hp->Prop)->Prop)(e:St)(H:Hp)(Q:St->Hp->Prop):Prop:=
 ∃W:Nat->Nat->St->Hp->Prop,(∃m,W 0 m e H)/\∀i m e H,W i m e H->
  (J.stop i H/\Q e H)\/(J.go i H/\∃N:St->Hp->Prop,(∀c f,N c f->∃M,M<m/\W (i+1) M c f)/\∀x f,J.yld i H x f->g x e f λa o=>n a o λb j=>if b=Zd then A a j N else N a j)
def gV(w:TI)(g:TG)(f:TT)(a:Qv):Qv:=λD b H N=>w b H λJ c=>GI J g f (a D) b c N
structure OU (Y:Cx)(elt:ZE)(gs:List QL)(own:Wu)(pos:Yv)(k:Nat)(act:Qv):Prop where
 go:∀(pins:List (Zg×Yg)) (s:Zj) (σ:St) (H:Hp) (D:Zg) (N:St->Hp->Prop),Inv Y pins σ H s->act D σ H N->Zn (Zr Y.prog Y.w) Y.A (Kb elt gs own pos k (.ref D) Y.env) (λO s'=>∃σ' H',Inv Y pins σ' H' s'/\N σ' H') (λO O=>False) s
section
variable {Y:Cx}{E j iter:ZE}{G:Za QL}{a:Za ZE}{own:Wu}{p:Yv}{k:Nat}{L:TI}{g:TG}{B:TT}{C:TE}{c:Qv}
def agc(x:Y.xe=λO O=>False)(w:G[k]?=Zc)(A:PE Y E C):OU Y E G own p k (gU C):=by
 show#[λb s e H D N I h=>?_];unfold Kb;rw[w];show Zf (Xv (A b s e H _ I h) (λy n Z=>?_) λO O z=>by rw[x]at z;exact z);let#[f,H8,Q,o,m,J,i,u]:=Z;show Zf (Xv (wF b n e H8 (.ref D) [f] (.ref D) [y] (λO H'=>N e H') Q U (.cons o .nil) #[D,m,f,U,U,J,i,u]) (λ_ s9 ⟨_,H9,M,_,q⟩=>?_) λO O z=>by rw[x]at z;exact z);exact Zm #[e,H9,M,q]
def gW(hx:Y.xe=λO O=>False)(hc:Y.calm=Zd)(hk:G[k]?=Zb #[j,iter,a,0])(h0:∀g,G[k+1]?=Zb g->g.is_async=0)(hg:PG Y j g)(hf:TK Y a B)(ha:OU Y E G own p (k+1) c)
  {f:Za (Zg×Yg)}{s:Zj}{σ:St}{D it:Zg}{fp:Za Zg}{tn:Nat->ZD->Prop}{J:It}{N:St->Hp->Prop}{R:Ol->Zj->Prop}(I:Inv Y f σ H s)(T:TV Y.prog Y.w Y.K j J fp it tn)(st:tn 0 s.heap)
  (fo:∀y:Hp,(∀b∈fp,y b=Zc)->∀b∈fp,Vw Y f y b)(fr:∀b∈fp,H b=Zc)(h:GI J g B (c D) σ H N)(hR:∀q y s',Inv Y f q y s'->N q y->R (.ok .next) s'):
  Wv (Zr Y.prog Y.w) Y.A (.compLoop (.ListComp E G own p) k (.ref it) (.ref D) Y.env) R s:=by
 let#[W,#[m0,w0],turn]:=h;show aga hk h0 (λn s'=>∃i q y,Inv Y f q y s'/\tn i s'.heap/\(∀b∈fp,y b=Zc)/\W i n q y) ?_ m0 #[0,σ,H,I,st,fr,w0];rintro n s3 ⟨i,Q,H3,I3,st3,fr3,w3⟩;have no:∀{v:Zh}{s:Zj},Y.xe v s->False:=λz=>by rw[hx]at z;exact z
 rcases turn i n Q H3 w3 with⟨stop,qn⟩|⟨go,Nx,hN,step⟩;{show ZQ (T.done Y U U U hc i f s3 Q H3 _ I3 (fo H3 fr3) st3 stop) λr s4 Z=>?_;let#[U,I4]:=Z;exact hR Q H3 s4 I4 qn};show ZQ (T.item Y U U U hc i f s3 Q H3 _ I3 (fo H3 fr3) st3 go) λr s4 Z=>?_;let#[u,U,h4]:=Z;show ZQ h4 λO s5 Z=>?_;let#[x,H5,I5,r5,y5,st5,fr5]:=Z;show Xv (hg _ s5 Q H5 x u _ (I5.pinned (fo H5 fr5) (T.obj _ _ st5)) r5 (step x H5 y5)) (λO s6 Z=>?_) λO O z=>no z;let#[σ6,H6,I6,q6]:=Z;have again:∀{M:St}{H7:Hp}{s7:Zj},Inv Y (f++Pl fp s5.heap) M H7 s7->Nx M H7->∃m,m<n/\∃i q y,Inv Y f q y s7/\tn i s7.heap/\(∀b∈fp,y b=Zc)/\W i m q y:=λ{M H7 s7} I7 n7=>by
  let#[m',hm,w7]:=hN M H7 n7;show#[m',hm,i+1,M,H7,I7.NX,T.keep _ _ _ st5 λb hb o e=>(I7.pin (b,o) (Va _ (Va _ (Ox hb e)))).1,λb hb=>?_,w7];let#[o,e,d]:=T.obj _ _ st5 b hb;exact(I7.pin (b,o) (Va _ (Va _ (Ox hb e)))).2.1
 show Xv (hf _ s6 σ6 H6 _ I6 q6) (λb s7 Z=>?_) λO O z=>no z;let#[H7,I7,q7]:=Z;cases b with|false=>exact again I7 q7|true=>exact Xv (ha.go _ s7 σ6 H7 D _ I7 q7) (λ_ s9 ⟨_,_,I9,q9⟩=>again I9 q9) λO O z=>z
def agd(hx:Y.xe=λO O=>False)(hc:Y.calm=Zd)(hk:G[k]?=Zb #[j,iter,a,0])(h0:∀g,G[k+1]?=Zb g->g.is_async=0)(hs:∀x,Hs iter Y.env x=ZR x)(hi:PI Y j iter L)(hg:PG Y j g)(hf:TK Y a B)(ha:OU Y E G own p (k+1) c):OU Y E G own p k (gV L g B c):=by
 show#[λi s σ H D N I h=>?_];have no:∀{v:Zh}{s:Zj},Y.xe v s->False:=λz=>by rw[hx]at z;exact z
 unfold Kb;rw[hk];show Zf (Xv (hi i s σ H _ I h) (λxv s₁ Z=>Zf (QX ?_)) λO O z=>no z);rw[hs];show Zf (Zm (Zf (XY (Xv Z (λitv u Q=>?_) λO O z=>no z))));let#[it,fp,tn,J,H2,e,I2,T,y,f2,q]:=Q;subst e;have fo:∀o:Hp,(∀b∈fp,o b=Zc)->∀b∈fp,Vw Y i o b:=λo hn b hb=>by
  let#[_,f]:=f2 b hb;exact#[hn b hb,f]
 have n:Wv (Zr Y.prog Y.w) Y.A (.compLoop (.ListComp E G own p) k (.ref it) (.ref D) Y.env) (λr M=>match r with
   |.ok f=>∃m o,Inv Y i m o M/\N m o
   | .error e=>cameBackBy (Zr Y.prog Y.w) Y.A Y.env (λO O=>False) e M) u:=gW hx hc hk h0 hg hf ha I2 T y fo (λb hb=>(f2 b hb).1) q λm o M I' n'=>#[m,o,I',n']
 show Zf (wpAny_runOwn (agb hk ?_ ?_))
 ·exact Lj n λr M z=>by
   cases r with|ok f=>exact Zm z|error e=>exact z
 show T.self _ 0 _ _ _ y (Lj n λr M z=>by
  cases r with
  |ok f=>exact Zm z
  | error e=>exact z)
end
section
variable {own M:Wu}{f N:Za Ze}{B iter u:ZE}{i:Za ZE}{G:Za QL}{j:Yv}{L:TI}
def uv(n:Nat)(fr:Za Nat)(L:TI)(g:TG)(e:TT)(a:Qv):TE:=λb H Q=>L b H λJ c=>∀D,c D=Zc->GI J g e (a D) (pre n fr b) (upd c D (.lst [])) λO m=>Q (.ref D) m
def gX{fr:Za Nat}{g:TG}{tf:TT}{act:Qv}{J:It}{it:Zg}{fp:Za Zg}{tn:Nat->ZD->Prop}{cl:Za (Ze×Zg)}
  {pins:Za (Zg×Yg)}{σ:St}{s:Zj}{Q:Zg->Hp->Prop}{RR:Zh->Zg->Ol->Zj->Prop}{E:Zh->Zj->Prop}
  (hg:∀z,PG (Zz X own (f++N) z) B g)(hf:∀z,TK (Zz X own (f++N) z) i tf)(ha:∀z,OU (Zz X own (f++N) z) u (#[B,iter,i,0]::G) M j 1 act)(h0:∀g∈G,g.is_async=0)(hc:Xl X)(c:HQ own X.env.scope N)(hN:Uw X fr N)
  (hc1:∀y∈own.names,y.2=.free->∃c,cl.lookup y.1=Zb c)(hc2:∀x c,cl.lookup x=Zb c->X.env.cells.lookup x=Zb c)
  (I:Inv X pins σ H s)(T:TV X.prog X.w X.K B J fp it tn)(st:tn 0 s.heap)(fo:∀b∈fp,Vw X pins H b)
  (h:∀D,H D=Zc->GI J g tf (act D) (pre f.length fr σ) (upd H D (.lst [])) λO H'=>Q D H')
  (hR:∀D C σ' H' s',s.heap.objs.size<=C->Inv (Zz X own (f++N) #[cl,C,s,H,fp]) [] σ' H' s'->Q D H'->RR (.ref D) C (.ok .next) s'):
  Zn (Yn X) X.A (newList []) (λacc s₃=>Zn (Yn X) X.A (newFunctionEnv own X.env.globals cl [] X.env.qual Zc .none (Zb X.env)) (λcenv s₄=>
   Wv (Yn X) X.A (.compStart (.ListComp u (#[B,iter,i,0]::G) M j) 0 (.ref it) acc {cenv with scope:=Jg own X.env}) (RR acc cenv.locals) s₄) E s₃) E s:=by
 show Ur (i9 c.nocell (by intro y hy;simp at hy) (λh₁ n m=>?_) c.kind);have hlt:=λb Z=>let ⟨o,e,_⟩:=T.obj 0 _ st b Z;Yc e
 generalize hH2:s.heap.push {cls:=.type "list",dict:=Zc,data:=.seq ([]:Za Zh).toArray}=H2 at n m⊢;have hC:H2.objs.size=s.heap.objs.size+1:=by rw[<-hH2,UQ]
 have hDC:s.heap.objs.size≠H2.objs.size:=by rw[hC];exact Ys (KS _)
 have hCle:s.heap.objs.size<=H2.objs.size:=by rw[hC];exact UT _
 have below:∀b,b<s.heap.objs.size->b≠H2.objs.size:=λb Z=>by rw[hC];exact Ys (NK Z)
 have old:=λb o e=>m.extBut b o (below b (Yc e)) (ZY _ (hH2▸ZY _ e));have st1:=T.keep _ _ _ st λb O o e=>old b o e;have I1:Inv (Zz X own (f++N) #[cl,H2.objs.size,s,H,fp]) [] (pre f.length fr σ) (upd H s.heap.objs.size (.lst [])) {s with heap:=h₁,toks:=s.toks+([]:Za (Ze×Zh)).length}:=
  jb I fo hlt c hc1 hc2 hN (ZU _) hCle hDC old n (m.extBut _ _ hDC (ZY _ (hH2▸YF _ U))) U U
 have fo':∀H':Hp,(∀b∈fp,H' b=Zc)->∀b∈fp,Vw (Zz X own (f++N) #[cl,H2.objs.size,s,H,fp]) [] H' b:=λH' hn b Z=>by
  let#[_,f1,f2,f3,f4,f5]:=fo b Z;show#[hn b Z,below b (hlt b Z),λz=>?_,.inl Z,λx a e=>f4 x a (hc2 x a e),λp hp=>ZJ hp 02];rcases Yk.mp (I.Ly b z)with z|z;{exact f1 z};exact f2 z
 have fr1:∀b∈fp,upd H s.heap.objs.size (.lst []) b=Zc:=λb Z=>by
  rw[ZN (Ys (hlt b Z))];exact(fo b Z).1
 have loop:=
  gW (Y:=Zz X own (f++N) #[cl,H2.objs.size,s,H,fp]) U hc U (λg (hg:G[0]?=Zb g)=>h0 g (YH hg)) (hg _) (hf _) (ha _) I1 T st1 fo' fr1 (h _ I.fresh) λσ' H' s' J' q=>hR _ _ σ' H' s' hCle J' q
 exact aq9 loop (T.self _ 0 _ _ _ st1 loop)
def age(f N:Za Ze)(fr:Za Nat){g:TG}{tf:TT}{A:Qv}(hi:PI X B iter L)
  (hg:∀z,PG (Zz X own (f++N) z) B g)(hf:∀z,TK (Zz X own (f++N) z) i tf)(ha:∀z,OU (Zz X own (f++N) z) u (#[B,iter,i,0]::G) own j 1 A)(h0:∀g∈G,g.is_async=0)(hc:Xl X|>1)(c:Sl own X N|>1)(hN:Uw X fr N|>1)
  (hs:UY X iter|>4):PE X (.ListComp u (#[B,iter,i,0]::G) own j) (uv f.length fr L g tf A):=by
 have c:=HR c;intro p s σ H Q I h;let#[cl,e0,Y,E]:=HS λy hy e=>I.ok.has y.1 (c.free y hy e);show xJ U hs e0 c.kind c.loc (ZQ (hi p s σ H _ I h) λxv s₁ n=>ZQ n λitv s₂ a=>?_);let#[it,fp,tn,J,H2,e,I2,T,w,f2,q]:=a;subst e;show gX hg hf ha h0 hc c hN Y E I2 T w f2 q ?_;intro D C σ' H' s' hC Z q';let#[m,x,_]:=Z.loc;show#[m,x,λh' sb=>#[.ref D,H',HU I2 hC (FD I2 f2 Z) Z.free λb o hb e=>sb.extBut b o hb e,U,q']]
end
abbrev UK:=ZG->Za D->(ZG->Za D->Prop)->Prop
def uw(e:DE):UK:=λds a N=>e ds (λy=>a.length<Zo/\N ds (a++[y])) (λO=>False)
def Qw(g:DG)(f:DT)(A:UK)(N:ZG->Za D->Prop):Za D->ZG->Za D->Prop
 |[],ds,a=>N ds a
 |x::s,ds,a=>g x ds λc=>f c (λb=>if b=Zd then A c a (λi e=>Qw g f A N s i e)else Qw g f A N s c a) (λO=>False)
def JZ(i:DI)(g:DG)(f:DT)(a:UK):UK:=λds A N=>i ds (λx=>Qw g f a N x ds A) (λO=>False)
def Ia(n:Nat)(fr:Za Nat)(i:DI)(g:DG)(f:DT)(a:UK):DA:=λds q x=>i ds (λs=>Qw g f a (λO A=>q A) s (PX n fr ds) []) x
def MD(K:ZF)(o:Qv)(p:UK):Prop:=∀{n B i H:Hp}{m:St}{ds:ZG}{g:Za D}{s:Za V}{a:Zg}{N:ZG->Za D->Prop}{T:St->Hp->Prop},Zy K n B i H m ds->Tb ds->B a=Zc->i a=Zc->H a=Zb (.lst s)->Zw K i g s->p ds g N->
 (∀b j e c A f,Zy K n B b j e c->Zv i b->Tb c->b a=Zc->j a=Zb (.lst f)->Zw K b A f->N c A->T e j)->o a m H T
section
variable {g:DG}{f:DT}{A:UK}{t:TG}{j:TT}{o:Qv}
def agf{e:DE}(G:SD K XN w e):MD K (gU w) (uw e):=by
 intro Q B M H q ds I b a N T c no z C m r h k;show G c h (λu y J L E x p=>?_) (λO O O h=>h.elim);have n:=E.new a C (Vi m);have i:=r.same E.s0;exact#[b,(E.s _ _ m),by rw[i.length];exact p.1,k J _ q ds _ (b++[u]) ((c.go E).aside no z n) E.s0 no n YQ (i.snoc x) p.2]
def gY(d1:Pt K t g)(d2:Pn K XN j f)(d3:MD K o A){B0 B M W0:Hp}{σ:St}{ds:ZG}{p E:Za D}{G:Za V}{a:Zg}{J:It}{N:ZG->Za D->Prop}{T:St->Hp->Prop}(w:Walks K J E W0)(sw:Zv W0 M)(c:Zy K B0 B M H σ ds)(no:Tb ds)(hB:B a=Zc)(h0:M a=Zc)(hv:H a=Zb (.lst G))(r:Zw K M p G)
  (h:Qw g f A N E ds p)(k:∀e Q u n L vs',Zy K B0 B e Q u n->Zv M e->Tb n->e a=Zc->Q a=Zb (.lst vs')->Zw K e L vs'->N n L->T u Q):GI J t j (o a) σ H T:=by
 show#[λi m u Q=>m=E.length-i/\i<=E.length/\∃e n p G,Zy K B0 B e Q u n/\Zv M e/\Tb n/\e a=Zc/\Q a=Zb (.lst G)/\Zw K e p G/\Qw g f A N (E.drop i) n p,#[_,U,Wg _,M,ds,p,G,c,.refl _,no,h0,hv,r,h],?_];rintro i m u Q ⟨rfl,hi,e,n,p,G,c',s',no',n',hv,r',hl⟩;let#[w1,w2]:=w i e Q (sw.trans s') c'.sub;by_cases x:i<E.length
 ·right;let#[go,yld]:=w1 x;rw[Od x]at hl;show#[go,λY H4=>∃q C I vs2,Zy K B0 B q H4 Y C/\Zv M q/\Tb C/\q a=Zc/\H4 a=Zb (.lst vs2)/\Zw K q I vs2/\Qw g f A N (E.drop (i+1)) C I,λY H4 z=>⟨_,by omega,rfl,x,z⟩,λy H4 z=>?_];let#[H5,e5,d,ed,rd]:=yld y H4 z;rw[ZA x]at ed;cases ed;show d1 (c'.go e5) rd hl λY C c2 kp h2=>?_;have no2:=no'.keeps kp;have v5:=e5.s _ _ hv;show d2 c2 h2 (λb H6 H7 Z h6=>?_) (λO O O h=>h.elim);have n6:=Z.new a (e5.new a n' (Vi hv)) (Vi v5);have v6:=Z.s _ _ v5;have s6:=s'.trans (e5.trans Z).s0;cases b with
  |false=>
   exact#[H6,C,p,G,c2.go Z,s6,no2,n6,v6,r'.same (e5.trans Z).s0,h6]
  |true=>
   exact d3 (c2.go Z) no2 hB n6 v6 (r'.same (e5.trans Z).s0) h6 λH8 H9 σ3 ds3 acc3 vs3 c3 s3 no3 n3 v3 r3 q3=>#[H8,ds3,acc3,vs3,c3,s6.trans s3,no3,n3,v3,r3,q3]
 left;have hx:E.drop i=[]:=IU (SH x);rw[hx]at hl;exact#[w2 00,k _ _ _ _ _ _ c' s' no' n' hv r' hl]
def agg{u:DI}(L:Gs K XN x u)(I:Pt K t g)(G:Pn K XN j f)(E:MD K o A):MD K (gV x t j o) (JZ u g f A):=by
 intro B0 B H0 H Z ds Q vs a N T c no z C q r h k;exact L c h (λJ xs H1 H2 e w h=>gY I G E w (.refl _) (c.go e) no z (e.new a C (Vi q)) (e.s _ _ q) (r.same e.s0) h λp Y i n b m M y=>k p Y i n b m M (e.s0.trans y)) (λO O O h=>h.elim)
def gZ{u:St->XK}{p:DI}(n:Nat)(fr:Za Nat)(d0:Gs K u z p)(d1:Pt K t g)(d2:Pn K XN j f)(Z:MD K o A):OL K u (uv n fr z t j o) (Ia n fr p g f A):=by
 intro B0 B H0 H σ ds q x Q c h k kx;show d0 c h (λJ xs H1 H2 E w h=>λa e=>?_) kx;let#[c1,N]:=vQ (c.go E) (Zv.upd e) n fr;exact gY d1 d2 Z w (.refl _) c1 N e (E.sub.free e) YQ (show Zw K H1 [] []from rfl) h λm H' y Y b i c' s' L M C G I=>k a i b m H' (E.trans c'.ext) (E.s.free e) M C G I
end
structure Rc (Y:Cx)(elt:ZE)(gs:List QL)(own:Wu)(pos:Yv)(k:Nat)(da:UK):Prop where
 ex:∃ta,OU Y elt gs own pos k ta/\MD Y.K ta da
def fb{Z:Type}{Xf:Z->Cx}{e:ZE}{G:Za QL}{own:Wu}{pos:Yv}{k:Nat}{g:UK}(m:∀z,(Xf z).K=K)(h:∀z,Rc (Xf z) e G own pos k g):∃i,(∀z,OU (Xf z) e G own pos k i)/\MD K i g:=by
 show#[λa f H T=>∀t,MD K t g->t a f H T,λz=>?_,λc no B n j r h k t d=>d c no B n j r h k];let#[t,p,d]:=(h z).ex;rw[m z]at d;exact#[λb s f H D N I q=>p.go b s f H D N I (q t d)]
section
variable {m:St->XK}{own:Wu}{s:Yv}{E b iter:ZE}{i:Za ZE}{G:Za QL}{k:Nat}{j:DI}{g:DG}{f:DT}{a:UK}{e:DE}{N:Za Ze}{z:CZ}
def agh(n:JE (Zz X own N z) XN E e)(c:G[k]?=Zc|>1):Rc (Zz X own N z) E G own s k (uw e):=by
 let#[o,p,d]:=n.ex;exact#[_,agc U c p,agf d]
def fc(hi:JI (Zz X own N z) XN b iter j)(w:JG (Zz X own N z) b g)(y:Tc (Zz X own N z) XN i f)(B:Rc (Zz X own N z) E G own s (k+1) a)(u:G[k]?=Zb #[b,iter,i,0]|>1)(C:∀g,G[k+1]?=Zb g->g.is_async=0:=by intro _ h;cases h<;>rfl)
  (q:(∀x,Hs iter (Zz X own N z).env x=ZR x)|>4)(A:Xl X|>1):Rc (Zz X own N z) E G own s k (JZ j g f a):=by
 let#[Q,o,M]:=hi.ex;let#[t,n,L]:=w.ex;let#[Y,c,J]:=y.ex;let#[Z,p,I]:=B.ex;exact#[_,agd U A u C q o n c p,agg M L J I]
def Kc(o n:Za Ze)(fr:Za Nat)(hi:JI X m b iter j)(y:∀z,JG (Zz X own (o++n) z) b g)(A:∀z,Tc (Zz X own (o++n) z) XN i f)(C:∀z,Rc (Zz X own (o++n) z) E (#[b,iter,i,0]::G) own s 1 a)
  (B:Xl X|>1)(c:Sl own X n|>1)(I:Uw X fr n|>1)(x:UY X iter|>4)(J:∀g∈G,g.is_async=0:=by simp):JF X m (.ListComp E (#[b,iter,i,0]::G) own s) (Ia o.length fr j g f a):=by
 let#[Z,w,Y]:=hi.ex;let#[t,u,Q]:=Gv (Xf:=λz=>Zz X own (o++n) z) (λO=>rfl) y;let#[tf,q,M]:=Gu (Xf:=λz=>Zz X own (o++n) z) (λO=>rfl) A;let#[ta,p,L]:=fb (Xf:=λz=>Zz X own (o++n) z) (λO=>rfl) C;exact#[_,age o n fr w u q p J B c I x,gZ _ fr Y Q M L]
end
def fe(i:Nat)(g f:DE):DS:=λds e=>∃a c,ds[i]?=Zb (.st a c)/\g ds (λo=>∃b x,o=.rf b/\c.lookup b=Zb (.lst x)/\x.length<Zo/\f ds (λd=>e.nx (ds.set i (.st a (c.put b (.lst (x++[d])))))) (e.xc ds)) (e.xc ds)
def agi(i:Nat)(Z:JE X I t dO)(he:JE X I e de)
  (p:Tp e=Zd|>1)(j:SL t "append" X.env (Ye t X.env)=Ye t X.env|>1)
  (w:LD X [e] f|>1)
  (g:TH apos f|>1)(hs:TC X e []|>1)(n:VP X [] f|>1)
  (y:XD (.Call (.Attribute t "append" apos) [e] [] f) Zc pos.line X.env=ZR Zi|>1):
  JS X I (.Expr (.Call (.Attribute t "append" apos) [e] [] f) pos) (fe i dO de):=by
 let#[te,Q,d1]:=he.ex;let#[to,N,d3]:=Z.ex;show#[_,Pj (OB Lf IJ Ee Jv N (Sn Q Sg p) j w g hs n) y,λ{B0 B H0 H σ ds e T} c h o=>?_];let#[a,μ,hi,h]:=h;show d3 c h (λY od H1 H2 E M h=>?_) (o.kx c);let#[b,J,U,z,q,h]:=h;have C:=c.go E;let#[h0,u',h1,L,U,h2]:=(C.slot i _ hi).2 b _ z;rw[show Y=.ref b from M];show#[.inl #[U,L,Ya.of h1],?_];show d1 C h (λv d H3 H4 e2 r h=>?_) ((o.kx c).go E.s);have G:=C.go e2;let#[_,u2,A,x,U,u]:=(G.slot i _ hi).2 b _ z;show#[b,x,v,U,U,A,by rw[u.length];exact q,?_];exact o.nx _ _ _ _ (G.gA hi z (m:=.lst (J++[d])) #[_,U,u.snoc r]) h
noncomputable def Mu.del(a:Mu)(b:Zg):Mu:=a.filter λx=>decide (x.1≠b)
def fg(g G g2:D->D->(D->Prop)->Prop)(m j i f:DE):DE:=λds q x=>m ds (λa=>j ds (λb=>g a b λz=>∃k,z=.bl k/\if k=Zd then i ds (λc=>G b c λZ=>∃e,Z=.bl e/\if e=Zd then f ds (λd=>g2 c d q) x else q (.bl Zi)) x else q (.bl Zi)) x) x
def agj(ho:Wl X (Xq op) g)(w:Wl X (Xq i) g')(q:Wl X (Xq f) g2)(ha:JE X x a da)(hb:JE X x b db)(hc:JE X x c dc)(hd:JE X x d dd)
  (hm:nY [op,i,f] [b,c,d]=Zi:=by with_unfolding_all rfl):JE X x (.Compare a [op,i,f] [b,c,d] pos) (fg g g' g2 da db dc dd):=by
 let#[r,o,l]:=ho.ex;let#[r',o',l']:=w.ex;let#[p,o2,l2]:=q.ex;let#[ta,p1,d1]:=ha.ex;let#[tb,p2,d2]:=hb.ex;let#[tc,Y,d3]:=hc.ex;let#[td,Q,d4]:=hd.ex;show#[_,acE o o' o2 p1 p2 Y Q hm,λc h k kx=>?_];show d1 c h (λv a H1 H2 e N h=>d2 (c.go e) h (λu b H3 H4 B p h'=>?_) (kx.go e.s)) kx;show l (c.go (e.trans B)).sub (N.same B.s0) p h' λz d H5 H6 I M Z=>?_;let#[j,U,m]:=Z;show#[j,M,?_];have n:=(e.trans B).trans I;cases j with
 |true=>
  show d3 (c.go n) m (λw' cc H7 H8 A C h4=>l' (c.go (n.trans A)).sub (p.same (I.trans A).s0) C h4 λz d H9 Ha G L Z=>?_) (kx.go n.s);let#[j,U,m]:=Z;show#[j,L,?_];have E:=(n.trans A).trans G;cases j with
  |true=>
   exact d4 (c.go E) m (λw2 cd Hb Hc y J h7=>l2 (c.go (E.trans y)).sub (C.same (G.trans y).s0) J h7 (k.go (E.trans y))) (kx.go E.s)
  |false=>
   exact k _ (.bl Zi) _ _ E U m
 |false=>
  exact k _ (.bl Zi) _ _ n U m
def Lv.solid{a:Mu}(l:Lv K c a g H f e){b:Zg}(n:c.lookup b=Zc)(y:Ta H b):Ta e b:=by
 let#[o,z,t]:=y;exact#[o,l.s b o n z,t]
def Lv.post{i:Hp}{c:Mu}{a:Mu}(l:Lv K c a x H w q)(e:YD w q p i):Lv K c a x H p i:=by
 show#[λb o n z=>e.s _ _ (l.s b o n z),l.s0.trans e.s0,e.sub,λb n z y=>e.new b (l.new b n z y) (l.solid n y),λb m z=>?_,l.old];let#[j,u,g,f]:=l.ok b m z;exact#[e.new b j (Vi g f.nt),u,e.s _ _ g,f.same e.s0]
end L2
namespace HT
open PySem.AutoSeq1 (wpAny_loadPart')
open PySem.MeetsSeq PySem.MeetsSeq2 PySem.MeetsSeq3
end HT
namespace L2
end L2
namespace LS
noncomputable def agk:Bool->Keyed->Array Keyed->Nat->Nat->Nat->StateT SortSt Sem (Option Nat):=sortPriv% PySem.Builtin.gallop
noncomputable def agl:Array Keyed->Array Keyed->StateT SortSt Sem (Array Keyed):=sortPriv% PySem.Builtin.mergeLo
noncomputable def agm:Array Keyed->Array Keyed->StateT SortSt Sem (Array Keyed):=sortPriv% PySem.Builtin.mergeHi
noncomputable def agn:Nat->StateT SortSt Sem Unit:=sortPriv% PySem.Builtin.setMinGallop
def Re(M:Qe)(A:Yr)(E:Zh->Zj->Prop)(s:Zj)(kd:QQ)(P:ZP->Prop)(le:ZP->ZP->Prop):Prop:=
 ∀(st:Yj) (p q:ZP) (Q:Option Bool->Yj->Prop),Ww st=kd->P p->P q->(∀b,(b=Zd->le p q)->(b=Zi->le q p)->Q (Zb b) st)->Xu M A E s (lt' p q) Q st
def Qx(P:ZP->Prop)(a:Array ZP):Prop:=∀i,i<a.size->∃x,a[i]?=Zb x/\P x
section
variable {M:Qe}{A:Yr}{E:Zh->Zj->Prop}{s:Zj}{kd:QQ}{P:ZP->Prop}{le:ZP->ZP->Prop}
def Vo{arr:Array ZP}{i:Nat}{x:ZP}{Q:ZP->Yj->Prop}{st:Yj}(a:arr[i]?=Zb x)(h:Q x st):Xu M A E s (elem' arr i) Q st:=by
 rw[elem'_eq,a];exact Yb h
def YL{a:Type}{c:Prop}[Decidable c]{x y:StateT Yj Vb a}{Q:a->Yj->Prop}{st:Yj}(e:c->Xu M A E s x Q st)(b:¬c->Xu M A E s y Q st):Xu M A E s (if c then x else y) Q st:=by
 by_cases h:c;{rw[Zt h];exact e h};rw[Zq h];exact b h
def Ib{left:Bool}{key:ZP}{arr:Array ZP}{base n hint:Nat}{Q:Option Nat->Yj->Prop}{st:Yj}(Y:Re M A E s kd P le)(L:Ww st=kd)(J:P key)(pa:Qx P arr)(hn:base+n<=arr.size)(z:hint<n)
 (h:∀k,k<=n->Q (Zb k) st):Xu M A E s (agk left key arr base n hint) Q st:=by
 have y:∀i,i<n->∀C:Option Bool->Yj->Prop,(∀b,C (Zb b) st)->Xu M A E s (do let x <-elem' arr (base+i);if left then lt' x key else return (<-lt' key x).map (!·)) C st:=λi hi C Z=>by
  let#[x,j,G]:=pa (base+i) 00;show ZS (Vo j ?_);cases left;{exact ZS (Y _ _ _ _ L J G λb O O=>Yb (Z _))};exact Y _ _ _ _ L G J λb O O=>Z b
 show ZS (y hint z _ λb=>?_);dsimp -zeta only;extract_lets jp v w;subst v w;have N:∀u (p q lo hi:Nat),lo<=hi->hi<=n->Xu M A E s (jp u p q lo hi) Q st:=λu p q lo hi a1 a2=>by
  unfold jp;show ZS (QZ (Oq (I:=λx c a=>st=a/\∃l o,c=(Zc,l,o)/\l<=o/\o<=n)
   (Q:=λc a=>st=a/\∃l o,c=(Zc,l,o)/\l<=o/\o<=n) ?_ (λO O h=>h) #[U,lo,hi,U,a1,a2]) ?_)
  ·rintro x c a _ j ⟨rfl,l,o,rfl,b1,B⟩;show YL (λg=>Yb #[U,l,o,U,b1,B]) λg=>?_;have m:l+(o-l)/2<o:=00
   show ZS (y _ (YK m B) _ λb=>?_);cases b;{exact Yb #[U,l,_,U,Rv _ _,00]};exact Yb #[U,_,o,U,m,B]
  rintro c a ⟨rfl,l,o,rfl,b1,B⟩;exact Yb (h o B)
 cases b;case true=>
  show ZS (QZ (Oq (I:=λx c a=>st=a/\∃l o,c=(Zc,l,o)/\l<o/\hint+l<n)
   (Q:=λc a=>st=a/\∃l o,c=(Zc,l,o)/\l<o/\hint+l<n) ?_ (λO O h=>h) #[U,0,1,U,nv,z]) ?_)
  {rintro x c a _ j ⟨rfl,l,o,rfl,f,e⟩;show YL (λg=>Yb #[U,l,o,U,f,e]) λg=>?_;show ZS (y _ 00 _ λb=>?_);cases b;{exact Yb #[U,l,o,U,f,e]};exact Yb #[U,o,2*o+1,U,00,00]};rintro c a ⟨rfl,l,o,rfl,f,e⟩;exact N () l o _ _ 00 00
 case false=>
  show ZS (QZ (Oq (I:=λx c a=>st=a/\∃l o,c=(Zc,l,o)/\l<o/\l<=hint)
   (Q:=λc a=>st=a/\∃l o,c=(Zc,l,o)/\l<o/\l<=hint) ?_ (λO O h=>h) #[U,0,1,U,nv,Wg _]) ?_)
  {rintro x c a _ j ⟨rfl,l,o,rfl,f,e⟩;show YL (λg=>Yb #[U,l,o,U,f,e]) λg=>?_;show ZS (y _ (Hf (ny _ _) z) _ λb=>?_);cases b;{exact Yb #[U,o,2*o+1,U,00,00]};exact Yb #[U,l,o,U,f,e]};rintro c a ⟨rfl,l,o,rfl,f,e⟩;exact N () l o _ _ 00 00
end
end LS
namespace LS
section
variable {M:Qe}{A:Yr}{E:Zh->Zj->Prop}{s:Zj}{kd:QQ}{P:ZP->Prop}{le:ZP->ZP->Prop}
def Qx.of{l:Za ZP}{a:Array ZP}(h:∀x∈l,P x)(e:∀x∈a.toList,x∈l):Qx P a:=λi hi=>#[_,getElem?_pos a i hi,h _ (e _ 02)]
def Md(T o p q:Za ZP):Prop:=(o++(p++q)).Perm T
def Md.sw(h:Md T o p q):Md T o q p:=(oQ _ FY).trans h
def Md.many(h:Md T o (l++p) q):Md T (o++l) p q:=by
 unfold Md at *;simpa using h
def Md.back(h:Md T o (p++l) q):Md T (o++l.reverse) p q:=Md.many ((oQ _ (List.Perm.append_right _ (((apO l).append_right p).trans FY))).trans h)
def Wt(T:Za ZP)(a b o:Array ZP)(I i:Nat):Prop:=Md T o.toList (a.toList.drop I) (b.toList.drop i)
def UL(a b o:Array ZP):Prop:=o.toList.Perm (a.toList++b.toList)
section
variable {a b out:Array ZP}{T:Za ZP}{I f n N k:Nat}
theorem Wt.sw(h:Wt T a b out I f):Wt T b a out f I:=Md.sw h
theorem Wt.size(h:Wt (a.toList++b.toList) a b out I f)(g:I<=a.size)(e:f<=b.size):out.size=I+f:=by
 have:=apn h;simp at this;let#[c,j]:=K6 g;let#[d,i]:=K6 e;rw[j,i,ng,ng]at this;omega
def ago{x:ZP}(h:a[I]?=Zb x):a.toList.drop I=x::a.toList.drop (I+1):=by
 let#[hi,e]:=T9.mp h;rw[Od (by omega)];simp[<-e]
theorem Wt.push{x:ZP}(h:Wt T a b out I f)(c:a[I]?=Zb x):Wt T a b (out.push x) (I+1) f:=by
 unfold Wt at *;rw[ago c]at h;rw[FG];exact Md.many (l:=[x]) h
def Wt.ext(h:Wt T a b out I f):Wt T a b (out++a.extract I (I+k)) (I+k) f:=by
 unfold Wt at *;rw[yP];show Md.many ?_;rw[FE,FP,show I+k-I=k by lia,<-apt,KR];exact h
def fh(a:Array ZP)(i:Nat):(a.extract i a.size).toList=a.toList.drop i:=by
 rw[FE,FP];exact xg 02
def Wt.done(h:Wt (a.toList++b.toList) a b out I f):UL a b (out++a.extract I a.size++b.extract f b.size):=by
 unfold UL;simp only[yP,fh,VC];exact h
def Wt.last(h:Wt (a.toList++b.toList) a b out I f):UL a b (out++b.extract f b.size++a.extract I a.size):=by
 unfold UL;simp only[yP,fh,VC];exact Md.sw h
def Wb(T:Za ZP)(a b out:Array ZP)(n N:Nat):Prop:=Md T out.toList (a.toList.take n) (b.toList.take N)
theorem Wb.sw(h:Wb T a b out n N):Wb T b a out N n:=Md.sw h
theorem Wb.size(h:Wb (a.toList++b.toList) a b out n N)(e:n<=a.size)(c:N<=b.size):out.size+n+N=a.size+b.size:=by
 have:=apn h;simp at this;lia
theorem Wb.push{x:ZP}(h:Wb T a b out n N)(e:0<n)(c:a[n-1]?=Zb x):Wb T a b (out.push x) (n-1) N:=by
 let#[m,U]:∃m,n=m+1:=#[n-1,00]
 rw[Nat.add_sub_cancel]at c⊢;unfold Wb at *;rw[List.take_succ]at h;rw[FG];exact Md.back (l:=[x]) (by simpa [c]using h)
def Wb.ext(c:k<=n)(h:Wb T a b out n N):Wb T a b (out++(a.extract k n).reverse) k N:=by
 unfold Wb at *;rw[yP,aoD];show Md.back ?_;rw[FE,FP,<-apQ,show k+(n-k)=n by lia];exact h
def Wb.done(h:Wb (a.toList++b.toList) a b out n N):UL a b (a.extract 0 n++b.extract 0 N++out.reverse):=by
 unfold UL;show Q8 ?_ h;simp only[yP,aoD,FE,FP,apu,nA];exact FY.trans ((apO _).append_right _)
def Wb.first(h:Wb (a.toList++b.toList) a b out n N):UL a b (b.extract 0 N++a.extract 0 n++out.reverse):=Q8 (Wb.done (Wb.sw (h.trans FY))) FY
end
def Zv(st a:Yj):Prop:=∃g,a=nN (Ww st) (Yd st) (Vt st) g (QS st)
def Zv.kind{st a:Yj}(h:Zv st a):Ww a=Ww st:=by let#[g,U]:=h;rfl
def Zv.set{st a:Yj}(h:Zv st a)(g:Nat):Zv st (nN (Ww a) (Yd a) (Vt a) g (QS a)):=by let#[g,U]:=h;exact#[_,U]
def fj{st b:Yj}{g:Nat}{Q:Unit->Yj->Prop}(c:Zv st b)(h:∀a,Zv st a->Q () a):Xu M A E s (agn g) Q b:=
 Ls (h _ (c.set g))
def Cd{u v a:Type}{j:Unit->u->v->StateT Yj Vb a}{X:StateT Yj Vb a}{Q:a->Yj->Prop}{st:Yj}(P:u->v->Prop)(b:∀o i,P o i->Xu M A E s (j () o i) Q st)(h:(∀o i,P o i->Xu M A E s (j () o i) Q st)->Xu M A E s X Q st):Xu M A E s X Q st:=h b
def fk{a:Type}{c:Prop}[Decidable c]{j:Unit->Nat->StateT Yj Vb a}{Q:a->Yj->Prop}{st:Yj}{g1 g2:Nat}(h:∀g,Xu M A E s (j () g) Q st):Xu M A E s (if c then j () g1 else j () g2) Q st:=YL (λO=>h _) λO=>h _
abbrev ux{e c b f a:Type}(R:a->Yj->Prop)(J I:e->c->b->Yj->Prop):ForInStep (Option a×e×c×b×f)->Yj->Prop
 |.done (Zb d,_),st=>R d st
 |.done (Zc,x,y,z,_),st=>J x y z st
 |.yield (Zc,x,y,z,_),st=>I x y z st
 |.yield (Zb _,_),_=>False
def Ic{g e b j m n:Type}{lo hi:Nat}{f:Nat->Option m×g×e×b×j->StateT Yj Vb (ForInStep (Option m×g×e×b×j))}{k:Option m×g×e×b×j->StateT Yj Vb n}{Q:n->Yj->Prop}(I:Nat->g->e->b->Yj->Prop)(R:m->Yj->Prop)(J:g->e->b->Yj->Prop){x:g}{y:e}{z:b}{r:j}{st:Yj}(h:I lo x y z st)
  (w:∀i x y z r st,i<hi->I i x y z st->Xu M A E s (f i (Zc,x,y,z,r)) (ux R J (I (i+1))) st)
  (B:∀x y z st,I (max lo hi) x y z st->J x y z st)(u:∀d o st,R d st->Xu M A E s (k (Zb d,o)) Q st)(q:∀x y z r st,J x y z st->Xu M A E s (k (Zc,x,y,z,r)) Q st):Xu M A E s (Jd [lo:hi] (Zc,x,y,z,r) f >>= k) Q st:=by
 show ZS (QZ (Oq (λi c st=>ux R J (I i) (.yield c) st) (Q:=λc st=>ux R J (I lo) (.done c) st) (λi c st O C a=>?_) (λc st a=>?_) h) λc st a=>?_)<;>obtain⟨_ | d,x,y,z,r⟩:=c;{show QZ (w i x y z r st C a) λc p h=>?_;obtain⟨_|d,x,y,z,r⟩|⟨_|d,x,y,z,r⟩:=c<;>exact h};{exact a.elim};{exact B _ _ _ _ a};{exact a.elim};{exact q _ _ _ _ _ a};exact u _ _ _ a
def GJ(a b o:Array ZP)(I i n:Nat):Prop:=Wt (a.toList++b.toList) a b o I i/\I+1<a.size/\i<b.size/\n<=o.size
def agp{a b:Array ZP}{st:Yj}{Q:Array ZP->Yj->Prop}(hL:Re M A E s kd P le)(hk:Ww st=kd)(ha:0<a.size)(hb:0<b.size)
 (pa:Qx P a)(pb:Qx P b)(h:∀e f,UL a b e->Zv st f->Q e f):Xu M A E s (agl a b) Q st:=by
 obtain⟨y0,Y,-⟩:=pb 0 hb;show ZS (Ji (WD #[U,?_]));show ZS (Vo Y ?_);have m0:Wt (a.toList++b.toList) a b [y0].toArray 0 1:=(Wt.push (a:=b) (b:=a) (out:=#[]) (Wt.sw (apo _)) Y).sw;show YL (λe1=>Yb (h _ _ m0.done #[_,U])) (λe1=>?_);show YL (λe2=>Yb (h _ _ m0.last #[_,U])) (λe2=>?_);simp only[Wo]at e1 e2;show ZS (Ot ?_);show Ic (λx e p I f=>Zv st f/\GJ a b e p I (x+1)) (λr f=>UL a b r/\Zv st f) (λO O O O=>False) #[#[_,U],m0,00,00,02] (λx e p I mg B hx hI=>?_) (λe p I B h=>?_) (λr o B J=>Yb (h _ _ J.1 J.2)) (λO O O O O h=>h.elim)
 ·show Ic (λz e p I f=>Zv st f/\GJ a b e p I (x+1+z)) (λr f=>UL a b r/\Zv st f) (λe p I f=>Zv st f/\GJ a b e p I (x+2)) hI (λz e p I ac L hz h=>?_) (λe p I L h=>?_) (λr o B J=>Yb J) (λe p I r L hI=>?_);{let#[n,m,i1,G,N]:=h;let#[xa,w,qa]:=pa p 00;let#[xb,u,qb]:=pb I G;dsimp only;show ZS (Vo u (ZS (Vo w (ZS (hL _ _ _ _ (n.kind.trans hk) qb qa λc O O=>?_)))));show YL (λc1=>?_) (λc1=>?_);{show ZS (Vo u ?_);have y:=(Wt.push (a:=b) (b:=a) m.sw u).sw;show YL (λC=>?_) (λC=>?_);{exact Yb #[y.done,n]};simp only[Wo]at C;exact YL (λO=>Yb #[n,y,00,00,by simp<;>lia]) (λO=>Yb #[n,y,00,00,by simp<;>lia])};show ZS (Vo w ?_);have y:=Wt.push m w;show YL (λC=>?_) (λC=>?_);{exact Yb #[y.last,n]};simp only[Wo]at C;exact YL (λO=>Yb #[n,y,00,00,by simp<;>lia]) (λO=>Yb #[n,y,00,00,by simp<;>lia])};{let#[n,m,i1,G,N]:=h;exact#[n,m,i1,G,00]};show ZS (Ji (WD #[U,?_]));show Ic (λz e p I f=>Zv st f/\GJ a b e p I (x+2)) (λr f=>UL a b r/\Zv st f) (λe p I f=>Zv st f/\GJ a b e p I (x+2)) hI (λz e p I r st3 hz h=>?_) (λO O O O h=>h) (λr o B J=>Yb J) (λe p I r st3 h=>ZS (Ls (Yb #[?_,h.2])))
  ·let#[n,m,i1,G,N]:=h;let#[xb,u,qb]:=pb I G;extract_lets +onlyGivenNames s o s i s j s g s q r;extract_lets g jp;subst g;show fk (j:=jp) λg=>?_;unfold jp;clear jp;show ZS (fj n λst4 n=>?_);show ZS (Vo u ?_);show ZS (Ib hL (n.kind.trans hk) qb pa 00 00 λk k1=>?_);have y:=m.ext (k:=k);dsimp -zeta only;extract_lets q jp o i;subst q o i;show Cd (j:=jp) (λo i=>Wt (a.toList++b.toList) a b o i I/\i+1<a.size/\x+2<=o.size) ?_ λZ=>?_
   ·rintro o i ⟨y,ika,N⟩;unfold jp;clear jp;show ZS (Vo u ?_);have m3:=(Wt.push (a:=b) (b:=a) y.sw u).sw;show YL (λc3=>?_) (λc3=>?_);{exact Yb #[m3.done,n]};simp only[Wo]at c3;let#[xa,w,qa]:=pa i (ap7 ika);show ZS (Vo w ?_);show ZS (Ib hL (n.kind.trans hk) qa pb 00 00 λk2 k21=>?_);have m4:=(Wt.ext (a:=b) (b:=a) (k:=k2) m3.sw).sw;dsimp -zeta only;extract_lets r v jp o j;subst r v o j;show Cd (j:=jp) (λo j=>Wt (a.toList++b.toList) a b o i j/\j<b.size/\x+2<=o.size) ?_ λZ=>?_;{rintro o j ⟨m4,ikb,N⟩;unfold jp;clear jp;show ZS (Vo w ?_);have m5:=Wt.push m4 w;show YL (λc5=>?_) (λc5=>?_);{exact Yb #[m5.last,n]};simp only[Wo]at c5;exact YL (λO=>Yb #[n,m5,00,00,by simp<;>lia]) (λO=>Yb #[n,m5,00,00,by simp<;>lia])};show YL (λc4=>?_) (λc4=>?_);{show YL (λc5=>?_) (λc5=>?_);{exact Yb #[m4.done,n]};simp only[Wo]at c5;exact Z _ _ #[m4,00,by simp<;>lia]};have ek:k2=0:=00
    subst ek;exact Z _ _ #[m3,00,by simp<;>lia]
   show YL (λc1=>?_) (λc1=>?_);{show YL (λC=>?_) (λC=>?_);{exact Yb #[y.last,n]};show YL (λc3=>?_) (λc3=>?_);{exact Yb #[y.done,n]};simp only[Wo]at C c3;exact Z _ _ #[y,00,by simp<;>lia]};have ek:k=0:=00
   subst ek;exact Z _ _ #[m,00,00]
  let#[g,U]:=h.1;exact#[_,U]
 let#[n,m,i1,G,N]:=h;have:=m.size 00 00;lia
end
end LS
namespace LS
section
variable {M:Qe}{A:Yr}{E:Zh->Zj->Prop}{s:Zj}{kd:QQ}{P:ZP->Prop}{le:ZP->ZP->Prop}
def GK(a b o:Array ZP)(c N n:Nat):Prop:=Wb (a.toList++b.toList) a b o c N/\0<c/\c<=a.size/\1<N/\N<=b.size/\n<=o.size
def agq{a b:Array ZP}{st:Yj}{Q:Array ZP->Yj->Prop}(hL:Re M A E s kd P le)(hk:Ww st=kd)(ha:0<a.size)(hb:0<b.size)
 (pa:Qx P a)(pb:Qx P b)(h:∀e f,UL a b e->Zv st f->Q e f):Xu M A E s (agm a b) Q st:=by
 obtain⟨x0,hx0,-⟩:=pa (a.size-1) 00;show ZS (Ji (WD #[U,?_]));show ZS (Vo hx0 ?_);have m0:Wb (a.toList++b.toList) a b [x0].toArray (a.size-1) b.size:=Wb.push (out:=#[]) (by unfold Wb Md;rw[xg 02,xg 02];exact apo _) ha hx0;show YL (λe1=>Yb (h _ _ m0.done #[_,U])) (λe1=>?_);show YL (λe2=>Yb (h _ _ m0.first #[_,U])) (λe2=>?_);simp only[Wo]at e1 e2;show ZS (Ot ?_);show Ic (λx p N e f=>Zv st f/\GK a b e p N (x+1)) (λr f=>UL a b r/\Zv st f) (λO O O O=>False) #[#[_,U],m0,00,00,00,00,02] (λx p N e mg C hx hI=>?_) (λp N e C h=>?_) (λr o C J=>Yb (h _ _ J.1 J.2)) (λO O O O O h=>h.elim);{show Ic (λz p N e f=>Zv st f/\GK a b e p N (x+1+z)) (λr f=>UL a b r/\Zv st f) (λp N e f=>Zv st f/\GK a b e p N (x+2)) hI (λz p N e ac L hz h=>?_) (λp N e L h=>?_) (λr o C J=>Yb J) (λp N e r L hI=>?_);{let#[i,m,G,Z,i3,i4,I]:=h;let#[xa,y,qa]:=pa (p-1) 00;let#[xb,u,qb]:=pb (N-1) 00;dsimp only;show ZS (Vo u (ZS (Vo y (ZS (hL _ _ _ _ (i.kind.trans hk) qb qa λc O O=>?_)))));show YL (λc1=>?_) (λc1=>?_);{show ZS (Vo y ?_);have B:=Wb.push m G y;show YL (λc2=>?_) (λc2=>?_);{exact Yb #[B.done,i]};simp only[Wo]at c2;exact YL (λO=>Yb #[i,B,00,00,00,00,by simp<;>lia]) (λO=>Yb #[i,B,00,00,00,00,by simp<;>lia])};show ZS (Vo u ?_);have B:=(Wb.push (a:=b) (b:=a) m.sw 00 u).sw;show YL (λc2=>?_) (λc2=>?_);{exact Yb #[B.first,i]};simp only[Wo]at c2;exact YL (λO=>Yb #[i,B,00,00,00,00,by simp<;>lia]) (λO=>Yb #[i,B,00,00,00,00,by simp<;>lia])};{let#[i,m,G,Z,i3,i4,I]:=h;exact#[i,m,G,Z,i3,i4,00]};show ZS (Ji (WD #[U,?_]));show Ic (λz p N e f=>Zv st f/\GK a b e p N (x+2)) (λr f=>UL a b r/\Zv st f) (λp N e f=>Zv st f/\GK a b e p N (x+2)) hI (λz p N e r st3 hz h=>?_) (λO O O O h=>h) (λr o C J=>Yb J) (λp N e r st3 h=>ZS (Ls (Yb #[?_,h.2])));{let#[i,m,G,Z,i3,i4,I]:=h;let#[xb,u,qb]:=pb (N-1) 00;extract_lets +onlyGivenNames s n s j s o s g s q r;extract_lets g jp;subst g;show fk (j:=jp) λg=>?_;unfold jp;clear jp;show ZS (fj i λst4 i=>?_);show ZS (Vo u ?_);show ZS (Ib hL (i.kind.trans hk) qb pa 00 00 λk k1=>?_);have B:=m.ext k1;dsimp -zeta only;extract_lets q v jp o n;subst q v o n;show Cd (j:=jp) (λn o=>Wb (a.toList++b.toList) a b o n N/\0<n/\n<=a.size/\x+2<=o.size) ?_ λhj=>?_;{rintro n o ⟨B,j0,j1,I⟩;unfold jp;clear jp;show ZS (Vo u ?_);have m3:=(Wb.push (a:=b) (b:=a) B.sw 00 u).sw;show YL (λc3=>?_) (λc3=>?_);{exact Yb #[m3.first,i]};simp only[Wo]at c3;let#[xa,y,qa]:=pa (n-1) 00;show ZS (Vo y ?_);show ZS (Ib hL (i.kind.trans hk) qa pb 00 00 λk2 k21=>?_);have Y:=(Wb.ext (a:=b) (b:=a) k21 m3.sw).sw;dsimp -zeta only;extract_lets r v w jp o j;subst r v w o j;show Cd (j:=jp) (λj o=>Wb (a.toList++b.toList) a b o n j/\1<j/\j<=b.size/\x+2<=o.size) ?_ λhj=>?_;{rintro j o ⟨Y,j2,j3,I⟩;unfold jp;clear jp;show ZS (Vo y ?_);have m5:=Wb.push Y j0 y;show YL (λc5=>?_) (λc5=>?_);{exact Yb #[m5.done,i]};simp only[Wo]at c5;exact YL (λO=>Yb #[i,m5,00,00,j2,j3,by simp<;>lia]) (λO=>Yb #[i,m5,00,00,j2,j3,by simp<;>lia])};show YL (λc4=>?_) (λc4=>?_);{show YL (λc5=>?_) (λc5=>?_);{exact Yb #[Y.first,i]};show YL (λc6=>?_) (λc6=>?_);{exact Yb #[Y.done,i]};simp only[Wo]at c5 c6;exact hj _ _ #[Y,00,00,by simp<;>lia]};exact hj _ _ #[m3,00,00,by simp<;>lia]};show YL (λc1=>?_) (λc1=>?_);{show YL (λc3=>?_) (λc3=>?_);{exact Yb #[B.done,i]};simp only[Wo]at c3;exact hj _ _ #[B,00,00,by simp<;>lia]};exact hj _ _ #[m,G,Z,I]};let#[g,U]:=h.1;exact#[_,U]};let#[i,m,G,Z,i3,i4,I]:=h;have:=m.size 00 00;lia
end
end LS
namespace LS
section
variable {M:Qe}{A:Yr}{E:Zh->Zj->Prop}{s:Zj}{kd:QQ}{P:ZP->Prop}{le:ZP->ZP->Prop}
theorem fq{base:Nat}{post:Za ZP}:∀(l:Za ZP) (m:Nat) (arr:Array ZP) (pre b:Za ZP),arr.toList=pre++(b++post)->b.length=l.length->pre.length=base+m->
  ((l.zipIdx m).foldl (λa (p,j)=>a.setIfInBounds (base+j) p) arr).toList=pre++(l++post)
 |[],m,arr,pre,b,f,c,g=>by
  have e:=oX.mp c;subst e;exact f
 |p::L,m,arr,pre,b,f,c,g=>by
  match b,c with
  |q::i,c=>
   rw[M9,Rr];have:=fq (base:=base) (post:=post) L (m+1) (arr.setIfInBounds (base+m) p) (pre++[p]) i (by
    rw[aoE,f,<-g]
    simp) ↑c (by simp;lia)
   rw[this];simp
def agr{st a:Yj}{Q:PUnit->Yj->Prop}(h:Q ⟨⟩ a):Xu M A E s (set a:StateT Yj Vb PUnit) Q st:=by
 unfold Xu;exact Zm #[U,h]
def ags{st:Yj}{i p q l x y:Nat}{Q:Bool->Yj->Prop}(L:Re M A E s kd P le)(e:Ww st=kd)(u:QS st=Zc)(f:Qx P (Yd st))(B:0<x)(y0:0<y)(hl:l+x+y<=(Yd st).size)
 (Y:(Vt st)[i]?=Zb (l,x,p))(N:(Vt st)[i+1]?=Zb (l+x,y,q))
 (h:∀c,Ww c=kd->QS c=Zc->Vt c=((Vt st).setIfInBounds i (l,x+y,p)).eraseIdxIfInBounds (i+1)->(Yd c).Perm (Yd st)->Q Zd c):Xu M A E s (mergeAt' i) Q st:=by
 let#[b,hb,I]:=f (l+x) 00;show ZS (Ot ?_);dsimp only;rw[Y,N];show ZS (agr ?_);generalize hPD:((Vt st).setIfInBounds i (l,x+y,p)).eraseIdxIfInBounds (i+1)=PD at h⊢;show ZS (Vo hb ?_);show ZS (Ib L e I f 00 B λk k1=>?_);show YL (λw=>Yb (h _ e u U (T8 _))) (λw=>?_);simp only[Wo]at w;let#[z,Z,G]:=f (l+k+(x-k)-1) 00;show ZS (Vo Z ?_);show ZS (Ib L e G f hl 00 λn n1=>?_);show YL (λC=>Yb (h _ e u U (T8 _))) (λC=>?_);simp only[Wo]at C;have sub:∀i j,Qx P ((Yd st).extract i j):=λi j k e=>by
  let#[x,hx,J]:=f (i+k) (by simp at e;lia);show#[x,?_,J];rw[Array.getElem?_extract,Zt (by simp at e;lia),hx]
 have fin:∀o c,UL ((Yd st).extract (l+k) (l+x)) ((Yd st).extract (l+x) (l+x+n)) o->Zv (nN (Ww st) (Yd st) PD (gallopOf st) (QS st)) c->
   Xu M A E s (do
    modify λs=>nN (Ww s) (oV (λa x=>a.setIfInBounds (l+k+x.snd) x.fst) (Yd s) o.toList.zipIdx) (Vt s) (gallopOf s) (QS s)
    let s <-get
    ZR (QS s).isNone) Q c:=by
  rintro o c m ⟨g,rfl⟩;show ZS (Ls (ZS (Ot (Yb ?_))));rw[u];show h _ e U U ?_;unfold UL at m;rw[FE,FE,FP,FP,show l+x-(l+k)=x-k by lia,show l+x+n-(l+x)=n by lia,show(Yd st).toList.drop (l+x)=((Yd st).toList.drop (l+k)).drop (x-k)by rw[apt,show l+k+(x-k)=l+x by lia],<-apQ]at m;show oA.mpr (Q8 (List.Perm.of_eq (fq (post:=((Yd st).toList.drop (l+k)).drop (x-k+n)) o.toList 0 (Yd st) ((Yd st).toList.take (l+k)) (((Yd st).toList.drop (l+k)).take (x-k+n)) ?_ ?_ ?_)) ?_);{rw[KR,KR]};{exact m.length_eq.symm};{simp;lia};show(oQ _ (m.append_right _)).trans ?_;rw[KR,KR]
 have sz:∀i j,i<=j->j<=(Yd st).size->((Yd st).extract i j).size=j-i:=λi j O O=>by simp;lia
 show YL (λO=>?_) (λO=>?_);{exact ZS (agp L e (by rw[sz _ _ 00 00];lia) (by rw[sz _ _ 00 00];lia) (sub _ _) (sub _ _) fin)};exact ZS (agq L e (by rw[sz _ _ 00 00];lia) (by rw[sz _ _ 00 00];lia) (sub _ _) (sub _ _) fin)
end
end LS
namespace LS
section
variable {M:Qe}{A:Yr}{E:Zh->Zj->Prop}{s:Zj}{kd:QQ}{P:ZP->Prop}{le:ZP->ZP->Prop}{PD:Array (Nat×Nat×Nat)}{a0:Array ZP}{lo:Nat}
noncomputable def kx(arr:Array ZP)(i:Nat):ZP:=(arr[i]?).getD (.none,.none)
structure SE (le:ZP->ZP->Prop):Prop where
 rf:∀a,le a a
 tr:∀{a b c},le a b->le b c->le a c
def SE.op(h:SE le):SE λa b=>le b a:=#[h.rf,λa b=>h.tr b a]
structure Ud (kd:QQ)(PD:Array (Nat×Nat×Nat))(a0:Array ZP)(st:Yj):Prop where
 kind:Ww st=kd
 failed:QS st=Zc
 pend:Vt st=PD
 perm:(Yd st).Perm a0
theorem Ud.size{st:Yj}(h:Ud kd PD a0 st):(Yd st).size=a0.size:=h.perm.size_eq
def Ud.set{st:Yj}(h:Ud kd PD a0 st){x:Array ZP}(p:x.Perm (Yd st)):Ud kd PD a0 (setArr st x):=#[h.kind,h.failed,h.pend,p.trans h.perm]
def Ie{st:Yj}{i j:Nat}{Q:Option Bool->Yj->Prop}(L:Re M A E s kd P le)(m:∀x∈a0.toList,P x)(c:Ud kd PD a0 st)(hi:i<a0.size)(g:j<a0.size)(h:∀b,(b=Zd->le (kx (Yd st) i) (kx (Yd st) j))->(b=Zi->le (kx (Yd st) j) (kx (Yd st) i))->Q (Zb b) st):Xu M A E s (ltAt' i j) Q st:=by
 have p:=Qx.of m λx a=>(oA.mp c.perm).mem_iff.mp a;let#[x,a,f]:=p i (by rw[c.size];exact hi);let#[y,e,py]:=p j (by rw[c.size];exact g);show ZS (Ot ?_);unfold kx at h;rw[a,e]at h;exact ZS (Vo a (ZS (Vo e (L _ _ _ _ c.kind f py h))))
def Wz(le:ZP->ZP->Prop)(arr:Array ZP)(lo n:Nat):Prop:=∀i j,i<=j->j<n->le (kx arr (lo+i)) (kx arr (lo+j))
def Uj(le:ZP->ZP->Prop)(arr:Array ZP)(lo n:Nat):Prop:=Wz (λa b=>le b a) arr lo n
def Wz.one{arr:Array ZP}(o:SE le):Wz le arr lo 1:=λi j b a=>by rw[show i=j by lia];exact o.rf _
def Wz.next{arr:Array ZP}{n:Nat}(o:SE le)(h:Wz le arr lo n)(c:0<n)(e:le (kx arr (lo+n-1)) (kx arr (lo+n))):Wz le arr lo (n+1):=λi j b f=>by
 by_cases a:j<n;{exact h i j b a};obtain rfl:=NC (NF f) (SH a);rcases apY b with rfl|hi;{exact o.rf _};exact o.tr (h i _ (Nat.le_sub_one_of_lt hi) (Nat.sub_lt c nv)) (by rw[<-Nat.add_sub_assoc c];exact e)
theorem Uj.next{arr:Array ZP}{n:Nat}(o:SE le)(h:Uj le arr lo n)(b:0<n)(a:le (kx arr (lo+n)) (kx arr (lo+n-1))):Uj le arr lo (n+1):=Wz.next o.op h b a
def uy{arr:Array ZP}{i j:Nat}(a:j<=arr.size)(k:Nat):kx (mirror arr i j ((j-i)/2)) k=if i<=k/\k<j then kx arr (i+j-1-k)else kx arr k:=by
 unfold kx;rw[getElem?_mirror_all a];split<;>rfl
def yM(le:ZP->ZP->Prop)(arr:Array ZP)(lo m n:Nat):Prop:=∀i j,m<=i->i<n->m<=j->j<n->le (kx arr (lo+i)) (kx arr (lo+j))
def uz{m n i:Nat}(f:m<=i)(c:i<n):lo+m+(lo+n)-1-(lo+i)=lo+(m+n-1-i)/\m<=m+n-1-i/\m+n-1-i<n:=by
 let#[a,U]:=K6 f;let#[b,U]:=ap0 c;have e:m+(m+a+b+1)-1-(m+a)=m+b:=J2 (show m+(m+a+b)=m+b+(m+a)by omega);rw[e];exact#[J2 (show lo+m+(lo+(m+a+b))=lo+(m+b)+(lo+(m+a))by omega),Rv _ _,by omega]
theorem Uj.mirror{arr:Array ZP}{m n k:Nat}(h:Uj le arr lo k)(a:n<=k)(g:lo+k<=arr.size)(o:yM le arr lo m n):Uj le (mirror arr (lo+m) (lo+n) ((lo+n-(lo+m))/2)) lo k:=λi j u b=>by
 have z:=Yp (K4 a lo) g;rw[uy z,uy z];by_cases C:lo+m<=lo+j/\lo+j<lo+n;{let#[w,f,p]:=uz (lo:=lo) (K7 C.1) (K8 C.2);rw[Zt C,w];by_cases c:lo+m<=lo+i/\lo+i<lo+n;{let#[e,Q,q]:=uz (lo:=lo) (K7 c.1) (K8 c.2);rw[Zt c,e];exact o _ _ f p Q q};rw[Zq c];exact h _ _ 00 (YK p a)};rw[Zq C];by_cases c:lo+m<=lo+i/\lo+i<lo+n;{let#[e,Q,q]:=uz (lo:=lo) (K7 c.1) (K8 c.2);rw[Zt c,e];exact h _ _ 00 b};rw[Zq c];exact h _ _ u b
def Uj.turn{arr:Array ZP}{n:Nat}(h:Uj le arr lo n)(e:lo+n<=arr.size):Wz le (aqo arr lo (lo+n) ((lo+n-lo)/2)) lo n:=λi j c a=>by
 have f:∀i,i<n->kx (aqo arr lo (lo+n) ((lo+n-lo)/2)) (lo+i)=kx arr (lo+(n-1-i)):=λi hi=>by
  rw[uy e,Zt #[Rv _ _,K5 hi lo],show lo+(lo+n)-1-(lo+i)=lo+(n-1-i)by let#[b,U]:=ap0 hi;exact J2 (show lo+(lo+(i+b))=lo+(i+b-i)+(lo+i)by rw[ng];omega)]
 rw[f i (Hf c a),f j a];exact h _ _ (Nat.sub_le_sub_left c _) 00
def Ce{st:Yj}{i j:Nat}{Q:Unit->Yj->Prop}(b:Ud kd PD a0 st)(h:∀a,Ud kd PD a0 a->Yd a=mirror (Yd st) i j ((j-i)/2)->Q () a):Xu M A E s (reverseSlice' i j) Q st:=by
 rw[reverseSlice'_eq];exact Ls (h _ (b.set (mirror_perm _ _ _ _)) U)
def fu(o:SE le){a:Yj}{i N:Nat}{f:Nat->Option (Option Nat)×Nat->StateT Yj Vb (ForInStep (Option (Option Nat)×Nat))}{w:Type}{g:Option (Option Nat)×Nat->StateT Yj Vb w}{Q:w->Yj->Prop}(u:1<=i)(z:i<=N)(Z:Wz le (Yd a) lo i)
 (Y:∀x (R:ForInStep (Option (Option Nat)×Nat)->Yj->Prop),i<=x->x<N->(le (kx (Yd a) (lo+x)) (kx (Yd a) (lo+x-1))->R (.done (Zc,x)) a)->(le (kx (Yd a) (lo+x-1)) (kx (Yd a) (lo+x))->R (.yield (Zc,x+1)) a)->Xu M A E s (f x (Zc,x)) R a)
 (h:∀n,1<=n->n<=N->Wz le (Yd a) lo n->(n=N\/le (kx (Yd a) (lo+n)) (kx (Yd a) (lo+n-1)))->Xu M A E s (g (Zc,n)) Q a):Xu M A E s (Jd [i:N] (Zc,i) f >>= g) Q a:=by
 show ZS (QZ (Oq (I:=λx c b=>a=b/\c=(Zc,x)/\Wz le (Yd a) lo x)
  (Q:=λc b=>a=b/\∃n,c=(Zc,n)/\1<=n/\n<=N/\Wz le (Yd a) lo n/\(n=N\/le (kx (Yd a) (lo+n)) (kx (Yd a) (lo+n-1)))) ?_ ?_ #[U,U,Z]) ?_)
 {rintro x c b e y ⟨q,p,j⟩;subst q;subst p;exact Y x _ e y (λC=>#[U,x,U,Yp u e,Uo y,j,.inr C]) λC=>#[U,U,j.next o (Yp u e) C]};{rintro c b ⟨q,p,j⟩;subst q;subst p;rw[Nat.max_eq_right z]at j⊢;exact#[U,N,U,Yp u z,ZU _,j,.inl U]};rintro c b ⟨q,m,p,L,J,G,B⟩;subst q;subst p;exact h m L J G B
def wpS_countRun(o:SE le){y:Yj}{g:Nat}{Q:Option Nat->Yj->Prop}(hL:Re M A E s kd P le)(hP:∀x∈a0.toList,P x)(q:Ud kd PD a0 y)(h1:1<=g)(hn:lo+g<=a0.size)
 (h:∀m a,Ud kd PD a0 a->1<=m->m<=g->Wz le (Yd a) lo m->Q (Zb m) a):Xu M A E s (countRun' lo g) Q y:=by
 unfold countRun';show fu o (ZU 1) h1 (Wz.one o) (λx R hx1 hx r1 r2=>ZS (Ie hL hP q 00 00 λb t f=>YL (λc=>Yb (r1 (t c))) λc=>Yb (r2 (f ↑c)))) λn q1 q2 q3 q4=>?_;extract_lets +onlyGivenNames r m;subst r m;dsimp -zeta only;show YL (λZ=>?_) (λZ=>?_);{exact Yb (h n _ q q1 q2 q3)};have Z:n≠g:=↑Z
 have q4:=q4.resolve_left Z;extract_lets u v jp;subst u v;have hj:∀r B,Ud kd PD a0 B->Uj le (Yd B) lo (n+1)->Xu M A E s (jp r) Q B:=λr B hW2 d2=>by
  unfold jp;show ZS (Ji (WD #[U,?_]));show ZS (QZ (Oq (I:=λx c a=>∃N,c=(Zc,x,N)/\Ud kd PD a0 a/\Uj le (Yd a) lo x/\N+1<=x/\yM le (Yd a) lo (x-(N+1)) x)
   (Q:=λc a=>∃C N,c=(Zc,C,N)/\n+1<=C/\C<=g/\Ud kd PD a0 a/\Uj le (Yd a) lo C/\N+1<=C/\yM le (Yd a) lo (C-(N+1)) C) ?_ ?_ #[0,U,hW2,d2,00,λi j O O O O=>by rw[show i=j by lia];exact o.rf _]) ?_)
  ·rintro x c a hx1 hx ⟨N,e2,p,L,hq,G⟩;subst e2;dsimp only;show ZS (Ie hL hP p 00 00 λb t f=>?_);dsimp only;show YL (λZ=>?_) (λZ=>?_);{have d5:=L.next o 00 (t Z);show YL (λY=>?_) (λY=>?_);{show ZS (Ce p λy q e4=>?_);show Yb #[0,U,q,?_,00,λi j O O O O=>by rw[show i=j by lia];exact o.rf _];rw[e4,show lo+x-(N+1)=lo+(x-(N+1))by lia];exact Uj.mirror d5 00 (by rw[p.size];lia) G};exact Yb #[0,U,p,d5,00,λi j O O O O=>by rw[show i=j by lia];exact o.rf _]};show ZS (Ie hL hP p 00 00 λb t2 f2=>?_);dsimp only;show YL (λY=>?_) (λY=>?_);{exact Yb #[x,N,U,hx1,00,p,L,hq,G]};have c1':=f ↑Z;have c2':=f2 ↑Y;have d6:=L.next o 00 c2';rw[show lo+x-1=lo+(x-1)by lia]at c1' c2';show Yb #[N+1,U,p,d6,00,λi j h1 h2 h3 h4=>?_];have f1:∀i,x+1-(N+1+1)<=i->i<x+1->le (kx (Yd a) (lo+i)) (kx (Yd a) (lo+(x-1))):=λi h1 h2=>by
    by_cases hi:i=x;{rw[hi];exact c2'};exact G i (x-1) 00 00 00 00
   have f2:∀i,x+1-(N+1+1)<=i->i<x+1->le (kx (Yd a) (lo+(x-1))) (kx (Yd a) (lo+i)):=λi h1 h2=>by
    by_cases hi:i=x;{rw[hi];exact c1'};exact G (x-1) i 00 00 00 00
   exact o.tr (f1 i h1 h2) (f2 j h3 h4)
  {rintro c a ⟨N,e2,p,L,hq,G⟩;subst e2;rw[show max (n+1) g=g by lia]at L hq G⊢;exact#[g,N,U,00,00,p,L,hq,G]};rintro c a ⟨C,N,e2,h3,h3n,p,L,hq,G⟩;subst e2;extract_lets +onlyGivenNames r u v w;subst r u v w;dsimp -zeta only;extract_lets jp;have hj:∀r z,Ud kd PD a0 z->Uj le (Yd z) lo C->Xu M A E s (jp r) Q z:=λr z J d3=>by
   unfold jp;show ZS (Ce J λy q e4=>?_);have d4:=Uj.turn d3 (by rw[J.size];lia);rw[<-e4]at d4;exact fu o 00 h3n d4 (λx R hx1 hx r1 r2=>ZS (Ie hL hP q 00 00 λb t f=>YL (λc=>Yb (r1 (t c))) λc=>Yb (r2 (f ↑c)))) λn q1 q2 q3 q4=>Yb (h n _ q q1 q2 q3)
  show YL (λY=>?_) (λY=>?_);{show ZS (Ce p λz J e3=>hj () _ J ?_);rw[e3,show lo+C-(N+1)=lo+(C-(N+1))by lia];exact Uj.mirror L 00 (by rw[p.size];lia) G};exact hj () _ p L
 show YL (λY=>?_) (λY=>?_)
 ·show ZS (Ie hL hP q 00 00 λb t f=>?_);show YL (λc3=>?_) (λc3=>?_);{exact Yb (h n _ q q1 q2 q3)};have c3:=f ↑c3;have al:yM le (Yd y) lo 0 n:=λi j O h2 O h4=>by
   show o.tr (q3 i (n-1) 00 00) (o.tr ?_ (q3 0 j 00 h4));rw[show lo+(n-1)=lo+n-1 by lia];exact c3
  have d1:Uj le (Yd y) lo (n+1):=Uj.next o (λi j h1 h2=>al j i 00 h2 00 00) 00 q4;show ZS (Ce q λB hW2 e2=>hj () _ hW2 ?_);rw[e2];exact Uj.mirror (m:=0) d1 00 (by rw[q.size];lia) al
 have e:n=1:=00
 exact hj () _ q (Uj.next o (λi j h1 h2=>by rw[show i=j by lia];exact o.rf _) 00 q4)
def agt{arr:Array ZP}{c d:Nat}(a:c<arr.size)(hd:d<=c)(k:Nat):kx (xC arr c d) k=if k=c-d then kx arr c else if c-d<k/\k<=c then kx arr (k-1)else kx arr k:=by
 unfold kx;rw[getElem?_bubble a d hd];split;{rfl};split<;>rfl
def agu{arr:Array ZP}{k l:Nat}(a:lo+k<arr.size)(b:l<=k):(∀i,i<l->kx (xC arr (lo+k) (lo+k-(lo+l))) (lo+i)=kx arr (lo+i))/\kx (xC arr (lo+k) (lo+k-(lo+l))) (lo+l)=kx arr (lo+k)/\∀i,l<=i->i<k->kx (xC arr (lo+k) (lo+k-(lo+l))) (lo+(i+1))=kx arr (lo+i):=by
 have e:lo+k-(lo+k-(lo+l))=lo+l:=Nat.sub_sub_self (K4 b lo);have f:=agt a (ny (lo+k) (lo+l));rw[e]at f;show#[λi hi=>?_,?_,λi g c=>?_];{rw[f,Zq 00,Zq 00]};{rw[f,Zt U]};rw[f,Zq 00,Zt 00];rfl
def agv(o:SE le){arr:Array ZP}{k l:Nat}(p:lo+k<arr.size)(m:l<=k)(h:Wz le arr lo k)(q:∀i,i<l->le (kx arr (lo+i)) (kx arr (lo+k)))(B:∀i,l<=i->i<k->le (kx arr (lo+k)) (kx arr (lo+i))):Wz le (xC arr (lo+k) (lo+k-(lo+l))) lo (k+1):=by
 let#[f1,f2,f]:=agu p m;intro i j b a;rcases J0 i l with c|rfl|c
 ·rw[f1 i c];rcases J0 j l with d|rfl|d;{rw[f1 j d];exact h i j b (YK d m)};{rw[f2];exact q i c};cases j with
  |zero=>cases d
  |succ j=>rw[f j (NF d) (xi a)];exact h i j (Yp (Uo c) (NF d)) (xi a)
 ·rw[f2];rcases apY b with rfl|d;{rw[f2];exact o.rf _};cases j with
  |zero=>cases d
  |succ j=>rw[f j (NF d) (xi a)];exact B j (NF d) (xi a)
 cases j with
 |zero=>cases YK c b
 |succ j=>
  cases i with
  |zero=>cases c
  |succ i=>
   have g:=xi a;have e:=ap4 b;have n:=NF c;rw[f i n (Hf e g),f j (Yp n e) g];exact h i j e g
def wpS_binarySort(o:SE le){st:Yj}{n ok:Nat}{Q:Bool->Yj->Prop}(hL:Re M A E s kd P le)(hP:∀x∈a0.toList,P x)(hW:Ud kd PD a0 st)(Y:lo+n<=a0.size)(hok:1<=ok)(N:ok<=n)(hs:Wz le (Yd st) lo ok)
 (h:∀a,Ud kd PD a0 a->Wz le (Yd a) lo n->Q Zd a):Xu M A E s (binarySort' lo n ok) Q st:=by
 unfold binarySort';show ZS (QZ (Oq (I:=λk c a=>c=(Zc,())/\Ud kd PD a0 a/\Wz le (Yd a) lo k)
  (Q:=λc a=>c=(Zc,())/\Ud kd PD a0 a/\Wz le (Yd a) lo n) ?_ ?_ #[U,hW,by rw[show max ok 1=ok by lia];exact hs]) ?_)
 ·rintro k c a hk1 hk ⟨rfl,g,j⟩;dsimp only;show ZS (QZ (Oq (I:=λx c e=>a=e/\∃l r,c=(Zc,l,r)/\l<=r/\r<=k/\r+x<=k+l/\
    (∀i,i<l->le (kx (Yd a) (lo+i)) (kx (Yd a) (lo+k)))/\(∀i,r<=i->i<k->le (kx (Yd a) (lo+k)) (kx (Yd a) (lo+i))))
   (Q:=λc e=>a=e/\∃l r,c=(Zc,l,r)/\l<=k/\
    (∀i,i<l->le (kx (Yd a) (lo+i)) (kx (Yd a) (lo+k)))/\(∀i,l<=i->i<k->le (kx (Yd a) (lo+k)) (kx (Yd a) (lo+i)))) ?_ ?_ #[U,0,k,U,Wg _,ZU _,ZU _,λi hi=>(Nat.not_lt_zero _ hi).elim,λi p C=>(Nat.not_lt_of_le p C).elim]) ?_)
  ·rintro x c e _ hx ⟨rfl,l,r,rfl,w,B,J,u,q⟩;dsimp only;show YL (λc1=>?_) (λc1=>?_);{obtain rfl:=NC w c1;exact Yb #[U,_,_,U,B,u,q]};have Z:l<=(l+r)/2/\(l+r)/2<r:=00
   generalize (l+r)/2=m at Z⊢;let#[m1,L]:=Z;have y:=YK L B;exact ZS (Ie hL hP g (YK (K5 hk lo) Y) (YK (K5 (xj y hk) lo) Y) λb t f=>YL (λG=>Yb #[U,l,m,U,m1,Uo y,00,u,λi p C=>o.tr (t G) (j _ _ p C)]) (λG=>Yb #[U,m+1,r,U,L,B,00,λi p=>o.tr (j i m (NF p) y) (f ↑G),q]))
  ·rintro c e ⟨rfl,l,r,rfl,w,B,J,u,q⟩;obtain rfl:l=r:=00
   exact#[U,_,_,U,B,u,q]
  rintro c e ⟨rfl,l,r,rfl,w,B,J⟩;dsimp only;have z:lo+k<(Yd a).size:=by rw[g.size];lia
  exact ZS (Ls (Yb #[U,g.set (bubble_perm (Yd a) (lo+k) (lo+k-(lo+l))),agv o z w j B J]))
 {rintro c a ⟨rfl,g,j⟩;show#[U,g,?_];rwa [show max (max ok 1) n=n by lia]at j};rintro c a ⟨rfl,g,j⟩;exact Yb (h _ g j)
end
end LS
namespace LS
section
variable {M:Qe}{A:Yr}{E:Zh->Zj->Prop}{s:Zj}{kd:QQ}{P:ZP->Prop}{le:ZP->ZP->Prop}{a0:Array ZP}{rs:Za Nat}{st:Yj}
noncomputable def Ke(t:Nat×Nat×Nat):Nat×Nat:=(t.1,t.2.1)
noncomputable def UM:Nat->Za Nat->Za (Nat×Nat)
 |_,[]=>[]
 |n,r::rs=>(n,r)::UM (n+r) rs
theorem GL:∀(n:Nat) (rs:Za Nat),(UM n rs).length=rs.length
 |_,[]=>rfl
 |n,r::rs=>by rw[UM,Yu,GL _ rs,Yu]
theorem Cg:∀(n:Nat) (rs a:Za Nat),UM n (rs++a)=UM n rs++UM (n+rs.sum) a
 |n,[],a=>by simp[UM]
 |n,r::rs,a=>by
  rw[Nw,UM,UM,Cg _ rs a,Nw,nc,xh]
structure Vy (kd:QQ)(le:ZP->ZP->Prop)(a0:Array ZP)(rs:List Nat)(st:Yj):Prop where
 kind:Ww st=kd
 failed:QS st=Zc
 perm:(Yd st).Perm a0
 pos:∀r∈rs,0<r
 sum:rs.sum<=a0.size
 pend:(Vt st).toList.map Ke=UM 0 rs
 small:a0.size<64->rs=[]\/rs=[a0.size]/\Wz le (Yd st) 0 a0.size
def fw{p:Array (Nat×Nat×Nat)}{i a b:Nat}{l:Za (Nat×Nat)}(h:p.toList.map Ke=l)(hi:l[i]?=Zb (a,b)):∃w,p[i]?=Zb (a,b,w):=by
 rw[<-h,YC,Rn]at hi;cases e:p[i]? with
 |none=>rw[e]at hi;cases hi
 |some t=>
  rw[e]at hi;let#[x,y,w]:=t;simp only[KU,xl,Ke,Prod.mk.injEq]at hi;let#[U,U]:=hi;exact#[w,U]
theorem fA{b:Type}(x y v:b)(c:Za b):∀L:Za b,((L++x::y::c).set L.length v).eraseIdx (L.length+1)=L++v::c
 |[]=>rfl
 |a::L=>XI (a :: ·) (fA x y v c L)
theorem fB{b c:Type}(f:b->c):∀(l:Za b) (i:Nat),(l.eraseIdx i).map f=(l.map f).eraseIdx i
 |[],_=>rfl
 |_::_,0=>rfl
 |a::l,i+1=>XI (f a :: ·) (fB f l i)
def Vy.len(h:Vy kd le a0 rs st):(Vt st).size=rs.length:=by
 have:=XI Lc h.pend;rw[GL]at this;simpa using this
def Vy.merge{i:Nat}{Q:Bool->Yj->Prop}(N:Re M A E s kd P le)(L:∀x∈a0.toList,P x)(h:Vy kd le a0 rs st)(hi:i+1<rs.length)
 (J:∀f j,j.length+1=rs.length->j.sum=rs.sum->Vy kd le a0 j f->Q Zd f):Xu M A E s (mergeAt' i) Q st:=by
 let#[pre,x,y,post,U,U]:∃pre x y post,rs=pre++x::y::post/\i=pre.length:=#[rs.take i,rs[i],rs[i+1],rs.drop (i+2),02,by simp;lia]
 have g:=h.pend;have Y:UM 0 (pre++x::y::post)=UM 0 pre++(pre.sum,x)::(pre.sum+x,y)::UM (pre.sum+x+y) post:=by
  rw[Cg];simp[UM]
 rw[Y]at g;let#[w,q]:=fw (i:=pre.length) (a:=pre.sum) (b:=x) g (by rw[<-GL 0 pre];simp);let#[Z,o]:=fw (i:=pre.length+1) (a:=pre.sum+x) (b:=y) g (by rw[<-GL 0 pre,UR 00];simp);have I:=h.sum;simp at I;have p:=h.pos;have n:0<x:=p x 02;show ags N h.kind h.failed (Qx.of L λx G=>(oA.mp h.perm).mem_iff.mp G) n (p y 02) (by rw[h.perm.size_eq];lia) q o λf C B z u=>J f (pre++(x+y)::post) (by simp;lia) (by simp;lia) #[C,B,u.trans h.perm,λr m=>?_,by simp;lia,?_,λc=>?_];{rcases Xk.mp m with m|m;{exact p r (by simp[m])};rcases Yk.mp m with rfl|m;{lia};exact p r (by simp[m])};{rw[z,Array.toList_eraseIdxIfInBounds,aoE,fB,List.map_set,g];have:=fA (pre.sum,x) (pre.sum+x,y) (Ke (pre.sum,x+y,w)) (UM (pre.sum+x+y) post) (UM 0 pre);rw[GL]at this;rw[this,Cg,UM,NM,xh];rfl};rcases h.small c with e|⟨e,_⟩;{simp at e};have:=XI Lc e;simp at this;lia
def agw{p:Array (Nat×Nat×Nat)}{i w:Nat}:(p.modify i λ(a,b,_)=>(a,b,w)).toList.map Ke=p.toList.map Ke:=by
 apply FO;intro j;rw[YC,YC,Rn,Rn,Array.getElem?_modify];split;{cases p[j]?<;>rfl};rfl
theorem fC:∀{rs:Za Nat},(∀r∈rs,0<r)->rs.length<=rs.sum
 |[],_=>Wg _
 |r::rs,h=>by
  have:=fC (rs:=rs) λr a=>h r (by simp[a]);have:=h r 02;simp;lia
theorem Vy.push{l n w:Nat}(h:Vy kd le a0 rs st)(b:l=rs.sum)(e:0<n)(f:l+n<=a0.size)(m:a0.size<64->rs=[]/\n=a0.size/\Wz le (Yd st) 0 a0.size):Vy kd le a0 (rs++[n]) (setPending st ((Vt st).push (l,n,w))):=by
 show#[h.kind,h.failed,h.perm,λr a=>?_,by simp;lia,?_,λc=>?_];{rcases Xk.mp a with a|a;{exact h.pos r a};rw[YJ.mp a];exact e};{change((Vt st).push (l,n,w)).toList.map Ke=_;rw[FG,Xt,h.pend,Cg,NM,b];rfl};let#[U,U,i]:=m c;exact .inr #[U,i]
def Vy.power{i w:Nat}(h:Vy kd le a0 rs st):Vy kd le a0 rs (setPending st ((Vt st).modify i λ(a,b,_)=>(a,b,w))):=#[h.kind,h.failed,h.perm,h.pos,h.sum,agw.trans h.pend,h.small]
def Vy.set{a:Yj}(h:Vy kd le a0 rs st)(w:Ud kd (Vt st) a0 a)(b:a0.size<64->rs=[]):Vy kd le a0 rs a:=#[w.kind,w.failed,w.perm,h.pos,h.sum,by rw[w.pend];exact h.pend,λc=>.inl (b c)]
def agx{u b:Type}{j:Unit->u->StateT Yj Vb b}{X:StateT Yj Vb b}{Q:b->Yj->Prop}{st:Yj}(P:u->Yj->Prop)(c:∀n a,P n a->Xu M A E s (j () n) Q a)(h:(∀n a,P n a->Xu M A E s (j () n) Q a)->Xu M A E s X Q st):Xu M A E s X Q st:=h c
def wpS_sortRuns{Q:Unit->Yj->Prop}(o:SE le)(hL:Re M A E s kd P le)(hP:∀x∈a0.toList,P x)(hk:Ww st=kd)(hf:QS st=Zc)(hpd:Vt st=#[])(ha:Yd st=a0)(h1:1<=a0.size)
 (h:∀i,(Yd i).Perm a0->QS i=Zc->(a0.size<64->Wz le (Yd i) 0 a0.size)->Q () i):Xu M A E s sortRuns' Q st:=by
 have j0:Vy kd le a0 [] st:=#[hk,hf,by rw[ha],(λr hr=>by cases hr),Wg _,by rw[hpd];rfl,λO=>.inl U]
 unfold sortRuns';show ZS (Ot ?_);rw[show(Yd st).size=a0.size by rw[ha]];have hmr:a0.size<64->(sortPriv% PySem.Builtin.minRun) a0.size a0.size 0=a0.size:=λc=>by
  let#[f,e]:∃f,a0.size=f+1:=#[a0.size-1,00]
  rw[e]at c⊢;exact(minRun'_succ ..).trans (Zt c)
 show ZS (QZ (Oq (I:=λx c i=>∃rs:Za Nat,c=(Zc,rs.sum)/\x<=rs.sum/\Vy kd le a0 rs i)
  (Q:=λc i=>∃rs:Za Nat,c=(Zc,rs.sum)/\rs.sum=a0.size/\Vy kd le a0 rs i) ?_ ?_ #[[],U,ZU _,j0]) ?_)
 ·rintro x c Z _ hx ⟨rs,rfl,N,p⟩;extract_lets +onlyGivenNames v;subst v;dsimp -zeta only;show YL (λc1=>Yb #[rs,U,NC p.sum c1,p]) (λc1=>?_);have sm:a0.size<64->rs=[]:=λc=>(p.small c).resolve_right λq=>by rw[q.1]at c1;simp at c1
  show ZS (wpS_countRun o hL hP ⟨p.kind,p.failed,rfl,p.perm⟩ 00 00 λm st2 w2 m1 m2 i2=>?_);dsimp -zeta only;extract_lets u jp;show agx (j:=jp) (λm y=>0<m/\rs.sum+m<=a0.size/\Vy kd le a0 rs y/\(a0.size<64->rs=[]/\m=a0.size/\Wz le (Yd y) 0 a0.size)) ?_ λhj=>?_
  ·rintro m y ⟨m0,lm,j3,s3⟩;unfold jp;show ZS (Ot ?_);try dsimp only
   cases hb:(Vt y).back? with
   |none=>
    try dsimp only
    exact ZS (Ls (Yb #[rs++[m],02,by simp;lia,j3.push U m0 lm s3]))
   |some t=>
    let⟨s1,n1,w⟩:=t;have big:¬a0.size<64:=λc=>by
     let#[U,_]:=s3 c;have:=j3.len;rw[Array.back?_eq_getElem?,KC (by rw[this];exact Wg _)]at hb;cases hb
    try dsimp only
    show ZS (QZ (Oq (I:=λO c i=>c=(Zc,())/\∃g:Za Nat,g.sum=rs.sum/\Vy kd le a0 g i)
     (Q:=λc i=>c=(Zc,())/\∃g:Za Nat,g.sum=rs.sum/\Vy kd le a0 g i) ?_ (λO O hh=>hh) #[U,rs,U,j3]) ?_)
    ·rintro z c n _ hz ⟨C,g,Y,J⟩;subst C;show ZS (Ot ?_);try dsimp only
     generalize hm:(if (Vt n).size > 1 then (Vt n)[(Vt n).size-2]? else Zc)=mm;rcases mm with _|⟨a,b,older⟩;{exact Yb #[U,g,Y,J]};have B:(Vt n).size > 1:=by
      by_cases B:(Vt n).size > 1;{exact B};rw[Zq B]at hm;cases hm
     try dsimp only
     show YL (λO=>Yb #[U,g,Y,J]) (λO=>?_);have L:=J.len;dsimp only[Vt]at B L;exact ZS (J.merge hL hP 00 λst5 G O l5 j5=>Yb #[U,G,00,j5])
    rintro c n ⟨C,g,Y,J⟩;subst C;try dsimp only
    show ZS (Ls (ZS (Ls (Yb #[g++[m],by simp[Y],by simp;lia,?_]))));exact J.power.push Y.symm m0 lm λc=>(big c).elim
  show YL (λc2=>?_) (λc2=>?_);{show ZS (Ji (WD #[U,?_]));show ZS (wpS_binarySort o hL hP w2 00 m1 00 i2 λy w3 i3=>?_);show hj _ _ #[00,00,p.set w3 sm,λc=>?_];obtain rfl:=sm c;have e:=(XI (min a0.size) (hmr c)).trans (nu _);exact#[U,e,(XI (Wz le (Yd y) 0) e).mp i3]};show hj _ _ #[m1,00,p.set w2 sm,λc=>?_];obtain rfl:=sm c;have e:m=a0.size:=NC m2 (Yp (Sa (hmr c).symm) (SH c2));subst e;exact#[U,U,i2]
 {rintro c Z ⟨rs,rfl,N,p⟩;exact#[rs,U,NC p.sum 00,p]}
 ·rintro c Z ⟨rs,rfl,N,p⟩;have hrl:=fC p.pos;show ZS (QZ (Oq (I:=λx c i=>c=(Zc,())/\∃g:Za Nat,g≠[]/\g.length+x<=a0.size/\Vy kd le a0 g i)
   (Q:=λc i=>c=(Zc,())/\∃g:Za Nat,g≠[]/\Vy kd le a0 g i) ?_ ?_ #[U,rs,(λe=>by subst e;simp at N;lia),00,p]) ?_)
  ·rintro z c n _ hz ⟨rfl,g,C,Y,J⟩;show ZS (Ot ?_);have L:=J.len;dsimp only[Vt]at L;show YL (λc3=>Yb #[U,g,C,J]) (λc3=>?_);show ZS (J.merge hL hP ?_ λst5 G l4 l5 j5=>Yb #[U,G,(λe=>by subst e;simp at l4;lia),00,j5]);repeat' split
   all_goals lia
  {rintro c n ⟨rfl,g,C,Y,J⟩;exact#[U,g,C,J]};rintro c n ⟨rfl,g,C,J⟩;exact Yb (h _ J.perm J.failed λc=>((J.small c).resolve_left C).2)
end
end LS
namespace LS
section
variable {g:YZ}{w:Yt}{A:Yr}{E:Zh->Zj->Prop}{s:Zj}{kd:QQ}{P:ZP->Prop}{le:ZP->ZP->Prop}
noncomputable def Qy(h:ZD)(a:Zg)(b:Za Zh):ZD:=((h.update a (XH λO=>#[])).push (Tx "tuple" b.toArray 0)).push (Tx "list" #[] 0)
def uA{a:Za Zh}{p:ZP}(h:p∈(pairsOf a).toList):p=(p.2,p.2)/\p.2∈a:=by
 rw[pairsOf_toList]at h;let#[e,b]:=mem_zip_self h;exact#[QP e U,e▸b]
def fD{vs:Za Zh}{x:Array ZP}(e:x.Perm (pairsOf vs))(m:vs.length<64->Wz le x 0 vs.length):(x.map (·.2)).toList.Perm vs/\(vs.length<64->(x.map (·.2)).toList.Pairwise λu v=>le (u,u) (v,v)):=by
 have a:=oA.mp e;rw[Array.toList_map];show#[?_,λc=>?_];{have:=a.map (·.2);rwa [pairsOf_toList,List.map_snd_zip (ZU _)]at this};rw[NB];show apm (R:=le) (λ{p q} y o n=>?_) (He.mpr λi j hi f b=>?_);{rwa [(uA (a.mem_iff.mp y)).1,(uA (a.mem_iff.mp o)).1]at n};have h:=m c i j (Uo b) (by rw[<-xG,<-e.size_eq,<-VY];exact f);unfold kx at h;rwa [NM,NM,<-Rn,<-Rn,ZA hi,ZA f]at h
def fE{a:Zg}{b:Za Zh}{n:Nat}{R:Fin->Zj->Prop}(o:SE le)(z:s.heap.get? a=Zb (Tx "list" b.toArray n))(M:b.length<=Zo)
 (G:∀Q:QQ->Zj->Prop,2<=b.length->Q kd {s with heap:=Qy s.heap a b}->Zn (Zr g w) A (keyKind' b.toArray) Q E {s with heap:=Qy s.heap a b})
 (hL:Re (Zr g w) A E {s with heap:=Qy s.heap a b} kd P le)(hP:∀v∈b,P (v,v))
 (h:∀m:Array Zh,m.toList.Perm b->(b.length<64->m.toList.Pairwise λu v=>le (u,u) (v,v))->R (.done (.ret .none)) {s with heap:=sortedHeap s.heap a b m}):
  Zn (Zr g w) A (VA.«list.sort» #[[.ref a],[]]) R E s:=by
 rw[list_sort_plain];have L:=Yc z;show Zf (listItems_at z U ?_);show Zf (Lk z U ?_ (by omega) (Wg _));let#[I,q]:∃I,(s.heap.update a (XH λO=>#[])).get? a=Zb (Tx "list" #[] I):=#[_,get?_update_seq z (λO=>#[])]
 show Zf (b7 q U ?_);show Zf (Et ?_);show Zf (mG ?_);show XY ?_;have f:(Qy s.heap a b).get? a=Zb (Tx "list" #[] I):=by
  unfold Qy;rw[FL _ _ _ (by rw[Jh,MX];exact Ys (NK L)),FL _ _ _ (by rw[MX];exact Ys L)];exact q
 change Zn (Zr g w) A _ R E {s with heap:=Qy s.heap a b};have J:b.toArray.size=b.length:=02
 by_cases x:b.toArray.size<2
 ·rw[Zt x,Zt x];show Zf (Zm ?_);show Zf (Zm ?_);dsimp only;show Zf (b7 f U ?_);show Zf (Lk f U ?_ (Wg _) (hsz2:=by rw[aoB];change(pairsOf b).size<=_;rw[xG];lia));simp only[bne_self_eq_false];let#[C,B]:=fD (vs:=b) (le:=le) (T8 _) λO i j h1 x=>by rw[show i=j by lia];exact o.rf _
  exact Zm (h _ C B)
 rw[Zq x,Zq x];show Zf (G _ 00 ?_);show Zf (Xv (wpS_sortRuns (a0:=pairsOf b)
  (Q:=λO c=>(Yd c).Perm (pairsOf b)/\QS c=Zc/\(b.length<64->Wz le (Yd c) 0 b.length))
  o hL (λp y=>by let#[e,Y]:=uA y;rw[e];exact hP _ Y) U U U U (by rw[xG];lia) λc a1 a2 a3=>#[a1,a2,by rwa [xG]at a3]) ?_ λO O e=>e)
 rintro⟨⟨⟩,c⟩ s' ⟨rfl,y,Z,N⟩;show Zf (b7 f U ?_);show Zf (Lk f U ?_ (Wg _) (hsz2:=by show Yp (Sa ((aoB ..).trans (y.size_eq.trans (xG _)))) ?_;lia));rw[Z];simp only[bne_self_eq_false];let#[C,B]:=fD y N;exact Zm (h _ C B)
noncomputable def Kf(h:ZD)(a:Za Zh):ZD:=((h.push (Tx "list" #[] 0)).update h.objs.size (XH (· ++ a.toArray))).push (Tx "list" a.toArray 0)
def agy(o:SE le){l:Zg}{a:Za Zh}{Q:Zh->Zj->Prop}(f:s.heap.IsList l a.toArray)(z:a.length<=Zo)
 (e:∀Q:QQ->Zj->Prop,2<=a.length->Q kd {s with heap:=Qy (Kf s.heap a) (s.heap.objs.size+1) a}->Zn (Zr g w) A.in1.in1 (keyKind' a.toArray) Q E {s with heap:=Qy (Kf s.heap a) (s.heap.objs.size+1) a})
 (j:Re (Zr g w) A.in1.in1 E {s with heap:=Qy (Kf s.heap a) (s.heap.objs.size+1) a} kd P le)(i:∀v∈a,P (v,v))
 (h:∀b:Array Zh,b.toList.Perm a->(a.length<64->b.toList.Pairwise λu v=>le (u,u) (v,v))->Q (.ref (s.heap.objs.size+1)) {s with heap:=c9 s.heap a b}):
  Zn (Zr g w) A (call (.builtin "sorted") [.ref l]) Q E s:=by
 show aoO kind_sorted plain_sorted entry_sorted (args_sorted1 _) ?_;show Zf (Zm ?_);show Zf (collect_list f ?_);show Zf (mG ?_);have c:((s.heap.push (Tx "list" #[] 0)).update s.heap.objs.size (XH (· ++ a.toArray))).objs.size=s.heap.objs.size+1:=by
  rw[MX,Jh]
 have L:(Kf s.heap a).get? (s.heap.objs.size+1)=Zb (Tx "list" a.toArray 0):=by
  rw[<-c];exact YF _ U
 change Zn _ _ _ _ _ {s with heap:=Kf s.heap a};rw[c];exact Zf (XY (WQ slot_list_sort #[_,L,U] arb (fE o L z e j i λb n m=>#[_,U,Zm #[_,U,h b n m]]) (args_list_sort _)))
end
end LS
namespace L2
open PySem PySem.Spec PyProof.Rows LS PySem.W
section
variable {P:YZ}{w:Yt}{I:Type} [DecidableEq I] {kd:RF P w I}{C:I->I->Prop}{A:Yr}{E:Zh->Zj->Prop}{s:Zj}
def GM(kd:RF P w I)(C:I->I->Prop):Prop:=∀{A:Yr}{E:Zh->Zj->Prop}{s:Zj}{Q:Zh->Zj->Prop}{x y:I}{u v:Zh},A.units+kd.lev<Yz->kd.is s.heap x u->kd.is s.heap y v->C x y->(∀b,Q (.bool b) s)->Zn (Zr P w) A (richCompare .Lt u v) Q E s
def OV{I:Type}(C:I->I->Prop):Za I->Za I->Prop
 |x::a,y::Y=>C x y/\OV C a Y
 |_,_=>True
def agz(c:GM kd C){i Y:Za I}{R:Fin->Zj->Prop}(m:A.units+kd.lev<Yz)(f:XS kd s.heap i a)(e:XS kd s.heap Y b)(g:OV C i Y)(h:∀b,R (.done (.ret (.bool b))) s):Zn (Zr P w) A (VA.«tuple.__lt__» #[[.ref a,.ref b],[]]) R E s:=by
 have hT:=e.ty;let#[oa,L,na,ea,_,da,Z]:=f;let#[ob,G,nb,eb,_,db,Q]:=e;change Zn _ A (nX (Xa b) (.type "tuple") >>= _) _ _ _;show Zf (NU hT d9 ?_);show Zf (xN ea da (Zf (xN eb db (Zf ?_))));show mD _ (λrest r j=>r.1=Zc/\j=s/\∃x y u v,rest=List.zip u v/\Wj kd s.heap x u/\Wj kd s.heap y v/\OV C x y) _ ?_ ?_ _ _ #[U,U,i,Y,L.toList,G.toList,U,Z,Q,g]
 ·rintro⟨p,q⟩ rest r j ⟨n,rfl,x,y,u,v,z,f,e,g⟩;cases x with
  |nil=>rw[show u=[]from f]at z;simp at z
  |cons k x=>
   cases y with
   |nil=>rw[show v=[]from e]at z;simp at z
   |cons N y=>
    let⟨u1,M,rfl,B,h2⟩:=f;let#[v1,J,U,o,h4]:=e;cases z;show Zf (kd.eqs m B o ?_);cases decide (k=N) with|true=>exact Zm #[U,U,x,y,M,J,U,h2,h4,g.2]|false=>exact Zf (WD (Zf (c m B o g.1 λb=>Zf (Zm (Zm (Zm (h b)))))))
 rintro⟨r1,r2⟩ j ⟨n,rfl,_⟩;cases (n);exact Zm (h _)
def agA(c:GM kd C){e y:Za I}{Q:Zh->Zj->Prop}(u:A.units+(kd.lev+1)<Yz)(x:XS kd s.heap e a)(f:XS kd s.heap y b)(g:OV C e y)(h:∀b,Q (.bool b) s):Zn (Zr P w) A (richCompare .Lt (.ref a) (.ref b)) Q E s:=
 arB x.ty f.ty ao1 (WQ ao1 x.ty F.entry_tuple_lt (agz c (by change A.units+1+kd.lev<Yz;lia) x f g λb=>#[_,U,(nomatch ·),h b]) (F.args_tuple_lt_2 _ _)) 00
theorem fF(c:GM kd C){b fin:Bool}{Q:Bool->Zj->Prop}(n:A.units+kd.lev<Yz)(h:∀b,Q b s):∀(f Y:Za I) (u a:Za Zh) (i:Nat),0<i->Wj kd s.heap f u->Wj kd s.heap Y a->OV C f Y->KatLex P w A b fin Q (u.zip a) i s
 |[],Y=>λu a i hi j g m=>by
  rw[show u=[]from j];exact kat_nil (h _)
 |x::f,[]=>λu a i hi j g m=>by
  rw[show a=[]from g,List.zip_nil_right];exact kat_nil (h _)
 |x::f,y::Y=>λu a i hi j g m=>by
  let#[J,z,U,p,G]:=j;let#[v1,q,U,o,B]:=g;show kat_cons (kd.eqs n p o (kat_go (λe=>kat_yes (fF c n h f Y z q (i+1) 00 G B m.2)) λe=>kat_no ?_));rw[show(b&&i==0)=Zi by rw[show(i==0)=Zi by simp;lia];simp];show kat_one _ _ (c n p o m.1 h)
end
def FC(h a:ZD):Prop:=∀b o,h.get? b=Zb o->a.get? b=Zb o
def GN:Zx->Zx->Prop
 |.inl _,.inl _=>True
 |.inr _,.inr _=>True
 |_,_=>False
def Ci:Zx ⊕ Za Zx->Zx ⊕ Za Zx->Prop
 |.inl x,.inl y=>GN x y
 |.inr x,.inr y=>OV GN x y
 |_,_=>False
inductive Kd where
 | i | t | n (ks:List Bool)
def GO:Bool->Zx->Prop
 |true,.inl _=>True
 |false,.inr _=>True
 |_,_=>False
def Cj:Za Bool->Za Zx->Prop
 |[],[]=>True
 |b::bs,k::s=>GO b k/\Cj bs s
 |_,_=>False
def uB:Kd->Zx ⊕ Za Zx->Prop
 |.i,.inl k=>GO Zd k
 |.t,.inl k=>GO Zi k
 |.n bs,.inr s=>Cj bs s
 |_,_=>False
def OW:Za Kd->Zu->Prop
 |[],[]=>True
 |d::ds,k::s=>uB d k/\OW ds s
 |_,_=>False
def fG{b:Bool}{x y:Zx}(c:GO b x)(a:GO b y):GN x y:=by
 cases b<;>cases x<;>cases y<;>first|trivial|exact c.elim|exact a.elim
theorem fH:∀{bs:Za Bool}{x y:Za Zx},Cj bs x->Cj bs y->OV GN x y
 |_,[],_,_,_=>trivial
 |_,_::_,[],_,_=>trivial
 |[],_::_,_,a,_=>a.elim
 |_::_,_::_,_::_,a,b=>#[fG a.1 b.1,fH a.2 b.2]
def agB{d:Kd}{x y:Zx ⊕ Za Zx}(b:uB d x)(a:uB d y):Ci x y:=by
 cases d<;>cases x<;>cases y<;>first|exact b.elim|exact a.elim|exact fG b a|exact fH b a
theorem fJ:∀{ds:Za Kd}{x y:Zu},OW ds x->OW ds y->OV Ci x y
 |_,[],_,_,_=>trivial
 |_,_::_,[],_,_=>trivial
 |[],_::_,_,a,_=>a.elim
 |_::_,_::_,_::_,a,b=>#[agB a.1 b.1,fJ a.2 b.2]
theorem agC:∀{ds:Za Kd}{k:Zu},OW (.i::ds) k->∃i s,k=.inl (.inl i)::s/\OW ds s
 |_,.inl (.inl i)::s,h=>#[i,s,U,h.2]
 |_,.inl (.inr _)::_,h=>h.1.elim
 |_,.inr _::_,h=>h.1.elim
 |_,[],h=>h.elim
section
variable {P:YZ}{w:Yt}{A:Yr}{E:Zh->Zj->Prop}{s:Zj}{ds:Za Kd}
def fK:GM (Pa (XT P w)) GN:=λ{A E s Q x y u v} f e b c h=>by
 rcases UW e with⟨i,t,rfl,rfl⟩|⟨i,t,rfl,rfl⟩;{rcases UW b with⟨j,a,rfl,rfl⟩|⟨j,a,rfl,rfl⟩;{exact lt_int (h _)};exact c.elim};rcases UW b with⟨j,a,rfl,rfl⟩|⟨j,a,rfl,rfl⟩;{exact c.elim};exact lt_str (h _)
def agD:GM (UX P w) Ci:=λ{A E s Q x y u v} g f e c h=>by
 cases x with
 |inl x=>
  cases y with|inl y=>exact fK (by change A.units+0<Yz;lia) f e c h|inr y=>exact c.elim
 |inr x=>
  cases y with
  |inl y=>exact c.elim
  |inr y=>
   let⟨a,rfl,j⟩:=f;let#[b,U,i]:=e;exact agA fK g j i c h
theorem fL{h b:ZD}(g:FC h b):∀{x:Za Zx}{a:Za Zh},Wj (Pa (XT P w)) h x a->Wj (Pa (XT P w)) b x a
 |[],_,e=>e
 |_::_,_,⟨v,u,e,f,c⟩=>#[v,u,e,f,fL g c]
theorem uC{h f:ZD}(g:FC h f):∀{x:Zu}{c:Za Zh},Wj (UX P w) h x c->Wj (UX P w) f x c
 |[],_,e=>e
 |.inl _::_,_,⟨v,u,e,p,b⟩=>#[v,u,e,p,uC g b]
 |.inr _::_,_,⟨v,u,e,⟨a,q,o,i,n,j,m,hd,hi⟩,b⟩=>#[v,u,e,#[a,q,o,i,n,g _ _ j,m,hd,fL g hi],uC g b]
def XS.grow{h c:ZD}(g:FC h c){b:Zu}{a:Zg}(x:XS (UX P w) h b a):XS (UX P w) c b a:=by
 let#[o,i,n,e,f,hd,hi]:=x;exact#[o,i,n,g _ _ e,f,hd,uC g hi]
def agE(h:ZD)(c:Za Zh):FC h (Qy (Kf h c) (h.objs.size+1) c):=λb o f=>by
 have a:=Yc f;unfold Qy Kf;have L:b<h.objs.size+1:=NK a;have e:=NK L;rw[FL _ _ _ (by rw[Jh,MX,Jh,MX,Jh];exact Ys (NK e)),FL _ _ _ (by rw[MX,Jh,MX,Jh];exact Ys e),ao4 _ _ _ _ (Ys L),FL _ _ _ (by rw[MX,Jh];exact Ys L),ao4 _ _ _ _ (Ys a),FL _ _ _ (Ys a)];exact f
open Classical in
noncomputable def fI(P:YZ)(w:Yt)(h:ZD)(v:Zh):Int:=if q:∃i a x,v=.ref a/\XS (UX P w) h (.inl (.inl i)::x) a then q.choose else 0
def uD{h:ZD}{i:Int}{a:Zg}{x:Zu}(f:XS (UX P w) h (.inl (.inl i)::x) a):fI P w h (.ref a)=i:=by
 have q:∃I c x,Xa a=.ref c/\XS (UX P w) h (.inl (.inl I)::x) c:=#[i,a,x,U,f]
 unfold fI;rw[dif_pos q];let#[c,g,j,b]:=q.choose_spec;cases j;injection b.inj f with e;injection e with e;injection e
def agF{fin:Bool}{Q:Bool->Zj->Prop}{i j:Int}{x y:Zu}{u v:Zh}{c a:Za Zh}(f:A.units+1<Yz)(m:(UX P w).is s.heap (.inl (.inl i)) u)(p:Wj (UX P w) s.heap x c)(g:(UX P w).is s.heap (.inl (.inl j)) v)(o:Wj (UX P w) s.heap y a)(n:OV Ci x y)
 (h:∀b,(b=Zd->i<=j)->(b=Zi->j<=i)->Q b s):KatLex P w A Zd fin Q ((u::c).zip (v::a)) 0 s:=by
 show kat_cons ((UX P w).eqs f m g ?_);let#[t,U]:=xB m;let#[q,U]:=xB g;show kat_go (λe=>?_) λe=>kat_no (oneLt_int (h _ (λz=>oO (Se z)) λz=>Int.not_lt.mp (of_decide_eq_false z)));have e:=Se e;injection e with e;injection e with e;exact kat_yes (fF agD f (λb=>h b (λO=>apa e) λO=>apa e.symm) x y c a 1 nv p o n)
def GP(P:YZ)(w:Yt)(h:ZD)(ds:Za Kd)(v:Zh):Prop:=∃a i b,v=.ref a/\XS (UX P w) h (.inl (.inl i)::b) a/\OW ds b
def agG{h:ZD}(g:FC h s.heap)(hu:A.units+2<Yz):Re (Zr P w) A E s (tuples' Zd) (λp=>GP P w h ds p.1) (λp q=>fI P w h p.1<=fI P w h q.1):=by
 intro st p q Q u o n c;let#[p1,p2]:=p;let#[q1,q2]:=q;let#[a,i,xs,U,f,Z]:=o;let#[a',j,ys,U,e,Y]:=n;rw[lt'_eq];show ZS (Ot ?_);rw[u];have c:∀b,(b=Zd->i<=j)->(b=Zi->j<=i)->Q (Zb b) st:=by
  have:=c;dsimp only at this;rwa [uD f,uD e]at this
 let#[oa,us,na,G,_,N,u1,u2,m,B,z]:=f.grow g;let#[ob,vs,nb,C,_,M,v1,v2,I,y,x]:=e.grow g;show ZS (Ji (SN (kat_lt G N C M ?_)));rw[m,I];exact agF 00 B z y x (fJ Z Y) λb L J=>#[U,Yb (c b L J)]
theorem U9{h:ZD}{M:Qe}:∀{c:Za Zh},(∀v∈c,GP P w h ds v)->∃fs,KatTups h c fs/\fs.length=c.length/\∀f∈fs,Looks M h (xI f) (.type "int")
 |[],_=>#[[],.nil,U,λf b=>by cases b]
 |v::c,g=>by
  let#[fs,p,m,j]:=U9 (M:=M) λv q=>g v (YT _ q);let#[a,i,C,U,#[o,I,n,x,y,hd,u,B,e,z,_],_]:=g v YY;let#[t,U]:=xB z;exact#[.int i t::fs,.cons x y hd (by rw[<-Rn,e];rfl) p,by simp[m],λf b=>by
   rcases Yk.mp b with rfl|b
   {exact Looks.of_pure U}
   exact j f b]
def agH(h:ZD):SE λp q=>fI P w h p.1<=fI P w h q.1:=#[λO=>IL _,Int.le_trans]
def agI{l:Zg}{b:Za Zh}{Q:Zh->Zj->Prop}(x:A.units+5<Yz)(n:s.heap.IsList l b.toArray)(z:b.length<=Zo)(f:∀v∈b,GP P w s.heap ds v)
 (h:∀o:Array Zh,o.toList.Perm b->(b.length<64->o.toList.Pairwise λu v=>fI P w s.heap u<=fI P w s.heap v)->Q (.ref (s.heap.objs.size+1)) {s with heap:=c9 s.heap b o}):
  Zn (Zr P w) A (call (.builtin "sorted") [.ref l]) Q E s:=by
 have m:=agE s.heap b;show agy (agH s.heap) n z (λB y q=>?_) (agG m (by change A.units+1+1+2<Yz;lia)) f h;let#[fs,f1,f2,p]:=U9 λv j=>by
  let#[a,i,g,e,t,c]:=f v j;exact(#[a,i,g,e,t.grow m,c]:GP P w _ ds v)
 exact kat_kind f1 00 p U q
end
def Paired.perm{e c:Type}{R:e->c->Prop}{as a:Za e}(p:a.Perm as):∀{bs:Za c},Paired R as bs->∃b,b.Perm bs/\Paired R a b:=by
 induction p with
 |nil=>exactλr=>#[_,.refl _,r]
 |cons x p I=>
  intro bs r;cases r with
  |cons h r=>
   let⟨b,q,r⟩:=I r;exact#[_,q.cons _,.cons h r]
 |swap x y l=>
  intro bs r;cases r with
  |cons h r=>
   cases r with|cons n r=>exact#[_,.swap ..,.cons n (.cons h r)]
 |trans p q m j=>
  intro bs r;let#[o,i,g]:=j r;let#[B,Q,f]:=m g;exact#[B,Q.trans i,f]
def Qz(H:Hp):Za Zg->Za Zu->Prop:=Paired λa k=>XU H k a
noncomputable def GQ:Zu->Int
 |.inl (.inl i)::_=>i
 |_=>0
def fM(ok:Xh P w H h){p:Za Zg}{s:Za Zu}{ds:Za Kd}(r:Qz H p s):(∀k∈s,OW (.i::ds) k)->(∀v∈p.map Xa,GP P w h ds v)/\(p.map Xa).map (fI P w h)=s.map GQ:=by
 induction r with
 |nil=>exactλ_=>#[λv a=>(nomatch a),U]
 |cons m _ I=>
  intro b;let#[g,f]:=I λk j=>b k (YT _ j);let#[i,e,U,c]:=agC (b _ YY);have t:=Ma ok m;show#[λv a=>?_,?_];{rcases Yk.mp a with rfl|a;{exact#[_,i,e,U,t,c]};exact g v a};rw[Xo,Xo,f,uD t];rfl
def agJ{o:Za Zh}{s:Za Zg}(h:o.Perm (s.map Xa)):∃b:Za Zg,o=b.map Xa/\b.Perm s:=by
 let#[b,q,r]:=Paired.perm (R:=λv a=>v=Xa a) h (bs:=s) (by
  clear h
  induction s with
  |nil=>exact .nil
  | cons p s i=>exact .cons U i)
 show#[b,?_,q];clear h q;induction r with|nil=>rfl|cons h _ i=>rw[h,i];rfl
def agK(s:Za Zg):ZX (s.map V.ref) (s.map Xa):=by
 induction s with|nil=>exact .nil|cons p s i=>exact .cons U i
def agL{ds:Za Kd}(hu:X.A.units+5<Yz):WR X (.builtin "sorted") (λC H Q=>∃p j g,C=[.ref p]/\H p=Zb (.lst (j.map .ref))/\Qz H j g/\(∀k∈g,OW (.i::ds) k)/\
  ∀l a,H l=Zc->a.Perm j->(∀f,Qz H a f->f.Perm g->g.length<64->f.Pairwise λx y=>GQ x<=GQ y)->Q (.ref l) (upd H l (.lst (a.map .ref)))):=by
 intro E s σ H C us Q I r h;let#[p,j,g,U,hq,J,G,q]:=h;let#[u,U,M]:=vals1 r;cases M;let#[B,its,n,N,ho]:=I.hok p _ hq;have ev:=wN N;subst ev;rw[ZI]at B;show agI hu #[_,ho,U,n,U] ↑B (fM I.hok J G).1 λm k0 k1=>?_;let#[a,L,z]:=agJ k0;let#[e,he]:=sortedAll_at s.heap (j.map Xa) m;have Z:∀b o,s.heap.get? b=Zb o->(c9 s.heap (j.map Xa) m).get? b=Zb o:=λb o hb=>sortedAll_old hb;show#[.ref (s.heap.objs.size+1),_,I.laid Z (UT _) (show Wy X.prog X.w _ _ _ (.lst (a.map .ref)) from#[?_,a.map Xa,e,agK a,?_]),U,q _ a (I.hok.fresh (UT _)) z λf ka Y c=>?_];{rw[ZI,z.length_eq];exact B};{rw[he,<-L]};have e2:=(fM I.hok ka λk hk=>G k (Y.mem_iff.mp hk)).2;have:=k1 (by rw[ZI,KW J];exact c);rw[L]at this;have:=NB.mpr this;rw[e2]at this;exact NB.mp this
open PySem PySem.Spec PyProof.Rows LS PySem.W
theorem fN:∀(l:Za Zx),Zw K H (l.map kD) (l.map kV)
 |[]=>rfl
 |k::l=>#[_,_,U,ug k,fN l]
theorem uE:∀{k:Zu}{s:Za V},Pg H k s->Zw K H (k.map Ca) s
 |[],_,h=>h
 |.inl k::a,_,⟨u,e,h⟩=>#[_,u,e,ug k,uE h]
 |.inr l::a,_,⟨c,u,e,q,h⟩=>#[_,u,e,#[c,_,U,q,fN l],uE h]
theorem fO:∀{s:Za Zu}{a:Za V},Zw K H (s.map Vn) a->∃p,a=p.map V.ref/\Qz H p s
 |[],_,h=>#[[],h,.nil]
 |k::s,_,⟨v,u,e,i,g⟩=>by
  let#[b,U,c]:=MC i;let#[p,U,f]:=fO g;exact#[b::p,e,.cons c f]
def Qz.rps{p:Za Zg}{s:Za Zu}(h:Qz H p s):Zw K H (s.map Vn) (p.map V.ref):=by
 induction h with
 |nil=>rfl
 |cons b _ i=>
  let⟨a,e,n⟩:=b;exact#[_,_,U,#[_,a,U,e,uE n],i]
theorem Qz.same{b:Hp}{p:Za Zg}{a:Za Zu}(h:Qz H p a)(s:Zv H b):Qz b p a:=Paired.xR h λO O z=>XU.same z s
def agM(ds:Za Kd)(b:Za D)(q:D->Prop):Prop:=∃s:Za Zu,b=[.lst (s.map Vn)]/\(∀k∈s,OW (.i::ds) k)/\∀a:Za Zu,a.Perm s->(s.length<64->a.Pairwise λx y=>GQ x<=GQ y)->q (.lst (a.map Vn))
def fP(ds:Za Kd)(u:X.A.units+5<Yz):Sr X (.builtin "sorted") (agM ds):=by
 show#[_,agL (ds:=ds) u,λ{E H C z q Q} s r h k=>?_];let#[b,U,m,n]:=h;let#[v,U,p,B,U,y,x]:=UI r;let#[j,U,g]:=fO x;show#[p,j,b,U,s _ _ y,g.same s,m,λl i f o w=>?_];let#[a,c,e]:=Paired.perm o g;exact k _ (.lst _) _ _ (.put s f) (SW (Qz.rps e) (s.free f)) (n a c (w a (Qz.same e s) c))
open PySem PySem.Spec PyProof.Rows LS PySem.W
section
variable {g:YZ}{w:Yt}{A:Yr}{E:Zh->Zj->Prop}{s:Zj}
def agN:Re (Zr g w) A E s oneType' (λp=>∃n t,p.1=.int n t) (λO O=>True):=by
 intro st p q Q c b a h;let#[j,i]:=p;let#[f,e]:=q;let#[n,t,U]:=b;let#[m,u,U]:=a;rw[lt'_eq];show ZS (Ot ?_);rw[c,keyLt'_oneType];exact ZS (Ji (SN (oneLt_int #[U,Yb (h _ (λO=>trivial) λO=>trivial)])))
end
def agO{o:Za Zh}{N:Za Int}(h:KH o N):ZX (N.map V.int) o:=by
 induction h with|nil=>exact .nil|cons n t h i=>exact .cons #[t,U] i
section
variable {g:Za (Zg×Yg)}{i:St}{s:Zj}{a b:Zg}{v:V}{r:Zh}{A:Yr}{E:Zh->Zj->Prop}{f:Za (Zu×V)}{k:Zu}{Q:Zh->Zj->Prop}
def agP(N:A.units+3<Yz)(I:Inv X g i H s)(e:H a=Zb (.dT f))(G:XU H k b)(l:f.length<Zo)(L:RelV v r)
  (h1:∀w,WG f k=Zb w->∀y m,Inv X g i H m->RelV w y->Q y m)(o:WG f k=Zc->∀m,Inv X g i (upd H a (.dT (We f k v))) m->Q r m):
  Zn (Yn X) A (call (.builtin "dict.setdefault") [.ref a,.ref b,r]) Q E s:=by
 let#[z,hd,x,rel,J]:=HL I.hok (.inl e);have M:x.length<=Zo:=by rw[<-KW rel];exact z
 have hl:(We f k v).length<=Zo:=by have:=HK f k v;lia
 have j:=rel.val k;show nU aqC J.h.typeIs PySem.F.entry_dict_setdefault (PySem.F.args_dict_setdefault_3 _ _ _) (A7 (Pb X.prog X.w) a b hd r) #[Hz N,k,x,Ma I.hok G,J,M,λp Z=>?_,λhn h' u Y=>?_];{rw[Z]at j;cases n:WG f k with|none=>rw[n]at j;exact j.elim|some w=>rw[n]at j;exact h1 w n _ _ (I.tok _) j};have:WG f k=Zc:=by
  rw[hn]at j;cases n:WG f k with|none=>rfl|some w=>rw[n]at j;exact j.elim
 show o this _ ?_;let#[q,es,ep,B,o,h3,h4,_,h5]:=u;show ER I (by rw[e];exact Qg) Y #[q,B] #[hl,hd,_,(rel.put k G L).keeps λc ys C=>?_,q,es,ep,B,o,h3,h4,h5];rw[ZN (xQ C e (λz=>nomatch z))];exact C
end
def agQ(i ty g:TE):TE:=λe H Q=>i e H λx f=>∃a,x=.ref a/\IsD f a/\ty e f λy j=>g e j λz c=>∃s k b,y=.ref b/\c a=Zb (.dT s)/\XU c k b/\s.length<Zo/\
 (∀v,WG s k=Zb v->Q v c)/\(WG s k=Zc->Q z (upd c a (.dT (We s k z))))
def fQ(hu:X.A.units+3<Yz)(ho:PE X o G)(he:PE X e ty)(hf:PE X f E)(m:M2 X o "setdefault" apos e f c):PE X (.Call (.Attribute o "setdefault" apos) [e,f] [] c) (agQ G ty E):=by
 intro p s g H Q I h;show aro m.base m.few m.line G8 aqC PySem.F.type_dict_setdefault (ZQ (ho p s g H _ I h) λu Y Z=>?_);let#[x,H1,q,rx,a,U,d,q1]:=Z;obtain rfl:u=Xa a:=rx;let#[L,J,_]:=wL q d;show#[L,J,?_];rw[m.trees];show yR U (R5 (KF (ZQ (he p Y g H1 _ q q1) λiv N C=>?_)));let#[y,H2,I2,ry,q2]:=C;show KF (ZQ (hf p N g H2 _ I2 q2) λfv s3 B=>?_);let#[z,H3,I3,n,kvs,k,b,ey,e3,kb,hl,q3,q4]:=B;show FI ?_;subst ey;cases (ry);exact agP hu I3 e3 kb hl n (λw hw w' M j i=>#[_,H3,j,i,q3 w hw]) λhn M j=>#[_,_,j,n,q4 hn]
section
variable {P:YZ}{w:Yt}{A:Yr}{E:Zh->Zj->Prop}{s:Zj}{I d:Zg}{i n p:Nat}{o:Yg}{j:Array yS}{e:yS}{Q:Option Zh->Zj->Prop}
def agR(J:s.heap.IsKeyIter I d i n p)(G:s.heap.get? d=Zb o)(ed:o.data=.dict j p)(m:j.size=n)(u:j[i]?=Zb e)
  (k:∀a,a.IsKeyIter I d (i+1) n p->VB I s.heap a->Q (Zb e.key) {s with heap:=a}):Zn (Zr P w) A (VZ (.ref I)) Q E s:=by
 have x:=J;let#[q,g,c,f]:=x;have T:=J.typeIs;have b:(s.heap.update I (Yg.mapFields (·.setIfInBounds 1 (SM (i+1))))).IsKeyIter I d (i+1) n p:=
  #[_,Rq _ g (aqg (nC f _)),(aqc ..).trans c,by rw[nC f];simp[SM]]
 show Zf (SN (UU T yU (WQ yU T aoU (Zf (Zm ?_)) (aoS _))));show Zf (Zf (Zf (mK T (Zm (Zf (Er g f ?_))))));show Zf (Zm (Zf (Hv G ed ?_)));rw[Zq (by rw[m];simp)];show Zf (Zm (Zf (Ep G ed ?_)));rw[Zq 02];show Zm ?_;simp only[IM,u];show Zf (Zf (mK T (Zm (Zf (art T ?_)))));change Zn _ _ (md (.ref I) 1 (SM (i+1)) >>= _) _ _ s;show Zf (xM g f 02 (Zf (XY ?_)));show Zf (art b.typeIs ?_);exact Zm (Zm #[_,U,Zm (k _ b (Ro ..))])
def agS(m:A.handled=Zc)(J:s.heap.IsKeyIter I d i n p)(G:s.heap.get? d=Zb o)(ed:o.data=.dict j p)(u:j.size=n)(x:j[i]?=Zc)
  (k:∀b,oM I s.heap b->Q Zc {s with heap:=b}):Zn (Zr P w) A (VZ (.ref I)) Q E s:=by
 have y:=J;let#[q,g,c,f]:=y;have T:=J.typeIs;unfold VZ;show Zf (SN (UU T yU (WQ yU T aoU (Zf (Zm ?_)) (aoS _))));show Zf (Zf (Zf (mK T (Zm (Zf (Er g f ?_))))));show Zf (Zm (Zf (Hv G ed ?_)));rw[Zq (by rw[u];simp)];show Zf (Zm (Zf (Ep G ed ?_)));rw[Zq 02];show Zm ?_;simp only[show¬((i:Int)<0)from by lia,if_false,IM,x];show Zf (Zf (mK T (Zm ?_)));change Zn _ _ (md (.ref I) 0 .none >>= _) _ _ s;show Zf (xM g f 02 (Zf ?_));show Zf (Ur (Zf (mH (a:=RA) (by first|rfl|(simp only[];rfl)) (Ur ?_ (by size_fits)))) (by size_fits));show Zf (mF ?_);rw[show A.in1.handled=Zc from m];show Zf (Zm (mI ?_));show Zf (NU #[_,YF _ U,U] Ek ?_);exact Zm (k _ (((Ro ..).extBut.push _).push _))
def agT{Q:Zh->Zj->Prop}(hd:(d==Sd)=Zi)(g:s.heap.get? d=Zb o)(c:o.ExactDict)(ed:o.data=.dict j p)
  (k:Q (.ref s.heap.objs.size) {s with heap:=s.heap.push {cls:=.type "dict_keyiterator",data:=.fields [.ref d,.int 0 0,.int j.size 0,.int p 0].toArray}}):Zn (Zr P w) A (Qk (.ref d)) Q E s:=by
 have T:s.TypeIs (.ref d) "dict" :=#[o,g,c.1]
 show u4 T aoX (WQ aoX T F.entry_dict_iter ?_ (F.args_dict_iter_1 _));show Zf (Zf (Eu T ?_));change Zn _ _ (ZR (Xa d)) _ _ s;show Zm ?_;change Zn _ _ (S8 d >>= _) _ _ s;unfold S8;rw[Zq (by rw[hd];exact XQ)];show Zf (Zm (Zf (Hv g ed (Zf (Ep g ed ?_)))));show Zf (Ur (Zm #[_,U, "dict_keyiterator",_,#[_,YF _ U,U],yU.lookup,?_]));assumption
variable {ok m:Zh}
def aow(J:FM s.heap I d i n p ok m)(gd:s.heap.get? d=Zb o)(ed:o.data=.dict j p)(en:j.size=n)(ei:j[i]?=Zb e)
  (k:∀y,IsItemIterOut y I d (i+1) n p e.key e.val s.heap.objs.size->y.get? s.heap.objs.size=Zb {cls:=.type "tuple",data:=.seq [e.key,e.val].toArray}->y.objs.size=s.heap.objs.size+1->
   (∀b o,b≠I->s.heap.get? b=Zb o->y.get? b=Zb o)->Q (Zb (.ref s.heap.objs.size)) {s with heap:=y}):Zn (Zr P w) A (VZ (.ref I)) Q E s:=by
 let#[c,g,z,f,os]:=s;have T:Li #[c,g,z,f,os] (.ref I) "dict_itemiterator" :=#[_,J,U]
 show Zf (SN (UU T yT (WQ yT T aoT (Zf (Zm ?_)) (aoR _))));show Zf (Zf (Zf (mJ T (Zm (Zf (Er J U ?_))))));show Zf (Zm (Zf (Hv gd ed ?_)));rw[Zq (by rw[en];simp)];show Zf (Zm (Zf (Ep gd ed ?_)));rw[Zq 02];show Zm ?_;simp only[IM,ei];show Zf (Zf (mJ T (Zm (Zf (i7 T ?_)))));change Zn _ _ (md (.ref I) 3 (SM ((i:Int)+1)) >>= _) _ _ (#[c,g,z,f,os]:Zj);show Zf (Vc J 02 λu J1 s1=>?_);have T1:Li #[u,g,z,f,os] (.ref I) "dict_itemiterator" :=#[_,J1,U]
 show Zf (XY (Zf (i7 T1 (Zf (i7 T1 ?_)))));change Zn _ _ (aoI (.ref I) 6 e.key e.val) _ _ (#[u,g,z,f,os]:Zj);unfold aoI;show Zf (Et ?_);have B:FM (u.push {cls:=.type "tuple",data:=.seq [e.key,e.val].toArray}) I d (i+1) n p ok m:=ZY _ J1;generalize eh:u.push {cls:=.type "tuple",data:=.seq [e.key,e.val].toArray}=M at B;have Z:u.objs.size=c.objs.size:=s1.1;have il:I<c.objs.size:=Yc J;have t2:M.get? c.objs.size=Zb {cls:=.type "tuple",data:=.seq [e.key,e.val].toArray}:=by rw[<-eh,<-Z];exact YF _ U
 have z2:M.objs.size=c.objs.size+1:=by rw[<-eh,UQ,Z]
 have k2:∀b o,b≠I->c.get? b=Zb o->M.get? b=Zb o:=λb o a q=>by rw[<-eh];exact ZY _ (s1.extBut b o a q)
 change Zn _ _ (ar5 (.ref I) >>= _) _ _ (#[M,g,z,f,os]:Zj);rw[Z];show Zf (Zf (Wi B U (x:=.none) U (Zm ?_)));show Zf (Wi B U (x:=ok) U (Zf (Wi B U (x:=m) U ?_)));show Zf (Vc B 02 λh3 J3 s3=>?_);have J3:FM h3 I d (i+1) n p e.key m:=J3;show Zf (Vc J3 02 λY J4 L=>?_);have L:VB I h3 Y:=L;have J4:FM Y I d (i+1) n p e.key e.val:=J4;show Zf (Vc J4 02 λh5 J5 G=>?_);have G:VB I Y h5:=G;show Zf (Vc J5 02 λN J6 C=>?_);have C:VB I h5 N:=C;have go:=λb o a q=>C.extBut b o a (G.extBut b o a (L.extBut b o a (s3.extBut b o a q)));exact Zf (Es (Zm (Zm #[_,U,Zm (k N J6 (go _ _ (VO il) t2) (by change N.objs.size=c.objs.size+1;rw[C.1,G.1,L.1,s3.1,z2]) λb o a q=>go b o a (k2 b o a q))])))
def agU(f:A.handled=Zc)(J:FM s.heap I d i n p ok m)(g:s.heap.get? d=Zb o)(ed:o.data=.dict j p)(q:j.size=n)(u:j[i]?=Zc)
  (k:∀c,oM I s.heap c->Q Zc {s with heap:=c}):Zn (Zr P w) A (VZ (.ref I)) Q E s:=by
 have T:s.TypeIs (.ref I) "dict_itemiterator" :=#[_,J,U]
 show Zf (SN (UU T yT (WQ yT T aoT (Zf (Zm ?_)) (aoR _))));show Zf (Zf (Zf (mJ T (Zm (Zf (Er J U ?_))))));show Zf (Zm (Zf (Hv g ed ?_)));rw[Zq (by rw[q];simp)];show Zf (Zm (Zf (Ep g ed ?_)));rw[Zq 02];show Zm ?_;simp only[show¬((i:Int)<0)from by lia,if_false,IM,u];show Zf (Zf (mJ T (Zm ?_)));change Zn _ _ (md (.ref I) 2 .none >>= _) _ _ s;show Zf (xM J U 02 (Zf ?_));show Zf (Ur (Zf (mH (a:=RA) (by first|rfl|(simp only[])) (Ur ?_ (by size_fits)))) (by size_fits));show Zf (mF ?_);rw[show A.in1.handled=Zc from f];show Zf (Zm (mI ?_));show Zf (NU (b:=Zd) #[_,YF _ U,U] Ek ?_);exact Zm (k _ (((Ro ..).extBut.push _).push _))
def agV{v:Zg}{Q:Zh->Zj->Prop}(a:s.heap.IsItemsView v d)(G:s.heap.get? d=Zb o)(ed:o.data=.dict j p)
  (k:Q (.ref s.heap.objs.size) {s with heap:=s.heap.push {cls:=.type "dict_itemiterator",data:=.fields [.none,.bool Zi,.ref d,.int 0 0,.int j.size 0,.int p 0,.none,.none].toArray}}):Zn (Zr P w) A (Qk (.ref v)) Q E s:=by
 have T:=a.typeIs;let#[q,g,c,f]:=a;show u4 T aoW (WQ aoW T F.entry_dict_items_iter ?_ (F.args_dict_items_iter_1 _));show Zf (Zm (Zf (Zf (Wi g f (x:=.ref d) U (Zm ?_)))));show Zf (Zf (Hv G ed (Zf (Ep G ed ?_))));simp only[show ar6 "dict_itemiterator" = Zd by decide,if_true];show Ur (Zm #[_,U, "dict_itemiterator",_,#[_,YF _ U,U],yT.lookup,?_]) (by simp only[sizeOk,ar4,YN,Yx,Yu,Nz,mh];exact Le _ _);assumption
def agW(d:Zg)(hd:(d==Sd)=Zi):MeetsIn P w (VA.«dict.items» #[[.ref d],[]]) (λO R s=>s.TypeIs (.ref d) "dict"/\
   R (.ok (.ret (.ref s.heap.objs.size))) {s with heap:=s.heap.push {cls:=.type "dict_items",data:=.fields [.ref d].toArray}}):=
 .of_wp λA R s ⟨T,h⟩=>by
  show Zf (Zf (Eu T ?_));show Zm ?_;unfold S8;rw[Zq (by rw[hd];exact XQ)];exact Zf (Zm (Zf (Ur (Zm #[_,U,h]))))
end
theorem Paired.get{F:a->b->Prop}:∀{l:Za a}{m:Za b}{i:Nat}{x:a},Paired F l m->l[i]?=Zb x->∃y,m[i]?=Zb y/\F x y
 |_,_,_,_,.nil,e=>by simp at e
 |_,_,0,_,.cons r _,e=>by simp at e;subst e;exact#[_,U,r]
 |_,_,i+1,x,.cons _ t,e=>by
  let#[u,f,c]:=Paired.get t (by assumption);exact#[u,by assumption,c]
def Ig(ok:Xh P w H h)(e:H a=Zb (.dT s)):(a==Sd)=Zi/\∃o E,h.get? a=Zb o/\o.ExactDict/\o.data=.dict E s.length/\E.size=s.length/\
  ∀(i:Nat) k v,s[i]?=Zb (k,v)->∃z b,E[i]?=Zb z/\z.key=.ref b/\XU H k b/\RelV v z.val:=by
 let#[_,y,A,r,o,E,J,x,p,n,f,I,G,m]:=HL ok (.inl e);have c:E.size=s.length:=by rw[c8 f,KW r]
 show#[y,o,E,x,p,by rw[<-c,<-m];exact n,c,λi k v q=>?_];let#[#[C,b,u],j,B,g,Q]:=Paired.get r q;exact#[_,b,by rw[entry_at f,j];rfl,U,g,Q]
noncomputable def Itk(a:Zg)(n:Nat):It:=
  #[λi H=>∃s,H a=Zb (.dT s)/\s.length=n/\i<n,λi H x c=>c=H/\∀s,H a=Zb (.dT s)->∃k v b,s[i]?=Zb (k,v)/\x=.ref b/\XU H k b,
   λi H=>∃s,H a=Zb (.dT s)/\s.length=n/\n<=i]
def agX(a g:Zg)(n:Nat):TV P w K tg (Itk a n) [g] g (λi h=>h.IsKeyIter g a i n n) where
 mem:=02
 obj:=λi h st b j=>by
  have e:b=g:=by simpa using j
  subst e;let#[o,e,c,d]:=st;exact#[o,e,λv z=>by rw[d]at z;cases z]
 keep:=λi h C st k=>by
  let#[o,e,c]:=st;exact#[o,k g 02 o e,c]
 item:=by
  intro X Z Q hK Y i p s σ H E I x st A;let#[f,e,y,hi]:=A;let#[_,o,es,B,h2,u,q,h5]:=Ig I.hok e;rw[y]at u q;let#[#[k,v],ek]:∃kv,f[i]?=Zb kv:=#[f[i],ZA (by omega)]
  let#[z,b,q1,q2,q3,q4]:=h5 i k v ek;let#[M,f1,f2,L,J,G]:=x g 02;show agR st B u q q1 λC m sb=>?_;rw[q2];have I1:=I.turned (t':=s.toks) (λb o j e=>(sb.2 b j).trans e) M f1 L J G;let#[o',e',c',d']:=id m;exact#[_,U,Jl (s:={s with heap:=C}) e' c' d' 01 #[.ref b,H,I1,U,⟨rfl,λys N=>by rw[e]at N;cases N;exact⟨k,v,b,ek,rfl,q3⟩⟩,m,λb j=>(x b j).1]]
 done:=by
  intro X Z Q hK Y i p s σ H E I x st A;subst Z Q hK;let#[f,e,y,hi]:=A;let#[_,o,es,B,h2,u,q,h5]:=Ig I.hok e;rw[y]at u q;let#[M,f1,f2,L,J,G]:=x g 02;exact agS (I.ok.hd Y) st B u q (KC 00) λC eb=>#[U,I.turned (λb o j e=>eb b o j e) M f1 L J G]
 self:=λO O O O O st h=>wpAny_pyIter_keyiter st h
def agY(e:TE):TI:=λc H R=>e c H λx b=>∃a s,x=.ref a/\b a=Zb (.dT s)/\R (Itk a s.length) b
def agZ(u:PE X l g):PI X G l (agY g):=by
 intro p s f H R I h;show ZQ (u p s f H _ I h) λv c z=>?_;let#[x,E,i,j,a,m,e,n,q]:=z;subst e;cases j;let#[hd,o,L,C,B,A,y,J]:=Ig i.hok n;show agT hd C B A ?_;rw[y];show#[c.heap.objs.size,[c.heap.objs.size],_,_,E,U,i.kept λb o e=>ZY _ e,agX a _ _,⟨_,YF _ rfl,rfl,rfl⟩,λb w=>?_,q];have e:b=c.heap.objs.size:=by simpa using w
 subst e;exact i.Qn (ZU _) (i.hok.fresh (ZU _))
noncomputable def Itm(a:Zg)(n:Nat):It:=
  #[λi H=>∃s,H a=Zb (.dT s)/\s.length=n/\i<n,λi H x c=>∃p k v b,x=.ref p/\H p=Zc/\c=upd H p (.tup [.ref b,v])/\XU H k b/\∀s,H a=Zb (.dT s)->s[i]?=Zb (k,v),
   λi H=>∃s,H a=Zb (.dT s)/\s.length=n/\n<=i]
def ag0(a j:Zg)(n:Nat):TV P w K (.Tuple elts x1 tpos) (Itm a n) [j] j (λi h=>∃ok x,FM h j a i n n ok x) where
  mem:=02
  obj:=λi h st b u=>by
    have e:b=j:=by simpa using u
    subst e;let#[ok,x,e]:=st;exact#[_,e,λv z=>by have z':oH _=R6 v:=z;cases z']
  keep:=λi h h' st k=>by
    let#[ok,x,e]:=st;exact#[ok,x,k j 02 _ e]
  item:=by
    intro X hP hw hK g i p s σ H E I hf st hg;let#[ok,x,st]:=st;let#[y,e,hn,hi]:=hg;let#[_,o,es,h1,h2,G,C,h5]:=Ig I.hok e;rw[hn]at G C;let#[#[k,v],ek]:∃kv,y[i]?=Zb kv:=#[y[i],ZA 00]
    let#[z,b,q1,q2,q3,q4]:=h5 i k v ek;let#[Y,f1,f2,N,M,L]:=hf j 02;show aow st h1 G C q1 λh' a1 a3 a4 a5=>?_;rw[q2]at a1 a3;show#[_,U,wpAny_letOwnedTupleGo_items a1 λJ b1 b2=>?_];have B:=VO (Yc st);have f:=I.fresh;have A:=λb o z1 q=>(b2.2 b z1).trans (a5 b o z1 q);show#[.ref s.heap.objs.size,upd H s.heap.objs.size (.tup [.ref b,v]),?_,U,⟨_,k,v,b,rfl,f,rfl,q3,λys hy=>by rw[e]at hy;cases hy;exact ek⟩,⟨_,_,b1⟩,λc g=>?_]
    · have hL:=Ys I.lt;have Z:Xh X.prog X.w (upd H s.heap.objs.size (.tup [.ref b,v])) J:=λc o q=>by
        by_cases u:c=s.heap.objs.size;{subst u;rw[YQ]at q;cases q;exact#[by change 2<=Zo;decide,[.ref b,z.val],.cons U (.cons q4 .nil),_,((b2.2 _ B).trans a3),U,0,U]};rw[ZN u]at q;exact((I.turned (t':=s.toks) A Y f1 N M L).hok c o q).stay (λc v g Q=>Q) (λc Q=>by rw[ZN (Wx Q f)];exact Q) λc zs Q=>by rw[ZN (Wx Q f)];exact Q
      have I3:Inv X p σ (upd H s.heap.objs.size (.tup [.ref b,v])) {s with heap:=J,gens:=s.gens,drawn:=s.drawn,toks:=s.toks}:=by
       show Inv.step I (ch:=[j]) (λb u=>?_) (λb o O O g q O=>A b o (λz=>g (by simp[z])) q)
        (λb o O O g q O=>#[o.slots,A b o (λz=>g (by simp[z])) q])
        (λb o O q n=>by rw[ZN (Ys (Yc q))];exact n)
        (λb o g q=>#[o,A b o (λz=>g (by simp[z])) q])
        (λb zs q=>by rw[ZN (Wx q f)];exact q) (λb ob zs q=>by rw[ZN (Wx q f)];exact q)
        (λb ps q=>#[#[],by rw[ZN (Wx q f),q];simp]) (λm hm=>?_) Z I.bare
       · obtain rfl:b=j:=↑u
         exact#[N,f1,M,L]
       let#[o,es,ep,ho,r]:=hm;exact#[o,es,ep,A _ o (XR f1) ho,r]
      exact I3
    obtain rfl:c=j:=↑g
    rw[ZN (XR B)];exact Y
  done:=by
    intro X hP hw hK g i p s σ H E I hf st hg;subst hP hw hK;let#[ok,x,st]:=st;let#[y,e,hn,hi]:=hg;let#[_,o,es,h1,h2,G,C,h5]:=Ig I.hok e;rw[hn]at G C;let#[Y,f1,f2,N,M,L]:=hf j 02;exact agU (I.ok.hd g) st h1 G C (KC 00) λh' eb=>#[U,I.turned (λb o u e=>eb b o u e) Y f1 N M L]
  self:=λO O O O O st h=>by
    let#[ok,x,st]:=st;exact PySem.W.kcp_self st h
def ag1(o:TE):TI:=λc H R=>o c H λx b=>∃a s,x=.ref a/\b a=Zb (.dT s)/\R (Itm a s.length) b
def ag2{o:ZE}{apos c i:Yv}(J:PE X o B)(g:SL o "items" X.env (Ye o X.env)=Ye o X.env|>1)(f:TH apos c|>1):
  PI X (.Tuple E Y i) (.Call (.Attribute o "items" apos) [] [] c) (ag1 B):=by
 intro p s y H R I h;show arp g f (ZQ (J p s y H _ I h) λv j Z=>?_);let#[x,A,w,G,a,n,U,z,q]:=Z;cases (G);let#[m,C,_]:=wL w (.inr #[n,.inl z]);let#[hd,o',es,Q,h2,N,M,h5]:=Ig w.hok z;show#["dict", "dict.items",G8,aqB,PySem.F.type_dict_items,m,C,yR U (aqU (nU aqB m PySem.F.entry_dict_items (PySem.F.args_dict_items_1 _) (agW a hd) #[m,?_]))];have u:Inv X p y A {j with heap:=j.heap.push {cls:=.type "dict_items",data:=.fields [.ref a].toArray}}:=w.kept λb o e=>ZY _ e;show agV (s:={j with heap:=j.heap.push {cls:=.type "dict_items",data:=.fields [.ref a].toArray}}) #[_,YF _ U,U,U] (ZY _ Q) N ?_;rw[M];show#[_,[_],_,_,A,U,u.kept (t':=j.toks) λb o e=>ZY _ e,ag0 a _ _,⟨_,_,YF _ rfl⟩,λb L=>?_,q];obtain rfl:=YJ.mp L;exact u.Qn (ZU _) (u.hok.fresh (ZU _))
noncomputable def ME(a H:Hp):Hp:=λb=>match H b with
 |some (.tup s)=>Zb (.tup s)
 |_=>a b
def fR(h:H b=Zb (.tup s)):ME a H b=Zb (.tup s):=by unfold ME;rw[h]
set_option tactic.hygienic true in
def uF(a H:Hp)(b:Zg):(∃s,H b=Zb (.tup s)/\ME a H b=Zb (.tup s))\/((∀s,H b≠Zb (.tup s))/\ME a H b=a b):=by
 unfold ME;split;{rename_i s e;exact .inl #[s,e,U]};rename_i e;exact .inr #[λs z=>e s z,U]
def fS(s:Zv a H):YD a H (ME a H) H:=by
 show#[.refl _,λb o z=>?_,λb o z=>?_,λb z n=>?_];{rcases uF a H b with⟨c,e,q⟩|⟨_,q⟩;{have:=s _ _ z;rw[q,<-e,this]};rw[q];exact z};{rcases uF a H b with⟨c,e,q⟩|⟨_,q⟩;{rw[e,<-q];exact z};rw[q]at z;exact s _ _ z};rcases uF a H b with⟨c,e,q⟩|⟨_,q⟩;{let#[o,E,t]:=n;rw[e]at E;cases E;cases t};rw[q];exact z
theorem fT:∀{l:Za Zx},Zw K H (l.map kD) (l.map kV)
 |[]=>rfl
 |k::l=>#[kV k,_,U,by cases k<;>rfl,fT]
theorem uG:∀{k:Zu}{s:Za V},Pg H k s->Zw K (ME f H) (k.map Ca) s
 |[],_,e=>e
 |.inl k::a,_,⟨u,e,h⟩=>#[kV k,u,e,by cases k<;>rfl,uG h]
 |.inr l::a,_,⟨c,u,e,b,h⟩=>#[.ref c,u,e,#[c,_,U,fR b,fT],uG h]
def fU(h:XU H k b):Rp K (ME e H) (Vn k) (.ref b):=by
 let#[s,c,a]:=h;exact#[b,s,U,fR c,uG a]
noncomputable def Kg(G:Za (Zu×D)):Za D:=G.map λg=>Vn g.1
noncomputable def GR(G:Za (Zu×D)):Za D:=G.map λg=>.tup [Vn g.1,g.2]
theorem uH:∀{G:Za (Zu×D)}{s:Za (Zu×V)}{i:Nat}{k:Zu}{v:V},Xz K H G s->s[i]?=Zb (k,v)->∃d,G[i]?=Zb (k,d)/\Rp K H d v
 |[],_,_,_,_,h,e=>by rw[show _=[]from h]at e;simp at e
 |(j,g)::G,_,0,k,v,⟨u,c,e,b,a⟩,q=>by
  subst e;simp at q;let#[U,U]:=q;exact#[g,U,b]
 |(j,g)::G,_,i+1,k,v,⟨u,c,e,b,a⟩,q=>by
  subst e;let#[d,f,Q]:=uH a (by assumption);exact#[d,by assumption,Q]
def ag3(h:w a=Zb (.dT c))(r:Xz K w g c):Walks K (Itk a c.length) (Kg g) w:=by
 intro i o H j s;have f:=s _ _ (j _ _ h);have n:(Kg g).length=c.length:=by unfold Kg;rw[ZI,GF r]
 show#[λhi=>⟨⟨c,f,rfl,YK hi (Sa n)⟩,λx p y=>?_⟩,λhi=>#[c,f,U,00]];let#[U,y]:=y;let#[k,v,b,e,U,m]:=y c f;let#[d,q,_]:=uH r e;exact#[_,fS s,Vn k,by unfold Kg;rw[YC,q];rfl,fU m]
def ag4(h:w a=Zb (.dT c))(r:Xz K w G c):Walks K (Itm a c.length) (GR G) w:=by
 intro i u H g s;have f:=s _ _ (g _ _ h);have o:(GR G).length=c.length:=by unfold GR;rw[ZI,GF r]
 show#[λhi=>⟨⟨c,f,rfl,YK hi (Sa o)⟩,λx z y=>?_⟩,λhi=>#[c,f,U,00]];let#[p,k,v,b,U,j,U,n,y]:=y;let#[d,q,m]:=uH r (y c f);have e:=fS s;show#[_,e.trans (.put e.sub j),.tup [Vn k,d],by unfold GR;rw[YC,q];rfl,?_];exact LK #[_,_,U,fU n,_,_,U,m.same (g.trans e.s0),U] (e.sub.free j)
def aN:D->(Za (Zu×D)->Prop)->Prop
 |.dit g,q=>q g
 |_,_=>False
def fV(h:aN d q):∃g,d=.dit g/\q g:=by
 unfold aN at h;split at h;{exact#[_,U,h]};exact h.elim
theorem ag5:aN (.dit g) q=q g:=rfl
def fW(e:DE):DI:=λds q x=>e ds (λd=>aN d λg=>q (Kg g)) x
def fX(e:DE):DI:=λds q x=>e ds (λd=>aN d λg=>q (GR g)) x
def ag6(h:JE X x l g):JI X x i l (fW g):=by
 let#[j,p,d]:=h.ex;show#[_,agZ p,λc h k kx=>d c h (λv a n m e r h=>?_) kx];let#[G,U,q]:=fV h;let#[a,s,U,b,f]:=r;exact#[a,s,U,e.sub _ _ b,k _ _ _ _ e (ag3 b f) q]
def ag7{o:ZE}{j:DE}{apos C s:Yv}(h:JE X x o j)(f:SL o "items" X.env (Ye o X.env)=Ye o X.env|>1)(b:TH apos C|>1):
  JI X x (.Tuple E n s) (.Call (.Attribute o "items" apos) [] [] C) (fX j):=by
 let#[u,p,d]:=h.ex;show#[_,ag2 p f b,λc h k kx=>d c h (λv a y w e r h=>?_) kx];let#[G,U,q]:=fV h;let#[a,g,U,i,m]:=r;exact#[a,g,U,e.sub _ _ i,k _ _ _ _ e (ag4 i m) q]
section
variable {I B p A G:Hp}{E:St}{ds:ZG}{S:Zg->Prop}
set_option tactic.hygienic true in
def Zy.fzS(c:Zy K I B p H E ds){i:Nat}{J:Mu}(q:ds[i]?=Zb (.st a J))(hS:∀b,S b->J.lookup b≠Zc):
  ∃x,Zv p x/\(∀b,S b->x b=H b)/\(∀b,¬S b->x b=p b)/\(∀b,S b->p b=Zc)/\
   ∀s,Mh K x H s ((E[i]?).getD Zc)->(∀b,s.foot ((E[i]?).getD Zc) b->J.lookup b≠Zc)->Zy K I B x H E (ds.set i s):=by
 classical
 have hi:=(YM.mp q).1;have st:=c.slot i _ q;have n0:=λb z=>by
  cases w:J.lookup b with|none=>exact ZJ w (hS b z)|some m=>exact(st.2 b m w).1
 have nB:=λb z=>by
  cases w:J.lookup b with|none=>exact ZJ w (hS b z)|some m=>exact c.young i _ b q #[m,w]
 let N:Hp:=λb=>if S b then H b else p b
 have y1:∀b,S b->N b=H b:=λb z=>Zt z;have y2:∀b,¬S b->N b=p b:=λb z=>Zq z;have L:Zv p N:=λb o z=>by rw[y2 b (λw=>by rw[n0 b w]at z;cases z)];exact z
 show#[N,L,y1,y2,n0,λs hs hf=>?_];have Q:∀j t b,j≠i->ds[j]?=Zb t->t.foot ((E[j]?).getD Zc) b->J.lookup b=Zc:=λj t b ne r f=>by
  cases w:J.lookup b with|none=>rfl|some m=>exact(c.sep j i t _ b ne r q f #[m,w]).elim
 have nS:=λj t b ne r f=>y2 b λz=>hS b z (Q j t b ne r f);have Y:=λb z=>by
  cases w:J.lookup b with|none=>exact ZJ w z|some m=>exact c.young i _ b q #[m,w]
 show#[⟨c.ext.s,c.ext.s0.trans L,λb o z=>?_,λb z n=>?_⟩,λj t r=>?_,λj t b r f=>?_,λj k t u b ne r y f g=>?_,by rw[KO];exact c.len];{by_cases w:S b;{rw[y1 b w]at z;exact z};rw[y2 b w]at z;exact c.sub _ _ z};{rw[y2 b (λw=>n.no (nB b w))];exact c.ext.new b z n}
 ·rw[VQ hi]at r;split at r;{rename_i e;cases r;rw[e];exact hs};rename_i ne;have old:=c.slot j t r;cases t with
  |un=>trivial
  |v d=>let⟨v,z1,z2⟩:=old;exact#[v,z1,z2.same L]
  |own ys=>let⟨b,M,f1,f2,f3,Z⟩:=old;exact#[b,M,f1,by rw[nS j _ b ne r f1];exact f2,f3,Z.same L]
  |ob b dx C gs=>let⟨M,f1,f2,f3,Z⟩:=old;exact#[M,f1,by rw[nS j _ b ne r f1];exact f2,f3,Z.same L]
  |od gs=>let⟨b,M,f1,f2,f3,Z⟩:=old;exact#[b,M,f1,by rw[nS j _ b ne r f1];exact f2,f3,Z.same L]
  |on gs=>let⟨b,M,f1,f2,f3,Z⟩:=old;exact#[b,M,f1,by rw[nS j _ b ne r f1];exact f2,f3,Z.same L]
  |st b ν=>
   show#[old.1,λb' m l=>?_];let#[g1,u,g2,g3]:=old.2 b' m l;exact#[by rw[nS j _ b' ne r #[m,l]];exact g1,u,g2,g3.same L]
 {rw[VQ hi]at r;split at r;{rename_i e;cases r;rw[e]at f;exact Y b (hf b f)};exact c.young j t b r f};rw[VQ hi]at r y;split at r;{rename_i e;cases r;rw[Zq (λw=>ne (e.trans w.symm))]at y;rw[e]at f;exact hf b f (Q k u b (λw=>ne (e.trans w.symm)) y g)};rename_i e;split at y;{rename_i e2;cases y;rw[e2]at g;exact hf b g (Q j t b e r f)};exact c.sep j k t u b ne r y f g
set_option tactic.hygienic true in
def YD.fY(e:YD c H A G)(sub:Zv p H)(y:∀b,¬S b->c b=p b)(N:∀b,S b->p b=Zc):
  ∃a,YD p H a G/\(∀b,A b=Zc->a b=Zc)/\∀b,¬S b->a b=A b:=by
 classical
 show#[λb=>if S b then Zc else A b,⟨e.s,λb o z=>?_,λb o z=>?_,λb z n=>?_⟩,λb z=>?_,λb z=>Zq z]
 ·have w:¬S b:=λw=>by rw[N b w]at z;cases z
  rw[Zq w];exact e.s0 _ _ (by rw[y b w];exact z)
 {have z:=z;split at z;{cases z};exact e.sub _ _ z};{change(if S b then Zc else A b)=_;split;{rfl};rename_i w;exact e.new b (by rw[y b w];exact z) n};change(if S b then Zc else A b)=_;split;{rfl};exact z
set_option tactic.hygienic true in
def Lv.gen{f g c:Mu}{i:Hp}(W:Zg->Prop)(l:Lv K f g p H A G)(j:∀b,¬W b->i b=G b)(q:∀b,W b->(f.lookup b≠Zc\/H b=Zc)/\A b=Zc)
  (ok:∀x∈c,A x.1=Zc/\(∃u,i x.1=Zb u/\RJ K A x.2 u)/\(f.lookup x.1≠Zc\/H x.1=Zc)):Lv K f c p H A i:=by
 have mem:∀{a:Mu}{b:Zg}{m:MO},a.lookup b=Zb m->(b,m)∈a:=by
  intro a b m h;induction a with
  |nil=>cases h
  |cons x a C=>
   rw[Wn]at h;split at h;{rename_i e;cases h;rw[show b=x.1 by simpa using e];exact YY};exact YT _ (C h)
 show#[λb o n z=>?_,l.s0,λb o z=>?_,l.new,λb m z=>?_,λb m z=>(ok _ (mem z)).2.2];{rw[j b λw=>?_];{exact l.s b o n z};rcases (q b w).1 with y|y;{exact y n};rw[y]at z;cases z};{rw[j b λw=>by rw[(q b w).2]at z;cases z];exact l.sub _ _ z};exact#[(ok _ (mem z)).1,(ok _ (mem z)).2.1]
end
abbrev ZM:=Zu×Zg×Za Int
noncomputable def Xg(x:Za Int):Za D:=x.map .int
noncomputable def RP(e:Za ZM):Za (Zu×D):=e.map λx=>(x.1,.rf x.2.1)
noncomputable def Ck(e:Za ZM):Mu:=e.map λx=>(x.2.1,.lst (Xg x.2.2))
noncomputable def pM(p:Mu)(e:Zg)(E:Za ZM):Mu:=p++(e,.dit (RP E))::Ck E
noncomputable def Te(e:Za ZM):Za (Zu×D):=e.map λx=>(x.1,.lst (Xg x.2.2))
structure Xj (p:Mu)(e:Zg)(en:List ZM):Prop where
 ad:(p.map (·.1)++e::en.map (·.2.1)).Nodup
 ky:(en.map (·.1)).Nodup
noncomputable def VS(f:Za Int->Za Int)(k:Zu)(e:Za ZM):Za ZM:=e.map λx=>if x.1=k then (x.1,x.2.1,f x.2.2)else x
noncomputable def WX(k:Zu)(b:Zg)(e:Za ZM):Za ZM:=if (e.any λx=>decide (x.1=k))=Zd then e else e++[(k,b,[])]
def GU{e:Za ZM}:(e.any λx=>decide (x.1=k))=Zd↔k∈e.map (·.1):=02
def fZ(f:Za Int->Za Int)(k:Zu)(e:Za ZM):(VS f k e).map (·.1)=e.map (·.1):=by
 unfold VS;rw[YG];show IZ λx O=>?_;change(if x.1=k then _ else x).1=x.1;split<;>rfl
def ag8(f:Za Int->Za Int)(k:Zu)(e:Za ZM):(VS f k e).map (·.2.1)=e.map (·.2.1):=by
 unfold VS;rw[YG];show IZ λx O=>?_;change(if x.1=k then _ else x).2.1=x.2.1;split<;>rfl
def Xj.set(h:Xj p e E):Xj p e (VS f k E):=#[by rw[ag8];exact h.ad,by rw[fZ];exact h.ky]
def ag9:RP (VS f k e)=RP e:=by
 unfold RP VS;rw[YG];show IZ λx O=>?_;change((if x.1=k then _ else x).1,D.rf (if x.1=k then _ else x).2.1)=_;split<;>rfl
def ew:(pM p e E).map (·.1)=p.map (·.1)++e::E.map (·.2.1):=by
 unfold pM Ck;rw[Xt,Xo,YG];rfl
def aha{a:Mu}(nd:(a.map (·.1)).Nodup)(h:(b,m)∈a):a.lookup b=Zb m:=by
 induction a with
 |nil=>cases h
 |cons x a i=>
  rw[Xo,TY]at nd;rw[Wn];rcases Yk.mp h with e|e;{subst e;simp};have:(b==x.1)=Zi:=by
   simp only[Jj];intro z;exact nd.1 (by rw[<-z];exact ZW.mpr #[_,e,U])
  rw[this];exact i nd.2 e
def Xj.lk(h:Xj p e E)(z:(b,m)∈pM p e E):(pM p e E).lookup b=Zb m:=aha (by rw[ew];exact h.ad) z
def Xj.Yi(h:Xj p e E):(pM p e E).lookup e=Zb (.dit (RP E)):=h.lk (by unfold pM;simp)
def uI(z:(k,l,x)∈E):(l,MO.lst (Xg x))∈pM p e E:=Va _ (YT _ (ZW.mpr #[_,z,U]))
def Xj.Kh(h:Xj p e E)(z:(k,l,x)∈E):(pM p e E).lookup l=Zb (.lst (Xg x)):=h.lk (uI z)
def Xj.ne(h:Xj p e E)(z:x∈E):x.2.1≠e:=λw=>by
 have:=(UE.mp h.ad).2.1;rw[TY]at this;exact this.1 (by rw[<-w];exact ZW.mpr #[_,z,U])
def Xj.nep(h:Xj p e E)(y:w∈p):w.1≠e/\∀x∈E,w.1≠x.2.1:=by
 have d:=(UE.mp h.ad).2.2;exact#[d _ (ZW.mpr #[_,y,U]) _ YY,λx z=>d _ (ZW.mpr #[_,y,U]) _ (YT _ (ZW.mpr #[_,z,U]))]
theorem Cm{g:f->i}:∀{l:Za f},(l.map g).Nodup->x∈l->y∈l->g x=g y->x=y
 |a::l,nd,c,b,e=>by
  rw[Xo,TY]at nd;rcases Yk.mp c with rfl|c;{rcases Yk.mp b with rfl|b;{rfl};exact(nd.1 (by rw[e];exact ZW.mpr #[_,b,U])).elim};rcases Yk.mp b with rfl|b;{exact(nd.1 (by rw[<-e];exact ZW.mpr #[x,by assumption,U])).elim};exact Cm nd.2 c b e
def Xj.inj(h:Xj p e E)(b:x∈E)(a:y∈E)(z:x.2.1=y.2.1):x=y:=by
 have:=(UE.mp h.ad).2.1;rw[TY]at this;exact Cm this.2 b a z
set_option tactic.hygienic true in
def Xj.ins(h:Xj p e E)(f:b∉p.map (·.1)++e::E.map (·.2.1)):Xj p e (WX k b E):=by
 unfold WX;split;{exact h};rename_i n;rw[GU]at n;show#[?_,?_];{rw[Xt,<-Nw,<-VC,UE];show#[h.ad,02,λx c y a z=>f ?_];rw[show y=b by simpa using a]at z;rw[<-z];exact c};rw[Xt,UE];show#[h.ky,02,λx c y a z=>n ?_];rw[show y=k by simpa using a]at z;rw[<-z];exact c
noncomputable def Yi(e:Za ZM)(k:Zu):Za Int:=((e.find? λx=>decide (x.1=k)).map (·.2.2)).getD []
def eA{P:a->Bool}:∀{l m:Za a},(l++m).find? P=(l.find? P).or (m.find? P):=by
 intro l m;simp
set_option tactic.hygienic true in
def eB(f:Za Int->Za Int)(k:Zu)(b:Zg)(E:Za ZM)(a:Zu):Yi (VS f k (WX k b E)) a=if a=k then f (Yi E k)else Yi E a:=by
 have go:∀l:Za ZM,(VS f k l).find? (λx=>decide (x.1=a))=(l.find? λx=>decide (x.1=a)).map λx=>if x.1=k then (x.1,x.2.1,f x.2.2)else x:=by
  intro l;unfold VS;rw[O5];congr 1;show XI (λP=>l.find? P) (funext λx=>?_);change decide ((if x.1=k then _ else x).1=a)=_;split<;>rfl
 unfold Yi;rw[go];by_cases e:a=k
 ·subst e;rw[Zt U];unfold WX;split
  ·rename_i m;rw[GU]at m;let#[x,c,g]:=ZW.mp m;cases q:E.find? λx=>decide (x.1=a) with
   |none=>have:=oU.mp q x c;simp[g]at this
   |some y=>
    have:y.1=a:=↑(IV q)
    simp[this]
  rename_i m;rw[GU]at m;have q:(E.find? λx=>decide (x.1=a))=Zc:=oU.mpr λx c z=>m (ZW.mpr #[x,c,↑z]);rw[eA,q];simp
 rw[Zq e];unfold WX;split
 ·cases q:E.find? λx=>decide (x.1=a) with
  |none=>rfl
  |some y=>
   have:y.1=a:=↑(IV q)
   simp[this,e]
 rw[eA];cases q:E.find? λx=>decide (x.1=a) with
 |none=>simp[XR e]
 |some y=>
  have:y.1=a:=↑(IV q)
  simp[this,e]
def eC(e:Za ZM)(k:Zu):(WK (Te e) k).getD (.lst [])=.lst (Xg (Yi e k)):=by
 unfold WK Te Yi;rw[O5];cases q:e.find? ((λa:Zu×D=>decide (a.1=k)) ∘ λx:ZM=>(x.1,D.lst (Xg x.2.2))) with|none=>rw[show e.find? (λx=>decide (x.1=k))=Zc from q];rfl|some y=>rw[show e.find? (λx=>decide (x.1=k))=Zb y from q];rfl
section
variable {g i a:Hp}{p j:Mu}{e:Zg}{E:Za ZM}{k:Zu}
theorem uJ:∀{s:Za Int}{b:Za V},Zw K H (Xg s) b->b=s.map V.int
 |[],_,h=>h
 |x::s,_,⟨v,u,e,f,c⟩=>by rw[e,show v=.int x from f,uJ c];rfl
def uK(E:Za ZM)(k:Zu):WK (RP E) k=(E.find? λx=>decide (x.1=k)).map λx=>.rf x.2.1:=by
 unfold WK RP;rw[O5,Option.map_map];rfl
def Ss.at'(h:Ss K g H (pM p e E))(ok:Xj p e E)(z:x∈pM p e E):g x.1=Zc/\∃u,H x.1=Zb u/\RJ K g x.2 u:=h _ _ (ok.lk z)
def Lv.app(L:Lv K j (pM p e E) g H i a)(ok:Xj p e E)(z:(k,l,m)∈E)(f:Za Int->Za Int):Lv K j (pM p e (VS f k E)) g H i (upd a l (.lst ((f m).map V.int))):=by
 show L.gen (· = l) (λb o=>ZN o) (λb o=>?_) λx q=>?_;{subst o;exact#[L.old _ _ (ok.Kh z),(L.ok _ _ (ok.Kh z)).1]};have old:∀y,y∈pM p e E->y.1≠l->i y.1=Zc/\(∃u,(upd a l (.lst ((f m).map V.int))) y.1=Zb u/\RJ K i y.2 u)/\(j.lookup y.1≠Zc\/H y.1=Zc):=λy c ne=>by
  let#[C,u,B,A]:=Ss.at' L.ok ok c;exact#[C,#[u,by rw[ZN ne];exact B,A],L.old _ _ (ok.lk c)]
 rcases Xk.mp q with h|h;{exact old x (by unfold pM;exact Tt _ h) ((ok.nep h).2 _ z)};rcases Yk.mp h with rfl|h;{rw[ag9];exact old _ (by unfold pM;simp) (XR (ok.ne z))};unfold Ck VS at h;rw[YG]at h;let#[y,c,U]:=ZW.mp h;by_cases n:y.1=k;{obtain rfl:y=(k,l,m):=Cm ok.ky c z n;dsimp only[ao2];rw[Zt U];exact#[(L.ok _ _ (ok.Kh z)).1,#[_,YQ,_,U,Gw _],L.old _ _ (ok.Kh z)]};dsimp only[ao2];rw[Zq n];exact old (y.2.1,.lst (Xg y.2.2)) (uI c) λw=>n (by rw[ok.inj c z w])
def eD(h:Ss K g H (pM p e E))(ok:Xj p e E)(z:(k,l,x)∈E):H l=Zb (.lst (x.map V.int)):=by
 let#[_,u,b,s,U,r]:=h _ _ (ok.Kh z);rw[b,uJ r]
def eE{Q:VK}(sub:Zv g H)(M:Ss K g H (pM p e E))(ok:Xj p e E)(hl:E.length<Zo)(G:YD g H i a)(kb:XU a k c)(n:a b=Zc)
  (kk:∀l xs H',Xj p e (WX k b E)->(k,l,xs)∈WX k b E->Lv K (pM p e E) (pM p e (WX k b E)) g H i H'->Q (.ref l) H'):
  ∃f J c',V.ref c=.ref c'/\(upd a b (.lst [])) e=Zb (.dT f)/\XU (upd a b (.lst [])) J c'/\f.length<Zo/\(∀v,WG f J=Zb v->Q v (upd a b (.lst [])))/\
   (WG f J=Zc->Q (.ref b) (upd (upd a b (.lst [])) e (.dT (We f J (.ref b))))):=by
 let#[e0,u,he,f,U,B]:=M _ _ ok.Yi;have Y:YD g H i (upd a b (.lst [])):=G.trans (.grow G.sub (Zv.upd n));have L:=(Lv.refl sub M).post Y;have Z:b∉p.map (·.1)++e::E.map (·.2.1):=λw=>by
  rw[<-ew]at w;let#[x,N,U]:=ZW.mp w;let#[_,u,o,_]:=M.at' ok N;have:=G.s _ _ o;rw[n]at this;cases this
 show#[f,k,c,U,(Y.s _ _ he),kb.same (Zv.upd n),by rw[GF B];unfold RP;rw[ZI];exact hl,λv C=>?_,λC=>?_]
 ·cases q:E.find? λx=>decide (x.1=k) with
  |none=>rw[(Ka k B).2 (by rw[uK,q];rfl)]at C;cases C
  |some y=>
   let⟨v',o,h2⟩:=(Ka k B).1 (.rf y.2.1) (by rw[uK,q];rfl);rw[C]at o;cases o;have m:=oZ q;have I:y.1=k:=↑(IV q)
   have A:WX k b E=E:=Zt (GU.mpr (ZW.mpr #[y,m,I]));rw[show v=.ref y.2.1 from h2];show kk y.2.1 y.2.2 _ (by rw[A];exact ok) (by rw[A,<-I];exact m) (by rw[A];exact L)
 have q:¬(E.any λx=>decide (x.1=k))=Zd:=λz=>by
  let#[y,m,I]:=ZW.mp (GU.mp z);cases w:E.find? λx=>decide (x.1=k) with
  |none=>have:=oU.mp w y m;simp[I]at this
  |some x=>
   let⟨v',o,h2⟩:=(Ka k B).1 (.rf x.2.1) (by rw[uK,w];rfl);rw[C]at o;cases o
 have A:WX k b E=E++[(k,b,[])]:=Zq q;have ne:b≠e:=λw=>Z (by rw[w];simp);show kk b [] _ (ok.ins (k:=k) Z) (by rw[A];simp) ?_;rw[A];show L.gen (· = e) (λb n=>ZN n) (λb n=>?_) λx N=>?_;{subst n;exact#[L.old _ _ ok.Yi,(L.ok _ _ ok.Yi).1]};have old:∀y,y∈pM p e E->y.1≠e->i y.1=Zc/\(∃u,(upd (upd a b (.lst [])) e (.dT (We f k (.ref b)))) y.1=Zb u/\RJ K i y.2 u)/\((pM p e E).lookup y.1≠Zc\/H y.1=Zc):=λy m ne=>by
  let#[a1,u,a2,a3]:=Ss.at' L.ok ok m;exact#[a1,#[u,by rw[ZN ne];exact a2,a3],L.old _ _ (ok.lk m)]
 rcases Xk.mp N with h|h;{exact old x (by unfold pM;exact Tt _ h) (ok.nep h).1};rcases Yk.mp h with rfl|h
 ·show#[(L.ok _ _ ok.Yi).1,#[_,YQ,_,U,?_],L.old _ _ ok.Yi];have:=ur (k:=k) (d:=.rf b) (B.same Y.s0) U;unfold VX at this;have q2:¬((RP E).any λkv=>decide (kv.1=k))=Zd:=by unfold RP;rw[FN];exact q
  rw[Zq q2]at this;unfold RP at this⊢;rw[Xt];exact this
 unfold Ck at h;rw[Xt]at h;rcases Xk.mp h with h|h;{let#[y,m,U]:=ZW.mp h;exact old (y.2.1,.lst (Xg y.2.2)) (uI m) (ok.ne m)};obtain rfl:x=(b,.lst []):=by simpa [Xg]using h
 exact#[(G.sub.free n),#[_,by rw[ZN ne];exact YQ,[],U,U],.inr (G.s.free n)]
end
noncomputable def UB(a C x:Zg)(fs:Za (Ze×D))(f:Ze)(e:Zg)(E:Za ZM):Mu:=pM [(a,.ins C x (fs++[(f,.rf e)]))] e E
noncomputable def Su(a C x:Zg)(fs:Za (Ze×D))(f:Ze)(e:Zg):Mu:=[(a,.ins C x (fs++[(f,.rf e)]))]
section
variable {n B i:Hp}{m:St}{ds:ZG}{p:Mu}{e:Zg}{E:Za ZM}
theorem eF(M:Ss K i H (pM p e E))(ok:Xj p e E)(s:Zv i b)(g:∀x∈E,b x.2.1=H x.2.1):∀{c:Za ZM}{a:Za (Zu×V)},(∀x∈c,x∈E)->Xz K i (RP c) a->Xz K b (Te c) a
 |[],_,_,h=>h
 |x::c,_,sub,⟨v,o,C,A,z⟩=>by
  show#[v,o,C,?_,eF M ok s g (λy w=>sub y (YT _ w)) z];have f:=sub x YY;let#[_,u,Q,j,U,q]:=M _ _ (ok.Kh f);exact#[x.2.1,j,A,by rw[g x f];exact Q,q.same s]
def uL(M:Ss K i H (pM p e E))(ok:Xj p e E)(s:Zv i a)(c:a e=H e)(f:∀x∈E,a x.2.1=H x.2.1):Rp K a (.dit (Te E)) (.ref e):=by
 let#[_,u,g,b,U,r]:=M _ _ ok.Yi;exact#[e,b,U,by rw[c];exact g,eF M ok s f (λO h=>h) r]
theorem uM:∀{G:Za (Ze×D)}{fs:Za (Ze×V)}{f:Ze}{d a:D},(∀v,Rp K H d v->Rp K b a v)->Zv H b->XZ K H (G++[(f,d)]) fs->XZ K b (G++[(f,a)]) fs
 |[],_,_,_,_,k,s,⟨v,u,e,r,h⟩=>#[v,u,e,k v r,h]
 |(g,x)::G,_,_,_,_,k,s,⟨v,u,e,r,h⟩=>#[v,u,e,r.same s,uM k s h]
def GV(e:Zg)(E:Za ZM)(b:Zg):Prop:=b=e\/∃x∈E,b=x.2.1
def uN(ok:Xj p e E)(h:GV e E b):(pM p e E).lookup b≠Zc:=by
 rcases h with rfl|⟨x,a,rfl⟩;{rw[ok.Yi];simp};rw[ok.Kh a];simp
def QB(ok:Xj (Su a C x fs f e) e E):(UB a C x fs f e E).lookup a=Zb (.ins C x (fs++[(f,.rf e)])):=ok.lk (by unfold pM Su;simp)
def ahb(ok:Xj (Su a C c fs f e) e E):¬GV e E a:=λh=>by
 have:=ok.nep (w:=(a,.ins C c (fs++[(f,.rf e)]))) (by unfold Su;simp);rcases h with h|⟨x,b,h⟩;{exact this.1 h};exact this.2 x b h
def Zy.fzC(c:Zy K n B i H m ds){j:Nat}(q:ds[j]?=Zb (.st a (UB a C o fs f e E)))(ok:Xj (Su a C o fs f e) e E):
  ∃g,(∀b,¬(b=a\/GV e E b)->g b=i b)/\(∀b,(b=a\/GV e E b)->i b=Zc)/\Zy K n B g H m (ds.set j (.v (.obj C (fs++[(f,.dit (Te E))])))):=by
 have G:∀b,(b=a\/GV e E b)->(UB a C o fs f e E).lookup b≠Zc:=λb h=>by
  rcases h with rfl|h;{rw[QB ok];simp};exact uN ok h
 let#[g,s,y,Y,N,k]:=c.fzS q G;have st:=c.slot j _ q;show#[g,Y,N,k _ ⟨.ref a,st.1,?_⟩ λb f=>f.elim];let#[_,u,I,w,U,r]:=st.2 _ _ (QB ok);show#[a,o,w,U,by rw[y a (.inl U)];exact I,uM (λv z=>?_) s r];rw[show v=.ref e from z];exact uL st.2 ok s (y e (.inr (.inl U))) λx A=>y _ (.inr (.inr #[x,A,U]))
def Zy.fzO(c:Zy K n B i H m ds){j:Nat}(q:ds[j]?=Zb (.st a (UB a C o fs f e E)))(ok:Xj (Su a C o fs f e) e E):
  ∃g,Zy K n B g H m (ds.set j (.ob a o C (fs++[(f,.dit (Te E))]))):=by
 let#[g,s,y,Y,N,k]:=c.fzS q (λb h=>uN ok h);have st:=c.slot j _ q;let#[I,u,G,w,U,r]:=st.2 _ _ (QB ok);show#[g,k _ ⟨w,st.1,by rw[Y a (ahb ok)];exact I,G,uM (λv z=>?_) s r⟩ λb f=>?_];{rw[show v=.ref e from z];exact uL st.2 ok s (y e (.inl U)) λx A=>y _ (.inr #[x,A,U])};have f:_=_:=f;rw[st.1]at f;cases f;rw[QB ok];simp
def Zy.fzD(c:Zy K n B i H m ds){j:Nat}(q:ds[j]?=Zb (.st e (pM [] e E)))(ok:Xj [] e E):∃a,Zy K n B a H m (ds.set j (.v (.dit (Te E)))):=by
 let#[a,s,y,Y,N,k]:=c.fzS q (λb h=>uN ok h);have st:=c.slot j _ q;exact#[a,k _ ⟨.ref e,st.1,uL st.2 ok s (y e (.inl rfl)) λx g=>y _ (.inr ⟨x,g,rfl⟩)⟩ λb f=>f.elim]
end
mutual
def D.Ue:D->Bool
 |.tup xs=>D.Ih xs
 |.lst xs=>D.Ih xs
 |.dit kvs=>D.GW kvs
 |.obj _ _=>Zi
 |.scr _=>Zi
 |.dic _=>Zi
 |.exc _=>Zi
 |_=>Zd
def D.Ih:List D->Bool
 |[]=>Zd
 |d::ds=>d.Ue&&D.Ih ds
def D.GW:List (Zu×D)->Bool
 |[]=>Zd
 |(_,d)::ds=>d.Ue&&D.GW ds
end
section
variable {H':Hp}{a C dx:Zg}{fs:Za (Ze×V)}
mutual
theorem Rp.Ue(k:∀b,b≠a->H' b=H b)(ha:H a=Zb (.ins C dx fs)):∀(d:D) {v:V},d.Ue=Zd->Rp K H d v->Rp K H' d v
 |.non | .bl _ | .int _ | .str _ | .ty _ | .rf _=>λO h=>h
 |.tup xs | .lst xs=>λz h=>by
  let#[b,vs,e,h1,h2]:=h
  exact#[b,vs,e,by rw[k b (λw=>by rw[w,ha]at h1;cases h1)];exact h1,Zw.Ue k ha xs z h2]
 |.dit gs=>λz h=>by
  let#[b,vs,e,h1,h2]:=h
  exact#[b,vs,e,by rw[k b (λw=>by rw[w,ha]at h1;cases h1)];exact h1,Xz.Ue k ha gs z h2]
 |.scr _ | .dic _ | .obj _ _ | .exc _=>λz O=>(XQ z).elim
theorem Zw.Ue(k:∀b,b≠a->H' b=H b)(ha:H a=Zb (.ins C dx fs)):∀(ds:List D) {vs:List V},D.Ih ds=Zd->Zw K H ds vs->Zw K H' ds vs
 |[],_,_,h=>h
 |d::ds,_,z,⟨v,us,e,h1,h2⟩=>by
  unfold D.Ih at z
  rw[XX]at z
  exact#[v,us,e,Rp.Ue k ha d z.1 h1,Zw.Ue k ha ds z.2 h2]
theorem Xz.Ue(k:∀b,b≠a->H' b=H b)(ha:H a=Zb (.ins C dx fs)):∀(ds:List (Zu×D)) {vs:List (Zu×V)},D.GW ds=Zd->Xz K H ds vs->Xz K H' ds vs
 |[],_,_,h=>h
 |(j,d)::ds,_,z,⟨v,us,e,h1,h2⟩=>by
  unfold D.GW at z
  rw[XX]at z
  exact#[v,us,e,Rp.Ue k ha d z.1 h1,Xz.Ue k ha ds z.2 h2]
end
end
def eG(i:Nat):DS:=λds e=>∀b,e.nx (ds.set i (.st b (pM [] b [])))
def ahc(A:X.N.Nodup)(hi:X.N[i]?=Zb x)(w:Loc X.env.scope x)(y:XD (.Dict [] [] a) (Zb (.Name x p)) pos.line X.env=ZR Zi|>1)
  (z:Vl X x|>3):JS X E (.Assign [.Name x p] (.Dict [] [] a) pos) (eG i):=by
 show#[_,Ow A hi w wK y z,λ{I B G H C ds e T} c h o=>?_];intro b n;show o.nx _ _ _ _ ((c.go (YD.grow c.sub (Zv.upd n))).lay i (s:=.st b (pM [] b [])) #[U,λu m l=>?_] (λu f=>?_) λu j t O q f g=>?_) (h b);{let#[U,U]:=LZ l;exact#[c.sub.free n,_,YQ,[],U,U]};{let#[m,l]:=f;let#[U,U]:=LZ l;exact c.ext.s.free n};let#[m,l]:=f;let#[U,U]:=LZ l;exact(c.Mi q g).2 n
def eH(i j:Nat)(c:DE):DS:=λds E=>∃a e n,ds[i]?=Zb (.st a (pM [] a e))/\ds[j]?=Zb (.v (.int n))/\Xj [] a e/\e.length<Zo/\(∀x∈e,x.2.2.length<Zo)/\
 c ds (λkd=>∃key,kd=Vn key/\∀b,Xj [] a (WX key b e)->E.nx (ds.set i (.st a (pM [] a (VS (· ++ [n]) key (WX key b e)))))) (E.xc ds)
def eI(h:∀x∈e,x.2.2.length<Zo)(z:y∈WX k b e):y.2.2.length<Zo:=by
 unfold WX at z;split at z;{exact h y z};rcases Xk.mp z with z|z;{exact h y z};obtain rfl:y=(k,b,[]):=by simpa using z
 change 0<Zo;decide
def ahd{XE:St->XK}(i j:Nat)(hu:X.A.units+3<Yz)(hk:JE X XE k dk)(hN:X.N[i]?=Zb x|>1)(hv:Vk X.env.scope x|>3)
  (hN2:X.N[j]?=Zb y|>1)(hv2:Vk X.env.scope y|>3)
  (m:M2 X (.Name x s) "setdefault" M k (.List [] w) J:=by exact#[U,U,U,U])(p:SL (.Call (.Attribute (.Name x s) "setdefault" M) [k,.List [] w] [] J) "append" X.env (Ye (.Call (.Attribute (.Name x s) "setdefault" M) [k,.List [] w] [] J) X.env)=Ye (.Call (.Attribute (.Name x s) "setdefault" M) [k,.List [] w] [] J) X.env|>1)
  (C:((RB I (XA [.Name y q] X.env)).all (λx=>!x.1)&&(Jb I (Je [] X.env)).all (λx=>x.1.isSome)
   && decide ([ZE.Name y q].length+([]:Za Nv).length+(if ([]:Za Nv).isEmpty then 0 else 1)<30))=Zd|>1)
  (g:TH a2 I|>1)(hs:XA [.Name y q] X.env=(Zi,Ye (.Name y q) X.env)::XA [] X.env|>1)(e:VP X [] I|>1)
  (hsw:XD (.Call (.Attribute (.Call (.Attribute (.Name x s) "setdefault" M) [k,.List [] w] [] J) "append" a2) [.Name y q] [] I) Zc pos.line X.env=ZR Zi|>1)
  (hd:YV x|>2)(hcd:Vv x|>2)(hd2:YV y|>2)(G:Vv y|>2):
  JS X XE (.Expr (.Call (.Attribute (.Call (.Attribute (.Name x s) "setdefault" M) [k,.List [] w] [] J) "append" a2) [.Name y q] [] I) pos) (eH i j dk):=by
 let#[tk,pk,dK]:=hk.ex;show#[_,Pj (OB Lf IJ Ee Jv (fQ hu (pv i hN hv hd hcd) pk (EI Sg) m) (Sn (pv j hN2 hv2 hd2 G) Sg U) p C g hs e) hsw,λ{B0 B H0 H σ ds E T} c h o=>?_];let#[a,en,n,hi,hj,ok,hl,hls,h]:=h;have st:=c.slot i _ hi;let#[vn,en1,U]:=c.slot j _ hj;let#[_,u,he,Z,U,_]:=st.2 _ _ ok.Yi;show#[.ref a,Ux st.1,a,U,.inr #[Z,.inl he],dK c h (λkv kd Y H2 ee rk hq=>?_) (o.kx c)];let#[key,U,hq]:=hq;let#[b,U,kb]:=MC rk;show#[Wg _,λl hl'=>?_];show eE (Q:=λx Y=>HF X.K "list" x Y/\wj (Ez j) lM σ Y λxs H2=>EL x xs H2 λO Y=>T.nx σ Y) c.sub st.2 ok hl ee (kb.same ee.sub) hl' λl2 xs H' f z lv=>?_;have hx:=eD lv.ok f z;show#[.inl #[U,_,Ya.of hx],.int n,Ux en1,l2,_,.int n,U,U,hx,by rw[ZI];exact eI hls z,?_];have L:=lv.app f z (· ++ [n]);rw[Xt]at L;exact o.nx _ _ _ _ (c.GB (a':=a) hi L) (hq l f)
def eJ(i:Nat):DS:=λds E=>∃a e,ds[i]?=Zb (.st a (pM [] a e))/\Xj [] a e/\E.rt (.dit (Te e))
def ahe(i:Nat)(g:X.N[i]?=Zb x|>1)(e:Vk X.env.scope x|>3)(hd:YV x|>2)
  (b:Vv x|>2):JS X s (.Return (Zb (.Name x p)) pos) (eJ i):=by
 show#[_,xU (pv i g e hd b),λ{w B u H n ds E T} c h o=>?_];let#[a,q,hi,ok,h]:=h;let#[m,C]:=c.fzD hi ok;have f:=(YM.mp hi).1;let#[v,j,r]:=C.slot i _ (by rw[VQ f,Zt U]);exact#[v,Ux j,o.rt _ _ _ _ C.ext r h]
def eK(K:ZF)(i:Nat)(f:Ze):DE:=λds q O=>∃a b C x g d,ds[i]?=Zb (.st a b)/\b.lookup a=Zb (.ins C x g)/\Wp K C/\Xx K C f/\g.lookup f=Zb d/\q d
def ahf(i:Nat)(n:X.K=K)(m:X.N[i]?=Zb x|>1)(e:Vk X.env.scope x|>3)(hd:YV x|>2)
  (b:Vv x|>2)(j:SL (.Name x p) f X.env (Ye (.Name x p) X.env)=Ye (.Name x p) X.env|>1):JE X E (.Attribute (.Name x p) f pos) (eK K i f):=by
 subst n;show#[_,we (pv i m e hd b) j,λc h k kx=>?_];let#[a,z,C,y,G,d,hi,g,w,s,q,o]:=h;have st:=c.slot i _ hi;let#[_,u,g1,fs,U,r]:=st.2 _ _ g;let#[v,g2,g3]:=r.lookup q;exact#[.ref a,Ux st.1,a,C,y,fs,v,U,g1,w,s,g2,k _ d _ _ (.refl c.sub) g3 o]
structure ahg (P:YZ)(w:Yt)(K:ZF)(mg:Ze->Option Zh)(base:ZD)(k:Nat)(C:Zg)(m:Ze)(g:Rb):Prop where
 cl:Wp K C
 ok:∃f fd ps,IG K C m f/\ZK P w K mg base (ZV P w) k f fd ps (spS K 0 g)/\Binds K fd ps []
def eL(P:YZ)(w:Yt)(K:ZF)(M:Ze->Option Zh)(base:ZD)(k:Nat)(m:Ze)(i:Nat)(f:DA):DS:=λds E=>∃a c C e G g,ds[i]?=Zb (.st a c)/\c.lookup a=Zb (.ins C e G)/\ahg P w K M base k C m g/\G.lookup m=Zc/\
 f ds (λx=>g (.rf a::x) c λO b=>E.nx (ds.set i (.st a b))) (E.xc ds)
def GX{base:ZD}{k:Nat}{m x:Ze}{pos apos s np:Yv}{e:ZE}{b:Za ZE}{G:DA}{pl:Vb Bool}(i:Nat)(hr:Xc k X.A)(hx:UG X J)(ha:WV X J (e::b) G)
  (e1:X.prog=P|>1)(e2:X.w=w|>1)(e3:X.K=K|>1)(e4:X.mg=mg|>1)(e5:X.base=base|>1)
  (hN:X.N[i]?=Zb x|>1)(hv:Vk X.env.scope x|>3)(hd:YV x|>2)(q:Vv x|>2)
  (j:TC X e b|>1)(p:VP X b s|>1)
  (ht:Ye (.Call (.Attribute (.Name x np) m apos) (e::b) [] s) X.env=(do
   let y <-Ye (.Name x np) X.env
   Om apos.atName
   let (f,first) <-RD [y] (xE y m pl)
   callWith s f first (RB s (XA (e::b) X.env)) (Jb s (Je [] X.env)))|>1)
  (hs:XD (.Call (.Attribute (.Name x np) m apos) (e::b) [] s) Zc pos.line X.env=ZR Zi|>1):JS X J (.Expr (.Call (.Attribute (.Name x np) m apos) (e::b) [] s) pos) (eL P w K mg base k m i G):=by
 subst e1 e2 e3 e4 e5;let#[ta,p2,d2]:=ha.ex;show#[_,Pj (iG hr hx (pv i hN hv hd q) p2 j p ht) hs,λ{B0 B H0 H σ ds E T} c h o=>?_];let#[a,M,C,dx,gs,g,hi,hl,mo,lm,h]:=h;have st:=c.slot i _ hi;let#[_,u,g1,fs,U,r]:=st.2 _ _ hl;let#[cl,f,fd,ps,hm,F,hb]:=mo;show#[.ref a,Ux st.1,a,C,dx,fs,_,U,g1,#[cl,f,fd,ps,hm,F,hb],r.vW lm,d2 c h (λY Q H1 H2 z Z hq=>?_) (o.kx c)];have I:=c.go z;exact#[H1,.rf a::Q,a,M,_,z.sub,#[.ref a,Y,U,U,Z],U,(I.slot i _ hi).2,hq,λv d L H0' H' l r' n=>o.nx _ _ _ _ (I.GB (a':=a) hi l) n]
def eM(K:ZF)(i:Nat)(f:Ze):DS:=λds E=>∃a x C g,ds[i]?=Zb (.ob a x C g)/\Wp K C/\Xx K C f/\g.length<1000/\g.lookup f=Zc/\∀e,Xj (Su a C x g f e) e []->E.nx (ds.set i (.st a (UB a C x g f e [])))
theorem eN:∀{g:Za (Ze×D)},g.lookup f=Zc->PZ f d g=g++[(f,d)]
 |[],_=>rfl
 |(k,x)::g,h=>by
  rw[Wn]at h;cases z:f==k with
  |true=>rw[z]at h;cases h
  |false=>
   rw[z]at h;unfold PZ;rw[Zq (λe=>by rw[e]at z;simp at z),eN h];rfl
set_option tactic.hygienic true in
def ahh(i:Nat)(hK:X.K=K)(hN:X.N[i]?=Zb x|>1)(hv:Vk X.env.scope x|>3)
  (hs:XD (.Dict [] [] I) (Zb (.Attribute (.Name x p) f apos)) pos.line X.env=ZR Zi|>1)(hd:YV x|>2)(M:Vv x|>2):JS X XE (.Assign [.Attribute (.Name x p) f apos] (.Dict [] [] I) pos) (eM K i f):=by
 subst hK;show#[_,wg (pv i hN hv hd M) wK hs,λ{B0 B H0 H J ds E T} c h o=>?_];let#[a,n,C,G,hi,h1,h2,h3,h4,h]:=h;intro e y;have eg:YD H0 H H0 (upd H e (.dT [])):=.grow c.sub (Zv.upd y);have c1:=c.go eg;let#[fs,Q,f1,f2,f3]:=c1.slot i _ hi;let#[_,_,_,A,_]:=c.slot i _ hi;have ne:a≠e:=λw=>by rw[w,y]at A;cases A
 show#[.ref a,Ux Q,a,C,n,fs,U,f2,h1,h2,by rw[f3.length];exact h3,?_];have Z:=c1.write hi Q (λb z=>z) (s':=.ob a n C (PZ f (.rf e) G)) #[_,Q,f1,YQ,f3.put (show Rp X.K H0 (.rf e) (.ref e)from rfl)];rw[eN h4]at Z;have L:=(YM.mp hi).1;let#[Y,z1,z2,z3,z4]:=Z.slot i _ (by rw[VQ L,Zt U]);have ok:Xj (Su a C n G f e) e []:=#[by unfold Su;simpa using ne,02]
 have lk:∀b m,(UB a C n G f e []).lookup b=Zb m->(b=a/\m=.ins C n (G++[(f,.rf e)]))\/(b=e/\m=.dit []):=λb m l=>by
  unfold UB pM at l;rw[Nw,QN,Wn]at l;split at l;{rename_i w;cases l;exact .inl #[↑w,U]};let#[w1,w2]:=LZ l;exact .inr #[w1,w2]
 have es:J.set i ((J[i]?).getD Zc)=J:=by
  have u:i<J.length:=by rw[c.len];exact L
  rw[ZA u];exact apP u
 have c3:=Z.lay i (s:=.st a (UB a C n G f e [])) #[z1,λb m l=>?_] (λb w=>?_) λb j t nj q w g=>?_;{rw[es,List.set_set]at c3;exact o.nx _ _ _ _ c3 (h e ok)};{rcases lk b m l with⟨rfl,rfl⟩|⟨rfl,rfl⟩;{exact#[z2,_,z3,Y,U,z4]};exact#[c.sub.free y,_,by rw[ZN (XR ne)];exact YQ,[],U,U]};{let#[m,l]:=w;rcases lk b m l with⟨rfl,rfl⟩|⟨rfl,rfl⟩;{exact c.young i _ _ hi Q};exact c.ext.s.free y};let#[m,l]:=w;rw[VQ L,Zq nj]at q;rcases lk b m l with⟨rfl,rfl⟩|⟨rfl,rfl⟩;{exact c.sep j i t _ _ nj q hi g Q};exact(c.Mi q g).2 y
def eO(K:ZF)(i:Nat)(f:Ze)(e:DE):DS:=λds E=>∃a x C g,ds[i]?=Zb (.ob a x C g)/\Wp K C/\Xx K C f/\g.length<1000/\e (ds.set i (.v (.obj C g))) (λd=>d.Ue=Zd/\E.nx (ds.set i (.ob a x C (PZ f d g)))) (E.xc ds)
def eP(i:Nat){I:DE}(Z:X.K=K)(Q:JE X XE e I)(Y:X.N[i]?=Zb x|>1)(L:Vk X.env.scope x|>3)
  (M:XD e (Zb (.Attribute (.Name x p) f apos)) pos.line X.env=ZR Zi|>1)(hd:YV x|>2)(g:Vv x|>2):JS X XE (.Assign [.Attribute (.Name x p) f apos] e pos) (eO K i f I):=by
 subst Z;let#[te,J,d1]:=Q.ex;show#[_,wg (pv i Y L hd g) J M,λ{B0 B H0 H σ ds E T} c h o=>?_];let#[a,w,C,G,hi,h1,h2,h3,h]:=h;let#[fs,q,f1,f2,m]:=c.slot i _ hi;let#[c1,s1]:=c.Ua (d:=.obj C G) hi q q f2 #[a,w,fs,U,YQ,m.same (Zv.upd f1)];show d1 c1 h (λv d H1 H2 n r A=>?_) (o.kx c);let#[H1',u,_,y]:=n.fY c.sub (λb j=>ZN j) (λb j=>by rw[j];exact f1);show#[.ref a,Ux q,a,C,w,fs,U,n.s _ _ f2,h1,h2,by rw[m.length];exact h3,?_];show o.nx _ _ _ _ ((c.go u).write hi q (λb z=>z) (s':=.ob a w C (PZ f d G)) #[_,q,u.new a f1 (Vi f2),YQ,(m.same u.s0).put (Rp.Ue y (n.s0 _ _ YQ) d A.1 r)]) A.2
def eQ(i j:Nat)(b:DA):DS:=λds E=>∃a C x fs f e n,ds[j]?=Zb (.st a (UB a C x fs f e n))/\Xj (Su a C x fs f e) e n/\
 b (ds.set j (.v (.obj C (fs++[(f,.dit (Te n))])))) (λs=>∃N,s=Xg N/\E.nx (ds.set i (.own (Xg N)))) (E.xc ds)
def ahi(j:Nat)(J:X.N.Nodup)(hi:X.N[i]?=Zb x)(u:Loc X.env.scope x)(G:JF X XE e Q)(w:XD e (Zb (.Name x b)) pos.line X.env=ZR Zi|>1)
  (A:Vl X x|>3):JS X XE (.Assign [.Name x b] e pos) (eQ i j Q):=by
 let#[te,p,d]:=G.ex;show#[_,Ow J hi u p w A,λ{B0 B H0 H σ ds E T} c h o=>?_];let#[a,C,dx,fs,f,e,en,z,ok,h]:=h;let#[H0',Y,s,Z]:=c.fzC z ok;show d Z h (λr vs xs H1 H2 L n m I g q=>?_) (o.kx c);let#[ns,U,q]:=q;let#[H1',M,y,_]:=L.fY c.sub Y s;exact o.nx _ _ _ _ (c.Dd i M n (y r m) I (by rw[uJ g];exact Gw _)) q
def eR(i:Nat)(d:DS):DS:=λds E=>d ds {E with nx:=λb=>∃a C x fs f e n,b[i]?=Zb (.st a (UB a C x fs f e n))/\Xj (Su a C x fs f e) e n/\E.nx (b.set i (.ob a x C (fs++[(f,.dit (Te n))])))}
def ahj{st:ZH}(i:Nat)(h:JS X x st d):JS X x st (eR i d):=by
 let#[t,p,n]:=h.ex;show#[_,p,λc h o=>n c h #[λw H s ds j b=>?_,o.rt,o.xc,o.bk,o.ct,o.rb,o.ro]];let#[a,C,u,fs,f,e,E,hi,ok,q]:=b;let#[m,g]:=j.fzO hi ok;exact o.nx _ _ _ _ g q
noncomputable def QC(n:Int)(x:Za Int):Za Int:=if MS (.int n) (x.map V.int)=Zd then x else x++[n]
def eS(K:ZF)(i m j:Nat)(f:Ze)(o:DE):DS:=λds E=>∃a C g fs e c n,ds[i]?=Zb (.st a (UB a C g fs f e c))/\ds[j]?=Zb (.v (.int n))/\ds[m]?=Zb .un/\Xj (Su a C g fs f e) e c/\Wp K C/\Xx K C f/\fs.lookup f=Zc/\
 c.length<Zo/\(∀x∈c,x.2.2.length<Zo)/\o ds (λkd=>∃key,kd=Vn key/\∀b,Xj (Su a C g fs f e) e (WX key b c)->E.nx (ds.set i (.st a (UB a C g fs f e (VS (QC n) key (WX key b c)))))) (E.xc ds)
theorem eT:∀{g:Za (Ze×D)},g.lookup f=Zc->(g++[(f,d)]).lookup f=Zb d
 |[],_=>02
 |(k,x)::g,h=>by
  rw[Wn]at h;rw[Nw,Wn];cases z:f==k with
  |true=>rw[z]at h;cases h
  |false=>rw[z]at h;exact eT h
set_option tactic.hygienic true in
def ahk(ok:(E.map (·.1)).Nodup)(z:(k,l,s)∈E)(h:g s=s):VS g k E=E:=by
 show(IZ λx a=>?_).trans (oY _);change(if x.1=k then _ else x)=x;split;{rename_i e;obtain rfl:=Cm ok a z e;rw[show(k,l,s).2.2=s from rfl,h]};rfl
def ahl{XE:St->XK}{dk:DE}(i m j:Nat)(hK:X.K=K)(hu:X.A.units+3<Yz)(hij:i≠m)(hjm:j≠m)(hk:JE X XE k dk)(hnd:X.N.Nodup)(hN:X.N[i]?=Zb x)(hNm:X.N[m]?=Zb z)(hNj:X.N[j]?=Zb y)(hz:Loc X.env.scope z)
  (hv:Vk X.env.scope x|>3)(hvz:Vk X.env.scope z|>3)(hvy:Vk X.env.scope y|>3)
  (hfb:SL (.Name x p1) f X.env (Ye (.Name x p1) X.env)=Ye (.Name x p1) X.env|>1)
  (m2:M2 X (.Attribute (.Name x p1) f fp) "setdefault" a1 k (.List [] lp) c1:=by exact#[U,U,U,U])
  (hs1:XD (.Call (.Attribute (.Attribute (.Name x p1) f fp) "setdefault" a1) [k,.List [] lp] [] c1) (Zb (.Name z q1)) pos1.line X.env=ZR Zi|>1)
  (hf:Vl X z|>3)
  (hmk:Hm .NotIn (.Name z p3)=Zi|>1)
  (Z:SL (.Name z p4) "append" X.env (Ye (.Name z p4) X.env)=Ye (.Name z p4) X.env|>1)
  (hfew:((RB Q (XA [.Name y p5] X.env)).all (λx=>!x.1)&&(Jb Q (Je [] X.env)).all (λx=>x.1.isSome)
   && decide ([ZE.Name y p5].length+([]:Za Nv).length+(if ([]:Za Nv).isEmpty then 0 else 1)<30))=Zd|>1)
  (Y:TH a2 Q|>1)(hs:XA [.Name y p5] X.env=(Zi,Ye (.Name y p5) X.env)::XA [] X.env|>1)(I:VP X [] Q|>1)
  (hsw:XD (.Call (.Attribute (.Name z p4) "append" a2) [.Name y p5] [] Q) Zc ep.line X.env=ZR Zi|>1)
  (hd1:YV x|>2)(hcd1:Vv x|>2)(hd2:YV y|>2)(M:Vv y|>2)(hd3:YV z|>2)(J:Vv z|>2):
  TL X XE [.Assign [.Name z q1] (.Call (.Attribute (.Attribute (.Name x p1) f fp) "setdefault" a1) [k,.List [] lp] [] c1) pos1,
   .If (.Compare (.Name y p2) [.NotIn] [.Name z p3] cp) [.Expr (.Call (.Attribute (.Name z p4) "append" a2) [.Name y p5] [] Q) ep] [] pos2] (eS K i m j f dk):=by
 subst hK;let#[tk,pk,dK]:=hk.ex;show#[_,mX (Ow hnd hNm hz (fQ hu (we (pv i hN hv hd1 hcd1) hfb) pk (EI Sg) m2) hs1 hf) (xT (mY (lH kr (pv j hNj hvy hd2 M) (pv m hNm hvz hd3 J) hmk)
  (xT (Pj (OB Lf IJ Ee Jv (pv m hNm hvz hd3 J) (Sn (pv j hNj hvy hd2 M) Sg U) Z hfew Y hs I) hsw)) mW)),λ{B0 B H0 H σ ds E T} c h o=>?_]
 let#[a,C,dx,fs,e,en,n,hi,hj,hm,ok,hC,hA,hF,hl,hls,h]:=h;have st:=c.slot i _ hi;let#[vn,en1,U]:=c.slot j _ hj;let#[_,u,g1,vs,U,rf]:=st.2 _ _ (QB ok);let#[ve,g2,U]:=rf.lookup (eT hF);let#[_,u,he,kvs,U,_]:=st.2 _ _ ok.Yi;show#[.ref a,Ux st.1,a,C,dx,vs,.ref e,U,g1,hC,hA,g2,e,U,.inr #[kvs,.inl he],dK c h (λkv kd H1 H2 ee rk hq=>?_) (o.kx c)];let#[key,U,hq]:=hq;let#[b,U,kb]:=MC rk;show#[Wg _,λl hl'=>?_];have lm:m<σ.length:=by rw[c.len];exact(YM.mp hm).1
 show eE c.sub st.2 ok hl ee (kb.same ee.sub) hl' λL xs H' p zz lv=>?_;have hx:=eD lv.ok p zz;have s1:(σ.set m (Zb (.ref L)))[m]?=Zb (Zb (.ref L)):=FR lm;have s2:(σ.set m (Zb (.ref L)))[j]?=Zb (Zb (.int n)):=by rw[KN (XR hjm)];exact Ux en1
 have fin:∀{H'':Hp}{G:Za ZM},Lv X.K (UB a C dx fs f e en) (UB a C dx fs f e G) H0 H H1 H''->E.nx (ds.set i (.st a (UB a C dx fs f e G)))->T.nx (σ.set m (Zb (.ref L))) H'':=λ{H''}{G} l3 h3=>by
  have Q:=(c.GB (a':=a) hi l3).ji m (s:=.un) (o:=Zb (.ref L)) U trivial;have hds:(ds.set i (.st a (UB a C dx fs f e G))).set m .un=ds.set i (.st a (UB a C dx fs f e G)):=by
   show FO λt=>?_;by_cases w:m=t;{subst w;rw[FR (by rw[KO];exact(YM.mp hm).1),KN hij];exact hm.symm};rw[KN w]
  rw[hds]at Q;exact o.nx _ _ _ _ Q h3
 show#[.int n,s2,.ref L,s1,L,_,U,.inl (Ya.of hx),U,?_,_,U,?_];{rw[IQ];exact Oc.mpr λO O=>rfl};rw[Zt U];cases q:MS (.int n) (xs.map V.int) with
 |true=>
  show fin lv ?_;have e3:=ahk (g:=QC n) p.ky zz (Zt q);have:=hq l p;rw[e3]at this;exact this
 |false=>
  show#[.ref L,s1,.inl #[U,_,Ya.of hx],.int n,s2,L,_,.int n,U,U,hx,by rw[ZI];exact eI hls zz,?_];have lv2:=lv.app p zz (QC n);have e3:QC n xs=xs++[n]:=Zq (by rw[q];exact XQ);rw[e3,Xt]at lv2;exact fin lv2 (hq l p)
end L2
namespace LS
def Sv(t:Rz):Prop:=t.place.toList.Pairwise (· < ·)
theorem uO(l:Za Nat)(s:l.Pairwise (· < ·))(j:Nat):∀(f lo hi:Nat),hi<=lo+f->lo<=hi->hi<=l.length->(∀i x,i<lo->l[i]?=Zb x->x<j)->(∀i x,hi<=i->l[i]?=Zb x->j<=x)->
  ∃p,aqY l.toArray j f lo hi=p/\p<=l.length/\(∀i x,i<p->l[i]?=Zb x->x<j)/\(∀i x,p<=i->l[i]?=Zb x->j<=x)
 |0,lo,hi,z,y,g,w,u=>#[lo,U,Yp y g,w,λi x a=>u i x (Yp z a)]
 |f+1,lo,hi,z,y,g,w,u=>by
  unfold aqY;by_cases c:lo<hi
  ·rw[Zt c];dsimp only;have n:lo<=(lo+hi)/2/\(lo+hi)/2<hi:=00
   generalize (lo+hi)/2=m at n⊢;have o:=YK n.2 g;have em:l.toArray.getD m j=l[m]:=by rw[Array.getD_eq_getD_getElem?];simp[o]
   rw[em];by_cases d:l[m]<j;{rw[Zt d];show uO l s j f (m+1) hi 00 n.2 g (λi x a e=>?_) u;let#[b,U]:=YM.mp e;rcases QO i m with q|q;{exact xj (He.mp s i _ b o q) d};have:i=m:=NC (NF a) q;subst this;exact d};rw[Zq d];show uO l s j f lo m 00 n.1 (Uo o) w λi x a e=>?_;let#[b,U]:=YM.mp e;rcases QO m i with q|q;{have:=He.mp s _ i o b q;lia};have:i=m:=NC q a;subst this;exact SH d
  rw[Zq c];exact#[lo,U,Yp y g,w,λi x a=>u i x 00]
def uQ{s:Array Nat}(h:s.toList.Pairwise (· < ·))(j:Nat):Tv s j<=s.size/\(∀(i x:Nat),i<Tv s j->s[i]?=Zb x->x<j)/\(∀(i x:Nat),Tv s j<=i->s[i]?=Zb x->j<=x):=by
 let#[l]:=s;let#[p,e,g,f,c]:=uO l h j l.length 0 l.length (Le _ _) (Wg _) (ZU _) (λi x h=>00) (λi x h e=>by rw[yY h]at e;cases e);have e:Tv #[l] j=p:=e;rw[e];exact#[g,λi x a b=>f i x a ↑b,λi x a b=>c i x a ↑b]
def ahm{t:Rz}(h:Sv t){j:Nat}(s:t.place[Tv t.place j]?≠Zb j):Sv (t.put j).1:=by
  let#[w,u,o]:=uQ h j;change(Rz.insertAt t.place (Tv t.place j) j).toList.Pairwise (· < ·);rw[Rz.toList_insertAt];generalize Tv t.place j=p at *;have lt:∀x∈t.place.toList.take p,x<j:=λx f=>by
    let#[i,hi,e]:=apI.mp f;rw[WL]at hi;exact u i x (YK hi (nr _ _)) (by rw[<-Rn,<-e,List.getElem_take,ZA])
  have gt:∀x∈t.place.toList.drop p,j<x:=λx f=>by
    let#[i,hi,e]:=apI.mp f;rw[FU]at hi;have E:t.place[p+i]?=Zb x:=by rw[<-Rn,<-e,List.getElem_drop,ZA]
    rcases QO j x with q|q;{exact q};have Q:=o (p+i) x (Rv _ _) E;have:x=j:=NC q Q;subst this;rcases nh i with z|z;{subst z;exact(s E).elim};have n:p<t.place.toList.length:=Nat.lt_of_sub_pos (aqb hi);have c:p+i<t.place.toList.length:=00
    have:=He.mp h p (p+i) n c 00;have y:t.place.toList[p+i]=x:=by
      rw[<-Rn,ZA c]at E;exact VE E
    have:=o p _ (ZU _) (by rw[<-Rn,ZA n]);lia
  have sub:=h;unfold Sv at sub;rw[<-KR p t.place.toList,M6]at sub;first
    | (rw[VC,M6]
       {lia}
       exact sub.2.2 a m b g)
    | (rw[M6]
       show#[sub.1,by simpa using⟨gt,sub.2.1⟩,λa m b g=>?_]
       rcases Yk.mp (by omega)with rfl|g
       {exact lt a m}
       exact sub.2.2 a m b g)
def eU{t:Rz}{j:Nat}(h:∀i,t.slot j≠.live i):t.place[Tv t.place j]?≠Zb j:=λe=>by
 show h (Tv t.place j) ?_;unfold Rz.slot;simp[e]
set_option tactic.hygienic true in
theorem uR{t:Rz}{f:Nat->Int}{h:Int}{j:Nat}{d:Option Nat}:∀(n:Nat) (p:aqX),(∀x,p.dummy=Zb x->t.slot x=.dummy)->aqZ t f h n p=Zb (.empty j d)->t.slot j=.empty/\∀x,d=Zb x->t.slot x=.dummy
 |0,_,_,e=>by cases e
 |n+1,p,b,e=>by
  have A:∀q:aqX,(t.advance q).dummy=q.dummy:=λq=>by
   unfold Rz.advance;split<;>rfl
  unfold aqZ at e;split at e;{rename_i s;cases e;exact#[s,b]};{rename_i s;show uR n _ (λx a=>?_) e;rw[A]at a;cases a;exact s};split at e;{cases e};exact uR n _ (λx a=>b x (by rw[A]at a;exact a)) e
set_option tactic.hygienic true in
def ahn{t:Rz}{h:Int}{j:Nat}{b:Bool}(e:t.freeSlot h=Zb (j,b)):t.place[Tv t.place j]?≠Zb j:=by
 unfold Rz.freeSlot at e;split at e
 ·rename_i J d c;let#[g,f]:=uR _ _ (λx a=>by unfold Rz.probeStart at a;cases a) c;cases e;cases d with
  |none=>exact eU λi z=>by rw[nF,g]at z;cases z
  |some x=>exact eU λi z=>by rw[G4,f x U]at z;cases z
 cases e
def Cp(t:Rz)(n:Nat):Sv (t.standIn n):=by
 change(Array.range n).toList.Pairwise (· < ·);rw[Array.toList_range];exact M7
set_option tactic.hygienic true in
def aho{t:Rz}(h:Sv t)(E:Array (Int×Zh))(k:Int)(x:Zh):Sv (layNew t E k x).2.1/\(layNew t E k x).2.1.led=t.led:=by
 unfold layNew;split;{rename_i j d e;unfold Rz.orStandIn;dsimp only;split;{exact#[(ahm h (ahn e)),U]};exact#[Cp _ _,U]};exact#[Cp _ _,U]
set_option tactic.hygienic true in
def ahp(t:Rz)(E:Array (Int×Zh))(n:Nat):Sv (NT t E n).2.1/\(NT t E n).2.1.led=t.led:=by
 unfold NT;split
 ·rename_i c order e;dsimp only;split
  ·unfold Rz.relaid Rz.laid at e;simp only[Option.bind_eq_bind,Option.pure_def,Option.bind_eq_some_iff]at e;let#[o,_,e]:=e;cases e;show#[?_,U];unfold Sv;dsimp only;show asq ?_ (M7 (n:=Rz.sizeAbove n-1+1));rw[apF];have:∀l:Za Nat,(l.filterMap λj=>Option.map (·.1) ((o.getD j Zc).map ((j,·):Nat->Nat×Nat))).Sublist l:=by
    intro l;induction l with
    |nil=>exact .slnil
    |cons a l i=>
     cases q:o.getD a Zc with|none=>rw[List.filterMap_cons_none (by rw[q];rfl)];exact .cons _ i|some v=>rw[O1 (b:=a) (by rw[q];rfl)];exact .cons₂ _ i
   exact this _
  exact#[Cp _ _,U]
 exact#[Cp _ _,U]
theorem eV{a:Type}(next:Nat->Nat):∀(n k:Nat) (l:Za a) (o:Array a),l.length=n->(c7 next n k l o).toList.Perm (o.toList++l)
 |0,k,l,o,h=>by
  rw[MZ h,SG];unfold c7;simp
 |n+1,k,l,o,h=>by
  unfold c7;have hi:next k%l.length<l.length:=Nat.mod_lt _ 00
  rw[ZA hi];show(eV next n (k+1) _ _ (by rw[apD,Zt hi];lia)).trans ?_;rw[FG,VC];show oQ _ ?_;have e:l=l.take (next k%l.length)++l[next k%l.length]::l.drop (next k%l.length+1):=by
   simp
  rw[apv];conv=>rhs;rw[e]
  rw[List.singleton_append];exact apK.symm
def ahq{a:Type}(next:Nat->Nat)(x:Array a):(Jf next x).toList.Perm x.toList:=by
 have:=eV next x.size 0 x.toList #[] 02
 assumption
end LS
namespace LS
def ahr:Manifest.owners.lookup (String.ofList ['r','o','t','a','r','e','t','i','_','t','e','s'].reverse)=Zb Manifest.sig_set_iterator:=by kernel_rfl
def Ki:Slot "set_iterator" "__next__" "set_iterator.__next__":=
 .of (owner := "set_iterator") (n := "__next__") (by rw[xH,xD];kernel_rfl) (by decide +kernel) (by decide +kernel) (by decide +kernel) (by first|exact .inl (by decide +kernel)|exact .inr 00) (by rw[isSubtype_type];kernel_rfl)
def eW:entryFor table "set_iterator.__next__" = Zb VA.«set_iterator.__next__»:=ara (by kernel_rfl)
def eX(a:Zh):argsOk "set_iterator.__next__" #[[a],[]]:=by
 unfold argsOk;rw[signature?_of (n:=['_','_','t','x','e','n','_','_']) (by kernel_rfl) ahr];kernel_rfl
def ahs:entryFor table "set.__iter__" = Zb VA.«frozenset.__iter__»:=entryFor_alias (id' := "frozenset.__iter__") (by kernel_rfl) U (by decide +kernel) (by kernel_rfl)
noncomputable def RQ(w:Yt):Bool:=w.params.followText "set-order"
def eY(w:Yt)(h:ZD)(a:Zg)(e:Array (Int×Zh))(E:Nat)(t:Rz)(u:Za Zh)(i:Nat)(first:Zh):Prop:=
 (RQ w=Zd/\(∃j:Nat,first=.int j 0)/\u=(Jf (w.params.setOrder a E) e).toList.map (·.2)) \/
 (RQ w=Zi/\(!t.plain&&e.size > 1)=Zi/\t.led=Zd/\Sv t/\u=e.toList.map (·.2)/\∃j:Nat,first=.int j 0/\Tv t.place j=i) \/
 (RQ w=Zi/\∃b s,first=.ref b/\h.get? b=Zb {cls:=.type "tuple",data:=.seq s}/\s.size=u.length/\∀k,k<u.length->∃p:Nat,s[k]?=Zb (.int p 0)/\(e[p]?).map (·.2)=u[k]?)
def QD(w:Yt)(h:ZD)(I a:Zg)(u:Za Zh)(i:Nat):Prop:=∃(first:Zh) (o:Yg) (e:Array (Int×Zh)) (E:Nat) (t:Rz),h.get? I=Zb {cls:=.type "set_iterator",dict:=Zc,data:=.fields [first,.int i 0,.ref a,.int u.length 0,.int E 0].toArray,slots:=#[]}/\
 h.get? a=Zb o/\o.data=.set e E t/\t.fits e.size=Zd/\e.size=u.length/\eY w h a e E t u i first
section
variable {P:YZ}{w:Yt}{A:Yr}{E:Zh->Zj->Prop}{s:Zj}{I a:Zg}{u:Za Zh}{i:Nat}{Q:Option Zh->Zj->Prop}
def aht{t:Rz}(h:Sv t){i x:Nat}(e:t.place[i]?=Zb x):Tv t.place (x+1)=i+1:=by
 let#[g,f,c]:=uQ h (x+1);have hi:i<t.place.size:=by
  rcases QO i t.place.size with z|z;{exact z};rw[KC z]at e;cases e
 rcases J0 (Tv t.place (x+1)) (i+1)with z|z|z;{have:=c i x (NF z) e;lia};{exact z};have b:i+1<t.place.size:=YK z g;have lt:=f (i+1) _ z (TX b);have r:=He.mp h i (i+1) (by omega) ↑b (KS _);have j:t.place[i]=x:=by rw[TX hi]at e;exact VE e
 simp only[Array.getElem_toList]at r;lia
def ahu(J:QD w s.heap I a u i)(hi:i<u.length)(k:∀v n,u[i]?=Zb v->QD w n I a u (i+1)->(∀b o,b≠I->s.heap.get? b=Zb o->n.get? b=Zb o)->Q (Zb v) {s with heap:=n})
  (hne:I≠a)(hnt:∀L o,s.heap.get? L=Zb o->o.cls=.type "tuple" ->L≠I):Zn (Zr P w) A (VZ (.ref I)) Q E s:=by
 let#[first,o,m,N,t,g,go,G,x,sz,st]:=J;have T:s.TypeIs (.ref I) "set_iterator" :=#[_,g,U]
 have put:∀{f:Zh}{n:ZD},n.get? I=Zb {cls:=.type "set_iterator",dict:=Zc,data:=.fields [f,.int ((i+1:Nat):Int) 0,.ref a,.int u.length 0,.int N 0].toArray,slots:=#[]}->(∀b o,b≠I->s.heap.get? b=Zb o->n.get? b=Zb o)->eY w n a m N t u (i+1) f->QD w n I a u (i+1):=λg' k' Z=>
  #[_,o,m,N,t,g',k' _ _ (XR hne) go,G,x,sz,Z]
 show Zf (SN (UU T Ki (WQ Ki T eW ?_ (eX _))));change Zn _ _ (fieldsOf (.ref I) >>= _) _ _ s;show Zf (Er g U ?_);show Zf (w8 go G x ?_);rw[Zq (by rw[sz];simp)];rcases st with⟨z,⟨j,rfl⟩,C⟩|⟨z,dr,ld,ri,C,j,rfl,bj⟩|⟨z,L,ps,rfl,gt,pz,pk⟩
 ·have B:(Zr P w).w.params.followText "set-order" = Zd:=z;show Zf (Zf (QW go G x ?_));dsimp only;show Zf (Zf (QV (Zm ?_)));simp only[B,if_true];rw[Zq 02];show Zf (Zf (QW go G x ?_));dsimp only;show Zf (Zf (QV (Zm ?_)));simp only[B];show Zf (QV (Zm (Zm ?_)));let#[e,he]:∃e,(Jf (w.params.setOrder a N) m)[i]?=Zb e:=by
   show#[_,TX ?_];rw[<-VY,<-ZI (·.2),<-C];exact hi
  rw[show(Jf ((Zr P w).w.params.setOrder a N) m)[(i:Int).toNat]?=Zb e from he];show Zf (Vc g 02 λh1 g1 s1=>?_);show Zf (Vc g1 02 λY g2 M=>?_);have c:=λb o y q=>M.extBut b o y (s1.extBut b o y q);show Zm #[_,U,Zm (k _ _ ?_ (put (by assumption) c (.inl #[z,#[j,U],C])) c)];rw[C,YC,Rn,he];rfl
 ·have B:(Zr P w).w.params.followText "set-order" = Zi:=z;show Zf (Zf (QW go G x ?_));dsimp only;show Zf (Zf (QV (Zm ?_)));simp only[B,S6,if_false];show aru (λhab=>ZJ (dr.symm.trans hab) XQ) λO=>?_;change Zn _ _ ((if (!t.led&&!m.isEmpty)=Zd then _ else ZR ()) >>= _) _ _ s;rw[Zq (by rw[ld];simp)];show Zf (Zm (Zm ?_));have hp:t.place.size=m.size:=by
   simp only[Rz.fits,XX,Wo]at x;exact x.1
  have h1:i<m.size:=00
  have Y:i<t.place.size:=00
  rw[show Tv t.place (j:Int).toNat=i from bj,TX h1,TX Y];show Zf (Vc g 02 λh1' g1 s1=>?_);show Zf (Vc g1 02 λh2' g2 M=>?_);have c:=λb o y q=>M.extBut b o y (s1.extBut b o y q);show Zm #[_,U,Zm (k _ _ ?_ (put (by assumption) c (.inr (.inl #[z,dr,ld,ri,C,_,U,aht ri (TX Y)]))) c)];rw[C,YC,Rn,TX h1];rfl
 change Zn _ _ (seqItems? (.ref L) >>= _) _ _ s;show Zf (RE gt U ?_);let#[p,p1,p2]:=pk i hi;change Zn _ _ (match ps[(i:Int).toNat]? with | some (.int place _)=>_ | some _=>_ | none=>_) _ _ s;rw[show ps[(i:Int).toNat]?=Zb (.int p 0)from p1];show Zf (Zf (QW go G x ?_));dsimp only;rw[Zq 02];cases q:m[p]? with
 |none=>rw[q,ZA hi]at p2;cases p2
 |some e=>
  rw[show m[(p:Int).toNat]?=Zb e from q];show Zm ?_;show Zf (Vc g 02 λY g2 M=>?_);have c:=λb o y q=>M.extBut b o y q;show Zm #[_,U,Zm (k _ _ (by rw[<-p2,q];rfl) (put (by assumption) c (.inr (.inr #[z,L,ps,U,c _ _ (hnt _ _ gt U) gt,pz,pk]))) c)]
def uS{q:Fin->Zj->Prop}(g:A.handled=Zc)(k:∀c,(Ou s.heap c)->Q Zc {s with heap:=c}):
  Zn (Zr P w) A.in1 (do let x <-newExc (.type "StopIteration") [];raiseNew x) q (λe f=>Zn (Zr P w) A (do let b <-nX e (.type "StopIteration");if b=Zd then ZR Zc else throw e) Q E f) s:=by
 show Zf ?_;show Zf (Ur (Zf (mH (a:=RA) (by first|rfl|(simp only[])) (Ur ?_ (by size_fits)))) (by size_fits));show Zf (mF ?_);rw[show A.in1.handled=Zc from g];show Zf (Zm (mI ?_));show Zf (NU #[_,YF _ U,U] Ek ?_);exact Zm (k _ λb o e=>ZY _ (ZY _ e))
def ahv(y:A.handled=Zc)(J:QD w s.heap I a u u.length)(k:∀c,(∀b o,b≠I->s.heap.get? b=Zb o->c.get? b=Zb o)->Q Zc {s with heap:=c}):Zn (Zr P w) A (VZ (.ref I)) Q E s:=by
 let#[first,o,n,N,t,g,go,p,m,sz,st]:=J;have T:s.TypeIs (.ref I) "set_iterator" :=#[_,g,U]
 show Zf (SN (UU T Ki (WQ Ki T eW ?_ (eX _))));change Zn _ _ (fieldsOf (.ref I) >>= _) _ _ s;show Zf (Er g U ?_);show Zf (w8 go p m ?_);rw[Zq (by rw[sz];simp)];rcases st with⟨x,⟨j,rfl⟩,M⟩|⟨x,dr,ld,ri,M,j,rfl,bj⟩|⟨x,Y,G,rfl,gt,pz,pk⟩;{have B:(Zr P w).w.params.followText "set-order" = Zd:=x;show Zf (Zf (QW go p m ?_));dsimp only;show Zf (Zf (QV (Zm ?_)));simp only[B,if_true];rw[Zq 02];show Zf (Zf (QW go p m ?_));dsimp only;show Zf (Zf (QV (Zm ?_)));simp only[B];show Zf (QV (Zm (Zm ?_)));have he:(Jf (w.params.setOrder a N) n)[u.length]?=Zc:=KC (by rw[<-VY,<-ZI (·.2),<-M];exact ZU _);rw[show(Jf ((Zr P w).w.params.setOrder a N) n)[(u.length:Int).toNat]?=Zc from he];exact Zf (Vc g 02 λL g1 f=>uS y λc q=>k c λb o e z=>q b o (f.extBut b o e z))};{have B:(Zr P w).w.params.followText "set-order" = Zi:=x;show Zf (Zf (QW go p m ?_));dsimp only;show Zf (Zf (QV (Zm ?_)));simp only[B,S6,if_false];show aru (λC=>ZJ (dr.symm.trans C) XQ) λO=>?_;change Zn _ _ ((if (!t.led&&!n.isEmpty)=Zd then _ else ZR ()) >>= _) _ _ s;rw[Zq (by rw[ld];simp)];show Zf (Zm (Zm ?_));rw[show Tv t.place (j:Int).toNat=u.length from bj,KC (show n.size<=u.length from Sa sz)];exact Zf (Vc g 02 λL g1 f=>uS y λc q=>k c λb o e z=>q b o (f.extBut b o e z))};change Zn _ _ (seqItems? (.ref Y) >>= _) _ _ s;show Zf (RE gt U ?_);change Zn _ _ (match G[(u.length:Int).toNat]? with | some (.int place _)=>_ | some _=>_ | none=>_) _ _ s;rw[show G[(u.length:Int).toNat]?=Zc from KC (by rw[pz];exact ZU _)];exact Zf (Vc g 02 λL g1 f=>Zf (Vc g1 02 λh2 g2 Z=>uS (s:={s with heap:=h2}) y λc q=>k c λb o e z=>q b o (Z.extBut b o e (f.extBut b o e z))))
theorem eZ{c:Type}{M:Qe}:∀(n:Nat) (b:Za c) (s:Zj) {Q:Za c->Zj->Prop}{E:Zh->Zj->Prop},b.length=n->(∀Y d,Y.Perm b->Q Y {s with drawn:=d})->Zn M A (d7 n b) Q E s
 |0,b,s,Q,E,h,k=>by
  rw[MZ h]at k⊢;exact Zm (k [] s.drawn (.refl _))
 |n+1,[],s,Q,E,h,k=>by cases h
 |n+1,x::b,s,Q,E,h,k=>by
  change Zn M A (choose .order (x::b).length >>= λi=>match (x::b)[i]? with | some y=>(do return y::(<-d7 n ((x::b).eraseIdx i))) | none=>unsupported "internal:drawOrder") Q E s;generalize x::b=l at *;have z:l.length≠0:=00
  show Zf (λm p g=>#[z,?_]);change(λi f=>Zn M A (match l[i]? with | some y=>(do return y::(<-d7 n (l.eraseIdx i))) | none=>unsupported "internal:drawOrder") Q E f) _ _;generalize e:M.w.draws .order (s.drawn.get .order)%l.length=i;have hi:i<l.length:=by rw[<-e];exact Nat.mod_lt _ (Nat.pos_of_ne_zero z)
  rw[ZA hi];show Zf (eZ n _ _ (by rw[apD,Zt hi];lia) λY d j=>Zm (k _ d ?_));show(j.cons _).trans ?_;have e:l=l.take i++l[i]::l.drop (i+1):=02
  rw[apv];conv=>rhs;rw[e]
  exact apK.symm
end
end LS
namespace LS
noncomputable def iv:Zh->Int
 |.int i _=>i
 |_=>0
def Tf(P:YZ)(w:Yt)(h:ZD)(a:Zg)(n:Za Int):Prop:=∃o E p t,h.get? a=Zb o/\o.ExactSet/\o.data=.set E p t/\ElemsOf (QT P w) E.toList/\E.toList.map (λe=>iv e.2)=n/\n.Nodup/\E.size<QU/\
 t.fits E.size=Zd/\Sv t/\(RQ w=Zd\/t.led=Zd)
section
variable {P:YZ}{w:Yt}{A:Yr}{E:Zh->Zj->Prop}{s:Zj}{a:Zg}{N:Za Int}
def Tf.at'{h b:ZD}(z:Tf P w h a N)(k:∀o,h.get? a=Zb o->b.get? a=Zb o):Tf P w b a N:=by
 let#[o,e,p,t,g,r]:=z;exact#[o,e,p,t,k _ g,r]
def ahw{Q:Zh->Zj->Prop}(k:∀o,Tf P w (s.heap.push o) s.heap.objs.size []->o.cls=.type "set" ->Q (.ref s.heap.objs.size) {s with heap:=s.heap.push o}):Zn (Zr P w) A (newSet (.type "set")) Q E s:=by
 show Zf (Zf (QV (Zm ?_)));dsimp only;show Zf (wpAny_alloc (Zm (k _ #[_,#[],0,_,YF _ U,⟨rfl,rfl,rfl⟩,U,λe b=>by simp at b,U,.nil,01,by rfl,.nil,?_] U)));change RQ w=Zd\/(!RQ w)=Zd;simp
def uT{k:Int}{v:Zh}(h:(QT P w).is k v=Zd):∃t,v=.int k t:=xB h
def dg{f:Za (Int×Zh)}(h:ElemsOf (QT P w) f)(i:Int):i∈f.map (λe=>iv e.2)↔∃e∈f,(QT P w).is i e.2=Zd:=by
 rw[ZW];show#[λ⟨e,b,q⟩=>#[e,b,?_],λ⟨e,b,q⟩=>#[e,b,?_]];{let#[#[k,c,_],_]:=h e b;let#[t,z]:=uT c;rw[z]at q c⊢;rw[<-show k=i from q];exact c};let#[t,z]:=uT q;rw[z];rfl
def ahx{Q:Zh->Zj->Prop}{i:Int}{I:Nat}(z:Tf P w s.heap a N)(room:N.length+1<QU)
  (k:∀B Z,VB a s.heap B->Tf P w B a Z->(i∈N->Z=N)->(i∉N->Z.Perm (N++[i]))->Q .none {s with heap:=B,toks:=s.toks+1}):Zn (Zr P w) A (call (.builtin "set.add") [.ref a,.int i I]) Q E s:=by
 let#[o,G,ep,t,g,ex,de,el,en,nd,sb,ft,ri,ld]:=z;have T:s.TypeIs (.ref a) "set" :=#[o,g,ex.1]
 have hk:(QT P w).is i (.int i I)=Zd:=by change nP i (.int i I)=Zd;simp[nP]
 have hsc:(xA i I).scannable=Zd:=rfl;have zl:G.size=N.length:=by rw[<-en,ZI,VY]
 show WQ F.slot_set_add T F.entry_set_add ?_ (F.args_set_add_2 _ _);unfold VA.«set.add» ar7;simp only[List.isEmpty_nil,bind_assoc];show Zf (Zm ?_);show Zf (Zm ?_);try dsimp only
 show Zf (XY (Zf ((QT P w).pyHash hk ?_)));show XY (Zf (QW g de ft ?_));dsimp only;rw[byScan_of hsc sb el];show Zf (Zf (WD (Zf (wpAny_setScan_of hk g de ft el ?_))));cases hr:List.findIdx? (λe=>(QT P w).is i e.2) G.toList with
 |some j=>
  dsimp only;let#[hj,hp,_]:=List.findIdx?_eq_some_iff_getElem.mp hr;have hi:i∈N:=by rw[<-en];exact(dg el i).mpr #[_,La hj,hp]
  exact Zm (Zm (Zm #[_,U,k s.heap N (ao3 a s.heap) #[o,G,ep,t,g,ex,de,el,en,nd,sb,ft,ri,ld] (λO=>rfl) (λn=>ZJ hi n)]))
 |none=>
  have hi:i∉N:=λh=>by
   rw[<-en]at h;let#[e,he,hp]:=(dg el i).mp h;have:=List.findIdx?_eq_none_iff.mp hr e he;rw[hp]at this;cases this
  have gw:∀b {m:Zj}{Q':Unit->Zj->Prop}{E':Zh->Zj->Prop},Q' () m->Zn (Zr P w) A.in1 (match b with | true=>rule "set.scan.the-table-gave-way" | false=>ZR ()) Q' E' m:=
   λb m Q' E' hq=>by cases b<;>first|exact Zm hq|exact WD hq
  have pm:=layNew_perm t G ((QT P w).hash i) (.int i I);have C:=layNew_fits t G ((QT P w).hash i) (.int i I);let#[u,ld1]:=aho ri G ((QT P w).hash i) (.int i I);generalize hL:layNew t G ((QT P w).hash i) (.int i I)=L at pm C u ld1⊢;let#[c,t1,wd,gv]:=L;dsimp only at pm C u ld1⊢;rw[FG]at pm;have M:RQ w=Zd\/t1.led=Zd:=by rw[ld1];exact ld
  have z1:c.size=G.size+1:=by rw[<-VY,pm.length_eq,Yx,VY];rfl
  have pn:(c.toList.map λe=>iv e.2).Perm (N++[i]):=by
   have:=pm.map λe=>iv e.2;rw[Xt,en]at this;exact this
  have fin:∀{p:Array (Int×Zh)}{f:Rz}{ep2:Nat}{B:ZD},p.toList.Perm c.toList->f.fits p.size=Zd->Sv f->(RQ w=Zd\/f.led=Zd)->B.get? a=Zb {o with data:=.set p ep2 f}->VB a s.heap B->
    Q .none {s with heap:=B,toks:=s.toks+1}:=λ{p f ep2 B} p2 f2 r2 l2 g2 sb2=>by
   have z2:p.size=G.size+1:=by rw[<-z1,<-VY,p2.length_eq,VY]
   have Y:=(p2.map λe=>iv e.2).trans pn;show k B _ sb2 #[_,p,ep2,f,g2,ex,U,((el.push hk hsc).perm pm).perm p2,U,Y.nodup_iff.mpr ?_,00,f2,r2,l2] (λh=>ZJ h hi) λO=>Y;rw[UE];exact#[nd,02,λx hx y hy e=>hi (by rw[show y=i by simpa using hy]at e;rw[<-e];exact hx)]
  show Zf (gw _ ?_);have tail:∀{f:Rz}{m:Zj},m={s with toks:=s.toks+1}->f.fits c.size=Zd->Sv f->(RQ w=Zd\/f.led=Zd)->Zn (Zr P w) A.in1 (do
    mj a c f
    if (!wd&&f.tooFull)=Zd then do
      (match (NT f c (NP c.size)).2.2 with | true=>rule "set.scan.the-table-gave-way" | false=>ZR ())
      mj a (NT f c (NP c.size)).1 (NT f c (NP c.size)).2.1
      ZR (Zb Zd)
     else ZR (Zb Zd)) (λr J=>r=Zb Zd/\Q .none J) (λO O=>False) m:=by
   rintro f m rfl f2 r2 l2;have at1:(s.heap.update a (G3 c f)).get? a=Zb {o with data:=.set c (ep+1) f}:=by
    have:=Rq (G3 c f) g (by rw[putSet_of c f de];rfl);rw[putSet_of c f de]at this;exact this
   show Zf (arD g de ?_ (Ej 00));split
   ·have Y:=relayAll_perm f c (NP c.size);have f3:=relayAll_fits f c (NP c.size);let#[r3,l3]:=ahp f c (NP c.size);generalize NT f c (NP c.size)=R at Y f3 r3 l3⊢;let#[es3,t3,gv3]:=R;dsimp only at Y f3 r3 l3⊢;have z3:es3.size=c.size:=by rw[<-VY,Y.length_eq,VY]
    exact Zf (gw _ (Zf (arD at1 U (Zm #[U,fin Y f3 r3 (by rw[l3];exact l2) (Rq (G3 es3 t3) at1 U) ((Ro ..).trans (Ro ..))]) (Ej 00))))
   exact Zm #[U,fin (.refl _) f2 r2 l2 at1 (Ro ..)]
  have done:∀{f:Rz}{Q':Option Bool->Zj->Prop}{E':Zh->Zj->Prop},(∀J,Q .none J->Q' (Zb Zd) J)->f.fits c.size=Zd->Sv f->(RQ w=Zd\/f.led=Zd)->Zn (Zr P w) A.in1 (do
    mj a c f
    if (!wd&&f.tooFull)=Zd then do
      (match (NT f c (NP c.size)).2.2 with | true=>rule "set.scan.the-table-gave-way" | false=>ZR ())
      mj a (NT f c (NP c.size)).1 (NT f c (NP c.size)).2.1
      ZR (Zb Zd)
     else ZR (Zb Zd)) Q' E' {s with toks:=s.toks+1}:=λ{f Q' E'} hq f2 r2 l2=>Xv (tail U f2 r2 l2) (λr J ⟨e,q⟩=>by rw[e];exact hq J q) λO O x=>x.elim
  split;{rw[hashByValue_scannable 8 hsc];exact done (λJ q=>Zm (Zm #[_,U,q])) C u M};exact Zf (Zm (done (λJ q=>Zm (Zm #[_,U,q])) C u M))
end
end LS
namespace LS
section
variable {P:YZ}{w:Yt}{A:Yr}{E:Zh->Zj->Prop}{s:Zj}{a:Zg}{n:Za Int}
def ahy:En (.type "set") "__len__" = ZR (Zb (.builtin "set.__len__")):=by rw[xH,xD];kernel_rfl
def ahz(T:s.TypeIs (.ref a) "set"){Q:Bool->Zj->Prop}(h:Q Zi s):Zn (Zr P w) A (asb (.ref a)) Q E s:=by
 show Zf (Hy T ahy ?_);generalize c:("set.__len__" : String)=i;subst c;show Zf (NU (b:=Zd) T (by rw[isSubtype_type];kernel_rfl) ?_);exact Zf (Lr T (Zm h))
def ahA{Q:Zh->Zj->Prop}(z:Tf P w s.heap a n)(k:∀N B Z d,QD w Z N a B 0->s.heap.objs.size<=N->N<Z.objs.size->(Ou s.heap Z)->(B.map iv).Perm n->(∀u∈B,∃i t,u=.int i t)->Q (.ref N) {s with heap:=Z,drawn:=d}):
  Zn (Zr P w) A (Qk (.ref a)) Q E s:=by
 let#[o,c,C,t,g,ex,j,el,en,nd,sb,f,ri,ld]:=z;have T:s.TypeIs (.ref a) "set" :=#[o,g,ex.1]
 have yO:∀e∈c.toList,∃i t,e.2=.int i t:=λe he=>by
  let#[#[k,hk,_],_]:=el e he;let#[t,q]:=uT hk;exact#[k,t,q]
 show u4 T ao0 (WQ ao0 T ahs ?_ (F.args_set_iter_1 _));change Zn _ _ (ar8 a >>= _) _ _ s;show Zf (Zf (w8 g j f (Zm ?_)));show Zf (Zf (QW g j f ?_));show Zf (Zf (QV (Zm (Zm ?_))));dsimp only;have fin:∀{B:Za Zh},B=c.toList.map (·.2)->(B.map iv).Perm n/\∀u∈B,∃i t,u=.int i t:=λeu=>by
  subst eu;rw[YG];show#[by rw[show(iv ∘ λx:Int×Zh=>x.2)=λe=>iv e.2 from rfl,en],λu I=>?_];let#[e,he,U]:=ZW.mp I;exact yO e he
 by_cases bt:RQ w=Zd
 ·rw[Zq (by rw[show(Zr P w).w.params.followText "set-order" = Zd from bt];simp)];show Zf (Zm (Zf ?_));unfold setEpoch;show Zf (QW g j f (Zm ?_));dsimp only;show Zf (Ur (Zm #[_,U, "set_iterator",_,#[_,YF _ U,U],Ki.lookup,?_]));have pp:=ahq (w.params.setOrder a C) c;have G:((Jf (w.params.setOrder a C) c).toList.map (·.2)).length=c.size:=by rw[ZI,pp.length_eq,VY]
  show k _ ((Jf (w.params.setOrder a C) c).toList.map (·.2)) _ s.drawn #[_,o,c,C,t,by rw[YF _ U,G];rfl,ZY _ g,j,f,G.symm,.inl #[bt,#[0,U],U]] (ZU _) 02 (λb o e=>ZY _ e) ?_ λu I=>?_;{exact((pp.map (·.2)).map iv).trans (fin U).1};exact(fin U).2 u ((pp.map (·.2)).mem_iff.mp I)
 have bf:RQ w=Zi:=↑bt
 by_cases dr:(!t.plain&&decide (c.size > 1))=Zd
 ·rw[Zt (by change(!(Zr P w).w.params.followText "set-order" && _)=Zd;rw[show(Zr P w).w.params.followText "set-order" = Zi from bf];exact dr)];show Zf (eZ _ _ _ (IY) λy d hp=>?_);have yl:y.length=c.size:=by rw[hp.length_eq,IY]
  show Zf (Et (Zf ?_) (by rw[ZI,yl];exact Ej sb));show Zf (QW (ZY _ g) j f (Zm ?_));dsimp only;show Zf (Ur (Zm #[_,U, "set_iterator",_,#[_,YF _ U,U],Ki.lookup,?_]));have ym:∀p∈y,p<c.size:=λp h=>Hd.mp (hp.mem_iff.mp h);have m:(y.filterMap λp=>(c[p]?).map (·.2)).length=c.size:=by
   rw[<-yl];have:∀l:Za Nat,(∀p∈l,p<c.size)->(l.filterMap λp=>(c[p]?).map (·.2)).length=l.length:=by
    intro l L;induction l with|nil=>rfl|cons p l ih=>rw[O1 (by rw[TX (L p YY)];rfl),Yu,ih λq hq=>L q (YT _ hq),Yu]
   exact this y ym
  have at1:∀k:Nat,(y.filterMap λp:Nat=>(c[p]?).map λe=>e.2)[k]?=(y[k]?).bind λp:Nat=>(c[p]?).map λe=>e.2:=by
   have:∀(l:Za Nat),(∀p∈l,p<c.size)->∀k:Nat,(l.filterMap λp:Nat=>(c[p]?).map λe=>e.2)[k]?=(l[k]?).bind λp:Nat=>(c[p]?).map λe=>e.2:=by
    intro l L;induction l with
    |nil=>intro k;simp
    |cons p l ih=>
     intro k;have J:=L p YY;rw[O1 (b:=c[p].2) (by rw[TX J];rfl)];cases k with|zero=>simp[TX J]|succ k=>simpa using ih (λq hq=>L q (YT _ hq)) k
   exact this y ym
  have pu:(y.filterMap λp=>(c[p]?).map (·.2)).Perm (c.toList.map (·.2)):=by
   have Y:=hp.filterMap λp=>(c[p]?).map (·.2);have h2:(Vj c.size).filterMap (λp=>(c[p]?).map (·.2))=c.toList.map (·.2):=by
    rw[<-filterMap_getElem?_range c,apF]
   rw[h2]at Y;exact Y
  show k _ (y.filterMap λp=>(c[p]?).map (·.2)) _ d #[_,o,c,C,t,by rw[YF _ U,m];rfl,ZY _ (ZY _ g),j,f,m.symm,.inr (.inr #[bf,s.heap.objs.size,(y.map λ(i:Nat)=>SM i).toArray,U,ZY _ (YF _ U),by simp[m,yl],λk hk=>?_])] ?_ 02 (λb o e=>ZY _ (ZY _ e)) ?_ λu I=>?_
  ·have M:k<y.length:=00
   show#[y[k],by simp[M,SM],?_];rw[at1,ZA M];rfl
  {rw[UQ];exact UT _};{exact(pu.map iv).trans (fin U).1};exact(fin U).2 u (pu.mem_iff.mp I)
 have df:(!t.plain&&decide (c.size > 1))=Zi:=↑dr
 rw[Zq (by change¬(!(Zr P w).w.params.followText "set-order" && _)=Zd;rw[show(Zr P w).w.params.followText "set-order" = Zi from bf];exact dr)];show Zf (Zm (Zf ?_));show Zf (QW g j f (Zm ?_));dsimp only;show Zf (Ur (Zm #[_,U, "set_iterator",_,#[_,YF _ U,U],Ki.lookup,?_]));have G:(c.toList.map (·.2)).length=c.size:=02
 have b0:Tv t.place 0=0:=by
  let#[Y,h2,_]:=uQ ri 0;rcases nh (Tv t.place 0)with z|z;{exact z};have:=h2 0 _ z (TX (YK z Y));lia
 show k _ (c.toList.map (·.2)) _ s.drawn #[_,o,c,C,t,by rw[YF _ U,G];rfl,ZY _ g,j,f,G.symm,.inr (.inl #[bf,df,(ld.resolve_left bt),ri,U,0,U,b0])] (ZU _) 02 (λb o e=>ZY _ e) (fin U).1 (fin U).2
def QD.keep{u:Za Zh}{h m:ZD}{I S:Zg}{j:Array Zh}{c:Nat}(J:QD w h I a u i)(f:h.get? S=Zb {cls:=.type "list",dict:=Zc,data:=.seq j c,slots:=#[]})(k:∀b o,b≠S->h.get? b=Zb o->m.get? b=Zb o):QD w m I a u i:=by
 let#[first,o,z,B,t,g,go,p,y,sz,st]:=J;show#[first,o,z,B,t,k _ _ (λe=>by rw[e,f]at g;simp at g) g,k _ _ (λe=>by rw[e,f]at go;cases go;cases p) go,p,y,sz,?_];rcases st with st|st|⟨C,q,x,e,gt,r⟩;{exact .inl st};{exact .inr (.inl st)};exact .inr (.inr #[C,q,x,e,k _ _ (λe=>by rw[e,f]at gt;simp at gt) gt,r])
def QD.nt{u:Za Zh}(J:QD w s.heap I a u i):I≠a/\∀p o,s.heap.get? p=Zb o->o.cls=.type "tuple" ->p≠I:=by
 let#[first,o,m,q,t,g,go,b,j,sz,st]:=J;show#[λe=>?_,λp f h c e=>?_];{rw[<-e,g]at go;cases go;cases b};rw[e,g]at h;cases h;simp at c
def ahB{u:Za Zh}{I S:Zg}{R:Ol->Zj->Prop}(hh:A.handled=Zc)(hn:u.length<=Zo)(res:Zh):∀(m i:Nat) (s:Zj) (f:Array Zh) (c:Nat),i+m=u.length->QD w s.heap I a u i->s.heap.get? S=Zb {cls:=.type "list",dict:=Zc,data:=.seq f c,slots:=#[]}->f.toList=u.take i->
  (∀j M,(∀b o,b≠S->b≠I->s.heap.get? b=Zb o->j.get? b=Zb o)->j.get? S=Zb {cls:=.type "list",dict:=Zc,data:=.seq u.toArray M,slots:=#[]}->R (.ok (.ret res)) {s with heap:=j})->
  Wv (Zr P w) A (.builtin "list.extend.loop" #[[.ref S,.ref I,res],[]]) R s:=by
 intro m;induction m with
 |zero=>
  intro i s f c hi J B z G;have ei:i=u.length:=by omega
  subst ei;rw[TZ]at z;show Qj oI ?_;rw[KB FK _];have ne:S≠I:=λe=>by let#[_,_,_,_,_,g,_]:=J;rw[<-e,B]at g;simp at g
  show Zf (ahv hh J λj y=>Zm (G j c (λb o O q e=>y b o q e) ?_));rw[<-z];exact y S _ ne B
 |succ m Y=>
  intro i s f c hi J B z G;have lt:i<u.length:=00
  let#[Q,N]:=J.nt;have ne:S≠I:=λe=>by let#[_,_,_,_,_,g,_]:=J;rw[<-e,B]at g;simp at g
  show Qj oI ?_;show Zf (ahu J lt (λv j Z J' y=>?_) Q N);have p:=y S _ ne B;have al:f.size=i:=by rw[<-VY,z,WL];exact nq (Uo lt)
  show Zf (Lk p U ?_ 00 (by rw[Array.size_push];lia));have x:∀b o,b≠S->j.get? b=Zb o->(j.update S (XH (·.push v))).get? b=Zb o:=λb o q e=>(IK _ _ (XR q)).trans e;show Zm #[Ln FK _,Y (i+1) {s with heap:=j.update S (XH (·.push v))} _ _ 00 (J'.keep p x) (Rq (XH (·.push v)) p U) ?_ λL M C hf=>G L M (λb o q hi e=>C b o q hi (x b o q (y b o hi e))) hf];rw[FG,z,Um,Z];rfl
def ahC{Q:Za Zh->Zj->Prop}(hh:A.handled=Zc)(z:Tf P w s.heap a n)(k:∀c q d,(c.map iv).Perm n->(∀u∈c,∃i t,u=.int i t)->(Ou s.heap q)->s.heap.objs.size<=q.objs.size->Q c {s with heap:=q,drawn:=d}):
  Zn (Zr P w) A (collect (.ref a)) Q E s:=by
 have Z:=z;let#[o,M,ep,t,g,L,de,el,en,nd,sb,ft,ri,ld]:=Z;have N:n.length=M.size:=by rw[<-en,ZI,VY]
 have al:=Yc g;show Zf (wpAny_runValue (Qj entry_proto_collect' ?_));show Zf (mG (Zm #[aoQ _ (by decide +kernel),Qj entry_list_iadd' ?_]));change Zn _ _ (aoK (.ref s.heap.objs.size) (.ref a) (.ref s.heap.objs.size)) _ _ {s with heap:=s.heap.push (Tx "list" #[] 0)};have Y:Tf P w (s.heap.push (Tx "list" #[] 0)) a n:=z.at' λo e=>ZY _ e;have T1:Li {s with heap:=s.heap.push (Tx "list" #[] 0)} (.ref a) "set" :=#[o,ZY _ g,L.1]
 show Zf (Lr T1 ?_);have sr:oC (.ref s.heap.objs.size) (.ref a)=Zi:=by simp[oC,VO al]
 rw[Zq (by rw[sr];decide)];show Zf (ahA Y λit c j d J i1 i2 y G iu=>?_);have C:j.get? s.heap.objs.size=Zb (Tx "list" #[] 0):=y _ _ (YF _ U);have T2:Li {s with heap:=j,drawn:=d} (.ref a) "set" :=#[o,y _ _ (ZY _ g),L.1]
 show Zf (XY (ahz T2 ?_));show Zf (WD (Zf ?_));show Zf (Lk C U ?_ (Wg _) 02);have p:=Rq (XH (·.push RA)) C U;show Lk (s:={s with heap:=j.update s.heap.objs.size (XH (·.push RA)),drawn:=d}) p U ?_ (by change 1<=Zo;decide) 02;have B:=Rq (XH (·.pop)) p U;have m:∀b o,b≠s.heap.objs.size->j.get? b=Zb o->((j.update s.heap.objs.size (XH (·.push RA))).update s.heap.objs.size (XH (·.pop))).get? b=Zb o:=λb o f e=>
  (IK _ _ (XR f)).trans ((IK _ _ (XR f)).trans e)
 have ul:c.length=M.size:=by rw[<-N,<-G.length_eq,ZI]
 show Zm #[Ln FK _,ahB hh (by rw[ul];exact Ej sb) _ c.length 0 {s with heap:=(j.update s.heap.objs.size (XH (·.push RA))).update s.heap.objs.size (XH (·.pop)),drawn:=d} _ _ (NM _) (J.keep C m) B U λq c' x I=>?_];show Zf (i8 I ?_);show Zm (k c q d G iu (λb o e=>?_) ?_);{have f:=Yc e;exact x b o (Ys f) (by have:=YK f (Yp 02 i1);exact Ys this) (m b o (Ys f) (y b o (ZY _ e)))};exact Uo (Yc I)
end
end LS
namespace L2
open PySem PySem.Spec PyProof.Rows LS
section
variable {P:YZ}{w:Yt}{A:Yr}{E:Zh->Zj->Prop}{s:Zj}{a:Zg}{n:Za Int}
theorem dh:∀{b:Za Zh},(∀u∈b,∃i t,u=xA i t)->KH b (b.map iv)
 |[],_=>.nil
 |u::b,h=>by
  let#[i,t,U]:=h u YY;exact .cons i t (dh λv c=>h v (YT _ c))
def ahD{Q:Zh->Zj->Prop}(Y:A.handled=Zc)(z:Tf P w s.heap a n)
  (h:∀l m d e N c,KH e.toList N->N.Perm n->m.get? l=Zb (Tx "list" e c)->s.heap.objs.size<=l->(Ou s.heap m)->Q (.ref l) {s with heap:=m,drawn:=d}):
  Zn (Zr P w) A (call (.builtin "sorted") [.ref a]) Q E s:=by
 have Z:n.length<=Zo:=by
  let#[o,es,ep,t,g,ex,de,el,en,nd,J,r]:=z;rw[<-en,ZI,VY];exact Ej J
 show aoO kind_sorted plain_sorted entry_sorted (args_sorted1 _) ?_;show Zf (Zm (Zf (ahC Y z λu j d y M C sz=>?_)));have I:=dh M;have ul:u.length<=Zo:=by rw[<-ZI iv,y.length_eq];exact Z
 show Zf (mG ?_ ul);have L:(j.push (Tx "list" u.toArray 0)).get? j.objs.size=Zb (Tx "list" u.toArray 0):=YF _ U;show Zf (XY (WQ slot_list_sort #[_,L,U] arb (fE (s:={s with heap:=j.push (Tx "list" u.toArray 0),drawn:=d}) #[λO=>trivial,λO O=>trivial] L ul (λQ' f q=>?_) agN (λv i=>I.all v i) λe B o2=>#[_,U,?_]) (args_list_sort _)))
 ·match u,I,f,q with
  |x::p::rest,I,_,q=>rw[keyKind_ints I];exact Zm q
  |[],_,f,_=>simp at f
  |[_],_,f,_=>simp at f
 have all:=λv i=>I.all v (B.mem_iff.mp i);let#[c,hc]:=sortedHeap_at L;show Zm #[_,U,h _ _ d e (e.toList.map numOf) c (intsAre_map _ all) ?_ hc sz λb o G=>?_];{have:=B.map numOf;exact this.trans y};have lt:=Yc (C b o G);rw[sortedHeap_old (Ys lt) (by rw[UQ];exact NK lt)];exact ZY _ (C b o G)
end
open PySem PySem.Spec PyProof.Rows LS
section
variable {E g iter:ZE}{b:Za ZE}{own:Wu}{p:Yv}{P:YZ}{w:Yt}{A:Yr}{R:Ol->Zj->Prop}{s:Zj}{f a:Zh}{e:Wf}
theorem ahE(I:Nat->Zj->Prop)
  (turn:∀n s,I n s->Zn (Zr P w) A (VZ f) (λr i=>match r with
   |none=>R (.ok .next) i
   | some v=>Zn (Zr P w) A (El g f v) (λO i=>Zn (Zr P w) A (QR g e v) (λO z=>
     Zn (Zr P w) A (Jd b Zd λc r=>if r=Zd then do let ok <-isTrue c e (Ye c e);ZR (QM ok)else ZR (QM r)) (λok o=>
      if ok=Zd then Zn (Zr P w) A (Ye E e) (λx y=>Zn (Zr P w) A (call (.builtin "set.add") [a,x]) (λO u=>∃m,m<n/\I m u) (λO O=>False) y) (λO O=>False) o
      else∃m,m<n/\I m o) (λO O=>False) z) (λO O=>False) i) (λO O=>False) i) (λO O=>False) s)
  (n:Nat)(h:I n s):Wv (Zr P w) A (.compLoop (.SetComp E [#[g,iter,b,0]] own p) 0 f a e) R s:=by
 show j7 U I (λn s L=>?_) n h;change Zn _ A ((nV (.SetComp E [#[g,iter,b,0]] own p) 0 f a e).onRaise (λx=>do xF x e;f6 x)) _ _ s;show p9 ?_;show Zf (QX ?_);show Zf (Xv (turn n s L) (λr i j=>?_) λO O q=>q.elim);cases r with
 |none=>exact Zm j
 |some v=>
  show Zf (Xv j (λO i j=>?_) λO O q=>q.elim);show Zf (Xv j (λO z J=>Zf (Xv J (λok o B=>?_) λO O q=>q.elim)) λO O q=>q.elim);cases ok with|false=>exact Zm #[U,B]|true=>exact Zf (Zf (Xv B (λx y G=>Zf (QX (Zf (Xv G (λO u C=>Zm (Zm #[U,C])) λO O q=>q.elim)))) λO O q=>q.elim))
def ahF(m:Wv (Zr P w) A (.compLoop (.SetComp E [#[g,iter,b,0]] own p) 0 f a e) R s)
  (h:Zn (Zr P w) A (Qk f) (λi c=>Wv (Zr P w) A (.compLoop (.SetComp E [#[g,iter,b,0]] own p) 0 i a e) R c) (notedBy (Zr P w) A e λx c=>R (.error x) c) s):
  Wv (Zr P w) A (.compStart (.SetComp E [#[g,iter,b,0]] own p) 0 f a e) R s:=by
 show j8 ?_;change Zn _ A ((j9 (.SetComp E [#[g,iter,b,0]] own p) 0 f a e).onRaise (λx=>do xF x e;Om arn)) _ _ _;show wpAny_notedAt ?_;show Zf (QV (wpAny_ite ?_));split
 ·first
   | exact Zf (Zm (Zm (MU U m)))
   | exact Zm (MU U m)
 first
  |exact Zf (WD (Zf (QX (Zf (Xv h (λi c j=>Zm (MU U j)) λO O x=>x)))))
  |(show Zf (WD ?_);exact Zf (QX (Zf (Xv h (λi c j=>Zm (MU U j)) λO O x=>x))))
end
def dj(J:It)(g:TG)(o:TT)(p:TE)(f:St)(H:Hp)(Q:Hp->Za Int->Prop):Prop:=
 ∃W:Nat->Nat->St->Hp->Za Int->Prop,(∃m,W 0 m f H [])/\∀i m f H s,W i m f H s->
  (J.stop i H/\Q H s)\/(J.go i H/\∃N:St->Hp->Za Int->Prop,(∀c e n,N c e n->∃M,M<m/\W (i+1) M c e n)/\∀x e,J.yld i H x e->g x f e λa u=>o a u λb j=>
   if b=Zd then p a j λy q=>∃v,y=.int v/\s.length+1<QU/\∀n:Za Int,(v∈s->n=s)->(v∉s->n.Perm (s++[v]))->N a q n else N a j s)
def dm(n:Nat)(fr:Za Nat)(w:TI)(g:TG)(f:TT)(e:TE):TE:=λa H Q=>w a H λJ c=>dj J g f e (pre n fr a) c λb s=>∀(l:Zg) (N:Za Int),b l=Zc->N.Perm s->Q (.ref l) (upd b l (.lst (N.map V.int)))
def ahG{own sc:Wu}{N:Za Ze}{z:CZ}{tg iter elt:ZE}{ifs:Za ZE}{pos:Yv}{g:TG}{tf:TT}{te:TE}{J:It}{it D:Zg}{tn:Nat->ZD->Prop}{σ:St}{s:Zj}{Q:Hp->Za Int->Prop}{R:Ol->Zj->Prop}
  (hg:PG (Zz X own N z) tg g)(hf:TK (Zz X own N z) ifs tf)(he:PE (Zz X own N z) elt te)(hc:Xl X)(T:TV X.prog X.w X.K tg J z.fp it tn)(fo:∀c:Hp,(∀b∈D::z.fp,c b=Zc)->∀b∈D::z.fp,Vw (Zz X own N z) [] c b)
  (I:Inv (Zz X own N z) [] σ H s)(st:tn 0 s.heap)(fr:∀b∈D::z.fp,H b=Zc)(hD:Tf X.prog X.w s.heap D [])(hDf:D∉z.fp)(h:dj J g tf te σ H Q)(hR:∀j c E m,Inv (Zz X own N z) [] j c E->Tf X.prog X.w E.heap D m->c D=Zc->Q c m->R (.ok .next) E):
  Wv (Yn X) X.A (.compLoop (.SetComp elt [#[tg,iter,ifs,0]] sc pos) 0 (.ref it) (.ref D) (compEnvC own z.cl z.C X.env)) R s:=by
 let#[W,#[m0,w0],turn]:=h;show ahE (λn E=>∃i j c m,Inv (Zz X own N z) [] j c E/\tn i E.heap/\(∀b∈D::z.fp,c b=Zc)/\Tf X.prog X.w E.heap D m/\W i n j c m) ?_ m0 #[0,σ,H,[],I,st,fr,hD,w0];rintro n s3 ⟨i,B,H3,m,I3,st3,fr3,z3,w3⟩;have L:∀{s:Zj}{m:Za Int},Tf X.prog X.w s.heap D m->∃o,s.heap.get? D=Zb o/\∀v,o.data≠.cell v:=λq=>by
  let#[o,es,ep,t,g,ex,de,_]:=q;exact#[o,g,λv e=>by rw[de]at e;cases e]
 let#[oD,gD,dD]:=L z3;have M:=I3.pinned (λb a=>by obtain rfl:=YJ.mp a;exact fo H3 fr3 _ YY) (λb a=>by obtain rfl:=YJ.mp a;exact#[oD,gD,dD]);have Qa:(D,oD)∈Pl [D] s3.heap:=Ox YY gD;have atD:∀{pn:Za (Zg×Yg)}{j:St}{c:Hp}{E:Zj},Inv (Zz X own N z) pn j c E->(D,oD)∈pn->E.heap.get? D=Zb oD/\c D=Zc:=λI hp=>#[(I.pin _ (Va _ hp)).1,(I.pin _ (Va _ hp)).2.1]
 have fpD:∀c:Hp,(∀b∈D::z.fp,c b=Zc)->∀b∈z.fp,Vw (Zz X own N z) ([]++Pl [D] s3.heap) c b:=λc hn b a=>by
  let#[a1,a2,a3,a4,a5,a6]:=fo c hn b (YT _ a);show#[a1,a2,a3,a4,a5,λp hp e=>?_];have:=(lj (hp)).1;rw[e]at this;exact hDf (by rw[<-YJ.mp this];exact a)
 have pD:=Qa;rcases turn i n B H3 m w3 with⟨stop,qn⟩|⟨go,Nx,hN,step⟩;{show ZQ (T.done (Zz X own N z) U U U hc i _ s3 B H3 _ M (fpD H3 fr3) st3 stop) λr s4 Z=>?_;let#[U,I4]:=Z;let#[g4,h4]:=atD I4 pD;exact hR B H3 s4 m (Inv.NX I4) (z3.at' λo e=>by rw[gD]at e;cases e;exact g4) h4 qn};show ZQ (T.item (Zz X own N z) U U U hc i _ s3 B H3 _ M (fpD H3 fr3) st3 go) λr s4 Z=>?_;let#[u,U,h4]:=Z;show ZQ h4 λO s5 Z=>?_;let#[x,H5,I5,r5,y5,G,fr5]:=Z;have fr5':∀b∈D::z.fp,H5 b=Zc:=λb a=>by
  rcases Yk.mp a with rfl|a;{exact(atD I5 pD).2};exact fr5 b a
 show ZQ (hg _ s5 B H5 x u _ (I5.pinned (fpD H5 fr5') (T.obj _ _ G)) r5 (step x H5 y5)) λO s6 Z=>?_;let#[f,H6,I6,q6]:=Z;have out:∀{σ7:St}{Y:Hp}{s7:Zj},Inv (Zz X own N z) (([]++Pl [D] s3.heap)++Pl z.fp s5.heap) σ7 Y s7->Inv (Zz X own N z) [] σ7 Y s7/\Tf X.prog X.w s7.heap D m/\(∀b∈D::z.fp,Y b=Zc)/\∀b∈z.fp,∀o,s5.heap.get? b=Zb o->s7.heap.get? b=Zb o:=λ{σ7 Y s7} I7=>by
  let#[g7,h7]:=atD I7 (Tt _ pD);show#[Inv.NX (Inv.NX I7),z3.at' λo e=>by rw[gD]at e;cases e;exact g7,λb a=>?_,λb a o e=>(I7.pin (b,o) (Va _ (Va _ (Ox a e)))).1];rcases Yk.mp a with rfl|a;{exact h7};let#[o,e,d]:=T.obj _ _ G b a;exact(I7.pin (b,o) (Va _ (Va _ (Ox a e)))).2.1
 show ZQ (hf _ s6 f H6 _ I6 q6) λb s7 Z=>?_;let#[Y,I7,q7]:=Z;cases b with
 |false=>
  let⟨j1,j2,j3,j4⟩:=out I7;let#[m',hm,w7]:=hN f Y m q7;exact#[m',hm,i+1,f,Y,m,j1,T.keep _ _ _ G j4,j3,j2,w7]
 |true=>
  show ZQ (he _ s7 f Y _ I7 q7) λy s8 Z=>?_;let#[yv,H8,I8,r8,v,U,z8,n8]:=Z;let#[tk,U]:=r8;let#[j1,j2,j3,j4]:=out I8;let#[_,f1,f2,f3',f4,f5]:=fo H8 j3 D YY;show ahx j2 z8 λh' ns' sb z9 k1 k2=>?_;let#[m',hm,w9]:=hN f H8 ns' (n8 ns' k1 k2);show#[m',hm,i+1,f,H8,ns',j1.turned (λb o a e=>(sb.2 b a).trans e) (j3 D YY) f1 f3' f4 f5,T.keep _ _ _ G λb a o e=>(sb.2 b (λw=>hDf (by rw[<-w];exact a))).trans (j4 b a o e),j3,z9,w9]
open PySem PySem.Spec PyProof.Rows LS
def Inv.drew(I:Inv X p a H s):Inv X p a H {s with drawn:=d}:=#[I.ok,I.os,I.bare,I.base,I.loc,I.cell,I.free,I.freeC,I.pin,I.hok,I.len]
section
variable {own:Wu}{j iter E:ZE}{i:Za ZE}{n f N:Yv}{u:TI}
def ahH(ts Nc:Za Ze)(fr:Za Nat){g:TG}{tf:TT}{te:TE}(hg0:Gl X "sorted")(hm0:X.mg "sorted" = Zc)(hi:PI X j iter u)
  (hg:∀z,PG (Zz X own (ts++Nc) z) j g)(hf:∀z,TK (Zz X own (ts++Nc) z) i tf)(he:∀z,PE (Zz X own (ts++Nc) z) E te)(hc:Xl X|>1)(c:Sl own X Nc|>1)(hN:Uw X fr Nc|>1)
  (hs:UY X iter|>4):PE X (.Call (.Name "sorted" N) [.SetComp E [#[j,iter,i,0]] own f] [] n) (dm ts.length fr u g tf te):=by
 have c:=HR c;intro pins s σ H Q I h;let#[cl,e0,hc1,hc2]:=HS λy hy e=>I.ok.has y.1 (c.free y hy e);show Lq (Ph I hg0 hm0 G7 ?_ 01 01);show aqn (KF ?_) U U;change Zn _ _ (comprehension (.SetComp E [#[j,iter,i,0]] own f) own X.env _ (newSet (.type "set")) Zi (Ye iter X.env)) _ _ s;show xJ U hs e0 c.kind c.loc (ZQ (hi pins s σ H _ I h) λxv s₁ Y=>ZQ Y λitv B h₂=>?_);let#[it,fp,tn,J,H2,e,I2,T,st2,f2,q]:=h₂;subst e;show ahw λo zD hcl=>i9 c.nocell (by intro y hy;simp at hy) (λY G C=>?_) c.kind;have hlt:=λb M=>let ⟨o,e,_⟩:=T.obj 0 _ st2 b M;Yc e
 generalize hH2:B.heap.push o=Hh at G C zD⊢;have hC:Hh.objs.size=B.heap.objs.size+1:=by rw[<-hH2,UQ]
 have hDC:B.heap.objs.size≠Hh.objs.size:=by rw[hC];exact Ys (KS _)
 have Z:B.heap.objs.size<=Hh.objs.size:=by rw[hC];exact UT _
 have below:∀b,b<B.heap.objs.size->b≠Hh.objs.size:=λb M=>by rw[hC];exact Ys (NK M)
 have old:=λb o e=>C.extBut b o (below b (Yc e)) (ZY _ (hH2▸ZY _ e));have st1:=T.keep _ _ _ st2 λb O o e=>old b o e;have zD1:=zD.at' λo e=>C.extBut _ _ hDC (ZY _ e);have I1:Inv (Zz X own (ts++Nc) #[cl,Hh.objs.size,B,H2,fp]) [] (pre ts.length fr σ) H2 {B with heap:=Y,toks:=B.toks+([]:Za (Ze×Zh)).length}:=
  ja I2 f2 hlt c hc1 hc2 hN Z (λO O=>Un.kept old) (I2.hok.fresh Z) (λO O=>rfl) (I2.hok.kept old) old G U U
 have hDf:=λz=>NI _ (hlt _ z);have fo':∀H':Hp,(∀b∈B.heap.objs.size::fp,H' b=Zc)->∀b∈B.heap.objs.size::fp,Vw (Zz X own (ts++Nc) #[cl,Hh.objs.size,B,H2,fp]) [] H' b:=λH' hn b M=>by
  rcases Yk.mp M with rfl|hb';{show#[hn _ M,hDC,λz=>?_,.inr (ZU _),λx a e z=>?_,λp hp=>ZJ hp 02];{rcases Yk.mp (I2.Ly _ z)with z|z;{exact ZJ I2.lt (by rw[<-z];exact NI _)};exact I2.mQ (ZU _) z};let#[v,o,ho,_]:=I2.cell x a (hc2 x a e);exact ZJ (Yc ho) (by rw[z];exact NI _)};let#[_,f1,f2',f3,f4,f5]:=f2 b hb';show#[hn b M,below b (hlt b hb'),λz=>?_,.inl hb',λx a e=>f4 x a (hc2 x a e),λp hp=>ZJ hp 02];rcases Yk.mp (I2.Ly b z)with z|z;{exact f1 z};exact f2' z
 have fr1:∀b∈B.heap.objs.size::fp,H2 b=Zc:=λb M=>by
  rcases Yk.mp M with rfl|M;{exact I2.fresh};exact(f2 b M).1
 have fin:∀σ' H' s' ns,Inv (Zz X own (ts++Nc) #[cl,Hh.objs.size,B,H2,fp]) [] σ' H' s'->Tf X.prog X.w s'.heap B.heap.objs.size ns->H' B.heap.objs.size=Zc->(∀l (L:Za Int),H' l=Zc->L.Perm ns->Q (.ref l) (upd H' l (.lst (L.map V.int))))->
   compPost (Yn X) X.A X.xe Zc (λv s₁=>Zn (Yn X) X.A (spliced []) (λvs B=>Zn (Yn X) X.A (call (.builtin "sorted") ([]++(v::vs))) (EP X pins σ Q) X.xe B) X.xe s₁) (.ref B.heap.objs.size) Hh.objs.size (.ok .next) s':=λσ' H' s' ns J' z' n' q'=>by
  let#[m,hns,_]:=J'.loc;show#[m,hns,λh' sb=>FI ?_];have I3:=HU I2 Z (FD I2 f2 J') J'.free λb o M e=>sb.extBut b o M e;have z3:=z'.at' λo e=>sb.extBut _ _ hDC e;show ahD (I3.ok.hd hc) z3 λl h4 d out L c' i1 i2 hl sz kp=>?_;show#[.ref l,upd H' l (.lst (L.map V.int)),Inv.drew (I3.laid kp sz (show Wy X.prog X.w _ _ _ (.lst (L.map V.int)) from#[?_,out.toList,c',agO i1,?_])),U,q' l L (I3.hok.fresh sz) i2];{let#[o,es,ep,t,g,ex,de,el,en,nd,sb',r]:=z3;rw[ZI,i2.length_eq,<-en,ZI,VY];exact Ej sb'};rw[hl]
 have loop:=ahG (pos:=f) (sc:=own) (iter:=iter) (hg _) (hf _) (he _) hc T fo' I1 st1 fr1 zD1 hDf q fin;exact ahF loop (T.self _ 0 _ _ _ st1 loop)
end
open PySem PySem.Spec PyProof.Rows LS
def Kj(g:DG)(f:DT)(e:DE)(q:Za Int->Prop):Za D->ZG->Za Int->Prop
 |[],_,n=>q n
 |x::s,ds,n=>g x ds λa=>f a (λb=>if b=Zd then e a (λy=>∃v,y=.int v/\n.length+1<QU/\∀N:Za Int,(v∈n->N=n)->(v∉n->N.Perm (n++[v]))->Kj g f e q s a N) (λO=>False)else Kj g f e q s a n) (λO=>False)
def uU(n:Nat)(fr:Za Nat)(i:DI)(g:DG)(f:DT)(e:DE):DA:=λds q x=>i ds (λs=>Kj g f e (λa=>∀N:Za Int,N.Perm a->q (Xg N)) s (PX n fr ds) []) x
def ahI{XE:St->XK}{di:DI}{g:DG}{f:DT}{e:DE}(n:Nat)(fr:Za Nat)(d0:Gs K XE wi di)(d1:Pt K t g)(d2:Pn K XN tf f)(d3:SD K XN te e):OL K XE (dm n fr wi t tf te) (uU n fr di g f e):=by
 intro B0 B H0 H σ ds q x Q c h k kx;show d0 c h (λJ E H1 H2 e1 w h=>?_) kx;let#[c1,no1]:=vQ (c.go e1) (Zv.refl _) n fr;show#[λi m I H' G=>m=E.length-i/\i<=E.length/\∃o p,Zy K H1 H2 o H' I p/\Tb p/\Kj g f e (λG=>∀N:Za Int,N.Perm G->q (Xg N)) (E.drop i) p G,#[_,U,Wg _,H1,_,c1,no1,h],?_];rintro i m I H' G ⟨rfl,hi,o,p,C,no',Z⟩;let#[w1,w2]:=w i o H' C.ext.s0 C.sub;by_cases j:i<E.length
 ·right;let#[go,yld]:=w1 j;rw[Od j]at Z;show#[go,λA H4 L=>∃Y a,Zy K H1 H2 Y H4 A a/\Tb a/\Kj g f e (λG=>∀N:Za Int,N.Perm G->q (Xg N)) (E.drop (i+1)) a L,λA H4 L z=>⟨_,by omega,rfl,j,z⟩,λy H4 z=>?_];let#[H5,e5,d,ed,rd]:=yld y H4 z;rw[ZA j]at ed;cases ed;show d1 (C.go e5) rd Z λA a c2 kp h2=>?_;have M:=no'.keeps kp;show d2 c2 h2 (λb H6 H7 e6 h6=>?_) (λO O O h=>h.elim);cases b with
  |false=>
   exact#[H6,a,c2.go e6,M,h6]
  |true=>
   show d3 (c2.go e6) h6 (λu y' H8 H9 e8 r8 h8=>?_) (λO O O h=>h.elim);let#[v,U,hs,hq]:=h8;exact#[v,r8,hs,λN k1 k2=>#[H8,a,(c2.go e6).go e8,M,hq N k1 k2]]
 left;have hx:E.drop i=[]:=IU (SH j);rw[hx]at Z;show#[w2 00,λl N hn hp=>?_];have e2:YD H0 H o (upd H' l (.lst (N.map V.int))):=(e1.trans C.ext).trans (.grow C.sub (Zv.upd hn));exact k l _ (Xg N) o _ e2 ((e1.trans C.ext).s.free hn) (C.sub.free hn) YQ (Gw _) (Z N hp)
section
variable {x:St->XK}{own:Wu}{s p n:Yv}{E a iter:ZE}{i:Za ZE}{b:DI}{g:DG}{f:DT}{e:DE}
def uV(j N:Za Ze)(fr:Za Nat)(o:Gl X "sorted")(m:X.mg "sorted" = Zc)(hi:JI X x a iter b)(B:∀z,JG (Zz X own (j++N) z) a g)(C:∀z,Tc (Zz X own (j++N) z) XN i f)(G:∀z,JE (Zz X own (j++N) z) XN E e)
  (I:Xl X|>1)(c:Sl own X N|>1)(J:Uw X fr N|>1)(A:UY X iter|>4):
  JF X x (.Call (.Name "sorted" n) [.SetComp E [#[a,iter,i,0]] own s] [] p) (uU j.length fr b g f e):=by
 let#[Z,y,Y]:=hi.ex;let#[t,w,Q]:=Gv (Xf:=λz=>Zz X own (j++N) z) (λO=>rfl) B;let#[tf,u,M]:=Gu (Xf:=λz=>Zz X own (j++N) z) (λO=>rfl) C;let#[te,q,L]:=vS (Xf:=λz=>Zz X own (j++N) z) (λO=>rfl) G;exact#[_,ahH j N fr o m y w u q I c J A,ahI _ fr Y Q M L]
end
def uW{w:Type}{c:w->D}{q:Za Int->Prop}{f:DT}{e:DE}{C:ZG}(p:w->Bool)(h:w->Int)(all:Za w)(Z:all.length+1<QU)(hf:∀x∈all,∀N:Bool->Prop,N (p x)->f (.v (c x)::C) N (λO=>False))
  (Q:∀x∈all,p x=Zd->∀N:D->Prop,N (.int (h x))->e (.v (c x)::C) N (λO=>False))(Y:∀n:Za Int,n.Nodup->(∀i,i∈n↔∃x∈all,p x=Zd/\h x=i)->q n)(s:Slot):Kj (VG 0) f e q (all.map c) (s::C) []:=by
 have go:∀(m j:Za w) s n,all=j++m->n.Nodup->n.length<=j.length->(∀i,i∈n↔∃x∈j,p x=Zd/\h x=i)->Kj (VG 0) f e q (m.map c) (s::C) n:=by
  intro m;induction m with
  |nil=>intro j s n u nd _ o;rw[SG]at u;subst u;exact Y n nd o
  |cons x m I=>
   intro j s n u nd J o;have B:x∈all:=by rw[u];simp
   have E:all=(j++[x])++m:=by rw[u,VC];rfl
   have len:n.length+1<QU:=by rw[u,Yx]at Z;lia
   show hf x B _ ?_;cases G:p x with
   |false=>
    show I (j++[x]) _ n E nd (by rw[Yx];exact ap1 J) λi=>?_;rw[o i];show#[λ⟨y,g,r⟩=>#[y,Tt _ g,r],λ⟨y,g,r⟩=>?_];rcases Xk.mp g with g|g;{exact#[y,g,r]};rw[YJ.mp g,G]at r;cases r.1
   |true=>
    show Q x B G _ #[h x,U,len,λA M L=>?_];by_cases hi:h x∈n;{obtain rfl:=M hi;show I (j++[x]) _ A E nd (by rw[Yx];lia) λi=>?_;rw[o i];show#[λ⟨y,g,r⟩=>#[y,Tt _ g,r],λ⟨y,g,r⟩=>?_];rcases Xk.mp g with g|g;{exact#[y,g,r]};rw[YJ.mp g]at r;rw[<-r.2];exact(o _).mp hi};have pm:=L hi;show I (j++[x]) _ A E (pm.nodup_iff.mpr ?_) (by rw[pm.length_eq,Yx,Yx];simp only[Ld];exact Eb J) λi=>?_;{rw[UE];exact#[nd,02,λa ha b hb e=>hi (by rw[show b=h x by simpa using hb]at e;rw[<-e];exact ha)]};rw[pm.mem_iff,Xk,YJ,o i];show#[λz=>?_,λ⟨y,g,r⟩=>?_];{rcases z with⟨y,g,r⟩|rfl;{exact#[y,Tt _ g,r]};exact#[x,02,G,U]};rcases Xk.mp g with g|g;{exact .inl #[y,g,r]};rw[YJ.mp g]at r;exact .inr r.2.symm
 exact go all [] s [] U .nil (ZU _) λi=>#[λz=>(nomatch z),λ⟨x,B,_⟩=>(nomatch B)]
open PySem PySem.Spec PyProof.Rows LS
def ahJ{M:Qe}{A:Yr}{E:Zh->Zj->Prop}{s:Zj}{a:Zg}{Q:Option Yg->Zj->Prop}(h:Q (s.heap.get? a) s):Zn M A (loadIfAlive a) Q E s:=λO O O=>h
section
variable {P:YZ}{w:Yt}{A:Yr}{E:Zh->Zj->Prop}{s:Zj}{b1 b2:Bool}{z TI TO i1 i2 l1 l2:Zg}{k:Nat}{xs ys:Array Zh}
structure Zk (b1 b2:Bool)(h:ZD)(z TI TO i1 i2 l1 l2:Zg)(k:Nat)(xs ys:Array Zh):Prop where
 zip:∃(T:Zg) (f1:Bool) (u v:Zh),h.get? z=Zb {cls:=.type "zip",dict:=Zc,data:=.fields [.int (T:Nat) 0,.bool f1,.bool Zi,.ref TI,.ref TO].toArray,slots:=#[]}/\UD h T u v
 ti:UD h TI (.ref i1) (.ref i2)
 it1:WW b1 h i1 l1 k
 it2:WW b2 h i2 l2 k
 ob1:Vm b1 h l1 xs
 ob2:Vm b2 h l2 ys
def dq{Q:Bool->Zj->Prop}{T:Zg}{f1:Bool}{o:Yg}(b:s.heap.get? z=Zb {cls:=.type "zip",dict:=Zc,data:=.fields [.int (T:Nat) 0,.bool f1,.bool Zi,.ref TI,.ref TO].toArray,slots:=#[]})(e:s.heap.get? T=Zb o)
  (k:∀a,a.get? z=Zb {cls:=.type "zip",dict:=Zc,data:=.fields [.int (T:Nat) 0,.bool Zd,.bool Zi,.ref TI,.ref TO].toArray,slots:=#[]}->VB z s.heap a->Q Zi {s with heap:=a}):Zn (Zr P w) A (asl (.ref z)) Q E s:=by
 show Zf (Wi b U (x:=.int T 0) U ?_);show Zf (ahJ ?_);rw[show s.heap.get? (oP T)=Zb o from e];show Zf (Wi b U (x:=.bool f1) U ?_);cases f1 with|true=>exact Zm (k s.heap b (ao3 z s.heap))|false=>exact Zf (Vc b 02 λa g c=>Zm (k a g c))
def ahK{x y:Zh}{Q:Zh->Zj->Prop}(D:Qh z TI TO i1 i2 l1 l2)(Z:Zk b1 b2 s.heap z TI TO i1 i2 l1 l2 k xs ys)(hx:xs[k]?=Zb x)(hy:ys[k]?=Zb y)
  (hQ:∀f T,Zk b1 b2 f z TI TO i1 i2 l1 l2 (k+1) xs ys->UD f T x y->s.heap.objs.size<=T->(∀c o,c≠z->c≠TO->c≠i1->c≠i2->s.heap.get? c=Zb o->f.get? c=Zb o)->Q (.ref T) {s with heap:=f}):
  Zn (Zr P w) A (VA.«zip.__next__» #[[.ref z],[]]) (λfin s'=>∃v,fin=.done (.ret v)/\Q v s') E s:=by
 let#[#[T,f1,ua,ub,b,a],I,Y,N,L,J]:=Z;have nz:T≠z:=λe=>by have q:=a;unfold UD at q;rw[e,b]at q;simp at q
 have n1:T≠i1:=λe=>by let#[o,j,i]:=Y.at;have q:=a;unfold UD at q;rw[e,j]at q;cases q;cases i
 have n2:T≠i2:=λe=>by let#[o,j,i]:=N.at;have q:=a;unfold UD at q;rw[e,j]at q;cases q;cases i
 show Zf (m:=Jc (.ref z) 2) (Wi b U (x:=.bool Zi) U ?_);show Zf (Wi b U (x:=.ref TI) U (Zf (RE I U ?_)));show Zf (dq b a λg1 gz gs=>?_);have u:∀c o,c≠z->s.heap.get? c=Zb o->g1.get? c=Zb o:=λc o n e=>gs.extBut _ _ n e;show Zf ?_;simp only[<-oz,FQ,oW];show Zf (Zf (XY (Zf (LY (Y.mv λo e=>u _ o D.i1z e) (L.mv λo e=>u _ o D.l1z e) hx λg2 C G=>Zm ?_))));have p:=λc o n n' e=>G.extBut _ _ n' (u c o n e);show Zm ?_;dsimp only;show Zf (Zf (XY (Zf (LY (N.mv λo e=>p _ o D.i2z D.i12.symm e) (J.mv λo e=>p _ o D.l2z D.l2i1 e) hy λg4 B g=>Zm ?_))));have M:=λc o a1 a3 a4 e=>g.extBut _ _ a4 (p c o a1 a3 e);show Zm (Zm ?_);dsimp only;show Zf (Et (Zm #[_,U,?_]) (by change 2<=Zo;decide));have up:∀{c o},g4.get? c=Zb o->(g4.push {cls:=.type "tuple",data:=.seq [x,y].toArray}).get? c=Zb o:=λe=>ZY _ e;show hQ _ _ #[#[T,Zd,ua,ub,up (g.extBut _ _ D.i2z.symm (G.extBut _ _ D.i1z.symm gz)),up (M _ _ nz n1 n2 a)],up (M _ _ D.TIz D.TIi1 D.TIi2 I),(C.mv λo e=>g.extBut _ _ D.i12 e).mv λo e=>up e,B.mv λo e=>up e,L.mv λo e=>up (M _ o D.l1z D.l1i1 D.l1i2 e),J.mv λo e=>up (M _ o D.l2z D.l2i1 D.l2i2 e)] (YF _ U) ?_ λc o c1 O c3 c4 e=>up (M c o c1 c3 c4 e);rw[g.1];rw[G.1];rw[gs.1];exact ZU _
def ahL{Q:Fin->Zj->Prop}(B:A.handled=Zc)(D:Qh z TI TO i1 i2 l1 l2)(Z:Zk b1 b2 s.heap z TI TO i1 i2 l1 l2 k xs ys)(a:xs[k]?=Zc\/ys[k]?=Zc)
  (J:∀p e,(∀c o,c≠z->c≠TO->c≠i1->c≠i2->s.heap.get? c=Zb o->p.get? c=Zb o)->(∃o,p.get? e=Zb o/\o.cls=.type "StopIteration")->E (.ref e) {s with heap:=p}):
  Zn (Zr P w) A (VA.«zip.__next__» #[[.ref z],[]]) Q E s:=by
 let#[#[T,f1,ua,ub,f,hT],I,L,h2,y,N]:=Z;show Zf (m:=Jc (.ref z) 2) (Wi f U (x:=.bool Zi) U ?_);show Zf (Wi f U (x:=.ref TI) U (Zf (RE I U ?_)));show Zf (dq f hT λg1 gz gs=>?_);have M:∀c o,c≠z->s.heap.get? c=Zb o->g1.get? c=Zb o:=λc o n e=>gs.extBut _ _ n e;show Zf ?_;simp only[<-oz,FQ,oW];cases i:xs[k]? with
 |none=>exact Zf (Zf (XY (Zf (Gz B (L.mv λo e=>M _ o D.i1z e) (y.mv λo e=>M _ o D.l1z e) i λg2 e g j=>J g2 e (λc o u O C O q=>g _ _ C (M _ _ u q)) j))))
 |some x=>
  have hy:=a.resolve_left λq=>by rw[i]at q;cases q
  show Zf (Zf (XY (Zf (LY (L.mv λo e=>M _ o D.i1z e) (y.mv λo e=>M _ o D.l1z e) i λg2 it2 g=>Zm ?_))));have b:=λc o n Y e=>g.extBut _ _ Y (M c o n e);exact Zm (Zf (Zf (XY (Zf (Gz (s:={s with heap:=g2}) B (h2.mv λo e=>b _ o D.i2z D.i12.symm e) (N.mv λo e=>b _ o D.l2z D.l2i1 e) hy λg4 e G j=>J g4 e (λc o u O C c4 q=>G _ _ c4 (b _ _ u C q)) j)))))
def Zs(b1 b2:Bool)(h:ZD)(z TI TO i1 i2 l1 l2:Zg)(k:Nat)(xs ys:Array Zh):Prop:=Zp b1 b2 h z TI TO i1 i2 l1 l2 k .none xs ys\/Zk b1 b2 h z TI TO i1 i2 l1 l2 k xs ys
def Zs.ty(Z:Zs b1 b2 s.heap z TI TO i1 i2 l1 l2 k xs ys):s.TypeIs (.ref z) "zip" :=by
 rcases Z with Z|Z;{exact#[_,Z.zip,U]};let#[#[T,f1,u,v,a,_],_]:=Z;exact#[_,a,U]
def ahM{x y:Zh}{Q:Option Zh->Zj->Prop}(D:Qh z TI TO i1 i2 l1 l2)(Z:Zs b1 b2 s.heap z TI TO i1 i2 l1 l2 k xs ys)(i:xs[k]?=Zb x)(g:ys[k]?=Zb y)
  (j:∀a T,Zs b1 b2 a z TI TO i1 i2 l1 l2 (k+1) xs ys->UD a T x y->s.heap.objs.size<=T->(∀c o,c≠z->c≠TO->c≠i1->c≠i2->s.heap.get? c=Zb o->a.get? c=Zb o)->Q (Zb (.ref T)) {s with heap:=a}):Zn (Zr P w) A (VZ (.ref z)) Q E s:=by
 have ty:=Z.ty;rcases Z with Z|Z;{show Zf (SN (UU (name:=o7 "__next__") ty NN (WQ NN ty xn (gg D Z i g λa b e f=>Zm (j a _ (.inr #[#[_,Zi,x,y,b.zip,e],b.ti,b.it1,b.it2,b.ob1,b.ob2]) e (ZU _) f)) (xm _))))};exact Zf (SN (UU (name:=o7 "__next__") ty NN (WQ NN ty xn (ahK D Z i g λa T b e f m=>Zm (j a T (.inr b) e f m)) (xm _))))
def ahN{Q:Option Zh->Zj->Prop}(f:A.handled=Zc)(D:Qh z TI TO i1 i2 l1 l2)(Z:Zs b1 b2 s.heap z TI TO i1 i2 l1 l2 k xs ys)(a:xs[k]?=Zc\/ys[k]?=Zc)
  (g:∀b,(∀c o,c≠z->c≠TO->c≠i1->c≠i2->s.heap.get? c=Zb o->b.get? c=Zb o)->Q Zc {s with heap:=b}):Zn (Zr P w) A (VZ (.ref z)) Q E s:=by
 have ty:=Z.ty;rcases Z with Z|Z;{exact gh f D Z a g};unfold VZ;show Zf (SN (UU ty NN (WQ NN ty xn (ahL (f) D Z a λb e j m=>?_) (xm _))));let#[o,i,n]:=m;exact Zf (NU #[o,i,n] Ek (Zm (g _ j)))
def Zs.keep{h p:ZD}{S:Zg}(Z:Zs b1 b2 h z TI TO i1 i2 l1 l2 k xs ys)(m:∀b o,b≠S->h.get? b=Zb o->p.get? b=Zb o)(c:∀b,(b=z\/b=TI\/b=TO\/b=i1\/b=i2\/b=l1\/b=l2)->b≠S)(y:∀T u v,UD h T u v->T≠S):Zs b1 b2 p z TI TO i1 i2 l1 l2 k xs ys:=by
 rcases Z with⟨j,i,⟨a,b,x⟩,g,f,Q,q⟩|⟨⟨T,f1,u,v,j,n⟩,i,g,f,Q,q⟩;{exact .inl #[m _ _ (c _ 02) j,m _ _ (c _ 02) i,⟨a,b,m _ _ (c _ 02) x⟩,g.mv λo e=>m _ _ (c _ 02) e,f.mv λo e=>m _ _ (c _ 02) e,Q.mv λo e=>m _ _ (c _ 02) e,q.mv λo e=>m _ _ (c _ 02) e]};exact .inr #[#[T,f1,u,v,m _ _ (c _ 02) j,m _ _ (y _ _ _ n) n],m _ _ (c _ 02) i,g.mv λo e=>m _ _ (c _ 02) e,f.mv λo e=>m _ _ (c _ 02) e,Q.mv λo e=>m _ _ (c _ 02) e,q.mv λo e=>m _ _ (c _ 02) e]
def Cq(h:ZD)(N:Nat)(xs ys:Array Zh)(a:Za Zg):Prop:=∀(j:Nat) T,a[j]?=Zb T->N<=T/\∃x y,xs[j]?=Zb x/\ys[j]?=Zb y/\UD h T x y
def ahO{S N:Zg}{R:Ol->Zj->Prop}(hh:A.handled=Zc)(D:Qh z TI TO i1 i2 l1 l2)(hn:xs.size<=Zo)(hey:xs.size<=ys.size)(hN:∀b,(b=z\/b=TI\/b=TO\/b=i1\/b=i2\/b=l1\/b=l2)->b<S)(hSN:S<N)(res:Zh):
  ∀(m i:Nat) (s:Zj) (n:Za Zg) (c:Nat),i+m=xs.size->n.length=i->n.Nodup->N<=s.heap.objs.size->Zs b1 b2 s.heap z TI TO i1 i2 l1 l2 i xs ys->Cq s.heap N xs ys n->s.heap.get? S=Zb {cls:=.type "list",dict:=Zc,data:=.seq (n.map Xa).toArray c,slots:=#[]}->
  (∀g f c',(∀b o,b<S->b≠z->b≠TO->b≠i1->b≠i2->s.heap.get? b=Zb o->g.get? b=Zb o)->f.length=xs.size->f.Nodup->Cq g N xs ys f->g.get? S=Zb {cls:=.type "list",dict:=Zc,data:=.seq (f.map Xa).toArray c',slots:=#[]}->R (.ok (.ret res)) {s with heap:=g})->
  Wv (Zr P w) A (.builtin "list.extend.loop" #[[.ref S,.ref z,res],[]]) R s:=by
 have M:=λb h=>Ys (hN b h);have big:∀T,N<=T->T≠z/\T≠TO/\T≠i1/\T≠i2/\T≠S:=λT h=>by
  have ne:∀b,b<=S->T≠b:=λb G=>VO (Hf G (YK hSN h));exact#[ne _ (Uo (hN z 02)),ne _ (Uo (hN TO 02)),ne _ (Uo (hN i1 02)),ne _ (Uo (hN i2 02)),ne _ (ZU _)]
 have sS:S≠z/\S≠TO/\S≠i1/\S≠i2:=#[(M z 02).symm,(M TO 02).symm,(M i1 02).symm,(M i2 02).symm]
 intro m;induction m with
 |zero=>
  intro i s n c hi tl nd L Z C hS hR;show Qj oI ?_;rw[KB FK _];show Zf (ahN hh D Z (.inl (KC 00)) λg I=>Zm (hR g n c (λb o O p h2 h3 h4 e=>I b o p h2 h3 h4 e) 00 nd (λj T e=>?_) (I S _ sS.1 sS.2.1 sS.2.2.1 sS.2.2.2 hS)));let#[p,x,y,q1,q2,q3]:=C j T e;let#[g1,g2,g3,g4,_]:=big T p;exact#[p,x,y,q1,q2,I _ _ g1 g2 g3 g4 q3]
 |succ m ih=>
  intro i s n c hi tl nd L Z C hS hR;have lx:i<xs.size:=00
  have ly:i<ys.size:=YK lx hey;show Qj oI ?_;show Zf (ahM D Z (TX lx) (TX ly) λg T Z' pT hT I=>?_);have J:=I S _ sS.1 sS.2.1 sS.2.2.1 sS.2.2.2 hS;show Zf (Lk J U ?_ (by simp;lia) (by simp;lia));have hS2:=Rq (XH (·.push (Xa T))) J U;have B:∀b o,b≠S->g.get? b=Zb o->(g.update S (XH (·.push (Xa T)))).get? b=Zb o:=λb o G e=>(IK _ _ (XR G)).trans e;have pS:∀T u v,UD g T u v->T≠S:=λT u v q e=>by unfold UD at q;rw[e,J]at q;simp at q
  show Zm #[Ln FK _,ih (i+1) {s with heap:=g.update S (XH (·.push (Xa T)))} (n++[T]) (c+1) 00 (by simp[tl]) ?_ ?_ (Z'.keep B M pS) (λj T' e=>?_) ?_ λh'' f c' kp' l' n' C' hf=>hR h'' f c' (λb o G p h2 h3 h4 e=>kp' b o G p h2 h3 h4 (B b o (Ys G) (I b o p h2 h3 h4 e))) l' n' C' hf];{rw[UE];show#[nd,02,λa ha b G e=>?_];let#[j,Q]:=FV.mp ha;let#[_,x,y,_,_,q]:=C j a Q;have lt:=Yc q;rw[e,show b=T by simpa using G]at lt;exact ZJ hT (Nat.not_le.mpr lt)};{change N<=(g.update S _).objs.size;rw[MX];exact Yp (Yp L hT) (Uo (Yc pT))}
  ·rcases QO j n.length with Q|Q;{rw[VD Q]at e;let#[p,x,y,q1,q2,q3]:=C j T' e;let#[g1,g2,g3,g4,g5]:=big T' p;exact#[p,x,y,q1,q2,B _ _ g5 (I _ _ g1 g2 g3 g4 q3)]};rw[UR Q]at e;have:j-n.length=0:=by
    rcases nh (j-n.length)with q|q;{exact q};rw[yY (by simp;exact J9 q)]at e;cases e
   rw[this]at e;cases e;have ej:j=i:=00
   subst ej;have Y:=Yp L hT;exact#[Y,_,_,TX lx,TX ly,B _ _ (big T Y).2.2.2.2 pT]
  rw[hS2];simp[XH]
end
open PySem PySem.Spec PyProof.Rows LS
def ahP:En (.type "zip") "__len__" = ZR Zc:=by rw[xH,xD];kernel_rfl
def ahQ:En (.type "zip") "__length_hint__" = ZR Zc:=by rw[xH,xD];kernel_rfl
section
variable {P:YZ}{w:Yt}{A:Yr}{E:Zh->Zj->Prop}{s:Zj}{n B:Bool}{z TI TO I i L g:Zg}{k:Nat}{x y:Array Zh}
def ahR{Q:Zh->Zj->Prop}(Z:Zp n B s.heap z TI TO I i L g k .none x y)(h:Q (.ref z) s):Zn (Zr P w) A (Qk (.ref z)) Q E s:=p8 Z.zip h
def ahS{S:Zg}{R:Ol->Zj->Prop}(hh:A.handled=Zc)(D:Qh z TI TO I i L g)(hn:x.size<=Zo)(hey:x.size<=y.size)(hN:∀b,(b=z\/b=TI\/b=TO\/b=I\/b=i\/b=L\/b=g)->b<S)(Z:Zp n B s.heap z TI TO I i L g 0 .none x y)
  (hS:s.heap.get? S=Zb {cls:=.type "list",data:=.seq #[]})
  (hR:∀G p J,(∀b o,b<S->b≠z->b≠TO->b≠I->b≠i->s.heap.get? b=Zb o->G.get? b=Zb o)->p.length=x.size->p.Nodup->Cq G s.heap.objs.size x y p->G.get? S=Zb {cls:=.type "list",dict:=Zc,data:=.seq (p.map Xa).toArray J,slots:=#[]}->R (.ok (.ret .none)) {s with heap:=G}):
  Zn (Zr P w) A.in1 (VA.«list.__init__» #[[.ref S,.ref z],[]]) (λfin Y=>match fin with | .done f=>R (.ok f) Y | .again J=>J.quiet=Zd/\Wv (Zr P w) A J R Y) (λe Y=>R (.error e) Y) s:=by
 change Zn _ A.in1 (do let old <-asa (.ref S);ase (.ref S) (λO=>#[]);letGo old.toList.reverse;aoK (.ref S) (.ref z) .none) _ _ s;have N:∀b,(b=z\/b=TI\/b=TO\/b=I\/b=i\/b=L\/b=g)->b≠S:=λb h=>Ys (hN b h);show Zf ?_;show Zf (RE hS U (Zm ?_));show Zf (wpAny_updateSeq hS U ?_);have Q:=Rq (XH (λO=>(#[]:Array Zh))) hS U;have q:∀{h:ZD} f,∀b o,b≠S->h.get? b=Zb o->(h.update S (XH f)).get? b=Zb o:=λf b o u e=>(IK _ _ (XR u)).trans e;have c:∀{h:ZD} f,Zp n B h z TI TO I i L g 0 .none x y->Zp n B (h.update S (XH f)) z TI TO I i L g 0 .none x y:=λ{h} f Z=>by
  let#[q1,q2,#[a,b,q3],q4,q5,q6,q7]:=Z;have m:=q (h:=h) f;exact#[m _ _ (N _ 02) q1,m _ _ (N _ 02) q2,⟨a,b,m _ _ (N _ 02) q3⟩,q4.mv λo e=>m _ _ (N _ 02) e,q5.mv λo e=>m _ _ (N _ 02) e,q6.mv λo e=>m _ _ (N _ 02) e,q7.mv λo e=>m _ _ (N _ 02) e]
 have Z1:=c (λO=>#[]) Z;show Zf (Es ?_);have ty:Li {s with heap:=s.heap.update S (XH (λO=>(#[]:Array Zh)))} (.ref z) "zip" :=#[_,Z1.zip,U]
 show Zf (Lr ty ?_);have sr:oC (.ref S) (.ref z)=Zi:=by simp[oC,XR (N z 02)]
 rw[Zq (by rw[sr];decide)];show Zf (ahR Z1 (Zf (XY ?_)));show Zf (Hy ty ahP ?_);show Zf (Hy ty ahQ (Zm ?_));show Zf (WD (Zf ?_));unfold asd;show Zf (Lk Q U ?_ (Wg _) 02);have M:=Rq (XH (·.push RA)) Q U;show Lk (s:={s with heap:=(s.heap.update S (XH (λO=>(#[]:Array Zh)))).update S (XH (·.push RA))}) M U ?_ (by change 1<=Zo;decide) 02;show Zm #[Ln FK _,ahO hh D hn hey hN (Yc hS) _ x.size 0 {s with heap:=((s.heap.update S (XH (λO=>(#[]:Array Zh)))).update S (XH (·.push RA))).update S (XH (·.pop))} [] _ (NM _) U .nil ?_ (.inl (c (·.pop) (c (·.push RA) Z1))) (λj T e=>by simp at e) (Rq (XH (·.pop)) M U) λG p J kp l nd C hf=>hR G p J (λb o u h1 h2 h3 h4 e=>kp b o u h1 h2 h3 h4 (q _ b o (Ys u) (q _ b o (Ys u) (q _ b o (Ys u) e)))) l nd C hf];simp
def ahT{Q:Zh->Zj->Prop}(hh:A.handled=Zc)(D:Qh z TI TO I i L g)(hn:x.size<=Zo)(u:x.size<=y.size)(hN:∀b,(b=z\/b=TI\/b=TO\/b=I\/b=i\/b=L\/b=g)->b<s.heap.objs.size)(Z:Zp n B s.heap z TI TO I i L g 0 .none x y)
  (hQ:∀j p c,(∀b o,b<s.heap.objs.size->b≠z->b≠TO->b≠I->b≠i->s.heap.get? b=Zb o->j.get? b=Zb o)->p.length=x.size->p.Nodup->Cq j (s.heap.objs.size+1) x y p->j.get? s.heap.objs.size=Zb {cls:=.type "list",dict:=Zc,data:=.seq (p.map Xa).toArray c,slots:=#[]}->Q (.ref s.heap.objs.size) {s with heap:=j}):
  Zn (Zr P w) A (call (.type "list") [.ref z]) Q E s:=by
 show m9 (Q₁:=λobj f=>obj=.ref s.heap.objs.size/\f={s with heap:=s.heap.push {cls:=.type "list",data:=.seq #[]}}) F.called_list (F.typeCall_list_1 _) F.entry_list_init (code_list_new _ #[U,U]) λobj f m=>?_;let#[U,U]:=m;have G:(s.heap.push {cls:=.type "list",data:=.seq #[]}).get? s.heap.objs.size=Zb {cls:=.type "list",data:=.seq #[]}:=YF _ U;have up:∀{b o},s.heap.get? b=Zb o->(s.heap.push {cls:=.type "list",data:=.seq #[]}).get? b=Zb o:=λe=>ZY _ e;let#[q1,q2,#[a,b,q3],Y,N,M,J]:=Z;show#[⟨_,G,rfl⟩,F.args_list_init_2 _ _,ahS hh D hn u hN ⟨up q1,up q2,⟨a,b,up q3⟩,Y.mv λo e=>up e,N.mv λo e=>up e,M.mv λo e=>up e,J.mv λo e=>up e⟩ G λj q c' kp l nd C hf=>#[U,hQ j q c' (λb o hb h1 h2 h3 h4 e=>kp b o hb h1 h2 h3 h4 (up e)) l nd ?_ hf]];have:(s.heap.push {cls:=.type "list",data:=.seq #[]}).objs.size=s.heap.objs.size+1:=UQ ..;rw[<-this];exact C
end
def Inv.many{p:Za (Zg×Yg)}{f:St}{G:Hp}{s:Zj}{e:ZD}{i:Nat}(I:Inv X p f H s)(k:∀b u,s.heap.get? b=Zb u->e.get? b=Zb u)(a:∀b o,H b=Zb o->G b=Zb o)(g:∀b o,G b=Zb o->H b=Zb o\/(s.heap.objs.size<=b/\Wy X.prog X.w G e b o)):
  Inv X p f G {s with heap:=e,toks:=i}:=by
 show I.un ⟨λb u q O O O=>k b u q,λb u q O O O=>⟨u.slots,k b u q⟩,λb u q n O=>?_,λb u q O=>⟨u,k b u q⟩,λb x q=>a b _ q,λb o u q=>a b _ q,λb j q=>⟨#[],by rw[a b _ q];simp⟩⟩ λb o q=>?_
 ·cases w:G b with
  |none=>rfl
  |some o=>
   rcases g b o w with z|z;{rw[n]at z;cases z};exact ZJ (Yc q) (xk.mpr z.1)
 rcases g b o q with z|z;{exact(I.hok b o z).stay (λc v O Q=>k c v Q) (λc Q=>a c _ Q) λc Z Q=>a c _ Q};exact z.2
noncomputable def Tg:Za Zg->Za V->Za V->Hp->Hp
 |T::a,x::s,y::Y,H=>upd (Tg a s Y H) T (.tup [x,y])
 |_,_,_,H=>H
theorem OX:∀{s:Za Zg}{a Y:Za V},b∉s->Tg s a Y H b=H b
 |[],_,_,_=>by unfold Tg;rfl
 |T::s,[],_,_=>by unfold Tg;rfl
 |T::s,_::_,[],_=>by unfold Tg;rfl
 |T::s,x::a,y::Y,h=>by
  unfold Tg;rw[ZN (λe=>h (by rw[e];exact YY)),OX λz=>h (YT _ z)]
theorem uX:∀{s:Za Zg}{c Y:Za V}{j:Nat}{T:Zg}{x y:V},s.Nodup->s[j]?=Zb T->c[j]?=Zb x->Y[j]?=Zb y->Tg s c Y H T=Zb (.tup [x,y])
 |[],_,_,_,_,_,_,_,e,_,_=>by simp at e
 |_::_,[],_,_,_,_,_,_,_,e,_=>by simp at e
 |_::_,_::_,[],_,_,_,_,_,_,_,e=>by simp at e
 |t::s,a::c,b::Y,0,T,x,y,nd,E,g,f=>by
  simp at E g f;subst E g f;exact YQ
 |t::s,a::c,b::Y,j+1,T,x,y,nd,E,g,f=>by
  rw[TY]at nd;unfold Tg;rw[ZN (λe=>nd.1 (by rw[<-e];exact YH E))];exact uX nd.2 E (by assumption) (by assumption)
theorem du:∀s:Za Zg,ZX (s.map V.ref) (s.map Xa)
 |[]=>.nil
 |_::s=>.cons U (du s)
def ahU(K:ZF)(g:TA):TE:=λe H Q=>g e H λf c=>∃a b i B x y,f=[.ref a,.ref b]/\Vf i K c a x/\Vf B K c b y/\x.length<=y.length/\
 ∀l s,c l=Zc->l∉s->s.Nodup->s.length=x.length->(∀T∈s,c T=Zc)->Q (.ref l) (upd (Tg s x y c) l (.lst (s.map V.ref)))
def ahV{a b:ZE}{p p' pos g:Yv}{ta:TA}(z:Xl X)(hg:Gl X "list")(hm:X.mg "list" = Zc)(hg':Gl X "zip")(hm':X.mg "zip" = Zc)(ha:PA X [a,b] ta)(hv:RC "zip" = Zb (.type "zip"):=by decide +kernel)
  (hs:XA [a,b] X.env=(Zi,Ye a X.env)::XA [b] X.env|>1)(hpl:VP X [b] g|>1):PE X (.Call (.Name "list" p) [.Call (.Name "zip" p') [a,b] [] g] [] pos) (ahU X.K ta):=by
 intro A s σ H Q I h;show Lq (Ph I hg hm Ec ?_ 01 01);show Hj (KF ?_) U U;show Lq (Ph I hg' hm' hv ?_ 01 01);show Hj (ZQ (ha g A s σ H _ I h) λus w hx=>?_) hs hpl;let#[vs,H1,m,r1,a,b,b1,b2,xs,ys,U,hq1,hq2,hl,q]:=hx;let#[u1,u2,U,ru1,ru2]:=vals2 r1;cases ru1;cases ru2;let#[E,v1,o1,z1]:=m.sq hq1;let#[B,v2,o2,z2]:=m.sq hq2;have la:a<w.heap.objs.size:=by cases b1<;>(let⟨o,e,_⟩:=o1;exact Yc e)
 have lb:b<w.heap.objs.size:=by cases b2<;>(let⟨o,e,_⟩:=o2;exact Yc e)
 show gj o1 o2 λJ tz M=>FI ?_;let#[t1,t2,t3,t4,t5]:=tz;have Z:=Yc t1;have f:E.toArray.size=xs.length:=by rw[v1.length];simp
 have ps2:B.toArray.size=ys.length:=by rw[v2.length];simp
 show ahT (m.ok.hd z) (zipApart_new la lb) (by rw[f];exact z1) (by rw[f,ps2];exact hl) (λc z=>?_) ⟨t1,t2,t3,t4,t5,o1.mv λo e=>M _ _ e,o2.mv λo e=>M _ _ e⟩ λh2 L cn kp2 tl nd C hS=>?_
 ·show c<J.objs.size;have:c<=w.heap.objs.size+4:=by
   rcases z with rfl|rfl|rfl|rfl|rfl|rfl|rfl;{exact ZU _};{exact ap5 (UT _)};{exact UT _};{exact Rv _ _};{exact K4 02 _};{exact Yp (Uo la) (Rv _ _)};exact Yp (Uo lb) (Rv _ _)
  exact Hf this Z
 have old:∀c o,w.heap.get? c=Zb o->h2.get? c=Zb o:=λc o e=>by
  have ne:∀n,c≠w.heap.objs.size+n:=λn=>Ys (YK (Yc e) (Rv _ _));exact kp2 c o (Yc (M _ _ e)) (ne 4) (ne 3) (ne 0) (ne 1) (M _ _ e)
 have lS:=Uo (Hf (Rv _ _) Z);have Y:∀T∈L,w.heap.objs.size<=T/\T≠J.objs.size:=λT i=>by
  let#[j,G]:=FV.mp i;have hN:=(C j T G).1;exact#[Yp lS (Nat.le_of_succ_le hN),VO hN]
 have nl:=m.hok.fresh lS;show#[.ref J.objs.size,_,m.many old (λc o e=>?_) (λc o e=>?_),U,q J.objs.size L nl (λi=>(Y _ i).2 U) nd (by rw[tl,f]) λT i=>m.hok.fresh (Y T i).1];{rw[ZN (Wx e nl),OX λi=>by rw[m.hok.fresh (Y c i).1]at e;cases e];exact e};by_cases z:c=J.objs.size;{subst z;rw[YQ]at e;cases e;show .inr #[lS,by rw[ZI,tl,f];exact z1,L.map Xa,cn,du _,hS]};rw[ZN z]at e;by_cases i:c∈L
 ·let#[j,G]:=FV.mp i;let#[hy,x,y,e1,e2,pr]:=C j c G;have N:j<xs.length:=by
   rw[<-f,<-tl];exact(YM.mp G).1
  let#[u,f1,r1]:=v1.get (ZA N);let#[v,f2,r2]:=v2.get (ZA (YK N hl));have g1:E[j]?=Zb x:=↑e1
  have g2:B[j]?=Zb y:=↑e2
  rw[f1]at g1;rw[f2]at g2;cases g1;cases g2;rw[uX nd G (ZA N) (ZA (YK N hl))]at e;cases e;exact .inr #[(Y c i).1,by change 2<=Zo;decide,_,.cons r1 (.cons r2 .nil),_,pr,U,0,U]
 rw[OX i]at e;exact .inl e
open PySem PySem.Spec PyProof.Rows LS
theorem dw:∀{s:Za Zg}{a Y:Za V},b∈s->s.length<=a.length->s.length<=Y.length->Tg s a Y H b=Tg s a Y g b
 |[],_,_,h,_,_=>nomatch h
 |_::_,[],_,_,h,_=>by simp at h
 |_::_,_::_,[],_,_,h=>by simp at h
 |T::s,x::a,y::Y,h,f,c=>by
  unfold Tg;by_cases e:b=T;{subst e;rw[YQ,YQ]};rw[ZN e,ZN e];exact dw ((Yk.mp h).resolve_left e) ↑f ↑c
set_option tactic.hygienic true in
theorem dy{G:Hp}:∀{c Y:Za D}{i g:Za V}{s:Za Zg},s.length=c.length->c.length<=Y.length->(∀(j:Nat) T,s[j]?=Zb T->∃a b,i[j]?=Zb a/\g[j]?=Zb b/\G T=Zb (.tup [a,b]))->Zw K G c i->Zw K G Y g->Zw K G (RO c Y) (s.map V.ref)
 |[],_=>λh O O O O=>by rw[MZ h];exact rfl
 |_::_,[]=>λO h O O O=>by simp at h
 |x::c,y::Y=>λh p k r q=>by
  rename_i s;rcases s with _|⟨T,s⟩;{simp at h};let#[u,B,w,n,m]:=r;let#[v,A,E,o,Q]:=q;subst w E;let#[a,b,f1,f2,f]:=k 0 T U;cases f1;cases f2;show#[.ref T,s.map V.ref,U,#[T,_,U,f,#[u,[v],U,n,v,[],U,o,U]],dy ↑h ↑p (λj z e=>?_) m Q];let#[a,b,f1,f2,f]:=k (j+1) z (by assumption);exact#[a,b,by assumption,by assumption,f]
def dz(e:DA):DA:=λds q x=>e ds (λc=>∃a b s y,c=[a,b]/\a.sq=Zb s/\b.sq=Zb y/\s.length<=y.length/\q (RO s y)) x
def dA{XE:St->XK}{a b:ZE}{p p' pos g:Yv}{da:DA}(hg:Gl X "list")(hm:X.mg "list" = Zc)(L:Gl X "zip")(I:X.mg "zip" = Zc)(ha:WV X XE [a,b] da)(hc:Xl X|>1)(hv:RC "zip" = Zb (.type "zip"):=by decide +kernel)
  (hs:XA [a,b] X.env=(Zi,Ye a X.env)::XA [b] X.env|>1)(E:VP X [b] g|>1):JF X XE (.Call (.Name "list" p) [.Call (.Name "zip" p') [a,b] [] g] [] pos) (dz da):=by
 let#[ta,p1,d1]:=ha.ex;show#[_,ahV hc hg hm L I p1 hv hs E,λc h k kx=>d1 c h (λvs zs q M e r h=>?_) kx];let#[a,b,xs,ys,U,e1,e2,J,hq]:=h;let#[va,vb,U,ra,rb]:=Gj r;let#[t1,la,x,U,s1,u]:=GA ra e1;let#[t2,lb,y,U,s2,C]:=GA rb e2;show#[la,lb,t1,t2,x,y,U,s1.same e.sub,s2.same e.sub,by rw[u.length,C.length];exact J,λl f nl lt nd A N=>?_];have i:∀{b o},M b=Zb o->b∉f:=λe hT=>by rw[N _ hT]at e;cases e
 have Q:f.length<=x.length:=Sa A;have l2:f.length<=y.length:=by rw[A,u.length,C.length];exact J
 have lay:∀{G:Hp},∀j T,f[j]?=Zb T->∃a b,x[j]?=Zb a/\y[j]?=Zb b/\Tg f x y G T=Zb (.tup [a,b]):=λ{G} j T Y=>by
  have h0:=(YM.mp Y).1;have h1:j<x.length:=YK h0 Q;have h2:j<y.length:=00
  exact#[_,_,ZA h1,ZA h2,uX nd Y (ZA h1) (ZA h2)]
 have n1:∀{b},b∈f->q b=Zc:=λm=>e.sub.free (N _ m);have B:Zv q (Tg f x y q):=λb o z=>by rw[OX λm=>by rw[n1 m]at z;cases z];exact z
 have ex:YD q M (Tg f x y q) (upd (Tg f x y M) l (.lst (f.map V.ref))):=by
  show#[λb o z=>?_,B,λb o z=>?_,λb z n=>?_];{rw[ZN (Wx z nl),OX (i z)];exact z};{by_cases m:b∈f;{rw[ZN (λw=>lt (by rw[<-w];exact m)),dw m Q l2];exact z};rw[OX m]at z;have Z:=e.sub _ _ z;rw[ZN (Wx Z nl),OX m];exact Z};let#[o,Z,_]:=n;rw[OX (i Z)];exact z
 show k l _ (RO xs ys) _ _ (e.trans ex) (e.s.free nl) ?_ YQ (dy (by rw[A,u.length]) J lay (u.same B) (C.same B)) hq;rw[OX lt];exact e.sub.free nl
noncomputable def Itv(K:ZF)(a:Zg)(n:Nat):It:=
 #[λi H=>∃s,Ya K H a s/\s.length=n/\i<n,λi H x b=>b=H/\∀s,Ya K H a s->s[n-1-i]?=Zb x,λi H=>∃s,Ya K H a s/\s.length=n/\n<=i]
def ahW(a g:Zg)(n:Nat):TV P w K tg (Itv K a n) [g] g (λi h=>i<=n/\h.IsRevIter g a ((n:Int)-1-i)) where
 mem:=02
 obj:=λi h st b j=>by
  have e:b=g:=by simpa using j
  subst e;let#[_,o,e,c,d]:=st;exact#[o,e,λv z=>by rw[d]at z;cases z]
 keep:=λi h h' st k=>#[st.1,st.2.at λo e=>k g 02 o e]
 item:=by
  intro X Y M Z Q i q s σ H E I x st A;subst Y M Z;let#[L,y,hn,hi]:=A;let#[its,rv,p,hz]:=I.list y;have N:n-1-i<L.length:=by omega
  let#[u,hu,ru]:=rv.get (ZA N);let#[J,f1,f2,G,C,B]:=x g 02;have ix:n-1-i=((n-1-i:Nat):Int):=00
  have f:=st.2;rw[ix]at f;show wpAny_pyNext_rev_item f p.isList ↑hu λh' m sb=>?_;have I1:=I.turned (t':=s.toks) (λb o j e=>(sb.2 b j).trans e) J f1 G C B;let#[o,e,c,d]:=id m;show#[u,U,Jl e c d 01 #[_,H,I1,ru,⟨rfl,λys hy=>by rw[I.HB hy y];exact ZA N⟩,⟨J9 hi,?_⟩,λb j=>(x b j).1]];rw[show n-1-((i+1:Nat):Int)=((n-1-i:Nat):Int)-1 by lia];exact m
 done:=by
  intro X Y M Z Q i q s σ H E I x st A;let#[L,y,hn,hi]:=A;let#[J,f1,f2,G,C,B]:=x g 02;have ei:i=n:=NC st.1 hi;have f:=st.2;rw[ei,show n-1-(n:Int)=-1 by lia]at f;exact wpAny_pyNext_rev_end (I.ok.hd Q) f λh' eb=>#[U,I.turned (λb o j e=>eb b o j e) J f1 G C B]
 self:=λO O O O O st h=>arw st.2 h
def ahX(K:ZF)(e:TE):TI:=λc H R=>e c H λx b=>∃a s,x=.ref a/\Ya K b a s/\R (Itv K a s.length) b
def ahY{e:ZE}{p pos:Yv}{y:TE}(L:Gl X "reversed")(J:X.mg "reversed" = Zc)(M:PE X e y)(m:Tp e=Zd|>1):PI X Y (.Call (.Name "reversed" p) [e] [] pos) (ahX X.K y):=by
 intro c s w H R I h;show Lq (Ph I L J asx ?_ 01 01);show Hj ?_ (Mf m) U;have E:TC X e []:=Mf m;rw[E];show KF (ZQ (M c s w H _ I h) λu g C=>FI ?_);let#[x,z,n,B,a,f,U,G,q]:=C;cases B;let#[i,A,p,Z]:=n.list G;show call_reversed_list p.isList ?_;have Q:Inv X c w z {g with heap:=g.heap.push (revObj a ((i.toArray.size:Int)-1))}:=n.kept λb o e=>ZY _ e;have sz:i.toArray.size=f.length:=by rw[A.length];simp
 have j:(g.heap.push (revObj a ((i.toArray.size:Int)-1))).IsRevIter g.heap.objs.size a ((f.length:Int)-1-((0:Nat):Int)):=#[_,YF _ U,U,by rw[sz];change oH [.ref a,SM ((f.length:Int)-1)].toArray=_;rw[show(f.length:Int)-1-((0:Nat):Int)=(f.length:Int)-1 by lia]]
 show arw j ?_;show#[_,[g.heap.objs.size],_,_,z,U,Q,ahW a _ f.length,⟨Wg _,j⟩,λb N=>?_,q];obtain rfl:=YJ.mp N;exact n.Qn (ZU _) (n.hok.fresh (ZU _))
def ahZ(h:Ya K w a b)(r:Zw K w c b):Walks K (Itv K a b.length) c.reverse w:=by
 intro i p H j s;have f:=(j.trans s).seq h;have m:=r.length;show#[λhi=>?_,λhi=>#[b,f,U,by simpa [m]using hi]];have g:i<c.length:=↑hi
 show#[⟨b,f,rfl,00⟩,λx q y=>?_];let#[U,y]:=y;have y:=y b f;have n:b.length-1-i<c.length:=by omega
 let#[v,e,o]:=r.get (ZA n);rw[e]at y;cases y;show#[p,.refl s,_,?_,o.same j];rw[apB g,<-m];exact ZA n
def dE(e:DE):DI:=λds q x=>e ds (λd=>match d with | .lst s=>q s.reverse | _=>False) x
def ah0{x:St->XK}{e:ZE}{p pos:Yv}{g:DE}(j:Gl X "reversed")(m:X.mg "reversed" = Zc)(n:JE X x e g)(b:Tp e=Zd|>1):JI X x u (.Call (.Name "reversed" p) [e] [] pos) (dE g):=by
 let#[w,i,q]:=n.ex;show#[_,ahY j m i b,λc h k kx=>q c h (λv a z y e r h=>?_) kx];split at h;{let#[a,s,U,f,o]:=r;exact#[a,s,U,Ya.of (e.sub _ _ f),k _ _ _ _ e (ahZ (Ya.of f) o) h]};exact h.elim
def dF(p:Za Nat)(i:Nat)(f:DA):DS:=λds E=>sO ds[i]? λx=>f (peekAt p ds) (λy=>D.Sq y=Zd/\x.length+y.length<=Zo/\E.nx (ds.set i (.own (x++y)))) (E.xc ds)
def ah1{L:St->XK}(A:Za Nat)(i:Nat)(he:JF X L e df)(hN:X.N[i]?=Zb x|>1)(hv:Vk X.env.scope x|>3)
  (m:Tp e=Zd|>1)(g:SL (.Name x p) "extend" X.env (Ye (.Name x p) X.env)=Ye (.Name x p) X.env|>1)
  (w:LD X [e] C|>1)
  (f:TH apos C|>1)(hs:TC X e []|>1)(b:VP X [] C|>1)
  (j:XD (.Call (.Attribute (.Name x p) "extend" apos) [e] [] C) Zc pos.line X.env=ZR Zi|>1)(hd:YV x|>2)(u:Vv x|>2):
  JS X L (.Expr (.Call (.Attribute (.Name x p) "extend" apos) [e] [] C) pos) (dF A i df):=by
 let#[te,p1,d1]:=he.ex;show#[_,Pj (OB Lf R8 aqE jg (pv i hN hv hd u) (Sn p1 Sg m) g w f hs b) j,λ{B0 B H0 H σ ds E T} c h o=>?_];let#[xs,hi,h]:=Df h;let#[l,z,J,h1,I,G]:=c.slot i _ hi;let#[H1,c1,Z,l1,n1]:=c.peekAt A;show#[.ref l,Ux J,.inl #[U,z,Ya.of I],d1 c1 h (λa M Y H2 H3 e' n n0 ha r q=>?_) (o.kx c)];let#[H4,y,l4,s4]:=e'.OG Z c.sub l1 n1;show#[l,a,z,M,U,U,y.s _ _ I,ha,by rw[G.length,r.length];exact q.2.1,?_];let#[a',Q,f1,f2,f3,f4]:=c.push hi;rw[J]at f1;cases f1;exact o.nx _ _ _ _ (f4 H4 H3 _ y ((G.same y.s0).app (Zw.less l4 Y q.1 r))) q.2.2
open PySem PySem.Spec PyProof.Rows LS
structure QF where
 p:Zg
 k:Zu
 b:Zg
 v:V
noncomputable def OY(x:Za QF):Za (Zu×V):=x.foldl (λa r=>We a r.k r.v) []
def ah2(x:Za QF)(r:QF):OY (x++[r])=We (OY x) r.k r.v:=by unfold OY;rw[O7];rfl
def ah3(x:Za QF):(OY x).length<=x.length:=by
 have go:∀(x:Za QF) a,(x.foldl (λa r=>We a r.k r.v) a).length<=a.length+x.length:=by
  intro x;induction x with
  |nil=>intro a;exact ZU _
  |cons r x i=>
   intro a;have c:=i (We a r.k r.v);have b:=HK a r.k r.v;rw[Rr,Yu];lia
 have:=go x [];simpa [OY]using this
section
variable {f:Za (Zg×Yg)}{j:St}{s:Zj}{a b:Zg}{v:V}{r:Zh}{A:Yr}{E:Zh->Zj->Prop}{g:Za (Zu×V)}{k:Zu}
def ah4{Q:Unit->Zj->Prop}(G:(Pb X.prog X.w).room A)(I:Inv X f j H s)(e:H a=Zb (.dT g))(x:XU H k b)(l:g.length<Zo)(B:RelV v r)(h:∀i,Inv X f j (upd H a (.dT (We g k v))) i->(∀c o,c≠a->s.heap.get? c=Zb o->i.heap.get? c=Zb o)->Q () i):
  Zn (Yn X) A (nW a (.ref b) r) Q E s:=by
 let#[z,hd,y,rel,dd]:=HL I.hok (.inl e);have C:y.length<=Zo:=by rw[<-KW rel];exact z
 have J:(We g k v).length<=Zo:=by have:=HK g k v;lia
 show mP G (Ma I.hok x) dd C λh' m n=>h _ ?_ λc o L e=>(n.2 c L).trans e;let#[q,es,ep,p,Z,Y,N,_,M]:=m;show ER I (by rw[e];exact Qg) n #[q,p] #[J,hd,_,(rel.put k x B).keeps λc ys u=>?_,q,es,ep,p,Z,Y,N,M];rw[ZN (xQ u e (λz=>nomatch z))];exact u
def ah5{n:Za QF}{l Z J:Zg}{R:Ol->Zj->Prop}(hh:A.handled=Zc)(hu:(Pb X.prog X.w).room A.in1)(hlZ:l≠Z)(q:J≠Z)(hl:H l=Zb (.lst (n.map λr=>V.ref r.p)))(Y:∀r∈n,H r.p=Zb (.tup [.ref r.b,r.v])/\XU H r.k r.b)(hZ:H Z=Zc)(hf:Vw X f H J)(hz:n.length<=Zo):
  ∀(m i:Nat) (t:Tok) (s:Zj),i+m=n.length->Inv X f j (upd H Z (.dT (OY (n.take i)))) s->s.heap.IsListIter J l i->(∀B,Inv X f j (upd H Z (.dT (OY n))) B->R (.ok (.ret .none)) B)->
   Wv (Yn X) A (.builtin "dict.update.loop" #[[.ref Z,.ref J,.int i t,.none],[]]) R s:=by
 let#[f0,f1,f2,f3,f4,f5]:=hf;have up:∀{c o}{d:HO},H c=Zb o->upd H Z d c=Zb o:=λ{c o d} e=>by rw[ZN (Wx e hZ)];exact e
 have x:∀{k b}{d:HO},XU H k b->XU (upd H Z d) k b:=λh=>h.stay λc ys e=>up e;intro m;induction m with
 |zero=>
  intro i t s hi I st k;have ei:i=n.length:=by omega
  subst ei;rw[TZ]at I;let#[y,G,p,_]:=I.list (Ya.of (up hl));have hs:y.length=n.length:=by rw[<-G.length,ZI]
  show Qj DP ?_;rw[KB Mx _];show Zf (arz hh st p.isList (by simp;exact Sa hs) λh' eb=>?_);exact Zf (Zm (Zm (k _ (I.turned (λb o N e=>eb b o N e) (by rw[ZN q];exact f0) f1 f3 f4 f5))))
 |succ m ih=>
  intro i t s hi I st k;have lt:i<n.length:=00
  let#[y,G,p,_]:=I.list (Ya.of (up hl));let#[u,M,ru]:=G.get (by rw[YC,ZA lt];rfl);obtain rfl:u=Xa n[i].p:=ru;have Q:=La lt;show Qj DP ?_;rw[KB Mx _];show Zf (arA st p.isList ↑M λh' C sb=>?_);have I1:=I.turned (t':=s.toks) (λb o N e=>(sb.2 b N).trans e) (by rw[ZN q];exact f0) f1 f3 f4 f5;let#[_,us,L,tp]:=(I1.hok _ _ (up (Y _ Q).1))
  let#[u1,u2,U,r1,r2]:=vals2 L;obtain rfl:u1=Xa n[i].b:=r1;have et:n.take (i+1)=n.take i++[n[i]]:=02
  have z:(OY (n.take i)).length<Zo:=by
   have:=ah3 (n.take i);rw[WL]at this;lia
  show Zf (XY (Zf (wpAny_tryCatch (pair_items tp (XY ?_)))));show ah4 hu I1 YQ (x (Y _ Q).2) z r2 λB I2 kp=>?_;rw[B8,<-ah2,<-et]at I2;exact Zm #[Ln Mx _,ih (i+1) _ B 00 I2 (C.at λo e=>kp J o q e) k]
end
def ah6(Z:Xl X)(hu:X.A.units+9<Yz):WR X (.type "dict") (λx H Q=>∃(p:Zg) (a:Za QF),x=[.ref p]/\H p=Zb (.lst (a.map λr=>V.ref r.p))/\(∀r∈a,H r.p=Zb (.tup [.ref r.b,r.v])/\XU H r.k r.b)/\∀l,H l=Zc->Q (.ref l) (upd H l (.dT (OY a)))):=by
 intro c s m H x us Q I r h;let#[l,a,U,C,Y,q]:=h;let#[u,U,J]:=vals1 r;cases J;let#[z,i,n,rv,B]:=(I.hok l _ C)
 rw[ZI]at z;have N:=I.fresh;have E:=I.ok.hd Z;show m9 (Q₁:=λob y=>ob=.ref s.heap.objs.size/\y={s with heap:=s.heap.push OQ}) aqz (aqA _) aqv (arh _ #[U,U]) ?_;rintro ob y ⟨rfl,rfl⟩;have I0:Inv X c m (upd H s.heap.objs.size (.dT [])) {s with heap:=s.heap.push OQ}:=I.laid (λO O q=>ZY _ q) (ZU _) (kY s.heap I.big);have new:Li {s with heap:=s.heap.push OQ} (.ref s.heap.objs.size) "dict" :=#[_,YF _ U,U]
 have g:(s.heap.push OQ).get? l=Zb {cls:=.type "list",data:=.seq i.toArray n}:=ZY _ B;have ty:Li {s with heap:=s.heap.push OQ} (.ref l) "list" :=#[_,g,U]
 show#[new,aqq _ _,?_];show Zf ?_;show Zf (Eu new (Zm ?_));change Zn _ _ (aoH "dict.__init__" s.heap.objs.size (.ref l) [] .none) _ _ _;show Zf (Lr ty ?_);show Zf (hJ g (E) λj f w=>?_);have M:j.IsList l i.toArray:=#[_,w _ _ g,U,n,U]
 have L:=Yc (w _ _ (YF _ U));have G:Inv X c m (upd H s.heap.objs.size (.dT [])) {s with heap:=j,toks:=f}:=I0.kept w;show Zf (WD (Zf (Hx M ?_)));have I2:Inv X c m (upd H s.heap.objs.size (.dT [])) {s with heap:=j.push {cls:=.type "list_iterator",data:=.fields [.ref l,.int 0 0].toArray},toks:=f}:=G.kept (t':=f) λb o e=>ZY _ e;show Zm #[Ln Mx _,ah5 (s:={s with heap:=j.push {cls:=.type "list_iterator",data:=.fields [.ref l,.int 0 0].toArray},toks:=f}) (by simp[E]) ?_ (Ys (Yc B)) (VO L) C Y N (G.Qn (ZU _) (I.hok.fresh (Uo L))) z a.length 0 0 (NM _) I2 ⟨_,YF _ rfl,rfl,rfl⟩ λs' I'=>#[U,.ref s.heap.objs.size,_,I',U,q _ N]];change X.A.units+1+1+(1+1)<Yz;lia
theorem dG{b:Hp}:∀{G:Za (Zu×D)}{p:Za QF}{acc:Za (Zu×D)}{A:Za (Zu×V)},Xz K b acc A->Paired (λ(g:Zu×D) (r:QF)=>g.1=r.k/\Rp K b g.2 r.v) G p->Xz K b (G.foldl (λa g=>VX a g.1 g.2) acc) (p.foldl (λa r=>We a r.k r.v) A)
 |_,_,_,_,h,.nil=>h
 |_,_,_,_,h,.cons q t=>by
  rewrite [Rr,Rr];show dG ?_ t;rw[q.1];exact ur h q.2
theorem dH{c:Hp}:∀{G:Za (Zu×D)}{f:Za V},Zw K c (G.map λg=>.tup [Vn g.1,g.2]) f->∃s:Za QF,f=(s.map λr=>V.ref r.p)/\Paired (λ(g:Zu×D) (r:QF)=>g.1=r.k/\Rp K c g.2 r.v) G s/\∀r∈s,c r.p=Zb (.tup [.ref r.b,r.v])/\XU c r.k r.b
 |[]=>λh=>#[[],h,.nil,λr a=>nomatch a]
 |g::G=>λh=>by
  let#[v,z,e,u,o]:=h;let#[p,x,U,n,m]:=u;let#[y,w,U,Q,q]:=Gj m;let#[b,U,j]:=MC Q;let#[s,E,i,A]:=dH o;show#[#[p,g.1,b,w]::s,by rw[e,E];rfl,.cons ⟨rfl,q⟩ i,λr a=>?_];rcases Yk.mp a with rfl|a;{exact#[n,j]};exact A r a
def ah7(x:Za D)(q:D->Prop):Prop:=∃G:Za (Zu×D),x=[.lst (G.map λg=>.tup [Vn g.1,g.2])]/\q (.dit (G.foldl (λa g=>VX a g.1 g.2) []))
def ah8(u:X.A.units+9<Yz)(i:Xl X|>1):Sr X (.type "dict") ah7:=by
 show#[_,ah6 i u,λ{o H n x q Q} s r h k=>?_];let#[G,U,g]:=h;let#[v,U,p,w,U,m,j]:=UI r;let#[a,U,f,e]:=dH j;exact#[p,a,U,s _ _ m,λr b=>⟨s _ _ (e r b).1,(e r b).2.same s⟩,λl c=>k _ (.dit _) _ _ (.put s c) #[l,_,U,YQ,(dG (acc:=[]) U f).same (Zv.upd (s.free c))] g]
section
variable {own:Wu}{G u:Za Ze}{M iter L:ZE}{j:Za ZE}{Z:Za QL}{w px A:Yv}{wi:TI}{i:Nat}{x:Ze}
def ah9(G u:Za Ze)(fr:Za Nat){g:TG}{tf:TT}{Q:Qv}(hnd:X.N.Nodup)(hi:X.N[i]?=Zb x)(hx:Loc X.env.scope x)
  (hit:PI X M iter wi)(hg:∀z,PG (Zz X own (G++u) z) M g)(hf:∀z,TK (Zz X own (G++u) z) j tf)(B:∀z,OU (Zz X own (G++u) z) L (#[M,iter,j,0]::Z) own w 1 Q)(h0:∀g∈Z,g.is_async=0)(hsw:XD (.ListComp L (#[M,iter,j,0]::Z) own w) (Zb (.Name x px)) A.line X.env=ZR Zd)
  (hc:Xl X)(c:Sl own X u)(hN:Uw X fr u)(hs:UY X iter)(hfn:Vl X x):
  PS X (.Assign [.Name x px] (.ListComp L (#[M,iter,j,0]::Z) own w) A) (Pk (uv G.length fr wi g tf Q) (Ov i)):=by
 have c:=HR c;intro p s σ H D0 I h;let#[cl,e0,hc1,hc2]:=HS λy hy e=>I.ok.has y.1 (c.free y hy e);rw[arf _ _ _ _ hsw];show Zf (QX (Zf ?_));show Zf (Xv (xJ U hs e0 c.kind c.loc
  (ZQ (hit p s σ H _ I h) λxv s₁ n=>ZQ n λitv s₂ f=>?_)) (λO s' hq=>Zm (Zm hq)) λO O e=>e)
 let#[it,fp,tn,J,H2,e,E,T,Y,f2,q]:=f;subst e;show gX hg hf B h0 hc c hN hc1 hc2 E T Y f2 q ?_;intro D C σ' H' s' hC J' q';show i6 (xS (FD E f2 J') hnd hi hx (v:=.ref D) U (λs4 I4 zq=>?_) hfn);let#[a,sb4,B]:=zq;let#[m,hns,_]:=J'.loc;have hCa:C≠a:=by
  rcases B with rfl|B;{exact VO (YK E.lt hC)};let#[v,o,ho,_]:=E.cell x a B;exact VO (YK (Yc ho) hC)
 show#[m,hns.sameBut sb4 hCa,λh' sb=>#[_,H',HU E hC I4 J'.free λb o hb e=>sb.extBut b o hb e,q']]
variable {XE:St->XK}{di:DI}{g:DG}{f:DT}{Q:UK}
def dI{S:DS}(G u:Za Ze)(fr:Za Nat)(b:X.N.Nodup)(e:X.N[i]?=Zb x)(y:Loc X.env.scope x)(hi:JI X XE M iter di)(C:∀z,JG (Zz X own (G++u) z) M g)(E:∀z,Tc (Zz X own (G++u) z) XN j f)(J:∀z,Rc (Zz X own (G++u) z) L (#[M,iter,j,0]::Z) own w 1 Q)
  (h0:∀g∈Z,g.is_async=0)(a:XD (.ListComp L (#[M,iter,j,0]::Z) own w) (Zb (.Name x px)) A.line X.env=ZR Zd)
  (I:Xl X)(c:Sl own X u)(hN:Uw X fr u)(B:UY X iter)(n:Vl X x)
  (Y:∀m,OL X.K XE m (Ia G.length fr di g f Q)->OI X.K XE (Pk m (Ov i)) S):
  JS X XE (.Assign [.Name x px] (.ListComp L (#[M,iter,j,0]::Z) own w) A) S:=by
 let#[wi,s,d0]:=hi.ex;let#[t,q,d1]:=Gv (Xf:=λz=>Zz X own (G++u) z) (λO=>rfl) C;let#[tf,o,d2]:=Gu (Xf:=λz=>Zz X own (G++u) z) (λO=>rfl) E;let#[ta,p,d3]:=fb (Xf:=λz=>Zz X own (G++u) z) (λO=>rfl) J;exact#[_,ah9 G u fr b e y s q o p h0 a I c hN B n,Y _ (gZ _ fr d0 d1 d2 d3)]
def aia(G u:Za Ze)(fr:Za Nat)(b:X.N.Nodup)(e:X.N[i]?=Zb x)(m:Loc X.env.scope x)(hi:JI X XE M iter di)(o:∀z,JG (Zz X own (G++u) z) M g)(p:∀z,Tc (Zz X own (G++u) z) XN j f)(y:∀z,Rc (Zz X own (G++u) z) L (#[M,iter,j,0]::Z) own w 1 Q)
  (C:∀g∈Z,g.is_async=0:=by simp)(a:XD (.ListComp L (#[M,iter,j,0]::Z) own w) (Zb (.Name x px)) A.line X.env=ZR Zd|>1)
  (q:Xl X|>1)(c:Sl own X u|>1)(B:Uw X fr u|>1)(s:UY X iter|>4)(n:Vl X x|>3):
  JS X XE (.Assign [.Name x px] (.ListComp L (#[M,iter,j,0]::Z) own w) A) (LR (JL (Ia G.length fr di g f Q)) (VG i)):=
 dI G u fr b e m hi o p y C a q c B s n λE d=>DC (vP d) (Dz i)
def aib(p:Za Nat)(G u:Za Ze)(fr:Za Nat)(b:X.N.Nodup)(e:X.N[i]?=Zb x)(m:Loc X.env.scope x)(hi:JI X XE M iter di)(o:∀z,JG (Zz X own (G++u) z) M g)(q:∀z,Tc (Zz X own (G++u) z) XN j f)(B:∀z,Rc (Zz X own (G++u) z) L (#[M,iter,j,0]::Z) own w 1 Q)
  (E:∀g∈Z,g.is_async=0:=by simp)(a:XD (.ListComp L (#[M,iter,j,0]::Z) own w) (Zb (.Name x px)) A.line X.env=ZR Zd|>1)
  (y:Xl X|>1)(c:Sl own X u|>1)(C:Uw X fr u|>1)(s:UY X iter|>4)(n:Vl X x|>3):
  JS X XE (.Assign [.Name x px] (.ListComp L (#[M,iter,j,0]::Z) own w) A) (vU p i (Ia G.length fr di g f Q)):=
 dI G u fr b e m hi o q B E a y c C s n λI d=>adZ p i d
variable {e:ZE}{df:DA}{p apos Y:Yv}
def dJ(a:Za Nat)(i:Nat)(df:DA):DS:=λds E=>sO ds[i]? λs=>df (peekAt a ds) (λy=>D.Sq y=Zd/\s.length<Zo/\E.nx (ds.set i (.own (s++[.lst y])))) (E.xc ds)
def aic{XE:St->XK}(pk:Za Nat)(i:Nat)(he:JF X XE e df)(hN:X.N[i]?=Zb x|>1)(hv:Vk X.env.scope x|>3)
  (C:Tp e=Zd|>1)(q:SL (.Name x p) "append" X.env (Ye (.Name x p) X.env)=Ye (.Name x p) X.env|>1)
  (y:LD X [e] Y|>1)
  (m:TH apos Y|>1)(hs:TC X e []|>1)(b:VP X [] Y|>1)
  (z:XD (.Call (.Attribute (.Name x p) "append" apos) [e] [] Y) Zc w.line X.env=ZR Zi|>1)(hd:YV x|>2)(J:Vv x|>2):
  JS X XE (.Expr (.Call (.Attribute (.Name x p) "append" apos) [e] [] Y) w) (dJ pk i df):=by
 let#[te,p1,d1]:=he.ex;show#[_,Pj (OB Lf IJ Ee Jv (pv i hN hv hd J) (Sn p1 Sg C) q y m hs b) z,λ{B0 B H0 H σ ds E T} c h o=>?_];let#[xs,hi,h]:=Df h;let#[l,us,e1,h1,h2,h3]:=c.slot i _ hi;let#[H1,c1,s1,l1,n1]:=c.peekAt pk;show#[.ref l,Ux e1,.inl #[U,us,Ya.of h2],d1 c1 h (λa vs ys H2 H3 e' n n0 ha r I=>?_) (o.kx c)];let#[H4,e4,l4,s4]:=e'.OG s1 c.sub l1 n1;have n4:=s4.free n0;show#[l,us,.ref a,U,U,e4.s _ _ h2,by rw[h3.length];exact I.2.1,?_];let#[a',us',f1,f2,f3,f4]:=c.push hi;rw[e1]at f1;cases f1;have ef:=ig e4 n n4 ha;exact o.nx _ _ _ _ (f4 _ H3 _ ef ((h3.same ef.s0).snoc (SW (Zw.less l4 ys I.1 r) n4))) I.2.2
end
def hu5(a:Xc k A):A.units+5<Yz:=by have:=a.un;lia
def hu9(a:Xc k A):A.units+9<Yz:=by have:=a.un;lia
section
variable {i:Type}{c:i->D}{g:DG}{f:DT}{a:UK}{e:DE}{j:DI}{C m:ZG->Prop}{xs:Za i}{zs:i->Za D}
def QG(a:UK)(ds:ZG)(C:ZG->Prop)(zs:Za D):Prop:=∀A M,A.length+zs.length<=Zo->(∀b,C b->M b (A++zs))->a ds A M
def GY(g:DG)(f:DT)(a:UK)(d:D)(ds:ZG)(C:ZG->Prop)(zs:Za D):Prop:=∀A M,A.length+zs.length<=Zo->(∀o,C o->M o (A++zs))->g d ds λn=>f n (λb=>if b=Zd then a n A M else M n A) (λO=>False)
def Ii{y:D}(h:∀N:D->Prop,N y->e ds N (λO=>False))(b:C ds):QG (uw e) ds C [y]:=λA M n k=>h _ #[by assumption,k ds b]
theorem Cr(s:∀x∈xs,∀ds,C ds->GY g f a (c x) ds C (zs x)){N:ZG->Za D->Prop}:∀(Y:Za i) (ds:ZG) (A:Za D),(∀y∈Y,y∈xs)->C ds->A.length+(Y.flatMap zs).length<=Zo->(∀b,C b->N b (A++Y.flatMap zs))->Qw g f a N (Y.map c) ds A
 |[],ds,A,_,o,_,k=>by
  have:=k ds o;rw[List.flatMap_nil,SG]at this;exact this
 |y::Y,ds,A,q,o,w,k=>by
  rw[Oe,Yx]at w;show s y (q y YY) ds o A _ 00 λb n=>Cr s Y b _ (λz u=>q z (YT _ u)) n (by rw[Yx];lia) λp B=>?_;rw[VC,<-Oe];exact k p B
def Ij(hi:∀q:Za D->Prop,q (xs.map c)->j ds q (λO=>False))(o:C ds)(b:∀x∈xs,∀ds,C ds->GY g f a (c x) ds C (zs x)):QG (JZ j g f a) ds C (xs.flatMap zs):=λA M n k=>hi _ (Cr b xs ds A (λO h=>h) o n k)
def QG.mono{zs:Za D}(h:QG a ds C zs)(o:∀ds,C ds->m ds):QG a ds m zs:=λA M n k=>h A M n λb p=>k b (o b p)
def GZ{q:Za D->Prop}(o:C ds)(b:∀x∈xs,∀ds,C ds->GY g f a (c x) ds C (zs x))(n:(xs.flatMap zs).length<=Zo)(k:q (xs.flatMap zs)):Qw g f a (λO A=>q A) (xs.map c) ds []:=Cr b xs ds [] (λO h=>h) o ↑n λO O=>k
def Ct{zs:Za D}{ds1:ZG}{d:D}{b:Bool}(o:∀N:ZG->Prop,N ds1->g d ds N)(p:∀N:Bool->Prop,N b->f ds1 N (λO=>False))(q:b=Zd->QG a ds1 C zs)(s:b=Zi->zs=[]/\C ds1):GY g f a d ds C zs:=λA M n k=>o _ (p _ (by
 cases b with
 |true=>rw[Zt U];exact q U A M n k
 |false=>
  let⟨rfl,h⟩:=s U;have:=k ds1 h;rw[SG]at this;exact this))
def Py{zs:Za D}{ds1:ZG}{d:D}(b:∀N:ZG->Prop,N ds1->g d ds N)(n:QG a ds1 C zs):GY g OM a d ds C zs:=Ct b (λO h=>h) (λO=>n) (λh=>by cases h)
end
def aid(k:Zu)(b:Zg)(e:Za ZM):(WX k b e).length<=e.length+1:=by
 unfold WX;split;{exact UT _};rw[Yx];exact ZU _
def aie(f:Za Int->Za Int)(k:Zu)(e:Za ZM):(VS f k e).length=e.length:=by unfold VS;rw[ZI]
set_option tactic.hygienic true in
def dM{f:Za Int->Za Int}{k:Zu}{E:Za ZM}{y:ZM}(h:y∈VS f k E):y∈E\/∃x∈E,x.1=k/\y=(k,x.2.1,f x.2.2):=by
 let#[x,a,e]:=ZW.mp h;split at e;{rename_i z;exact .inr #[x,a,z,by rw[<-e,z]]};exact .inl (e▸a)
def dN{k:Zu}{b:Zg}{e:Za ZM}{y:ZM}(h:y∈WX k b e):y∈e\/y=(k,b,[]):=by
 unfold WX at h;split at h;{exact .inl h};rcases Xk.mp h with h|h;{exact .inl h};exact .inr (YJ.mp h)
theorem aif{f:Bool->Bool}{k:D}{s:Za (Zu×D)}:Cb f k (.dit s) q=∃key,k=Vn key/\q (.bl (f (WK s key).isSome)):=rfl
theorem Pz{a b:Type}{f:a->Za b}{n:Nat}:∀{xs:Za a},(∀x∈xs,(f x).length<=n)->(xs.flatMap f).length<=xs.length*n
 |[],_=>02
 |x::xs,h=>by
  have:=Pz λy c=>h y (YT _ c);have:=h x YY;rw[Oe,Yx,Yu,apW];lia
theorem OZ{a:Type}[DecidableEq a]:∀{xs ys:Za a},xs.Nodup->(∀x∈xs,x∈ys)->xs.length<=ys.length
 |[],_,_,_=>Wg _
 |x::xs,ys,nd,h=>by
  rw[TY]at nd;have:=OZ (ys:=ys.erase x) nd.2 λy b=>(List.mem_erase_of_ne (λe=>nd.1 (by rw[<-e];exact b))).mpr (h y (YT _ b));rw[List.length_erase_of_mem (h x YY)]at this;have:=apE (h x YY);rw[Yu];lia
section
variable {own:Wu}{p:Yv}{e b iter:ZE}{i:Za ZE}{G:Za QL}{c:DI}{g:DG}{f:DT}{a:UK}{N:Za Ze}{z:CZ}{j m:QL}
def Ik(hi:JI (Zz X own N z) XN b iter c)(n:JG (Zz X own N z) b g)(o:Tc (Zz X own N z) XN i f)(u:Rc (Zz X own N z) e (j::#[b,iter,i,0]::G) own p 2 a)(w:∀g,G[0]?=Zb g->g.is_async=0:=by intro _ h;cases h<;>rfl)
  (s:(∀x,Hs iter (Zz X own N z).env x=ZR x)|>4)(q:Xl X|>1):Rc (Zz X own N z) e (j::#[b,iter,i,0]::G) own p 1 (JZ c g f a):=fc hi n o u U w s q
def aih(hi:JI (Zz X own N z) XN b iter c)(n:JG (Zz X own N z) b g)(o:Tc (Zz X own N z) XN i f)(u:Rc (Zz X own N z) e (j::m::#[b,iter,i,0]::G) own p 3 a)(w:∀g,G[0]?=Zb g->g.is_async=0:=by intro _ h;cases h<;>rfl)
  (s:(∀x,Hs iter (Zz X own N z).env x=ZR x)|>4)(q:Xl X|>1):Rc (Zz X own N z) e (j::m::#[b,iter,i,0]::G) own p 2 (JZ c g f a):=fc hi n o u U w s q
end
def dNo:DS:=λO O=>False
def aii{x:St->XK}{st:ZH}:JS X x st dNo:=#[λO O O=>False,λO O O O O O h=>h.elim,λO h O=>h.elim]
structure Ug (K:ZF)(C:Zg)(x q:Ze)(st:ZH)(ps:List Ze)(f:Zg)(d:ZZ):Prop where
 F:UZ K x q st f d
 e:IG K C x f
 a:Binds K d ps []
def Uh(K:ZF)(C:Zg)(x q:Ze)(st:ZH)(p:Za Ze)(f:Zg):Prop:=∃d,Ug K C x q st p f d
def aij{st:ZH}{kV g pm e j:Zh}(a:Xn K (.ref C) x=Zb (Zb (.ref f)))(i:xq K (.ref f)=Zd)
  (l:K.lookup f=Zb #[m,od,.func (SJ x q (SU st) (Vx st) (ZL st) .none kV g pm A e j),o])(c:KZ K e q=Zd)(k:RG K f)
  (b:∀(kV g pm:Zh) (A:Option Zg) (e j:Zh) (u:Za Zh),u.length=p.length->nT (SJ x q (SU st) (Vx st) (ZL st) .none kV g pm A e j) #[u,[]]=ZR (p.zip u)):Uh K C x q st p f:=#[_,HH l c k,#[a,i,k],(HH l c k).binds b]
def MF(K:ZF)(x:Ze)(C:Zg):Prop:=WO K Xw x=Zb (Zb (.ref C))/\Wp K C/\Ef K C=Zd/\RG K C
def aik(a:WO K Xw x=Zb (Zb (.ref C)))(b:xu K C Ze.empty=Zd)(c:xo K C=Zd)(d:t6 K C=Zd)
  (e:Xn K (.ref C) "__setattr__" = Zb (Zb (.builtin "object.__setattr__")))(f:Ef K C=Zd)(g:RG K C):MF K x C:=#[a,#[b,c,d,e],f,g]
def Il(K:ZF):Za D->(D->Prop)->Prop
 |.str i::c=>Wq K (.str i::c)
 |.int i::c=>Wq K (.int i::c)
 |.tup i::c=>Wq K (.tup i::c)
 |.lst i::c=>Wq K (.lst i::c)
 |_=>λO=>False
theorem ail:Il K (.str i::c) q=Wq K (.str i::c) q:=rfl
theorem aim:Il K (.int i::c) q=Wq K (.int i::c) q:=rfl
theorem ain:Il K (.tup i::c) q=Wq K (.tup i::c) q:=rfl
theorem aio:Il K (.lst i::c) q=Wq K (.lst i::c) q:=rfl
noncomputable def D.DJ:D->Bool
 |.str _ | .int _ | .tup _ | .lst _=>Zd
 |_=>Zi
def aip{s:Za D}{q:D->Prop}(h:Il K s q):∃x c,s=[x,c]/\jQ K x c q/\x.DJ=Zd:=by
 cases s with
 |nil=>exact h.elim
 |cons x t=>
  have h:Wq K (x::t) q/\x.DJ=Zd:=by cases x<;>first|exact#[h,U]|exact h.elim
  rcases t with _|⟨c,_|⟨z,Z⟩⟩;{exact h.1.elim};{exact#[x,c,U,h]};exact h.1.elim
set_option tactic.hygienic true in
def dP(E:X.K=K):Sr X (.builtin "isinstance") (Il K):=by
 subst E;show#[_,abW.or acL,λ{L H I o q Q} s r h k=>?_];let#[x,c,U,h,j]:=aip h;let#[v,u,U,g,f]:=Gj r;cases c;case ty n=>
  rw[show u=.ty _ from f];let#[t,e,A,i]:=(adG h).resolve_left λz=>by
   let#[C,b,e,_]:=z;rw[e]at j;cases j
  exact .inl #[_,_,_,_,_,U,λu h=>h,adC (g.same s) e,adD e A,k _ (.bl _) _ _ (.refl s) U i]
 case tup J=>
  let⟨p,G,rfl,f,w⟩:=f;cases x;case lst o=>
   let⟨a,y,rfl,g,_⟩:=g;let#[as,b,e,m,i]:=h;rw[vK e w]at f;exact .inr #[a,p,as,b, "list",U,.inl #[#[_,s _ _ g],U],s _ _ f,m,k _ (.bl _) _ _ (.refl s) U i]
  case tup o=>
   let⟨a,y,rfl,g,_⟩:=g;let#[as,b,e,m,i]:=h;rw[vK e w]at f;exact .inr #[a,p,as,b, "tuple",U,.inr #[#[_,s _ _ g],U],s _ _ f,m,k _ (.bl _) _ _ (.refl s) U i]
  all_goals first|exact(h).elim|cases j
 case rf B=>cases x<;>first|exact(h).elim|cases j
 all_goals exact(h).elim
abbrev DX:=ZG->(D->ZG->Prop)->Prop
abbrev DXs:=ZG->(Za D->ZG->Prop)->Prop
def Cu(K:ZF)(i:TE)(j:DX):Prop:=∀{g B e H:Hp}{c:St}{ds:ZG}{q:D->ZG->Prop}{Q:VK},Zy K g B e H c ds->j ds q->(∀v d b a f,Zy K g B a f c b->Zv e a->Rp K a d v->q d b->Q v f)->i c H Q
def aiq(K:ZF)(i:TA)(j:DXs):Prop:=∀{g B e H:Hp}{c:St}{ds:ZG}{q:Za D->ZG->Prop}{Q:Za V->Hp->Prop},Zy K g B e H c ds->j ds q->(∀s x b a f,Zy K g B a f c b->Zv e a->Zw K a x s->q x b->Q s f)->i c H Q
structure JX (X:Cx)(e:ZE)(de:DX):Prop where
 ex:∃te,PE X e te/\Cu X.K te de
structure Cv (X:Cx)(es:List ZE)(da:DXs):Prop where
 ex:∃ta,PA X es ta/\aiq X.K ta da
def uY{x:St->XK}:KX x a H λO=>False:=λO O O h=>h.elim
def Im{XE:St->XK}(h:JE X XE e f):JX X e (λds q=>f ds (λd=>q d ds) λO=>False):=by
 let#[j,p,d]:=h.ex;exact#[_,p,λc h k=>d c h (λv a i g e r b=>k v a _ i g (c.go e) e.s0 r b) uY]
def Cw{XE:St->XK}(p j:Nat)(F:ZK X.prog X.w X.K X.mg X.base (ZV X.prog X.w) k f fd I (spS X.K p g))(M:Xc k X.A)(hg:Gl X x)(Z:X.mg x=Zb (.ref f))(hk:Lg X.K (.ref f)=Zd)(hb:Binds X.K fd I [])(L:UG X XE)
  (ha:WV X XE (e::z) da)(n:Vd (e::z)=Zd|>1)(o:YV x|>2):JX X (.Call (.Name x np) (e::z) [] pos) (λds q=>∃m i,ds[j]?=Zb (.st m i)/\da ds (λs=>(∃a,s[p]?=Zb (.rf a))/\g s i λd b=>q d (ds.set j (.st m b))) λO=>False):=by
 let#[ta,J,d1]:=ha.ex;show#[_,(Ju F M hg Z hk hb L #[J] n o).get,λ{B0 B H0 H σ ds q Q} c h k=>?_];let#[m,i,y,h]:=h;show d1 c h (λvs s H1 H2 E r h=>?_) uY;let#[#[a,Y],h]:=h;have C:=c.go E;exact#[H1,s,a,i,_,E.sub,r,Y,(C.slot j _ y).2,h,λv d b u H' l G N=>k v d _ u H' (C.GB (a':=m) y l) (E.s0.trans l.s0) G N]
def dQ{m j:DX}(E:Cu K o m)(B:Cu K n j)(l:Jx K r g):Cu K (Jm r o n) (λds q=>m ds λa i=>j i λb f=>g a b λd=>q d f):=λc h k=>
 E c h λv a i Q N G p y h=>B G h λu b f M L C s x h=>l C.sub (y.same s) x h λz d J I e w A=>k z d f J I (C.go e) ((p.trans s).trans e.s0) w A
def uZ(i:Wl X (Uq op) g)(m:JX X a s)(j:JX X b n):JX X (.BinOp a op b pos) (λds q=>s ds λa e=>n e λb c=>g a b λd=>q d c):=by
 let#[r,o,l]:=i.ex;let#[y,f,w]:=m.ex;let#[x,p,u]:=j.ex;exact#[_,lq o f p,dQ w u l]
def air(i:JX X a m)(g:JX X b j)(s:EK b:=by exactλ_ _=>rfl):JX X (.Subscript a b pos) (λds q=>m ds λa e=>j e λb c=>Uy a b λd=>q d c):=by
 let#[w,f,o]:=i.ex;let#[u,p,n]:=g.ex;exact#[_,wy wA f p s,dQ o n jH]
def ais:Cv X [] (λds q=>q [] ds):=#[_,Sg,λc h k=>k _ [] _ _ _ c (.refl _) U h]
def tj{g:DX}(u:JX X e g)(o:Cv X E w)(h:Tp e=Zd|>1):Cv X (e::E) (λds q=>g ds λd f=>w f λx b=>q (d::x) b):=by
 let#[G,n,z]:=u.ex;let#[B,p,y]:=o.ex;exact#[_,Sn n p h,λc h k=>z c h λv a f M L A j r h=>y A h λi as b J I C s m h=>k _ (a::as) b _ _ C (j.trans s) #[v,i,U,r.same s,m] h]
def ait{XE:St->XK}(F:ZK X.prog X.w X.K X.mg X.base (ZV X.prog X.w) k f fd n (Yy X.K g))(y:Xc k X.A)(I:Gl X x)(B:X.mg x=Zb (.ref f))(G:Lg X.K (.ref f)=Zd)(J:Binds X.K fd n [])(u:UG X XE)
  (L:Cv X (e::E) M)(b:Vd (e::E)=Zd|>1)(i:YV x|>2):JX X (.Call (.Name x p) (e::E) [] pos) (λds q=>M ds λs a=>g s (λd=>q d a) λO=>False):=by
 let#[ta,o,N]:=L.ex;exact#[_,(Ju F y I B G J u #[o] b i).get,λc h k=>N c h λvs s a Z H2 C j r h=>#[Z,s,_,_,C.sub,r,h,λv d Y Q e m z=>k v d a Y Q (C.go e) (j.trans e.s0) m z,uY]]
def Cy{w:St->XK}{g:DX}(u:X.N.Nodup)(hi:X.N[i]?=Zb x)(j:Loc X.env.scope x)(n:JX X e g)(s:XD e (Zb (.Name x b)) pos.line X.env=ZR Zi|>1)
  (m:Vl X x|>3):JS X w (.Assign [.Name x b] e pos) (λds E=>g ds λd f=>E.nx (f.set i (.v d))):=by
 let#[y,p,d]:=n.ex;exact#[_,Ow u hi j p s m,λc h o=>d c h λv a f A z C O r q=>o.nx _ _ _ _ (C.vd i r) q]
def aiu{x:St->XK}{st:ZH}(a:Za Nat)(h:JS X x st s):JS X x st (λds e=>s (peekAt a ds) e):=by
 let#[t,p,d]:=h.ex;show#[_,p,λc h o=>?_];let#[_,C,_]:=c.peekAt a;exact d C h o
def aiv(K:ZF)(E:St->XK)(i:TA)(j:ZG->(Za D->Za D->Za D->Prop)->(Zg->Prop)->Prop):Prop:=∀{m B g H:Hp}{c:St}{ds:ZG}{q:Za D->Za D->Za D->Prop}{x:Zg->Prop}{Q:Za V->Hp->Prop},Zy K m B g H c ds->j ds q x->
 (∀f a u w s y z b e,YD g H b e->H a=Zc->b a=Zc->e a=Zb (.lst u)->Zw K b y u->Zw K b s f->Zw K b z w->q s y z->Q (f++.ref a::w) e)->KX E c H x->i c H Q
structure JM (X:Cx)(XE:St->XK)(es:List ZE)(da:ZG->(List D->List D->List D->Prop)->(Zg->Prop)->Prop):Prop where
 ex:∃ta,PA X es ta/\aiv X.K XE ta da
def aiw(h:JF X g e A)(b:WV X g o B)(m:Tp e=Zd|>1):JM X g (e::o) (λds q x=>A ds (λy=>B ds (λz=>q [] y z) x) x):=by
 let#[J,p,d]:=h.ex;let#[L,j,C]:=b.ex;exact#[_,Sn p j m,λc h k kx=>d c h (λa u y Q M e n N b r f=>C (c.go e) f (λw z I G E i f=>k [] a u w [] y z I G (e.trans E) n (E.new a N (Vi b)) (E.s _ _ b) (r.same E.s0) U i f) (kx.go e.s)) kx]
def tm(I:JE X g e L)(G:JM X g J M)(A:Tp e=Zd|>1):JM X g (e::J) (λds q x=>L ds (λd=>M ds (λb y z=>q (d::b) y z) x) x):=by
 let#[te,p,Y]:=I.ex;let#[ta,o,Q]:=G.ex;exact#[_,Sn p o A,λc h k kx=>Y c h (λv d H1 H2 e r h=>Q (c.go e) h (λf a u w b y z H3 Z E n N C m j i B=>k (v::f) a u w (d::b) y z H3 Z (e.trans E) (e.s.free n) N C m #[v,f,U,r.same E.s0,j] i B) (kx.go e.s)) kx]
def aix(p:Nat)(F:ZK X.prog X.w X.K X.mg X.base (ZV X.prog X.w) k f fd ps (spS X.K p g))(u:Xc k X.A)(hg:Gl X x)(hm:X.mg x=Zb (.ref f))(hk:Lg X.K (.ref f)=Zd)(hb:Binds X.K fd ps [])(hx:UG X N)
  (G:JM X N (e::M) da)(j:Vd (e::M)=Zd|>1)(E:YV x|>2):JE X N (.Call (.Name x np) (e::M) [] pos) (λds q x=>da ds (λi Y Z=>i.length=p/\∀a,g (i++.rf a::Z) [(a,.lst Y)] λd O=>q d) x):=by
 let#[ta,p1,d1]:=G.ex;show#[_,(Ju F u hg hm hk hb hx #[p1] j E).get,λc h k kx=>d1 c h (λvs a us ws i Y Z I H2 e n n0 G r0 r1 r2 L=>?_) kx];have C:Ss X.K I H2 [(a,.lst Y)]:=λb m l=>by
  let#[U,U]:=LZ l;exact#[n0,_,G,us,U,r0]
 have u:Zw X.K I (i++.rf a::Z) (vs++.ref a::ws):=by
  have:=(r1.snoc (d:=.rf a) (v:=.ref a) U).app r2;rwa [VC,VC]at this
 show#[I,_,a,[(a,.lst Y)],_,e.sub,u,by rw[<-L.1];simp,C,L.2 a,λv d Q J H' l r' B=>k v d J H' #[λb o z=>?_,e.s0.trans l.s0,l.sub,λb z y=>?_] r' B]
 ·show l.s b o ?_ (e.s _ _ z);cases w:([(a,MO.lst Y)]:Mu).lookup b with
  |none=>rfl
  |some m=>let⟨rfl,_⟩:=LZ w;rw[n]at z;cases z
 show l.new b ?_ (e.new b z y) (y.go e.s);cases w:([(a,MO.lst Y)]:Mu).lookup b with|none=>rfl|some m=>let⟨rfl,_⟩:=LZ w;exact(y.no n).elim
end L2
namespace My
open PySem L2 MA
local macro_rules|`(tactic|walk_at "sc")=>`(tactic|exact⟨rfl,rfl,rfl,by decide +kernel,rfl,by decide +kernel,by decide +kernel⟩)
local macro_rules|`(tactic|walk_at "ln")=>`(tactic|(intro xs q x h;repeat (first|(obtain ⟨e,_⟩:=h;subst e;rfl)|obtain ⟨_,h⟩:=h)))
noncomputable def top(i:Nat):ZH:=asz.main.body.getD i (.Pass #[0,0,0,0])
abbrev tq:ZH:=Uk (top 42) 0
abbrev Cz:Za Ze:=["self", "grammar", "net"]
def aiy:Yh ["self", "grammar", "net"] Cz (ZL tq):=04
abbrev tu:ZH:=Uk (top 42) 1
abbrev CA:Za Ze:=["self", "rule", "number"]
def dR:Yh ["self", "rule", "number"] CA (ZL tu):=04
abbrev tv:ZH:=Uk (top 42) 2
abbrev CB:Za Ze:=["self", "grammar"]
def dS:Yh ["self", "grammar", "fillers", "seat", "kind", "above"] CB (ZL tv):=04
abbrev tx:ZH:=Uk (top 42) 3
abbrev CC:Za Ze:=["self", "net"]
def dU:Yh ["self", "net", "begin", "end", "word", "weight"] CC (ZL tx):=04
abbrev tA:ZH:=Uk (top 42) 4
abbrev CD:Za Ze:=["self", "grammar", "spans"]
def dW:Yh ["self", "grammar", "spans", "heads", "numbers", "length", "begin", "head", "own"] CD (ZL tA):=04
abbrev tB:ZH:=Uk (top 42) 5
abbrev CF:Za Ze:=["self", "kind", "numbers", "begin", "end"]
def dX:Yh ["self", "kind", "numbers", "begin", "end", "fitting", "seat", "fillers"] CF (ZL tB):=04
abbrev tD:ZH:=Uk (top 42) 6
abbrev CG:Za Ze:=["self", "seat", "begin", "end"]
def dY:Yh ["self", "seat", "begin", "end", "ends"] CG (ZL tD):=04
abbrev tE:ZH:=Uk (top 42) 7
abbrev CH:Za Ze:=["self", "seat", "begin"]
def dZ:Yh ["self", "seat", "begin"] CH (ZL tE):=04
abbrev tG:ZH:=Uk (top 42) 8
abbrev CI:Za Ze:=["self", "number", "begin", "end"]
def cf:Yh ["self", "number", "begin", "end"] CI (ZL tG):=04
abbrev tH:ZH:=Uk (top 42) 9
abbrev CJ:Za Ze:=["self", "number", "begin", "end"]
def cg:Yh ["self", "number", "begin", "end", "borders", "seat", "reached"] CJ (ZL tH):=04
abbrev tI:ZH:=Uk (top 42) 10
abbrev CK:Za Ze:=["self", "node"]
def cj:Yh ["self", "node", "kind", "above", "begin", "end"] CK (ZL tI):=04
abbrev tJ:ZH:=Uk (top 42) 11
abbrev CL:Za Ze:=["self", "number", "begin", "end"]
def cm:Yh ["self", "number", "begin", "end", "borders", "rows", "seat", "border"] CL (ZL tJ):=04
abbrev tK:ZH:=Uk (top 42) 12
abbrev CM:Za Ze:=["self", "seat", "begin", "end"]
def cq:Yh ["self", "seat", "begin", "end", "part", "above"] CM (ZL tK):=04
abbrev Io:ZH:=Uk (top 33) 0
abbrev MG:Za Ze:=["self", "title", "head", "parts", "weight", "tag", "under"]
def cu:Yh ["self", "title", "head", "parts", "weight", "tag", "under"] MG (ZL Io):=04
abbrev tL:ZH:=Uk (top 34) 0
abbrev CN:Za Ze:=["self", "scale", "start", "rules"]
def cy:Yh ["self", "scale", "start", "rules"] CN (ZL tL):=04
abbrev tM:ZH:=Uk (top 56) 0
abbrev CO:Za Ze:=["self", "places", "edges"]
def cz:Yh ["self", "places", "edges"] CO (ZL tM):=04
abbrev tN:ZH:=Uk (top 47) 0
abbrev CP:Za Ze:=["self", "grammar", "net", "nodes", "ways", "top"]
def cA:Yh ["self", "grammar", "net", "nodes", "ways", "top"] CP (ZL tN):=04
abbrev tP:ZH:=Uk (top 19) 2
abbrev CQ:Za Ze:=["self", "weight"]
def cB:Yh ["self", "weight"] CQ (ZL tP):=04
abbrev tQ:ZH:=Uk (top 20) 2
abbrev CT:Za Ze:=["self", "weight"]
def cC:Yh ["self", "weight"] CT (ZL tQ):=04
abbrev tR:ZH:=top 21
abbrev CU:Za Ze:=["word"]
def cD:Yh ["word"] CU (ZL tR):=04
abbrev tS:ZH:=top 27
abbrev CV:Za Ze:=["sign"]
def cE:Yh ["sign"] CV (ZL tS):=04
abbrev tT:ZH:=top 28
abbrev CW:Za Ze:=["text"]
def cF:Yh ["text"] CW (ZL tT):=04
abbrev tU:ZH:=top 29
abbrev CY:Za Ze:=["text"]
def cG:Yh ["text"] CY (ZL tU):=04
abbrev tV:ZH:=top 30
abbrev Ba:Za Ze:=["text"]
def cH:Yh ["text"] Ba (ZL tV):=04
abbrev tW:ZH:=top 31
abbrev Bb:Za Ze:=["parts"]
def cI:Yh ["parts"] Bb (ZL tW):=04
abbrev tX:ZH:=top 32
abbrev Bc:Za Ze:=["titles"]
def cJ:Yh ["titles"] Bc (ZL tX):=04
abbrev tY:ZH:=top 35
abbrev Be:Za Ze:=["scale", "rules"]
def cL:Yh ["scale", "rules", "titles", "rule"] Be (ZL tY):=04
abbrev tZ:ZH:=top 36
abbrev Bf:Za Ze:=["rules"]
def cM:Yh ["rules", "titles", "rule"] Bf (ZL tZ):=04
abbrev se:ZH:=top 37
abbrev Bg:Za Ze:=["start", "rules"]
def cN:Yh ["start", "rules", "heads", "rule"] Bg (ZL se):=04
abbrev sf:ZH:=top 38
abbrev Bh:Za Ze:=["rules"]
def cO:Yh ["rules", "heads"] Bh (ZL sf):=04
abbrev sg:ZH:=top 39
abbrev Bi:Za Ze:=["rules"]
def cP:Yh ["rules", "steps", "waiting", "order", "ready", "held"] Bi (ZL sg):=04
abbrev si:ZH:=top 40
abbrev Bj:Za Ze:=["grammar", "number", "above"]
def cQ:Yh ["grammar", "number", "above", "under"] Bj (ZL si):=04
abbrev sj:ZH:=top 43
abbrev Bk:Za Ze:=["head", "rules"]
def cR:Yh ["head", "rules"] Bk (ZL sj):=04
abbrev sk:ZH:=top 44
abbrev Bl:Za Ze:=["net"]
def cT:Yh ["net", "numbers", "number", "begin", "end", "word", "weight"] Bl (ZL sk):=04
abbrev su:ZH:=top 45
abbrev Bm:Za Ze:=["net"]
def cU:Yh ["net", "begins", "ends"] Bm (ZL su):=04
abbrev sv:ZH:=top 48
abbrev Bn:Za Ze:=["grammar", "net"]
def cV:Yh ["grammar", "net", "chart", "top", "found", "nodes", "numbers", "ways"] Bn (ZL sv):=04
abbrev sx:ZH:=top 49
abbrev Bo:Za Ze:=["grammar", "net"]
def cW:Yh ["grammar", "net", "scale", "begin", "end", "word", "weight"] Bo (ZL sx):=04
abbrev sy:ZH:=top 50
abbrev Bp:Za Ze:=["chart", "top"]
def cX:Yh ["chart", "top", "found", "waiting", "node"] Bp (ZL sy):=04
abbrev sA:ZH:=top 51
abbrev Bq:Za Ze:=["grammar", "found"]
def cY:Yh ["grammar", "found", "places", "keyed"] Bq (ZL sA):=04
abbrev sC:ZH:=top 52
abbrev Br:Za Ze:=["way", "numbers"]
def cZ:Yh ["way", "numbers", "number", "kids"] Br (ZL sC):=04
abbrev sD:ZH:=top 54
abbrev Bs:Za Ze:=["thing"]
def bc:Yh ["thing"] Bs (ZL sD):=04
abbrev sE:ZH:=top 55
abbrev Bt:Za Ze:=["edge", "places"]
def bg:Yh ["edge", "places", "begin", "end", "word", "weight"] Bt (ZL sE):=04
abbrev sF:ZH:=top 58
abbrev Bu:Za Ze:=["_law_script", "_law_k"]
def bh:Yh ["_law_script", "_law_k"] Bu (ZL sF):=04
abbrev sG:ZH:=top 59
abbrev Bv:Za Ze:=["_law_cell", "_law_k"]
def bo:Yh ["_law_cell", "_law_k", "_law_factor", "_law_number"] Bv (ZL sG):=04
abbrev sH:ZH:=top 60
abbrev Bw:Za Ze:=["_law_cell", "_law_many", "_law_firsts"]
def bp:Yh ["_law_cell", "_law_many", "_law_firsts", "_law_rest", "_law_number", "_law_start", "_law_tail", "_law_size", "_law_at_here"] Bw (ZL sH):=04
abbrev sI:ZH:=top 61
abbrev Bx:Za Ze:=["_law_script"]
def bq:Yh ["_law_script", "_law_many"] Bx (ZL sI):=04
abbrev sJ:ZH:=top 62
abbrev Bz:Za Ze:=["_law_script"]
def bu:Yh ["_law_script"] Bz (ZL sJ):=04
abbrev sL:ZH:=top 63
abbrev BA:Za Ze:=["_law_script"]
def bw:Yh ["_law_script"] BA (ZL sL):=04
abbrev sM:ZH:=top 64
abbrev BC:Za Ze:=["_law_top", "_law_bottom"]
def bx:Yh ["_law_top", "_law_bottom", "_law_one", "_law_other", "_law_kept"] BC (ZL sM):=04
abbrev sN:ZH:=top 65
abbrev BD:Za Ze:=["_law_cell", "_law_k", "_law_scale_here"]
def bz:Yh ["_law_cell", "_law_k", "_law_scale_here", "_law_m", "_law_top", "_law_bottom"] BD (ZL sN):=04
abbrev sP:ZH:=top 66
abbrev BE:Za Ze:=["_law_kinds_here", "_law_words_here", "_law_head", "_law_m"]
def bA:Yh ["_law_kinds_here", "_law_words_here", "_law_head", "_law_m", "_law_size", "_law_some", "_law_k"] BE (ZL sP):=04
abbrev sQ:ZH:=top 67
abbrev BF:Za Ze:=["_law_script", "_law_scale_here"]
def bB:Yh ["_law_script", "_law_scale_here", "_law_kinds_here", "_law_words_here", "_law_titles_here", "_law_rows", "_law_k", "_law_cell", "_law_m", "_law_tag", "_law_many", "_law_head", "_law_some", "_law_n", "_law_under"] BF (ZL sQ):=04
abbrev sR:ZH:=top 69
abbrev BG:Za Ze:=["_law_script"]
def bC:Yh ["_law_script"] BG (ZL sR):=04
abbrev sU:ZH:=top 70
abbrev BH:Za Ze:=["_law_rows", "_law_scale_here"]
def sW:Yh ["_law_rows", "_law_scale_here", "_law_rules_here", "_law_row"] BH (ZL sU):=04
abbrev sX:ZH:=top 71
abbrev BI:Za Ze:=["_law_script", "_law_at_here"]
def bD:Yh ["_law_script", "_law_at_here", "_law_cell"] BI (ZL sX):=04
abbrev sY:ZH:=top 72
abbrev BJ:Za Ze:=["_law_script", "_law_at_here", "_law_rows", "_law_kind", "_law_above", "_law_room"]
def RT:Yh ["_law_script", "_law_at_here", "_law_rows", "_law_kind", "_law_above", "_law_room", "_law_some", "_law_k", "_law_under", "_law_stands", "_law_number", "_law_rest", "_law_kids", "_law_part", "_law_more", "_law_kid"] BJ (ZL sY):=04
abbrev sZ:ZH:=top 73
abbrev BK:Za Ze:=["_law_tree", "_law_first", "_law_words_here"]
def rg:Yh ["_law_tree", "_law_first", "_law_words_here", "_law_kids", "_law_kid"] BK (ZL sZ):=04
abbrev rh:ZH:=top 74
abbrev BL:Za Ze:=["_law_script", "_law_rows", "_law_scale_here", "_law_at_here", "_law_room"]
def Rf:Yh ["_law_script", "_law_rows", "_law_scale_here", "_law_at_here", "_law_room", "_law_shape", "_law_many", "_law_words_here", "_law_tree", "_law_edges_here", "_law_k", "_law_m", "_law_first", "_law_last", "_law_word", "_law_weight_here"] BL (ZL rh):=04
abbrev rj:ZH:=top 75
abbrev BM:Za Ze:=["_law_tree", "_law_edges_here"]
def bE:Yh ["_law_tree", "_law_edges_here", "_law_first", "_law_last"] BM (ZL rj):=04
abbrev rn:ZH:=top 76
abbrev BO:Za Ze:=["_law_wood", "_law_edges_here", "_law_way", "_law_tree"]
def bF:Yh ["_law_wood", "_law_edges_here", "_law_way", "_law_tree", "_law_k", "_law_kid"] BO (ZL rn):=04
abbrev rp:ZH:=top 77
abbrev BP:Za Ze:=["_law_wood", "_law_edges_here", "_law_at_here", "_law_tree"]
def bG:Yh ["_law_wood", "_law_edges_here", "_law_at_here", "_law_tree", "_law_found", "_law_k"] BP (ZL rp):=04
abbrev Nb:ZH:=top 78
abbrev rq:Za Ze:=["_law_script"]
def bH:Yh ["_law_script", "_law_scale_here", "_law_rows", "_law_tree", "_law_places", "_law_edges_here", "_law_wood"] rq (ZL Nb):=04
abbrev Kk:Ze := "abcdefghijklmnopqrstuvwxyz"
abbrev MH:Ze := "ABCDEFGHIJKLMNOPQRSTUVWXYZ"
abbrev Kl:Ze := "0123456789"
set_option genSizeOf false in
set_option genInjectivity false in
structure ZC where
 PB:Zg
 PC:Zg
 Th:Zg
 Nf:Zg
 Rg:Zg
 RU:Zg
 Wm:Zg
 Fb:Zg
 rr:ZZ
 bI:Zg
 rz:ZZ
 BQ:Zg
 rA:ZZ
 BR:Zg
 rB:ZZ
 BU:Zg
 rC:ZZ
 BV:Zg
 rD:ZZ
 BW:Zg
 rE:ZZ
 BX:Zg
 rF:ZZ
 BZ:Zg
 rG:ZZ
 Aa:Zg
 rH:ZZ
 Ab:Zg
 rJ:ZZ
 Ad:Zg
 rK:ZZ
 Ae:Zg
 rL:ZZ
 Af:Zg
 Fc:ZZ
 Fd:Zg
 rM:ZZ
 Fe:Zg
 rN:ZZ
 Ff:Zg
 rO:ZZ
 Ag:Zg
 rP:ZZ
 Ah:Zg
 rQ:ZZ
 Ai:Zg
 rR:ZZ
 Aj:Zg
 rS:ZZ
 Ak:Zg
 rT:ZZ
 Al:Zg
 rV:ZZ
 Am:Zg
 rX:ZZ
 An:Zg
 rY:ZZ
 Ao:Zg
 rZ:ZZ
 bJ:Zg
 qc:ZZ
 Ap:Zg
 qd:ZZ
 Aq:Zg
 qe:ZZ
 Au:Zg
 qf:ZZ
 Av:Zg
 qg:ZZ
 Aw:Zg
 qi:ZZ
 Ax:Zg
 qj:ZZ
 Ay:Zg
 qk:ZZ
 Az:Zg
 ql:ZZ
 AA:Zg
 qm:ZZ
 AB:Zg
 qo:ZZ
 AD:Zg
 qp:ZZ
 AF:Zg
 qq:ZZ
 AG:Zg
 qt:ZZ
 AH:Zg
 qu:ZZ
 AI:Zg
 qv:ZZ
 AJ:Zg
 qw:ZZ
 AK:Zg
 qx:ZZ
 AO:Zg
 qy:ZZ
 AQ:Zg
 qz:ZZ
 AR:Zg
 qA:ZZ
 AU:Zg
 qB:ZZ
 AV:Zg
 qC:ZZ
 AW:Zg
 qD:ZZ
 AX:Zg
 qE:ZZ
 AY:Zg
 qF:ZZ
 AZ:Zg
 qG:ZZ
 za:Zg
 qH:ZZ
 zb:Zg
 qI:ZZ
 zc:Zg
 qJ:ZZ
 zf:Zg
 qK:ZZ
 zg:Zg
 qL:ZZ
 zh:Zg
 qM:ZZ
 zi:Zg
 qN:ZZ
 zj:Zg
 qO:ZZ
 Fg:Zg
 bK:ZZ
 bL:Tok
class Txt (K:ZF)(mg:outParam (Ze->Option Zh))(A:ZC):Prop where
 aiz:Wp K A.PB
 aiA:mg "Cost" = Zb (.ref A.PB)
 aiB:HP K A.PB
 aiC:Wp K A.PC
 aiD:mg "Chance" = Zb (.ref A.PC)
 aiE:HP K A.PC
 RV:Wp K A.Th
 bM:mg "Rule" = Zb (.ref A.Th)
 bN:Mk K A.Th A.Af
 bO:Xx K A.Th "title"
 bP:Xx K A.Th "head"
 bQ:Xx K A.Th "parts"
 bR:Xx K A.Th "weight"
 bS:Xx K A.Th "tag"
 bT:Xx K A.Th "under"
 Ip:Wp K A.Nf
 aiF:mg "Grammar" = Zb (.ref A.Nf)
 aiG:Mk K A.Nf A.Fd
 bU:Xx K A.Nf "scale"
 bV:Xx K A.Nf "start"
 bW:Xx K A.Nf "rules"
 zk:Wp K A.Rg
 aiH:mg "Net" = Zb (.ref A.Rg)
 aiI:Mk K A.Rg A.Fe
 bX:Xx K A.Rg "places"
 bZ:Xx K A.Rg "edges"
 PF:Wp K A.RU
 aiJ:mg "Wood" = Zb (.ref A.RU)
 aiK:Mk K A.RU A.Ff
 aa:Xx K A.RU "grammar"
 ae:Xx K A.RU "net"
 af:Xx K A.RU "nodes"
 ah:Xx K A.RU "ways"
 ai:Xx K A.RU "top"
 XM:Wp K A.Wm
 aiL:mg "Chart" = Zb (.ref A.Wm)
 aiM:Mk K A.Wm A.Fb
 aj:Xx K A.Wm "tied_kinds"
 qP:Xx K A.Wm "seats"
 qQ:Xx K A.Wm "top_seat"
 qR:Xx K A.Wm "fillers"
 ak:Xx K A.Wm "edge_numbers"
 qS:Xx K A.Wm "ends"
 B_Chart___init__:Ug K A.Wm "__init__" "Chart.__init__" tq Cz A.Fb A.rr
 B_Chart_seats_beneath:Ug K A.Wm "seats_beneath" "Chart.seats_beneath" tu CA A.bI A.rz
 B_Chart_fillers_of:Ug K A.Wm "fillers_of" "Chart.fillers_of" tv CB A.BQ A.rA
 B_Chart_read_words:Ug K A.Wm "read_words" "Chart.read_words" tx CC A.BR A.rB
 B_Chart_read_kinds:Ug K A.Wm "read_kinds" "Chart.read_kinds" tA CD A.BU A.rC
 B_Chart_read_kind:Ug K A.Wm "read_kind" "Chart.read_kind" tB CF A.BV A.rD
 B_Chart_note:Ug K A.Wm "note" "Chart.note" tD CG A.BW A.rE
 B_Chart_ends_from:Ug K A.Wm "ends_from" "Chart.ends_from" tE CH A.BX A.rF
 B_Chart_fits:Ug K A.Wm "fits" "Chart.fits" tG CI A.BZ A.rG
 B_Chart_borders:Ug K A.Wm "borders" "Chart.borders" tH CJ A.Aa A.rH
 B_Chart_ways_of:Ug K A.Wm "ways_of" "Chart.ways_of" tI CK A.Ab A.rJ
 B_Chart_kids_of:Ug K A.Wm "kids_of" "Chart.kids_of" tJ CL A.Ad A.rK
 B_Chart_kids_between:Ug K A.Wm "kids_between" "Chart.kids_between" tK CM A.Ae A.rL
 aiN:Mg K "__init__" "Rule.__init__" Io A.Af A.Fc [.str "" A.bL,.none]
 arI:Binds K A.Fc MG [.none]
 aiO:Binds K A.Fc MG [.str "" A.bL,.none]
 arJ:IG K A.Th "__init__" A.Af
 aiP:Binds K A.Fc MG []
 B_Grammar___init__:Ug K A.Nf "__init__" "Grammar.__init__" tL CN A.Fd A.rM
 B_Net___init__:Ug K A.Rg "__init__" "Net.__init__" tM CO A.Fe A.rN
 B_Wood___init__:Ug K A.RU "__init__" "Wood.__init__" tN CP A.Ff A.rO
 B_Cost_takes:Ug K A.PB "takes" "Cost.takes" tP CQ A.Ag A.rP
 B_Chance_takes:Ug K A.PC "takes" "Chance.takes" tQ CT A.Ah A.rQ
 zm:Xd K mg "scale_of" tR CU A.Ai A.rR
 zo:Xd K mg "is_name_sign" tS CV A.Aj A.rS
 zp:Xd K mg "is_name" tT CW A.Ak A.rT
 zr:Xd K mg "is_kind" tU CY A.Al A.rV
 zt:Xd K mg "is_word" tV Ba A.Am A.rX
 zu:Xd K mg "are_parts" tW Bb A.An A.rY
 zv:Xd K mg "are_titles" tX Bc A.Ao A.rZ
 ao:Xd K mg "check_weights_and_titles" tY Be A.bJ A.qc
 zx:Xd K mg "check_titles_under" tZ Bf A.Ap A.qd
 zy:Xd K mg "check_kinds" se Bg A.Aq A.qe
 zF:Xd K mg "check_rings" sf Bh A.Au A.qf
 zG:Xd K mg "heads_in_order" sg Bi A.Av A.qg
 zH:Xd K mg "may_stand" si Bj A.Aw A.qi
 zI:Xd K mg "numbers_of" sj Bk A.Ax A.qj
 zJ:Xd K mg "edges_by_ends" sk Bl A.Ay A.qk
 zK:Xd K mg "spans_of" su Bm A.Az A.ql
 zL:Xd K mg "wood_of" sv Bn A.AA A.qm
 zM:Xd K mg "check_edge_weights" sx Bo A.AB A.qo
 zN:Xd K mg "ways_found" sy Bp A.AD A.qp
 zO:Xd K mg "nodes_in_order" sA Bq A.AF A.qq
 zP:Xd K mg "numbered_way" sC Br A.AG A.qt
 zQ:Xd K mg "is_whole" sD Bs A.AH A.qu
 zR:Xd K mg "is_edge" sE Bt A.AI A.qv
 Fh:Xd K mg "_law_at" sF Bu A.AJ A.qw
 zS:Xd K mg "_law_mix" sG Bv A.AK A.qx
 zT:Xd K mg "_law_names" sH Bw A.AO A.qy
 zU:Xd K mg "_law_kinds" sI Bx A.AQ A.qz
 zV:Xd K mg "_law_words" sJ Bz A.AR A.qA
 zW:Xd K mg "_law_titles" sL BA A.AU A.qB
 zX:Xd K mg "_law_lowest" sM BC A.AV A.qC
 MI:Xd K mg "_law_weight" sN BD A.AW A.qD
 zY:Xd K mg "_law_parts" sP BE A.AX A.qE
 zZ:Xd K mg "_law_rules" sQ BF A.AY A.qF
 ya:Xd K mg "_law_scale" sR BG A.AZ A.qG
 yc:Xd K mg "_law_grammar" sU BH A.za A.qH
 UC:Xd K mg "_law_pick" sX BI A.zb A.qI
 Ng:Xd K mg "_law_derived" sY BJ A.zc A.qJ
 Nh:Xd K mg "_law_read" sZ BK A.zf A.qK
 Iq:Xd K mg "_law_drawn" rh BL A.zg A.qL
 yd:Xd K mg "_law_ends" rj BM A.zh A.qM
 ye:Xd K mg "_law_is_way" rn BO A.zi A.qN
 Fi:Xd K mg "_law_gone_down" rp BP A.zj A.qO
 aiQ:Xd K mg "law" Nb rq A.Fg A.bK
 aiR:∃t,mg "SMALL_LETTERS" = Zb (.str Kk t)
 aiS:∃t,mg "GREAT_LETTERS" = Zb (.str MH t)
 aiT:∃t,mg "FIGURES" = Zb (.str Kl t)
 aiU:∃t,mg "LONGEST_NAME" = Zb (.int 12 t)
 aiV:∃t,mg "MOST_PARTS" = Zb (.int 4 t)
 aq:mg "enumerate" = Zc
 qT:mg "zip" = Zc
 aiW:mg "any" = Zc
 Fj:mg "sorted" = Zc
 aiX:mg "reversed" = Zc
 Km:mg "list" = Zc
 yf:mg "tuple" = Zc
 aiY:mg "all" = Zc
 au:mg "isinstance" = Zc
 aw:mg "str" = Zc
 RX:mg "len" = Zc
 aiZ:mg "set" = Zc
 ay:mg "dict" = Zc
 az:mg "int" = Zc
 ai0:mg "bool" = Zc
 yg:mg "range" = Zc
 ai1:mg "abs" = Zc
section
variable {P:YZ}{w:Yt}{mg:Ze->Option Zh}{base:ZD}
def UN(s:String):Lean.MacroM (Lean.TSyntax `tactic):=do
 let L <-(s.splitOn " ").toArray.mapM λn=>`(Lean.Parser.Tactic.simpLemma| $(Lean.mkIdent n.toName):ident)
 `(tactic| (first|(dsimp only[↓vg,↓vh,$L,*];try simp only[↓vg,↓vh,$L,*])|simp only[↓vg,↓vh,$L,*]))
def rd1:String := "jU dIf ac0 ac1 ac2 vi ac3 ac4 ac5 ac6 ac7 ac8 ac9 gf dB Jy Dj dCB Dm Dl jX dC jT LR VG TN JH Dy T3 jz jo aeW aeX aeY aeZ ae0 ae1 jr dOr jq js jt ju jy jK jI jJ jM IE dBM tyD jm jW vT vU DH iz afA JL iI iJ vV ad7 ad8 ad9 aea aeb aec aed aee aef aeg aeh aei aej aek ael aem aen aeo aep aeq aer aes aet vZ aeu aev aew aex aey aez aeA aeB aeC aeF iR aeG DL uc aeI DM iU aeJ aeK aeL aeM aeN aeO iV iW aeP aeQ iX aeR aeS aeT aeU aeV ae2 ae3 vO jZ JN PX vX peekAt Slot.peek RM acY acZ List.modify List.modifyTailIdx asr acX List.modifyHead_nil acT acU Yu Nz WN Nw QN Nat.reduceAdd Nat.reduceSub NM O8 List.getElem?_cons_zero List.set_cons_zero List.set_cons_succ xl Slot.v.injEq Slot.own.injEq Slot.ob.injEq D.int.injEq D.bl.injEq D.str.injEq D.tup.injEq D.lst.injEq D.obj.injEq IT exists_eq_left' exists_eq_left and_true true_and and_assoc exists_eq_right exists_and_left reduceCtorEq false_and and_false exists_false if_true if_false S6 ZI ite_self G4 nF acV acW decide_true decide_false D.Mj D.Sq Bool.and_self MV S7 Og ne_eq not_false_eq_true false_or true_or or_true or_false ail aim ain aio"
local macro_rules|`(tactic|walk_at "rd")=>UN rd1
def Vg{c A B:Prop}[Decidable c](e:c->A)(b:¬c->B):if decide c=Zd then A else B:=by
 by_cases a:c;{rw[Zt (Yq a)];exact e a};rw[Zq (by simp[a])];exact b a
def Ir{c A B:Prop}[Decidable c](e:¬c->A)(b:c->B):if (!decide c)=Zd then A else B:=by
 by_cases a:c;{rw[Zq (by simp[a])];exact b a};rw[Zt (by simp[a])];exact e a
def Ko{a:Type}{x:Za a}{i:Int}{j:Nat}(e:i=(j:Int))(h:j<x.length):Xp x i=Zb x[j]:=by
 subst e;exact WT (ZA h)
def yh{a c:Type}(f:a->c)(n:Za a)(d:a){i:Int}(e:0<=i)(h:i<n.length):Xp (n.map f) i=Zb (f (n.getD i.toNat d)):=by
 have b:i.toNat<n.length:=00
 rw[Ko (j:=i.toNat) (FJ (Ob e)) (by rw[ZI];exact b),N5,IW,ZA b];rfl
def ai2{a:Type}{N:Za a}{d:a}{P:a->Prop}(j:Nat)(h:∀n∈N,P n)(hd:P d):P (N.getD j d):=by
 rw[IW];cases q:N[j]? with|none=>exact hd|some n=>exact h n (YH q)
def yi{e:DE}{q:Za D->Prop}{n:Nat}{s:L2.Slot}{C:ZG}(h:Nat->D)(f:n<=Zo)
  (a:∀i,i<n->∀N:D->Prop,N (h i)->e (.v (.int (i:Int))::C) N (λO=>False))(b:q ((Vj n).map h)):UJ (VG 0) OM e q (L2.intsFrom 0 n) (s::C) []:=by
 show UA (c:=λi:Nat=>.int (0+(i:Int))) (xs:=Vj n) h (by rw[IY];exact f) (λi hi N g=>?_) b;rw[KG];exact a i (Hd.mp hi) N g
noncomputable def Vp(n:Za Int)(k:Int):Int:=n.getD k.toNat 0
def qU:YB:=λx q O=>∃(n:Za Int) (k:Int),x=[.scr (n.map .int),.int k]/\0<=k/\q (.int (Vp n k))
set_option hygiene false
local macro_rules|`(tactic|iterate 7 fail;$a;$[$b];*)=>`(tactic|iterate 7 fail;$[$b];*)
local macro_rules|`(tactic|iterate 7 fail;$a;$[$b];*)=>`(tactic|$a)
open Lean in
def rpO (z w:String)(a:Array Syntax):MacroM (Array Syntax):=do
  let n:=(w.drop 1).toString
  let k:=n.toNat?.getD 0
  let b:Array Term:=(a.extract (a.size-k) a.size).map (#[·])
  let r:=a.extract 0 (a.size-k)
  let t:Term:=#[a.back?.getD default]
  let p:=a.pop
  match w.front with
  |'@'=>return r.pop.push (Syntax.mkApp #[r.back!] b)
  |'['=>return r.push (←`([$b,*]))
  |'|'=>
    let c:Array (TSyntax `tactic):=b.map (#[·])
    return r.push (←`(tactic|iterate 7 fail;$[$c];*;fail))
  |':'=>return p.push (←`(Parser.Term.namedArgument|($(mkIdent n.toName):ident:=$t)))
  |'\''=>return a.push (Syntax.mkStrLit n)
  |'.'=>if n=="." then return a.push (←`(Parser.Term.ellipsis|..)) else return a.push (←`(.$(mkIdent n.toName)))
  |'?'=>return a.push (←`(?_))
  |'_'=>return a.push (←`(_))
  |'!'=>return p.push (←`(tactic|exact $t))
  |'$'=>return p.push (←`(tactic|apply $t))
  |';'=>return p.pop.push (←`(tactic|($(#[p.back!]);$(#[t]))))
  |'%'=>return a.push (←if k==1 then `(fun O=>rfl) else `(fun O O=>rfl))
  |'&'=>return p.push (←`(show RelV $t _ from #[_,U]))
  |'~'=>return p.push (←`(tactic|($(#[t])<;>walk_at $(Syntax.mkStrLit z);done)))
  |'^'=>return p.push (←`(tactic|show $t))
  |_=>return a.push (if w.isNat then Syntax.mkNumLit w else mkIdent w.toName)
open Lean in
def rpn (s:String):MacroM (TSyntax `tactic):=do
  let a←((if s.front=='#' then (s.drop 1).toString else s).splitOn " ").foldlM (λa w=>rpO s w a) #[]
  return #[a[0]!]
local macro_rules|`(tactic|walk_at "i")=>do let t←rpn "JE .. @1 ^ JE _ _ .Name .. @1 _ @4 ^ jv 0 rfl :hN @2 ! jv 1 rfl :hN @2 ! jv 2 rfl :hN @2 ! jv 3 rfl :hN @2 ! jv 4 rfl :hN @2 ! jv 5 rfl :hN @2 ! jv 6 rfl :hN @2 ! jv 7 rfl :hN @2 ! jv 8 rfl :hN @2 ! jv 13 rfl :hN @2 ! Jw 'int :n ? T.az aqk @4 $ Gf .str MH @1 ? T.aiS.choose_spec .str MH @1 & %2 @5 $ Jw 'tuple :n ? T.yf nI @4 $ Jw 'list :n ? T.Km Ec @4 $ jv 9 rfl :hN @2 ! jv 10 rfl :hN @2 ! jv 11 rfl :hN @2 ! Gf .str Kk @1 ? T.aiR.choose_spec .str Kk @1 & %2 @5 $ Gf .str Kl @1 ? T.aiT.choose_spec .str Kl @1 & %2 @5 $ Jw 'str :n ? T.aw aqm @4 $ Gf .int 12 @1 ? T.aiU.choose_spec .int 12 @1 & %2 @5 $ Gf .int 4 @1 ? T.aiV.choose_spec .int 4 @1 & %2 @5 $ jv 12 rfl :hN @2 ! jv 14 rfl :hN @2 ! Jw 'bool :n ? T.ai0 asw @4 $ |25 ; JE _ _ .Constant .. @1 _ @4 ^ Xm ! jl ! ada ! Dk ! |4 ; JE _ _ .Call .. @1 _ @4 ^ RK Gm ? T.RX Hl @4 $ RK dP K :K rfl @2 ? T.au aql @4 $ Pq vF ? T.yf nI @4 $ RK adz ? T.aiY asu @4 $ Pq afw ? T.ay aqj @4 $ RK adx ? T.ai1 ass @4 $ Pq ady ? T.az aqk @4 $ RK adA ? T.aiW asv @4 $ Pq vE ? T.Km Ec @4 $ Xr ai3 T @1 T.zS hr @3 $ Xr aA T @1 T.Fh hr @3 $ Xr ai4 T @1 T.zt hr @3 $ Xr ai5 T @1 T.zr hr @3 $ Xr ai6 T @1 T.zp hr @3 $ Xr ai7 T @1 T.zG hr @3 $ Xr ai8 T @1 T.zT hr @3 $ Xr ai9 T @1 T.zQ hr @3 $ Xr aja T @1 T.zm hr @3 $ Xr qV T @1 T.MI hr @3 $ Xr ajb T @1 T.zI hr @3 $ Xr ajc T @1 T.zo hr @3 $ Xr ajd T @1 T.zu hr @3 $ Xr aje T @1 T.zv hr @3 $ Xr ajf T @1 T.ao hr @3 $ Xr ajg T @1 T.zx hr @3 $ Xr ajh T @1 T.zy hr @3 $ Xr aji T @1 T.zF hr @3 $ Xr ajj T @1 T.zX hr @3 $ Xr ajk T @1 T.zU hr @3 $ Xr ajl T @1 T.zV hr @3 $ Xr ajm T @1 T.zW hr @3 $ Xr ajn T @1 T.zY hr @3 $ Xr ajo T @1 T.zR hr @3 $ Xr ajp T @1 T.zH hr @3 $ Xr ajq T @1 T.zM hr @3 $ Xr ajr T @1 T.zN hr @3 $ Xr ajs T @1 T.zO hr @3 $ Xr ajt T @1 T.zP hr @3 $ Xr aju T @1 T.yd hr @3 $ Xr ajv T @1 T.ya hr @3 $ Xr ajw T @1 T.zZ hr @3 $ Xr ajx T @1 T.yc hr @3 $ Xr ajy T @1 T.zL hr @3 $ |43 ; JE _ _ .BinOp .. @1 _ @4 ^ UH $ ; JE _ _ .Subscript .. @1 _ @4 ^ jL $ XJ $ |2 ; JE _ _ .Attribute .. @1 _ @4 ^ JP K :K @1 $ ; JE _ _ .Tuple .. @1 _ @4 ^ LL $ ; JE _ _ .Compare .. @1 _ @4 ^ Dq $ agj $ |2 ; JE _ _ .BoolOp .. @1 _ @4 ^ vm $ jw $ jx $ |3 ; JE _ _ .List .. @1 _ @4 ^ adl $ ; JE _ _ .UnaryOp .. @1 _ @4 ^ vA $ adi $ |2 ; JE _ _ .IfExp .. @1 _ @4 ^ adk $ ; |12 ; WV .. @1 ^ ZO $ Yw ! |2 ; JS .. @1 ^ aii .Raise _ _ _ @3 :st @1 ! adO .Tuple .. @1 :tg @1 $ ie [0 @1 $ Qr 5 :i ? rfl ? SZ Yw @1 @5 $ Qr 2 :i ? rfl ? SZ Yw @1 @5 $ Qr 3 :i ? rfl ? SZ Yw @1 @5 $ Qq [0 @1 $ Mt [0 @1 $ LV $ VH 2 rfl :hi @2 $ VH 3 rfl :hi @2 $ VH 4 rfl :hi @2 $ VH 5 rfl :hi @2 $ VH 1 rfl :hi @2 $ VH 7 rfl :hi @2 $ VH 6 rfl :hi @2 $ VH 8 rfl :hi @2 $ VH 9 rfl :hi @2 $ VH 14 rfl :hi @2 $ VH 10 rfl :hi @2 $ VH 11 rfl :hi @2 $ VH 12 rfl :hi @2 $ VH 13 rfl :hi @2 $ adP $ |24 ; TL .. @1 ^ Ub $ Xy $ jV ! |3 ; JT .. @1 ^ LJ $ adf $ vl .BoolOp .. @1 :e @1 $ adb $ vj $ |5 ; JW .. @1 ^ adh $ adg $ vk $ Dr $ |4 ; JG .. @1 ^ Uc 0 rfl :hi @2 $ DB 2 :n @1 $ Uc 1 rfl :hi @2 $ Uc 3 rfl :hi @2 $ Uc 5 rfl :hi @2 $ Uc 2 rfl :hi @2 $ Uc 4 rfl :hi @2 $ Uc 6 rfl :hi @2 $ DB 4 :n @1 $ Uc 7 rfl :hi @2 $ DB 3 :n @1 $ Uc 8 rfl :hi @2 $ |12 ; Gq .. @1 ^ vM $ jS ! |2 ; JI .. @1 ^ DF ? T.yg @2 $ gJ ? T.aq @2 $ JK $ |3 ; Tc .. @1 ^ vR ! iq $ |2 ; Wl .. @1 ^ Mp ! Ml ! vr ! vy ! vJ hr.Da @1 $ adB hr.Da @1 $ jC ! adq ! adn ! adt ! Ds ! jE ! ado ! vx ! adm ! |15 ; JO .. @1 ^ adv $ adu ! |2 ; Rc .. @1 ^ agh $ ; |13";`(tactic|iterate 7 fail;rfl;exact .inl rfl;exact .inr rfl;assumption;$t:tactic;exact⟨rfl,rfl,rfl,rfl⟩;exact .inr (.inl rfl);exact .inr (.inr rfl);exactλ_ _=>rfl;exactλ_=>rfl;exact Hi;exact hr.mono (by decide);exact SV;exact hu3 hr;exact GD _ _;decide;exact NY _;(with_unfolding_all rfl);exact Mv;exact hu5 hr;(intro _ h;cases h<;>rfl);exactλ_ _=>⟨_,by with_unfolding_all rfl⟩;intro _;fail)
local macro_rules|`(tactic|walk_at "j")=>`(tactic|repeat' first|walk_at "i"|fail)
open Lean in
local macro_rules|`(tactic|walk_at $s)=>do
  if s.getString.front != '#' then Macro.throwUnsupported
  let t←rpn s.getString
  `(tactic|repeat' first|iterate 7 fail;$t;walk_at "i";fail|fail)
def aA{A:ZC}(T:Txt K mg A):ZK P w K mg base (ZV P w) 1 A.AJ A.qw Bu (Yy K qU):=by
 show T.Fh.F.YR bh 03 (λc g o s H E hr=>#[_,by have:=bh.nd;walk_at "j",λxs q x h=>?_]);let#[n,k,U,f,a]:=h;ac_nf;show Vg (λh=>?_) (λh=>?_)
 ·have b:k.toNat<n.length:=00
  show#[_,Ko (j:=k.toNat) 00 (by rw[ZI];exact b),?_];rw[N5];unfold Vp at a;rw[IW,ZA b]at a;exact a
 unfold Vp at a;rw[IW,yY 00]at a;exact a
noncomputable def Kp(k:Int):Int:=([48271,69621,16807,40692,30269,62089,45991]:Za Int).getD (k%7).toNat 0
noncomputable def WZ(c k:Int):Int:=((c%2147483647+97*k*k+11)*Kp k%2147483629)*((c%2147483647+97*k*k+11)*Kp k%2147483629)%1999999973
def Ni(c k:Int):0<=WZ c k:=Ts _ 01
def Iu(c k:Int):WZ c k<1999999973:=Tq _ 01
def qW:YB:=λx q O=>∃(c k:Int),x=[.int c,.int k]/\-(2^20)<k/\k<2^20/\q (.int (WZ c k))
def ai3{A:ZC}(T:Txt K mg A):ZK P w K mg base (ZV P w) 1 A.AK A.qx Bv (Yy K qW):=by
 show T.zS.F.YR bo 03 (λC j o s H E hr=>#[_,by have:=bo.nd;walk_at "j",λxs q x h=>?_]);let#[c,k,U,f,b,a]:=h;ac_nf;have g:(k%7).toNat<7:=00
 have i:k%7=((k%7).toNat:Int):=00
 show#[01,01,.int (Kp k),?_,?_];{exact yh D.int [48271,69621,16807,40692,30269,62089,45991] 0 00 (by change k%7<7;lia)};ac_nf;have f1:0<=Kp k/\Kp k<100000:=ai2 (P:=λn:Int=>0<=n/\n<100000) _ 01 01;show#[01,.l 01 01,.r 00 00,.r 00 00,01,.l ?_ ?_,01,a];{have:=Ts ((c%2147483647+97*k*k+11)*Kp k) (show(2147483629:Int)≠0 by decide);lia};have:=Tq ((c%2147483647+97*k*k+11)*Kp k) (show(0:Int)<2147483629 by decide);lia
noncomputable def MJ(c:Nat):Bool:=decide (c∈Kk.cps.toList)||decide (c∈MH.cps.toList)||decide (c∈Kl.cps.toList)
noncomputable def yj(c:Nat):Bool:=decide (c∈MH.cps.toList)
noncomputable def VM(x:Ze):Bool:=decide (1<=x.length)&&decide (x.length<=12)&&x.cps.toList.all MJ
noncomputable def fst(x:Ze):Nat:=x.cps.toList.getD 0 0
noncomputable def YS(x:Ze):Bool:=VM x&&yj (fst x)
noncomputable def Wr(x:Ze):Bool:=VM x&&!yj (fst x)
def Fk(c:Nat)(j:Ze):Mq #[[c].toArray] j=decide (c∈j.cps.toList):=by
 unfold Mq;exact StrLaws.found_one _ _
def yk{x:Ze}(h:VM x=Zd):1<=x.length/\x.length<=12:=by
 unfold VM at h;simp only[XX,UF]at h;exact h.1
def Kz{x:Ze}(h:1<=x.length):Xp x.cps.toList 0=Zb (fst x):=by
 have a:0<x.cps.toList.length:=by rw[VY];exact h
 show(Ko (i:=0) (j:=0) U a).trans ?_;unfold fst;rw[IW,ZA a];rfl
def qX:YB:=λx q O=>∃c:Nat,x=[.str #[[c].toArray]]/\q (.bl (MJ c))
theorem ajz{c:Nat}{q:D->Prop}{x:Zg->Prop}:qX [.str #[[c].toArray]] q x=q (.bl (MJ c)):=by unfold qX;simp
def ajc{A:ZC}(T:Txt K mg A):ZK P w K mg base (ZV P w) 1 A.Aj A.rS CV (Yy K qX):=by
 show T.zo.F.YR cE 03 (λC f o s H E hr=>#[_,by have:=cE.nd;walk_at "j",λxs q x h=>?_]);let#[c,U,a]:=h;ac_nf;unfold MJ at a;rw[Fk,Fk,Fk];generalize decide (c∈Kk.cps.toList)=B at a⊢;generalize decide (c∈MH.cps.toList)=b at a⊢;cases B<;>cases b<;>exact a
def yn:YB:=λx q O=>∃z:Ze,x=[.str z]/\z.length<=Zo/\q (.bl (VM z))
theorem ajA{z:Ze}{q:D->Prop}{x:Zg->Prop}:yn [.str z] q x=(z.length<=Zo/\q (.bl (VM z))):=by unfold yn;simp
def ai6{A:ZC}(T:Txt K mg A):ZK P w K mg base (ZV P w) 2 A.Ak A.rT CW (Yy K yn):=by
 show T.zp.F.YR cF 03 (λC m o s H E hr=>#[_,by have:=cF.nd;walk_at "#adU jv 0 @1 @1 $ Wa 'sign [1 [0 [0 @3 $ |2",λxs q x h=>?_]);let#[z,U,b,a]:=h;ac_nf;have f:VM z=Zi->q (.bl Zi):=λe=>by rw[<-e];exact a
 show#[b,Vg (λj=>Ir (λi=>f ?_) (λi=>?_)) (λj=>f ?_)];{unfold VM;rw[XF (show¬z.length<=12 by lia)];simp};{show UA (c:=λc=>.str #[[c].toArray]) (xs:=z.cps.toList) (λc=>.bl (MJ c)) (by rw[VY];exact b) (λc O N g=>?_) ?_;{exact#[c,U,g]};rw[DM];unfold VM at a;rw[Yq (show 1<=z.length by lia),Yq (show z.length<=12 by lia)]at a;exact a};unfold VM;rw[XF (show¬1<=z.length by lia)];simp
def qY:YB:=λx q O=>∃z:Ze,x=[.str z]/\z.length<=Zo/\q (.bl (YS z))
theorem ajB{z:Ze}{q:D->Prop}{x:Zg->Prop}:qY [.str z] q x=(z.length<=Zo/\q (.bl (YS z))):=by unfold qY;simp
def ai5{A:ZC}(T:Txt K mg A):ZK P w K mg base (ZV P w) 3 A.Al A.rV CY (Yy K qY):=by
 show T.zr.F.YR cG 03 (λc f o s H E hr=>#[_,by have:=cG.nd;walk_at "j",λxs q x h=>?_]);let#[z,U,b,a]:=h;ac_nf;show#[z,U,b,?_];simp only[vi];unfold YS at a;cases n:VM z with
 |false=>rw[n]at a;exact a
 |true=>
  rw[Zt U];show#[b,fst z,Kz (yk n).1,?_];rw[Fk];rw[n]at a;exact a
def yo:YB:=λx q O=>∃z:Ze,x=[.str z]/\z.length<=Zo/\q (.bl (Wr z))
theorem ajC{z:Ze}{q:D->Prop}{x:Zg->Prop}:yo [.str z] q x=(z.length<=Zo/\q (.bl (Wr z))):=by unfold yo;simp
def ai4{A:ZC}(T:Txt K mg A):ZK P w K mg base (ZV P w) 3 A.Am A.rX Ba (Yy K yo):=by
 show T.zt.F.YR cH 03 (λc f o s H E hr=>#[_,by have:=cH.nd;walk_at "j",λxs q x h=>?_]);let#[z,U,b,a]:=h;ac_nf;show#[z,U,b,?_];simp only[vi];unfold Wr at a;cases n:VM z with
 |false=>rw[n]at a;exact a
 |true=>
  rw[Zt U];show#[b,fst z,Kz (yk n).1,?_];rw[Fk];rw[n]at a;exact a
noncomputable def PH(z:Za Ze):Bool:=decide (1<=z.length)&&decide (z.length<=4)&&z.all VM
noncomputable def MK(z:Za Ze):Bool:=decide (1<=z.length)&&z.all Wr
def KA(Z:Za Ze):Prop:=Z.length<=1000/\∀z∈Z,z.length<=1000
def yN(d:D)(z:Za Ze):Prop:=d=.lst (z.map .str)\/d=.tup (z.map .str)
def aD:YB:=λx q O=>∃d z,x=[d]/\yN d z/\KA z/\q (.bl (PH z))
def ajd{A:ZC}(T:Txt K mg A):ZK P w K mg base (ZV P w) 3 A.An A.rY Bb (Yy K aD):=by
 show T.zu.F.YR cI 03 (λC p o s H E hr=>#[_,by have:=cI.nd;walk_at "#Wa 'part [1 [0 [0 @3 $",λxs q x h=>?_])
 ·let#[d,Z,U,hd,#[m,f],a]:=h;have j:Zo=16777216:=rfl;have g:PH Z=Zi->q (.bl Zi):=λe=>by rw[<-e];exact a
  have fin:(decide ((1:Int)<=Z.length)=Zd->decide ((Z.length:Int)<=4)=Zd->UJ (VG 0) OM (IE yn (Dm (Dj 0) Dl)) (λxs=>JA [D.lst xs] q) (Z.map .str) [.un] []):=by
   intro c b;simp only[UF]at c b;show UA (λz=>.bl (VM z)) 00 (λz i N n=>#[z,U,by have:=f z i;lia,n]) ?_;rw[DM];unfold PH at a;rw[Yq (show 1<=Z.length by lia),Yq (show Z.length<=4 by lia)]at a;exact a
  rcases hd with rfl|rfl;all_goals
   ac_nf
   show#[01,Vg (λc=>Ir (λb=>g ?_) (λb=>?_)) (λc=>g ?_)]
   {unfold PH;rw[XF (show¬Z.length<=4 by lia)];simp}
   {exact fin (Yq c) (Yq b)}
   unfold PH;rw[XF (show¬1<=Z.length by lia)];simp
def ajD:YB:=λx q O=>∃d z,x=[d]/\yN d z/\KA z/\q (.bl (MK z))
def aje{A:ZC}(T:Txt K mg A):ZK P w K mg base (ZV P w) 4 A.Ao A.rZ Bc (Yy K ajD):=by
 show T.zv.F.YR cJ 03 (λC n o s H E hr=>#[_,by have:=cJ.nd;walk_at "#Wa 'title [1 [0 [0 @3 $",λxs q x h=>?_])
 ·let#[d,Z,U,hd,#[j,b],a]:=h;have i:Zo=16777216:=rfl;have f:MK Z=Zi->q (.bl Zi):=λe=>by rw[<-e];exact a
  have fin:(1<=Z.length->UJ (VG 0) OM (IE yo (Dm (Dj 0) Dl)) (λxs=>JA [D.lst xs] q) (Z.map .str) [.un] []):=by
   intro c;show UA (λz=>.bl (Wr z)) 00 (λz g N m=>#[z,U,by have:=b z g;lia,m]) ?_;rw[DM];unfold MK at a;rw[Yq c]at a;exact a
  rcases hd with rfl|rfl;all_goals
   ac_nf
   show#[01,Vg (λc=>f ?_) (λc=>fin ?_)]
   {unfold MK;rw[XF (show¬1<=Z.length by lia)];simp}
   lia
def rd2:String:=rd1 ++ " ajz ajA ajB ajC"
local macro_rules|`(tactic|walk_at "rd")=>UN rd2
def ajE(d:D):Option (Za Ze)->Prop
 |none=>d=.non
 |some u=>yN d u/\KA u
noncomputable def Sw:Option (Za Ze)->D
 |none=>.non
 |some u=>.tup (u.map .str)
noncomputable def yp:Option (Za Ze)->Bool
 |none=>Zd
 |some u=>MK u
noncomputable def TU(i hd:Ze)(p:Za Ze)(g:Ze)(t:Option (Za Ze)):Bool:=Wr i&&YS hd&&PH p&&(decide (g = "")||Wr g)&&yp t
noncomputable def qZ(i hd:Ze)(p:Za Ze)(a:D)(g:Ze)(t:Option (Za Ze)):Za (Ze×D):=[("title",.str i),("head",.str hd),("parts",.tup (p.map .str)),("weight",a),("tag",.str g),("under",Sw t)]
def aE(A:ZC):Pu:=λs q x=>∃i hd b p a g un t,s=[.str i,.str hd,b,a,.str g,un]/\yN b p/\KA p/\ajE un t/\i.length<=1000/\hd.length<=1000/\g.length<=1000/\
 (TU i hd p g t=Zd->q (qZ i hd p a g t))/\(TU i hd p g t=Zi->False)
def ifB{b:Bool}{A B:Prop}(c:b=Zd->A)(a:b=Zi->B):if b=Zd then A else B:=by
 cases b;{exact a U};exact c U
def PJ{b:Bool}{A B:Prop}(c:b=Zi->A)(a:b=Zd->B):if (!b)=Zd then A else B:=by
 cases b;{exact c U};exact a U
def aF{A:ZC}(T:Txt K mg A):ZK P w K mg base (ZV P w) 5 A.Af A.Fc MG (OO K A.Th (aE A)):=by
 show T.aiN.JR cu (λM q x h=>?_) (λcdv Ar y s H E hr=>#[_,by have:=cu.nd;walk_at "#vN $ Qq [0 @1 $ ; Uz K :K [0 0 ? jv 1 @1 @5 $ Uz K :K [0 0 ? jv 2 @1 @5 $ Uz K :K [0 0 @3 $ Uz K :K [0 0 ? jv 4 @1 @5 $ Uz K :K [0 0 ? jv 5 @1 @5 $ |6",λB J M q x h=>?_]);{let#[i,hd,c,p,n,g,un,t,U,_]:=h;rfl};let#[i,hd,c,p,n,g,un,t,U,j,G,a,l1,l2,l3,L,Z]:=h;have hsz:Zo=16777216:=rfl;have no:TU i hd p g t=Zi->False:=Z;have f:∀{N:D->Prop},N (.bl (PH p))->aD [c] N x:=λh=>#[c,p,U,j,G,h]
 show#[λb=>b=[.ob B J A.Th [],.v (.str i),.v (.str hd),.v c,.v n,.v (.str g),.v un]/\Wr i=Zd/\YS hd=Zd/\PH p=Zd,?_,?_];{ac_nf;show#[00,PJ (λe=>no (by unfold TU;rw[e];rfl)) λm=>#[00,PJ (λe=>no (by unfold TU;rw[m,e];rfl)) λo=>f ?_]];ac_nf;exact PJ (λe=>no (by unfold TU;rw[m,o,e];rfl)) λI=>#[m,o,I]};rintro _ ⟨rfl,m,o,I⟩;show#[λb=>b=[.ob B J A.Th [],.v (.str i),.v (.str hd),.v c,.v n,.v (.str g),.v un]/\(decide (g = "")||Wr g)=Zd,?_,?_];{ac_nf;show Ir (λz=>#[00,PJ (λe=>no (by unfold TU;rw[e,XF z];simp)) λe=>by rw[e];simp]) (λz=>by rw[Yq z];rfl)};rintro _ ⟨rfl,e4⟩;show#[λb=>b=[.ob B J A.Th [],.v (.str i),.v (.str hd),.v c,.v n,.v (.str g),.v un]/\yp t=Zd,?_,?_]
 ·ac_nf;cases t with
  |none=>
   rw[show un=.non from a];ac_nf;rfl
  |some u=>
   have C:un.Qp=Zi:=by rcases a.1 with z|z<;>rw[z]<;>rfl
   rw[C];show#[un,u,U,a.1,a.2,?_];ac_nf;exact PJ (λe=>no (by unfold TU;rw[show yp (Zb u)=MK u from rfl,e];simp)) λe=>e
 rintro _ ⟨rfl,e5⟩;have good:TU i hd p g t=Zd:=by unfold TU;rw[m,o,I,e4,e5];rfl
 ac_nf;have Y:∀{N:D->Prop},N (.tup (p.map .str))->Dw [c] N:=λh=>by
  rcases j with rfl|rfl<;>exact h
 show#[T.RV,T.bO,01,T.RV,T.bP,by change 1<1000;decide,T.RV,T.bQ,by change 2<1000;decide,Y #[T.RV,T.bR,by change 3<1000;decide,T.RV,T.bS,by change 4<1000;decide,T.RV,T.bT,by change 5<1000;decide,?_]];cases t with
 |none=>
  rw[show un=.non from a];exact L good
 |some u=>
  have C:un.Qp=Zi:=by rcases a.1 with z|z<;>rw[z]<;>rfl
  rw[C];have Q:∀{N:D->Prop},N (.tup (u.map .str))->Dw [un] N:=λh=>by
   rcases a.1 with z|z<;>rw[z]<;>exact h
  exact Q (L good)
structure Ru where
 ti:Ze
 hd:Ze
 ps:List Ze
 wa:Int
 wb:Int
 tg:Ze
 t:Option (List Ze)
noncomputable def wD(a b:Int):D:=.tup [.int a,.int b]
noncomputable def Ru.d(A:ZC)(r:Ru):D:=.obj A.Th (qZ r.ti r.hd r.ps (wD r.wa r.wb) r.tg r.t)
def Ru.Fit(r:Ru):Prop:=r.ti.length<=1000/\r.hd.length<=1000/\KA r.ps/\∀u,r.t=Zb u->KA u
def PK(s:Za Ru):Prop:=s.length<=1000/\∀r∈s,r.Fit
noncomputable def PL(A:ZC)(z:Ze):D:=.obj (if z = "cost" then A.PB else A.PC) []
noncomputable def Rh(z:Ze)(a:Int):Bool:=decide (z = "cost")||decide (0<a)
section
variable {A:ZC} [T:Txt K mg A] {q:D->Prop}{r:Ru}
include T
theorem ajF:D.fld K "title" (r.d A) q=q (.str r.ti):=D.Ve T.RV T.bO U
theorem ajG:D.fld K "head" (r.d A) q=q (.str r.hd):=D.Ve T.RV T.bP U
theorem ajH:D.fld K "parts" (r.d A) q=q (.tup (r.ps.map .str)):=D.Ve T.RV T.bQ U
theorem ajI:D.fld K "weight" (r.d A) q=q (wD r.wa r.wb):=D.Ve T.RV T.bR U
theorem ajJ:D.fld K "tag" (r.d A) q=q (.str r.tg):=D.Ve T.RV T.bS U
theorem ajK:D.fld K "under" (r.d A) q=q (Sw r.t):=D.Ve T.RV T.bT U
end
def rd3:String:=rd2 ++ " ajF ajG ajH ajI ajJ ajK"
local macro_rules|`(tactic|walk_at "rd")=>UN rd3
def ajL(A:ZC):YB:=λs q x=>∃z:Ze,s=[.str z]/\((z = "cost" \/z = "chance")->q (PL A z))/\(z ≠ "cost" ->z ≠ "chance" ->False)
def aja{A:ZC}(T:Txt K mg A):ZK P w K mg base (ZV P w) 1 A.Ai A.rR CU (Yy K (ajL A)):=by
 show T.zm.F.YR cD 03 (λC g o s H E hr=>#[_,by have:=cD.nd;walk_at "#iH T.aiB ? T.aiA @3 $ iH T.aiE ? T.aiD @3 $ |2",λxs q x h=>?_]);let#[z,U,a,c]:=h;ac_nf;show Vg (λe=>?_) (λb=>Vg (λe=>?_) (λf=>c b f));{have:=a (.inl e);unfold PL at this;rw[Zt e]at this;exact this};have:=a (.inr e);unfold PL at this;rw[Zq b]at this;exact this
def aG:YB:=λx q O=>∃o w,x=[o,w]/\q (.bl Zd)
def ajM{A:ZC}(T:Txt K mg A):ZK P w K mg base (ZV P w) 1 A.Ag A.rP CQ (Yy K aG):=by
 show T.B_Cost_takes.F.YR cB 03 (λc f a s H E hr=>#[_,by have:=cB.nd;walk_at "j",λxs q x h=>?_]);let#[o,w,U,b]:=h;ac_nf;exact b
def aH:YB:=λx q O=>∃o a b,x=[o,wD a b]/\q (.bl (decide (0<a)))
def ajN{A:ZC}(T:Txt K mg A):ZK P w K mg base (ZV P w) 1 A.Ah A.rQ CT (Yy K aH):=by
 show T.B_Chance_takes.F.YR cC 03 (λC g c s H E hr=>#[_,by have:=cC.nd;walk_at "j",λxs q x h=>?_]);let#[o,a,b,U,f]:=h;unfold wD;ac_nf;exact#[_,U,f]
def aJ{A:ZC}(T:Txt K mg A)(z:Ze):∃C g,PL A z=.obj C []/\iD P w K mg base 1 C "takes" g/\∀{a b:Int}{q:D->Prop}{x:Zg->Prop},q (.bl (Rh z a))->g [PL A z,wD a b] q x:=by
 by_cases e:z = "cost";{show#[A.PB,aG,by unfold PL;rw[Zt e],#[T.aiz,_,_,_,T.B_Cost_takes.e,ajM T,T.B_Cost_takes.a],λ{a b q x} h=>#[_,_,U,?_]];unfold Rh at h;rw[Yq e]at h;exact h};show#[A.PC,aH,by unfold PL;rw[Zq e],#[T.aiC,_,_,_,T.B_Chance_takes.e,ajN T,T.B_Chance_takes.a],λ{a b q x} h=>#[_,_,_,U,?_]];unfold Rh at h;rw[XF e]at h;exact h
noncomputable def Ri(z:Ze):Za Ze->Za Ru->Nat
 |_,[]=>0
 |seen,r::s=>if Rh z r.wa=Zi then 1 else if r.ti∈seen then 2 else Ri z (seen++[r.ti]) s
def ajO(A:ZC):YB:=λa q x=>∃(z:Ze) (s:Za Ru),a=[PL A z,.lst (s.map (Ru.d A))]/\PK s/\(Ri z [] s=0->q .non)/\(Ri z [] s=1->False)/\(Ri z [] s=2->False)
def ajf{A:ZC}(T:Txt K mg A):ZK P w K mg base (ZV P w) 2 A.bJ A.qc Be (Yy K (ajO A)):=by
 show T.ao.F.YR cL 03 (λI Ar o s H E hr=>#[_,by have:=cL.nd;walk_at "#Ra 1 :k ? ? jv 0 @1 @4 $ Qq 2 [1 @1 $ Qs [0 2 @2 $ |3",λxs q x h=>?_]);let#[z,a,U,#[l1,L],G,B,y]:=h;ac_nf;have p:Zo=16777216:=rfl;show#[01,[],?_];ac_nf;show Td (λi ds=>∃s,ds=[.v (PL A z),.v (.lst (a.map (Ru.d A))),.own (((a.take i).map (·.ti)).map .str),s]/\Ri z ((a.take i).map (·.ti)) (a.drop i)=Ri z [] a) #[.un,U,U] (λi r ds N hr hi u=>?_) (λds hi=>?_)
 ·let#[s,U,c]:=hi;let#[C,g,e,M,n]:=aJ (P:=P) (w:=w) (base:=base) T z;let#[j,f]:=YM.mp hr;rw[Od j,f,Ri]at c;let#[Z,Y,Q,J]:=L r (YH hr);have lt:(a.take i).length<=1000:=by rw[WL];lia
  ac_nf;show#[C,[],e,g,M,U,n ?_];ac_nf;show PJ (λb=>B ?_) (λb=>Vg (λm=>y ?_) (λm=>#[00,u _ #[.v (r.d A),?_,?_]]));{rw[<-c,Zt b]};{rw[<-c,Zq (by rw[b];decide),Zt m]};{rw[Um,hr];simp};rw[Zq (by rw[b];decide),Zq m]at c;rw[Um,hr,<-c];simp
 let#[s,U,c]:=hi;rw[oS]at c;exact G c.symm
def ajP(s:Za Ru):s.map (λr=>D.str r.ti)=(s.map (·.ti)).map .str:=by rw[YG];rfl
def ajQ(s:Za Ru):s.map (λr=>D.str r.hd)=(s.map (·.hd)).map .str:=by rw[YG];rfl
theorem ajR:Sw Zc=.non:=rfl
theorem ajS{u:Za Ze}:Sw (Zb u)=.tup (u.map .str):=rfl
def rd4:String:=rd3 ++ " ajR ajS"
local macro_rules|`(tactic|walk_at "rd")=>UN rd4
noncomputable def ML(s:Za Ze)(r:Ru):Bool:=match r.t with
 |none=>Zd
 |some a=>a.all λu=>decide (u∈s)
noncomputable def Kq(s:Za Ru):Bool:=s.all (ML (s.map (·.ti)))
def ajT(A:ZC):YB:=λa q x=>∃s:Za Ru,a=[.lst (s.map (Ru.d A))]/\PK s/\(Kq s=Zd->q .non)/\(Kq s=Zi->False)
def ajg{A:ZC}(T:Txt K mg A):ZK P w K mg base (ZV P w) 1 A.Ap A.qd Bf (Yy K (ajT A)):=by
 show T.zx.F.YR cM 03 (λC Q o s H E hr=>#[_,by have:=cM.nd;walk_at "#Wa 'rule [1 [0 [0 @3 $ ~ Wa 'title [1 'titles [1 1 [1 @3 $ ~ |2",λxs q x h=>?_]);let#[a,U,#[I,L],y,p]:=h;have z:Zo=16777216:=rfl;ac_nf;show UA (λr=>.str r.ti) 00 (λr hr N f=>?_) ?_;{ac_nf;exact f};rw[ajP];show#[[],?_];ac_nf;show Td (λi ds=>∃s,ds=[.v (.lst (a.map (Ru.d A))),.v (.lst ((a.map (·.ti)).map .str)),s]/\(a.take i).all (ML (a.map (·.ti)))=Zd) #[.un,U,U] (λi r ds N hr hi j=>?_) (λds hi=>?_)
 ·let#[s,U,c]:=hi;let#[G,B,M,m]:=L r (YH hr);have n:ML (a.map (·.ti)) r=Zd->N [.v (.lst (a.map (Ru.d A))),.v (.lst ((a.map (·.ti)).map .str)),.v (r.d A)]:=λe=>by
   show j _ #[_,U,?_];rw[Um,hr,apq,c];simp[e]
  have bad:ML (a.map (·.ti)) r=Zi->False:=λe=>p (by
   unfold Kq
   rw[apr]
   exact#[r,(YH hr),by rw[e];decide])
  ac_nf;cases b:r.t with
  |none=>
   ac_nf;exact n (by unfold ML;rw[b])
  |some g=>
   let⟨f1,f2⟩:=m g b;ac_nf;show UA (λu=>.bl (decide (u∈a.map (·.ti)))) 00 (λu J N f=>?_) ?_;{ac_nf;exact f};ac_nf;exact PJ (λe=>bad (by unfold ML;rw[b];exact e)) (λe=>n (by unfold ML;rw[b];exact e))
 let#[s,U,c]:=hi;rw[TZ]at c;exact y c
noncomputable def Fl(s:Za Ze)(r:Ru):Bool:=(r.ps.filter YS).all λp=>decide (p∈s)
noncomputable def ck(st:Ze)(s:Za Ru):Bool:=decide (st∈s.map (·.hd))&&s.all (Fl (s.map (·.hd)))
def ajU(A:ZC):YB:=λa q x=>∃(st:Ze) (s:Za Ru),a=[.str st,.lst (s.map (Ru.d A))]/\PK s/\(ck st s=Zd->q .non)/\(ck st s=Zi->False)
def ajh{A:ZC}(T:Txt K mg A):ZK P w K mg base (ZV P w) 4 A.Aq A.qe Bg (Yy K (ajU A)):=by
 show T.zy.F.YR cN 03 (λC J o s H E hr=>#[_,by have:=cN.nd;walk_at "#Wa 'rule [1 [0 [0 @3 $ ~ Wa 'part [1 'heads [1 2 [1 @3 $ ~ |2",λxs q x h=>?_]);let#[st,a,U,#[I,L],u,g]:=h;have j:Zo=16777216:=rfl;ac_nf;show UA (λr=>.str r.hd) 00 (λr hr N b=>?_) ?_;{ac_nf;exact b};rw[ajQ];ac_nf;show Ir (λe=>g (by unfold ck;rw[XF e];rfl)) (λe=>#[[],?_]);ac_nf;show Td (λi ds=>∃s,ds=[.v (.str st),.v (.lst (a.map (Ru.d A))),.v (.lst ((a.map (·.hd)).map .str)),s]/\(a.take i).all (Fl (a.map (·.hd)))=Zd) #[.un,U,U] (λi r ds N hr hi n=>?_) (λds hi=>?_);{let#[s,U,c]:=hi;let#[G,B,#[y,m],M]:=L r (YH hr);ac_nf;show LX YS (λp=>.bl (decide (p∈a.map (·.hd)))) 00 (λp f N b=>?_) (λp f O N b=>?_) ?_;{ac_nf;exact#[by have:=m p f;lia,b]};{ac_nf;exact b};ac_nf;show PJ (λz=>g ?_) (λz=>n _ #[_,U,?_]);{unfold ck;rw[show a.all (Fl (a.map (·.hd)))=Zi from by rw[apr];exact#[r,(YH hr),by unfold Fl;rw[z];decide]];simp};rw[Um,hr,apq,c];simp only[Option.toList_some,KL,List.all_nil,MV,S7];exact z};let#[s,U,c]:=hi;rw[TZ]at c;exact u (by unfold ck;rw[Yq e,c];rfl)
noncomputable def VW(a:Za (Ze×Ze))(w:Za Ze):Za Ze:=(a.filter λs=>decide (s.2∈w)).map (·.1)
inductive UO (steps:List (Ze×Ze)):List Ze->List Ze->List Ze->List Ze->Prop
 | stop {w o:List Ze}:UO steps w [] o o
 |step {w r o res:List Ze}:r≠[]->UO steps (w.filter λh=>decide (h∈VW steps w)) (w.filter λh=>!decide (h∈VW steps w)) (o++w.filter λh=>!decide (h∈VW steps w)) res->UO steps w r o res
noncomputable def Kr(a:Za Ze)(k:Ze):Za Ze:=if k∈a then a else a++[k]
noncomputable def Fm(z:Za Ze):Za Ze:=z.foldl Kr []
def pd(Z:Za Ze):VV (Z.map Wh)=(Fm Z).map Wh:=by
 have go:∀(Z a:Za Ze),(Z.map Wh).foldl RN (a.map Wh)=(Z.foldl Kr a).map (Wh:Ze->Zx):=by
  intro Z;induction Z with
  |nil=>intro a;rfl
  |cons z Z i=>
   intro a;rw[Xo,Rr,Rr,<-i];congr 1;unfold RN Kr;have:(Wh z:Zx)∈a.map Wh↔z∈a:=by
    rw[ZW];exact#[λ⟨y,h,e⟩=>aq2 e▸h,λh=>#[z,h,U]]
   by_cases e:z∈a;{rw[Zt e,Zt (this.mpr e)]};rw[Zq e,Zq (λh=>e (this.mp h)),Xt];rfl
 exact go Z []
def aoA(more:Za (Zx×D)):∀s:Za (Zx×D),(Pw s more).map (·.1)=(more.map (·.1)).foldl RN (s.map (·.1)):=by
 induction more with
 |nil=>intro s;rfl
 |cons m more i=>
  intro s;rw[show Pw s (m::more)=Pw (OS s m.1 m.2) more from rfl,i,Xo,Rr];congr 1;unfold OS RN;have E:(s.any λa=>decide (a.1=m.1))=decide (m.1∈s.map (·.1)):=by
   rw[Qb];simp only[KM,UF,ZW]
  rw[E];by_cases e:m.1∈s.map (·.1);{rw[Zt (Yq e),Zt e,YG];show IZ λa O=>?_;change(if a.1=m.1 then (a.1,m.2)else a).1=a.1;split<;>rfl};rw[Zq ↑e,Zq e,Xt];rfl
noncomputable def VI(s:Za Ru):Za (Ze×Ze):=(s.filter λr=>decide (r.ps.length=1)).map λr=>(r.hd,r.ps.getD 0 "")
noncomputable def YX(s:Za Ru):Za Ze:=Fm (s.map (·.hd))
def ajV(z:Za Ze):(Fm z).length<=z.length:=by
 have:=ue (z.map Wh);rw[pd]at this;simpa using this
def aK{b:Type}(w:Za b)(p:b->Bool):(w.filter p).length+(w.filter λh=>!p h).length=w.length:=by
 induction w with
 |nil=>rfl
 |cons a w i=>
  rw[yW,yW];cases p a<;>simp<;>lia
def aM{d:D}{x:Za D}{q:Za D->Prop}(h:d=.lst x\/d=.tup x)(a:q x):vO (λO q O=>q d) [] q (λO=>False):=by
 rcases h with rfl|rfl<;>exact a
def ajW(A:ZC):YB:=λx q O=>∃(s:Za Ru) (res:Za Ze) (d:D),x=[d]/\(d=.lst (s.map (Ru.d A))\/d=.tup (s.map (Ru.d A)))/\PK s/\UO (VI s) (YX s) (YX s) [] res/\q (.lst (res.map .str))
set_option tactic.hygienic true in
def ai7{A:ZC}(T:Txt K mg A):ZK P w K mg base (ZV P w) 1 A.Av A.qg Bi (Yy K (ajW A)):=by
 show T.zG.F.YR cP 03 (λZ Ar n s H E hr=>#[_,by have:=cP.nd;walk_at "#Pq afz ? T.Km Ec @4 $ ad1 [0 3 jv 4 @1 @3 $ Mt 3 [1 jv 3 @1 @2 $ LW 1 :i 'rule [1 [0 [0 ? rfl @6 $ ~ Wa 'rule [1 [0 [0 @3 $ ~ Wa 'head 'part [2 'waiting [1 2 [1 @3 $ ~ LW 4 :i 'head [1 'held [1 5 [1 ? rfl @6 $ ~ Wa 'head [1 'held [1 5 [1 @3 $ ~ |8",λxs q x h=>?_]);let#[c,res,d,U,hd,#[l1,l2],G,C]:=h;have B:Zo=16777216:=rfl;ac_nf;show aM hd ?_;show LX (λr=>decide (r.ps.length=1)) (λr=>.tup [.str r.hd,.str (r.ps.getD 0 "")]) 00 (λr hr N b=>?_) (λr hr y N b=>?_) ?_
 ·ac_nf;have:(decide ((r.ps.length:Int)=1))=decide (r.ps.length=1):=by rw[Qb];simp only[UF];lia
  rw[this];exact b
 {have y:r.ps.length=1:=Se y;ac_nf;exact#[_,yh D.str r.ps "" (i:=0) 01 00,01,b]};show aM hd ?_;show UA (λr=>.tup [.str r.hd,.bl Zd]) 00 (λr hr N b=>?_) ?_;{ac_nf;exact#[01,b]};show#[c.map λr=>(Wh r.hd,.bl Zd),by rw[YG];rfl,_,U,?_];have I:(Pw [] (c.map λr=>((Wh r.hd:Zx),D.bl Zd))).map (λp=>kD p.1)=(YX c).map .str:=by
  have e:=aoA (c.map λr=>((Wh r.hd:Zx),D.bl Zd)) [];have Y:(c.map λr=>((Wh r.hd:Zx),D.bl Zd)).map (·.1)=(c.map (·.hd)).map Wh:=by rw[YG,YG];rfl
  rw[Y]at e;have Q:(Pw [] (c.map λr=>((Wh r.hd:Zx),D.bl Zd))).map (·.1)=(YX c).map Wh:=e.trans (pd _);rw[show(λp:Zx×D=>kD p.1)=kD ∘ (·.1)from rfl,<-YG,Q,YG];rfl
 have J:(c.filter λr=>decide (r.ps.length=1)).map (λr=>D.tup [.str r.hd,.str (r.ps.getD 0 "")])=(VI c).map λs=>.tup [.str s.1,.str s.2]:=by unfold VI;rw[YG];rfl
 rw[I,J];have ls:(VI c).length<=1000:=by
  unfold VI;rw[ZI];have:=IX (λr:Ru=>decide (r.ps.length=1)) c;lia
 have L:(YX c).length<=1000:=by
  unfold YX;have:=ajV (c.map (·.hd));rw[ZI]at this;lia
 generalize VI c=a at *;generalize YX c=u at *;show#[01,λm ds=>∃(w r o:Za Ze) (s:L2.Slot),ds=[.v d,.v (.lst (a.map λs=>.tup [.str s.1,.str s.2])),.v (.lst (w.map .str)),.own (o.map .str),.v (.lst (r.map .str)),s]/\UO a w r o res/\w.length+o.length<=1000/\m=2*w.length+(if r=[]then 0 else 1),#[_,u,u,[],.un,U,G,↑L,U],?_];rintro m _ ⟨w,r,o,s,rfl,f,hl,rfl⟩;ac_nf;have em:(r.map D.str).isEmpty=r.isEmpty:=by cases r<;>rfl
 rw[em];show PJ (λj=>?_) (λj=>?_)
 ·have hr:r≠[]:=λz=>by rw[z]at j;cases j
  cases f with
  |stop=>exact ZJ U hr
  |step _ f=>
  have ll:=aK w (λh=>decide (h∈VW a w));have M:(a.filter λs=>decide (s.2∈w)).map (λs=>D.str s.1)=(VW a w).map .str:=by unfold VW;rw[YG];rfl
  show ud (λs=>decide (s.2∈w)) (λs=>.str s.1) 00 (λs g N b=>?_) (λs g O N b=>?_) ?_;{ac_nf;exact b};{ac_nf;exact b};rw[M];show LX (λh=>!decide (h∈VW a w)) .str 00 (λs g N b=>?_) (λs g O N b=>?_) ?_;{ac_nf;exact b};{ac_nf;exact b};show LX (λh=>decide (h∈VW a w)) .str 00 (λs g N b=>?_) (λs g O N b=>?_) ?_;{ac_nf;exact b};{ac_nf;exact b};show#[by simp only[ZI];lia,_,?_,_,U,_,o++w.filter (λh=>!decide (h∈VW a w)),by rw[Xt],U,f,by rw[Yx];lia,U];rw[Zq hr];split;{lia};rename_i z;have:=N8.mpr z;lia
 have hr:r=[]:=N7.mp j;subst hr;cases f with|stop=>exact C|step z _=>exact ZJ U z
def ajX(A:ZC):YB:=λa q x=>∃(s:Za Ru) (res:Za Ze),a=[.lst (s.map (Ru.d A))]/\PK s/\UO (VI s) (YX s) (YX s) [] res/\((YX s).length<=res.length->q .non)/\(res.length<(YX s).length->False)
def aji{A:ZC}(T:Txt K mg A):ZK P w K mg base (ZV P w) 2 A.Au A.qf Bh (Yy K (ajX A)):=by
 show T.zF.F.YR cO 03 (λC j o s H E hr=>#[_,by have:=cO.nd;walk_at "#LW 1 :i 'rule [1 [0 [0 ? rfl @6 $ afn ? T.RX ? T.aiZ jv 1 @1 @5 $ |2",λxs q x h=>?_]);let#[a,res,U,#[L,b],c,i,g]:=h;have z:Zo=16777216:=rfl;ac_nf;show UA (λr=>.str r.hd) 00 (λr hr N f=>?_) ?_;{ac_nf;exact f};show#[a,res,_,U,.inl U,#[L,b],c,?_];ac_nf;show#[(a.map (·.hd)).map Wh,by rw[YG,YG];rfl,by rw[ZI,ZI];exact Nat.lt_succ_of_le (Yp L (Le _ _)),?_];rw[pd,ZI];exact Vg (λe=>g (by unfold YX;lia)) (λe=>i (by unfold YX;lia))
noncomputable def ph(A:ZC)(z st:Ze)(s:Za Ru):Za (Ze×D):=[("scale",.str z),("start",.str st),("rules",.tup (s.map (Ru.d A)))]
def ajY(A:ZC)(z st:Ze)(s:Za Ru)(q:Za (Ze×D)->Prop)(x:Zg->Prop):Prop:=
 (z ≠ "cost" /\z ≠ "chance" /\False)\/((z = "cost" \/z = "chance")/\((Ri z [] s=1/\False)\/(Ri z [] s=2/\False)\/(Ri z [] s=0/\((Kq s=Zi/\False)\/(Kq s=Zd/\((ck st s=Zi/\False)\/(ck st s=Zd/\
  ∃res,UO (VI s) (YX s) (YX s) [] res/\((res.length<(YX s).length/\False)\/((YX s).length<=res.length/\q (ph A z st s))))))))))
def aO(A:ZC):Pu:=λa q x=>∃(z st:Ze) (s:Za Ru),a=[.str z,.str st,.lst (s.map (Ru.d A))]/\PK s/\ajY A z st s q x
def ajZ{A:ZC}(T:Txt K mg A):ZK P w K mg base (ZV P w) 5 A.Fd A.rM CN (OO K A.Nf (aO A)):=by
 show T.B_Grammar___init__.F.JR cy (λi q x h=>?_) (λC B o s H E hr=>#[_,by have:=cy.nd;walk_at "#Uz K :K [0 0 ? jv 1 @1 @5 $ Uz K :K [0 0 ? jv 2 @1 @5 $ Uz K :K [0 0 @3 $ |3",λu y i q x h=>?_]);{let#[z,st,f,U,_]:=h;rfl};let#[z,st,f,U,hr,m]:=h;ac_nf;rcases m with⟨N,n,c⟩|⟨j,m⟩;{exact#[z,U,λh=>(h.elim N n).elim,λO O=>c]};show#[z,U,λO=>?_,λa b=>(j.elim a b).elim];rcases m with⟨e,c⟩|⟨e,c⟩|⟨e,m⟩;{exact#[z,f,U,hr,λh=>00,λO=>c,λh=>00]};{exact#[z,f,U,hr,λh=>00,λh=>00,λO=>c]};show#[z,f,U,hr,λO=>?_,λh=>00,λh=>00];rcases m with⟨e,c⟩|⟨e,m⟩;{exact#[f,U,hr,λh=>(by rw[e]at h;cases h),λO=>c]};show#[f,U,hr,λO=>?_,λh=>by rw[e]at h;cases h];rcases m with⟨e,c⟩|⟨e,res,g,m⟩;{exact#[st,f,U,hr,λh=>(by rw[e]at h;cases h),λO=>c]};show#[st,f,U,hr,λO=>?_,λh=>by rw[e]at h;cases h];rcases m with⟨e,c⟩|⟨e,p⟩;{exact#[f,res,U,hr,g,λh=>00,λO=>c]};exact#[f,res,U,hr,g,λO=>⟨T.Ip,T.bU,01,T.Ip,T.bV,by change 1<1000;decide,T.Ip,T.bW,by change 2<1000;decide,p⟩,λh=>Nat.not_le_of_lt h e]
noncomputable def Gr(A:ZC)(z st:Ze)(s:Za Ru):D:=.obj A.Nf (ph A z st s)
section
variable {A:ZC} [T:Txt K mg A] {q:D->Prop}{z st:Ze}{s:Za Ru}
include T
theorem aj0:D.fld K "scale" (Gr A z st s) q=q (.str z):=D.Ve T.Ip T.bU U
theorem aj1:D.fld K "start" (Gr A z st s) q=q (.str st):=D.Ve T.Ip T.bV U
theorem aj2:D.fld K "rules" (Gr A z st s) q=q (.tup (s.map (Ru.d A))):=D.Ve T.Ip T.bW U
end
def rd5:String:=rd4 ++ " aj0 aj1 aj2"
local macro_rules|`(tactic|walk_at "rd")=>UN rd5
def yq(s:Za Ru)(r:Ru)(a:Int)(q:Bool->Prop):Prop:=match r.t with
 |none=>q Zd
 |some u=>if a=-1 then q Zi else∃b,s[a.toNat]?=Zb b/\0<=a/\q (decide (b.ti∈u))
def aj3(A:ZC):YB:=λx q O=>∃(z st:Ze) (s:Za Ru) (i:Nat) (a:Int) (r:Ru),x=[Gr A z st s,.int i,.int a]/\s[i]?=Zb r/\yq s r a λb=>q (.bl b)
def ajp{A:ZC}(T:Txt K mg A):ZK P w K mg base (ZV P w) 1 A.Aw A.qi Bj (Yy K (aj3 A)):=by
 show T.zH.F.YR cQ 03 (λC B o s H E hr=>#[_,by have:=cQ.nd;walk_at "j",λxs q x h=>?_]);let#[z,st,b,i,u,r,U,hr,m]:=h;ac_nf;have a:Xp (b.map (Ru.d A)) (i:Int)=Zb (r.d A):=WT (by rw[YC,hr];rfl);show#[_,a,?_];ac_nf;unfold yq at m;cases f:r.t with
 |none=>
  rw[f]at m;ac_nf;exact m
 |some y=>
  rw[f]at m;simp only at m;ac_nf;show Ir (λe=>?_) (λe=>?_);{rw[Zq e]at m;let#[c,p,n,g]:=m;show#[c.d A,?_,?_];{have:=WT (xs:=b.map (Ru.d A)) (j:=u.toNat) (v:=c.d A) (by rw[YC,p];rfl);rw[Ob n]at this;exact this};ac_nf;exact g};rw[Zt e]at m;exact m
abbrev VJ:Ze := "abcdefghijklmnopqrstuvwxyz0123456789ABCDEFGHIJKLMNOPQRSTUVWXYZ"
def yr(x:Ze)(lo hi:Option Int){n:Nat}(h:x.length<=n):(Tw x lo hi).length<=n:=Yp (xx x lo hi) h
def pj(x y:Ze):(x++y).length=x.length+y.length:=by
 change(x.cps++y.cps).size=_;rw[Array.size_append];rfl
def Ks(F z:Ze):Prop:=∃c r,z.cps.toList=c::r/\c∈F.cps.toList/\(∀d∈r,d∈VJ.cps.toList)/\r.length<=11
def Ks.len{F z:Ze}(h:Ks F z):1<=z.length/\z.length<=12:=by
 let#[c,r,e,_,_,a]:=h;rw[HX,e,Yu];lia
def pq{f:Nat->Ze}{n:Nat}(h:∀i j,i<j->j<n->f i≠f j):((Vj n).map f).Nodup:=by
 show NB.mpr (apm (λ{a b} _ c lt=>h a b lt (Hd.mp c)) M7)
noncomputable def VL(F:Ze)(i:Int):Nat:=F.cps.toList.getD (i%(F.length:Int)).toNat 0
def Nj{F:Ze}(h:0<F.length)(i:Int):Xp F.cps.toList (i%(F.length:Int))=Zb (VL F i)/\VL F i∈F.cps.toList:=by
 have b:=Ts i (show(F.length:Int)≠0 by lia);have c:=Tq i (show(0:Int)<F.length by lia);have a:(i%(F.length:Int)).toNat<F.cps.toList.length:=by rw[<-HX];lia
 have e:VL F i=F.cps.toList[(i%(F.length:Int)).toNat]:=by
  unfold VL;rw[IW,ZA a];rfl
 rw[e];exact#[Ko (FJ (Ob b)) a,La a]
def aP{F:Ze}(g:F.cps.toList.Nodup){n:Nat}(p:n<=F.length)(a:Int){i j:Nat}(lt:i<j)(o:j<n):VL F (a+i)≠VL F (a+j):=by
 intro e;have b:=(Nj (F:=F) 00 (a+i)).1;have c:=(Nj (F:=F) 00 (a+j)).1;rw[e]at b;have B:=Ts (a+i) (show(F.length:Int)≠0 by lia);have s:=Tq (a+i) (show(0:Int)<F.length by lia);have q:=Ts (a+j) (show(F.length:Int)≠0 by lia);have C:=Tq (a+j) (show(0:Int)<F.length by lia);have f:((a+i)%(F.length:Int)).toNat<F.cps.toList.length:=by rw[<-HX];lia
 have L:((a+j)%(F.length:Int)).toNat<F.cps.toList.length:=by rw[<-HX];lia
 rw[Ko (j:=((a+i)%(F.length:Int)).toNat) (FJ (Ob B)) f]at b;rw[Ko (j:=((a+j)%(F.length:Int)).toNat) 00 L]at c;have:=(apC g).mp (VE (b.trans c.symm));have eq:(a+i)%(F.length:Int)=(a+j)%(F.length:Int):=00
 have:=Int.emod_emod_of_dvd (a+j-(a+i)) (Int.dvd_refl (F.length:Int));have d:((a+j)-(a+i))%(F.length:Int)=0:=Int.emod_eq_emod_iff_emod_sub_eq_zero.mp eq.symm;have m:(a+j)-(a+i)=((j:Int)-i):=00
 rw[m,Int.emod_eq_of_lt 00 00]at d;lia
noncomputable def PN(m:Int):Za Nat:=(Vj 11).map λ(j:Nat)=>VL VJ (LO m ((j:Int)+1)+(j:Int)*(j:Int))
def aj4(m:Int):∀d∈PN m,d∈VJ.cps.toList:=by
 intro d hd;unfold PN at hd;let#[j,_,U]:=ZW.mp hd;exact(Nj (by decide +kernel) _).2
def aj5(m:Int):(PN m).length=11:=by unfold PN;simp
def join_one(C:Za Nat):(Eg "" (C.map λc=>(#[[c].toArray]:Ze))).cps.toList=C:=by
 rw[acG];induction C with|nil=>rfl|cons a r i=>rw[Xo,Xo,O6,i];rfl
def Vq{i:Int}(a : -(2^64)<i)(b:i<2^64):yL i:=.inr ((Bd.of a b).mono 01)
def aj6:VJ.cps.toList.Nodup:=by decide +kernel
def aj7:VJ.length=62:=by decide +kernel
def PQ(F:Ze)(n:Nat)(Z:Za Ze):Prop:=Z.length=n/\(∀z∈Z,Ks F z)/\Z.Nodup
def aj8:YB:=λx q O=>∃(cell:Int) (n:Nat) (F:Ze),x=[.int cell,.int n,.str F]/\n<=12/\12<=F.length/\F.length<=100/\F.cps.toList.Nodup/\∀z,PQ F n z->q (.lst (z.map .str))
def ai8{A:ZC}(T:Txt K mg A):ZK P w K mg base (ZV P w) 2 A.AO A.qy Bw (Yy K aj8):=by
 show T.zT.F.YR bp 03 (λcdv Ar Q s H E hr=>#[_,by have:=bp.nd;walk_at "#adI PySem.F.plainAttrs_str PySem.F.slot_str_join PySem.F.type_str_join adJ @4 $ Wa '_law_j [1 '_law_rest '_law_number [2 3 4 [2 @3 $ ~ Wa '_law_k [1 '_law_firsts '_law_start '_law_tail [3 2 5 6 [3 @3 $ ~ Wa '_law_k [1 '_law_firsts '_law_tail '_law_size '_law_start [4 2 6 7 5 [4 @3 $ ~ Wa '_law_k [1 '_law_rest '_law_number [2 3 4 [2 @3 $ ~ Wa '_law_sign [1 '_law_tail '_law_at_here '_law_size '_law_firsts '_law_start [5 6 8 7 2 5 [5 @3 $ ~ |6",λxs q x h=>?_]);let#[cell,n,F,U,L,F0,F1,Fn,hq]:=h;have hsz:Zo=16777216:=rfl;ac_nf;show#[_,_,U,01,01,?_];have m1:=Ni cell 0;have m2:=Iu cell 0;generalize WZ cell 0=m at m1 m2⊢;ac_nf;have one:∀c:Nat,(#[[c].toArray]:Ze).length=1:=λO=>rfl;show#[01,Vq 01 01,00,00,01,01,yi (λj=>.str #[[VL VJ (LO m ((j:Int)+1)+(j:Int)*(j:Int))].toArray]) 01 (λj J N G=>?_) ?_];{have J:j<11:=J;ac_nf;exact#[00,Vq 00 00,.l 00 00,01,by decide +kernel,_,(Nj (F:=VJ) (by decide +kernel) _).1,G]};have et:(Vj (oP 11)).map (λj:Nat=>D.str #[[VL VJ (LO m ((j:Int)+1)+(j:Int)*(j:Int))].toArray])=((PN m).map λc=>(#[[c].toArray]:Ze)).map .str:=by unfold PN;rw[YG,YG];rfl
 rw[et];have b:=join_one (PN m);have g:=aj5 m;have y:=aj4 m;ac_nf;show#[?_,01,?_];{have:=acv (zs:=(PN m).map λc=>(#[[c].toArray]:Ze)) (m:=1) (λz I=>by let#[c,_,U]:=ZW.mp I;exact ZU 1);rw[ZI]at this;rw[show(o7 "").length=0 from rfl];lia};generalize Eg "" ((PN m).map λc=>(#[[c].toArray]:Ze))=o at b⊢;generalize PN m=cs at b g y⊢;have p:o.length=11:=by rw[HX,b,g]
 let#[Z,k1]:=Nj (F:=F) (K9 (Nat.le_of_add_left_le F0)) (m/5);rw[TR (show(0:Int)<F.length by lia)];have nd0:∀{A B:Prop},(A->B)->A->B:=λf a=>f a;show Vg (λe0=>#[00,00,yi (λk=>.str (#[[VL F (m/5)].toArray]++Tw o Zc (Zb (k:Int)))) 00 (λk C N G=>?_) ?_]) (λe0=>#[01,Vg (λe1=>?_) (λe1=>?_)])
 ·have C:k<n:=↑C
  have g2:=yr o Zc (Zb (k:Int)) (Sa p);ac_nf;exact#[00,_,Z,00,by rw[one];lia,G]
 {rw[show((n:Int).toNat)=n from by lia];have:=hq ((Vj n).map λ(k:Nat)=>#[[VL F (m/5)].toArray]++Tw o Zc (Zb (k:Int))) #[02,λz I=>?_,pq λi j lt J e=>?_];{rw[YG]at this;exact this};{let#[k,C,U]:=ZW.mp I;have C:=Hd.mp C;have g1:=HY (x:=o) (j:=(k:Int)) (MY _) (by rw[b,g];lia);exact#[_,(Tw o Zc (Zb (k:Int))).cps.toList,by rw[OC];rfl,k1,λd hd=>y d (FW (by rw[g1,b]at hd;exact hd)),by rw[g1,b,WL,g];exact Ea _ _]};have g1:=HY (x:=o) (j:=(i:Int)) 00 (by rw[b,g];lia);have g2:=HY (x:=o) (j:=(j:Int)) (MY _) (by rw[b,g];lia);have e:=XI (λz:Ze=>z.cps.toList.length) e;simp only[OC,g1,g2,b,Yx,WL,g,Dc,Yu,Nz,IM]at e;lia};{show#[01,Vq 01 01,01,00,00,?_];have M:=Ts (m/3) (show(12:Int)≠0 by decide);have b2:=Tq (m/3) (show(0:Int)<12 by decide);generalize m/3%12=sz at M b2⊢;have g1:=HY (x:=o) (j:=sz) (M) (by rw[b,g];lia);have g2:=yr o Zc (Zb sz) (Sa p);generalize m/5%(F.length:Int)=st at Z⊢;show yi (λk=>.str (#[[VL F (st+k)].toArray]++Tw o Zc (Zb sz))) 00 (λk C N G=>?_) ?_;{ac_nf;rw[TR (show(0:Int)<F.length by lia)];exact#[00,00,00,_,(Nj (F:=F) 00 (st+k)).1,00,by rw[one];lia,G]};rw[show((n:Int).toNat)=n from by lia];have:=hq ((Vj n).map λ(k:Nat)=>#[[VL F (st+k)].toArray]++Tw o Zc (Zb sz)) #[02,λz I=>?_,pq λi j lt J e=>?_];{rw[YG]at this;exact this};{let#[k,C,U]:=ZW.mp I;exact#[_,(Tw o Zc (Zb sz)).cps.toList,by rw[OC];rfl,(Nj (F:=F) 00 (st+k)).2,λd hd=>y d (FW (by rw[g1,b]at hd;exact hd)),by rw[g1,b,WL,g];exact Ea _ _]};have e:=XI (λz:Ze=>z.cps.toList.head?) e;simp only[OC,Dc,Nw,List.head?_cons,xl]at e;exact aP Fn (Yp L F0) st lt J e};show#[01,Vq 01 01,01,01,Vq 01 01,?_];have M:=Ts (m/3) (show(11:Int)≠0 by decide);have b2:=Tq (m/3) (show(0:Int)<11 by decide);generalize m/3%11=sz at M b2⊢;rw[TR (show(0:Int)<sz+1 by lia)];have d1:=Ts (m/33) (show sz+1≠0 by lia);have d2:=Tq (m/33) (show(0:Int)<sz+1 by lia);generalize m/33%(sz+1)=u at d1 d2⊢;show#[00,00,00,yi (λk=>.str #[[VL VJ (m/7+k)].toArray]) 00 (λk C N G=>?_) ?_];{ac_nf;exact#[01,Vq 01 01,01,by decide +kernel,_,(Nj (F:=VJ) (by decide +kernel) _).1,G]};rw[show((n:Int).toNat)=n from by lia];have g1:=HY (x:=o) (j:=u) 00 (by rw[b,g];lia);have g2:=yr o Zc (Zb u) (Sa p);have g3:=acF (x:=o) (i:=u) (j:=sz) 00 (Int.le_of_lt_add_one d2) (by rw[b,g];lia);have g4:=yr o (Zb u) (Zb sz) (Sa p);let Y:Nat->Ze:=λk=>#[[VL F (m/5)].toArray]++Tw o Zc (Zb u)++#[[VL VJ (m/7+k)].toArray]++Tw o (Zb u) (Zb sz)
 show UA (c:=λk:Nat=>.str #[[VL VJ (m/7+k)].toArray]) (xs:=Vj n) (λk=>.str (Y k)) (by simp;lia) (λk C N G=>?_) ?_;{ac_nf;exact#[00,_,Z,00,by rw[one];lia,by rw[pj,one,one];lia,00,by rw[pj,pj,one,one];lia,G]};have es:∀k,(Y k).cps.toList=VL F (m/5)::(cs.take u.toNat++[VL VJ (m/7+k)]++(cs.drop u.toNat).take (sz-u).toNat):=λk=>by
  change(((#[[VL F (m/5)].toArray]:Ze)++Tw o Zc (Zb u)++(#[[VL VJ (m/7+k)].toArray]:Ze))++Tw o (Zb u) (Zb sz)).cps.toList=_;rw[OC,OC,OC,g1,g3,b,Dc,Dc];simp
 have:=hq ((Vj n).map Y) #[02,λz I=>?_,pq λi j lt J e=>?_];{rw[YG]at this;exact this};{let#[k,C,U]:=ZW.mp I;show#[_,_,es k,k1,λd hd=>?_,?_];{rcases Xk.mp hd with hd|hd;{rcases Xk.mp hd with hd|hd;{exact y d (FW hd)};rw[YJ.mp hd];exact(Nj (F:=VJ) (by decide +kernel) _).2};exact y d (List.mem_of_mem_drop (FW hd))};rw[Yx,Yx,WL,WL,FU,g];exact Yp (Nat.add_le_add (Nat.add_le_add_right (nr _ _) _) (nr _ _)) (show u.toNat+1+(sz-u).toNat<=11 by omega)};have e:=XI (λz:Ze=>z.cps.toList) e;simp only[es,IT,true_and,VC,List.append_cancel_left_eq,Nw,QN]at e;exact aP (F:=VJ) aj6 (n:=12) (by rw[aj7];decide) (m/7) lt (YK J L) e.1
noncomputable def oy(a b:Int):Int:=a.fdiv (Ul a b:Int)
noncomputable def pw(a b:Int):Int:=b.fdiv (Ul a b:Int)
def aj9:YB:=λx q O=>∃a b:Int,x=[.int a,.int b]/\0<b/\Bd 9000 b/\q (wD (oy a b) (pw a b))
def ajj{A:ZC}(T:Txt K mg A):ZK P w K mg base (ZV P w) 1 A.AV A.qC BC (Yy K aj9):=by
 show T.zX.F.YR bx 03 (λC z o s H E hr=>#[_,by have:=bx.nd;walk_at "j",λxs q x h=>?_]);let#[a,b,U,f,B,j]:=h;have G:=wY (a:=a) (b:=b) 00;have g:Bd 9000 (Ul a b:Int):=B.le (by
  have:=Int.le_of_dvd f (Q0 a b)
  lia)
 ac_nf;show#[λm ds=>∃(x y:Int) (s:L2.Slot),ds=[.v (.int a),.v (.int b),.v (.int x),.v (.int y),s]/\0<=x/\0<=y/\Ul x y=Ul a b/\m=y.natAbs,#[_,_,b,.un,U,by split<;>lia,oO f,by split<;>simp[Int.neg_gcd],U],?_];rintro m _ ⟨x,y,s,rfl,i,c,e,rfl⟩;ac_nf;show Vg (λp=>?_) (λp=>?_);{rw[jB];exact#[00,_,acN x y 00,00,Int.fmod_nonneg i c,(acM x y).trans e,U]};have n:y=0:=Int.le_antisymm (Int.le_of_not_gt p) c;subst n;have u:x=(Ul a b:Int):=by
  rw[<-e,Int.gcd_zero_right];lia
 subst u;rw[vq,vq];exact#[00,.inr g,00,.inr g,01,j]
def aQ{a:Type}(x:Za a)(d:a)(i:Int){n:Nat}(h:n=x.length)(f:0<n):x.getD (i%(n:Int)).toNat d∈x:=by
 have e:=Ts i (show(n:Int)≠0 by lia);have c:=Tq i (show(0:Int)<n by lia);have b:(i%(n:Int)).toNat<x.length:=00
 rw[IW,ZA b];exact La b
noncomputable def wT(c m:Int):Int:=([1,2,1,3,c%10^12,m]:Za Int).getD (m%6).toNat 0
noncomputable def wB(m:Int):Int:=([1,1,2,4,1+m/7%10^9,3]:Za Int).getD (m/6%6).toNat 0
noncomputable def MM(c m:Int)(z:Ze):Int:=if z = "chance" then wT c m+(if wT c m=0 then 1 else 0)else if m/36%4=0 then -wT c m else wT c m
noncomputable def wP(c k:Int)(z:Ze):Int:=oy (MM c (WZ c k) z) (wB (WZ c k))
noncomputable def wQ(c k:Int)(z:Ze):Int:=pw (MM c (WZ c k) z) (wB (WZ c k))
def aR(c m:Int)(e:0<=m)(b:m<2^40):0<=wT c m/\wT c m<2^50:=by
 have a:=aQ ([1,2,1,3,c%10^12,m]:Za Int) 0 m (n:=6) U 01;unfold wT;have f:=Ts c (show(10:Int)^12≠0 by decide);have C:=Tq c (show(0:Int)<10^12 by decide);generalize ([1,2,1,3,c%10^12,m]:Za Int).getD (m%((6:Nat):Int)).toNat 0=v at a⊢;simp only[Yk,Qd,or_false]at a;rcases a with rfl|rfl|rfl|rfl|rfl|rfl<;>constructor<;>lia
def aU(m:Int)(b:0<=m):0<wB m/\wB m<2^50:=by
 have a:=aQ ([1,1,2,4,1+m/7%10^9,3]:Za Int) 0 (m/6) (n:=6) U 01;unfold wB;have C:=Ts (m/7) (show(10:Int)^9≠0 by decide);have c:=Tq (m/7) (show(0:Int)<10^9 by decide);generalize ([1,1,2,4,1+m/7%10^9,3]:Za Int).getD (m/6%((6:Nat):Int)).toNat 0=v at a⊢;simp only[Yk,Qd,or_false]at a;rcases a with rfl|rfl|rfl|rfl|rfl|rfl<;>constructor<;>lia
def pA:YB:=λx q O=>∃(c k:Int) (z:Ze),x=[.int c,.int k,.str z]/\-(2^20)<k/\k<2^20/\q (wD (wP c k z) (wQ c k z))
def qV{A:ZC}(T:Txt K mg A):ZK P w K mg base (ZV P w) 2 A.AW A.qD BD (Yy K pA):=by
 show T.MI.F.YR bz 03 (λC y o s H E hr=>#[_,by have:=bz.nd;walk_at "j",λxs q x h=>?_]);let#[c,k,z,U,u,p,a]:=h;ac_nf;show#[_,_,U,u,p,?_];unfold wP wQ at a;have M:=Ni c k;have j:=Iu c k;generalize WZ c k=m at M j a⊢;have i:=aR c m M 00;have f:=aU m M;ac_nf;rw[show Mo c (10^oP 12)=c%10^12 from TR 01,show Mo (m/7) (10^oP 9)=m/7%10^9 from TR 01];show#[#[01,01,01],01,01,01,.int (wT c m),yh D.int [1,2,1,3,c%10^12,m] 0 00 (by change m%6<6;lia),01,Vq 01 01,#[01,01,01],01,01,01,Vq 01 01,01,
  .int (wB m),yh D.int [1,1,2,4,1+m/7%10^9,3] 0 00 (by change m/6%6<6;lia),?_]
 unfold MM at a;generalize wT c m=t at i a⊢;generalize wB m=b at f a⊢;have B:Bd 9000 b:=(Bd.of (n:=64) 00 00).mono 01;show Vg (λe=>?_) (λe=>#[01,Vq 01 01,01,Vg (λg=>?_) (λg=>?_)]);{ac_nf;rw[Zt e]at a;exact#[_,_,U,f.1,B,↑a]};{rw[Zq e,Zt g]at a;exact#[_,_,U,f.1,B,a]};rw[Zq e,Zq g]at a;exact#[_,_,U,f.1,B,a]
def Sx{a:Type}(f:a->D)(s:Za a){i:Int}(c:0<=i)(h:i<s.length):∃x,x∈s/\Xp (s.map f) i=Zb (f x):=by
 have b:i.toNat<s.length:=00
 show#[s[i.toNat],La b,?_];rw[Ko (j:=i.toNat) (FJ (Ob c)) (by rw[ZI];exact b),N5]
def mod_lt{n:Nat}(i:Int)(h:0<n):0<=i%(n:Int)/\i%(n:Int)<n:=#[Ts i 00,Tq i 00]
abbrev MN:Ze := "ABCDEFGHIJKLMNOPQRSTUVWXYZ"
abbrev QH:Ze := "abcdefghijklmnopqrstuvwxyz0123456789"
def aka(x:Za D){i j:Int}(c:0<=i)(a:i<=j):SX x (Zb i) (Zb j)=(x.drop i.toNat).take (j-i).toNat:=by
 let#[f,U]:=ao5 c;let#[g,U]:∃g:Nat,j=(f:Int)+g:=#[(j-f).toNat,00]
 unfold SX;rw[show((f:Int)+(g:Int))=((f+g:Nat):Int)by lia,HT.wo,HT.wo,show(((f+g:Nat):Int)-(f:Int)).toNat=g by lia,show(f:Int).toNat=f from rfl];show FO λi=>?_;simp only[List.getElem?_take,apz];by_cases h:f<=x.length;{rw[nq h];by_cases a:i<g;{rw[Zt a];by_cases b:f+i<x.length;{rw[Zt (by omega)]};rw[yY (SH b)];split<;>rfl};rw[Zq a,Zq (by omega)]};rw[ap8 (ap1 (Nat.le_of_not_le h)),Zq (by omega)];rw[yY (show x.length<=f+i by lia)];split<;>rfl
def pB(x:Za D){j:Int}(a:0<=j):SX x Zc (Zb j)=x.take j.toNat:=by
 have:=aka x (i:=0) (j:=j) 01 a;unfold SX at this⊢;rw[HT.aaZ];rw[show(0:Int)=((0:Nat):Int)from rfl,HT.wo,Nat.zero_min]at this;simpa using this
def akb:VJ.cps.toList=Kk.cps.toList++Kl.cps.toList++MH.cps.toList:=by decide +kernel
def akc(c:Nat):decide (c∈VJ.cps.toList)=MJ c:=by
 unfold MJ;rw[akb];simp only[Xk,Bool.decide_or,Bool.or_assoc];rw[Bool.or_comm (decide (c∈Kl.cps.toList))]
def aV:∀c∈MN.cps.toList,c∈VJ.cps.toList/\yj c=Zd:=by decide +kernel
def aW:∀c∈QH.cps.toList,c∈VJ.cps.toList/\yj c=Zi:=by decide +kernel
def aX{z:Ze}(e:1<=z.length)(b:z.length<=12)(h:∀c∈z.cps.toList,c∈VJ.cps.toList):VM z=Zd:=by
 unfold VM;rw[Yq e,Yq b,show z.cps.toList.all MJ=Zd from Oc.mpr λc a=>by rw[<-akc];exact Yq (h c a)];rfl
def aY{z:Ze}{c:Nat}{r:Za Nat}(e:z.cps.toList=c::r):fst z=c:=by unfold fst;rw[e];rfl
def Ks.kd{z:Ze}(h:Ks MN z):YS z=Zd:=by
 have a:=h.len;let#[c,r,e,b,f,_]:=h;unfold YS;rw[aY e,(aV c b).2,aX a.1 a.2 (by rw[e];intro d hd;rcases Yk.mp hd with rfl|hd;exact(aV _ b).1;exact f d hd)];rfl
def Ks.wd{z:Ze}(h:Ks QH z):Wr z=Zd:=by
 have a:=h.len;let#[c,r,e,b,f,_]:=h;unfold Wr;rw[aY e,(aW c b).2,aX a.1 a.2 (by rw[e];intro d hd;rcases Yk.mp hd with rfl|hd;exact(aW _ b).1;exact f d hd)];rfl
def yt{z:Ze}(h:Wr z=Zd):YS z=Zi:=by
 unfold Wr at h;unfold YS;rw[XX]at h;rw[h.1];simpa using h.2
def aZ{z:Ze}(h:YS z=Zd):VM z=Zd:=by unfold YS at h;rw[XX]at h;exact h.1
def Fo{z:Ze}(h:Wr z=Zd):VM z=Zd:=by unfold Wr at h;rw[XX]at h;exact h.1
def akd{z:Ze}:∀(s:Za Ru) (seen:Za Ze),(∀r∈s,Rh z r.wa=Zd)->(s.map (·.ti)).Nodup->(∀r∈s,r.ti∉seen)->Ri z seen s=0:=by
 intro s;induction s with
 |nil=>intro seen _ _ _;rfl
 |cons r s i=>
  intro seen e b c;unfold Ri;rw[Zq (by rw[e r (YY ..)];decide),Zq (c r (YY ..))];rw[Xo,TY]at b;show i _ (λa h=>e a (YT _ h)) b.2 (λa h z=>?_);rcases Xk.mp z with z|z;{exact c a (YT _ h) z};exact b.1 (by rw[<-YJ.mp z];exact ZW.mpr #[a,h,U])
def yu{z:Ze}(h:VM z=Zd):z.length<=1000:=by have:=yk h;lia
def U7{Z:Za Ze}(b:Z.length<=1000)(h:∀z∈Z,VM z=Zd):KA Z:=#[b,λz a=>yu (h z a)]
def UO.all{steps:Za (Ze×Ze)}(b:Ze->Nat):∀(k:Nat) (w r o:Za Ze),w.length<=k->(∀s∈steps,s.2∈w->b s.1<b s.2)->r≠[]->∃res,UO steps w r o res/\res.length=o.length+w.length:=by
 intro k;induction k with
 |zero=>
  intro w r o y q u;have:w=[]:=MZ (apZ y);subst this;exact#[o++[],.step u .stop,02]
 |succ k B=>
  intro w r o y q u;by_cases C:w=[]
  {subst C;exact#[o++[],.step u .stop,02]};have L:=aK w (λh=>decide (h∈VW steps w));let#[m,E,n]:∃m∈w,∀x∈w,b x<=b m:=by
   clear L q B y;induction w with
   |nil=>exact ZJ U C
   |cons a w I=>
    by_cases e:w=[]
    {subst e;exact#[a,YY ..,λx f=>by rw[YJ.mp f];exact ZU _]};let#[m,p,i]:=I e;by_cases c:b a<=b m;{exact#[m,YT _ p,λx f=>by rcases Yk.mp f with rfl | f;exact c;exact i x f]};exact#[a,YY ..,λx f=>by rcases Yk.mp f with rfl | f;exact ZU _;have:=i x f;lia]
  have free:m∉VW steps w:=λz=>by
   unfold VW at z;let#[s,p,i]:=ZW.mp z;let#[A,g]:=WM.mp p;have g:=Se g;have:=q s A g;have:=n _ g;rw[i]at *;lia
  have M:m∈w.filter λh=>!decide (h∈VW steps w):=WM.mpr #[E,by simp[free]];have j:(w.filter λh=>!decide (h∈VW steps w))≠[]:=λz=>by rw[z]at M;cases M
  have pos:=N8.mpr j;let#[res,p,i]:=B (w.filter λh=>decide (h∈VW steps w)) _ (o++w.filter λh=>!decide (h∈VW steps w)) 00 (λs A g=>q s A (WM.mp g).1) j;exact#[res,.step u p,by rw[i,Yx];lia]
structure Good (z st:Ze)(rs:List Ru):Prop where
 fit:PK rs
 ok:∀r∈rs,TU r.ti r.hd r.ps r.tg r.t=Zd
 wt:Ri z [] rs=0
 un:Kq rs=Zd
 kd:ck st rs=Zd
 ring:∃res,UO (VI rs) (YX rs) (YX rs) [] res/\(YX rs).length<=res.length
set_option tactic.hygienic true in
def yw(Z:Za Ze):∀z,z∈Fm Z↔z∈Z:=by
 have go:∀(Z a:Za Ze) z,z∈Z.foldl Kr a↔z∈a\/z∈Z:=by
  intro Z;induction Z with
  |nil=>intro a z;simp
  |cons y Z i=>
   intro a z;rw[Rr,i];unfold Kr;split;{rename_i h;constructor;{rintro (b|b);{exact .inl b};exact .inr (YT _ b)};rintro (b|b);{exact .inl b};rcases Yk.mp b with rfl|b;{exact .inl h};exact .inr b};simp[or_assoc]
 intro z;have:=go Z [] z;simpa [Fm]using this
def pC(c k:Int)(z:Ze):Low (wP c k z) (wQ c k z)/\Bd 64 (wP c k z)/\Bd 64 (wQ c k z)/\(z = "chance" ->0<wP c k z):=by
 have j:=aR c (WZ c k) (Ni c k) (by have:=Iu c k;lia);have f:=aU (WZ c k) (Ni c k);unfold wP wQ oy pw;have g : -(2^51)<MM c (WZ c k) z/\MM c (WZ c k) z<2^51/\(z = "chance" ->0<MM c (WZ c k) z):=by
  unfold MM;generalize wT c (WZ c k)=t at j⊢;by_cases e:z = "chance";{rw[Zt e];show#[?_,?_,λO=>?_]<;>split<;>lia};rw[Zq e];show#[?_,?_,λh=>ZJ h e]<;>split<;>lia
 generalize MM c (WZ c k) z=t at g⊢;generalize wB (WZ c k)=b at f⊢;let#[l,e,m,L]:=acO (a:=t) (b:=b) (d:=(Ul t b:Int)) 00 (.inl U) (Q4 f.1 (wY (a:=t) (b:=b) 00));show#[l,(Bd.of (n:=64) (i:=t) 00 00).le m,(Bd.of (n:=64) (i:=b) 00 00).le L,λz=>?_];have:0<t.fdiv (Ul t b:Int)*b:=by rw[e];exact Q4 (g.2.2 z) l.pos
 exact apl this f.1
def rd6:String:=rd5 ++ " gF"
local macro_rules|`(tactic|walk_at "rd")=>UN rd6
noncomputable def XO(r:Ru):D:=.tup [.str r.ti,.str r.hd,.tup (r.ps.map .str),wD r.wa r.wb,.str r.tg,Sw r.t]
structure pE (scale:Ze)(kinds words tis:List Ze)(r:Ru):Prop where
 hd:r.hd∈kinds
 p1:1<=r.ps.length
 p4:r.ps.length<=4
 ps:∀p∈r.ps,p∈kinds\/p∈words
 one:∀p,r.ps=[p]->p∈kinds->kinds.idxOf r.hd<kinds.idxOf p
 low:Low r.wa r.wb
 ba:Bd 64 r.wa
 bb:Bd 64 r.wb
 pos:scale = "chance" ->0<r.wa
 tg:r.tg = "" \/r.tg∈words
 un:∀us,r.t=Zb us->1<=us.length/\us.length<=2/\∀u∈us,u∈tis
structure RY (scale:Ze)(kinds words:List Ze)(rs:List Ru):Prop where
 k:PQ MN kinds.length kinds
 k1:1<=kinds.length
 k3:kinds.length<=3
 w:PQ QH 3 words
 nk:kinds.length<=rs.length
 len:rs.length<=9
 ti:∃titles,PQ QH 9 titles/\rs.map (·.ti)=titles.take rs.length
 row:∀r∈rs,pE scale kinds words (rs.map (·.ti)) r
 base:∀k,k<kinds.length->∃r,rs[k]?=Zb r/\kinds[k]?=Zb r.hd/\r.t=Zc/\∃w∈words,r.ps=[w]
def ake:YB:=λx q O=>∃n:Za Int,x=[.scr (n.map .int)]/\∀z,PQ MN z.length z->1<=z.length->z.length<=3->q (.lst (z.map .str))
def akf:MN.cps.toList.Nodup:=by decide +kernel
def akg:MN.length=26:=by decide +kernel
def Z0:QH.cps.toList.Nodup:=by decide +kernel
def Z2:QH.length=36:=by decide +kernel
def ajk{A:ZC}(T:Txt K mg A):ZK P w K mg base (ZV P w) 3 A.AQ A.qz Bx (Yy K ake):=by
 show T.zU.F.YR bq 03 (λc g o s H E hr=>#[_,by have:=bq.nd;walk_at "j",λxs q x h=>?_]);let#[N,U,a]:=h;have f:=akg;ac_nf;show#[_,_,U,01,_,_,U,01,01,?_];ac_nf;have b:=mod_lt (n:=3) (WZ (Vp N 1) 1) 01;exact#[01,_,_,U,01,#[_,(1+WZ (Vp N 1) 1%3).toNat,MN,by rw[Ob 00],00,00,00,akf,λZ z=>a Z #[U,z.2] (by have:=z.1;lia) (by have:=z.1;lia)]]
def akh:YB:=λx q O=>∃n:Za Int,x=[.scr (n.map .int)]/\∀z,PQ QH 3 z->q (.lst (z.map .str))
def ajl{A:ZC}(T:Txt K mg A):ZK P w K mg base (ZV P w) 3 A.AR A.qA Bz (Yy K akh):=by
 show T.zV.F.YR bu 03 (λc f o s H E hr=>#[_,by have:=bu.nd;walk_at "j",λxs q x h=>?_]);let#[n,U,a]:=h;have b:=Z2;ac_nf;exact#[_,_,U,01,_,3,QH,U,Le _ _,00,00,Z0,a]
def aki:YB:=λx q O=>∃n:Za Int,x=[.scr (n.map .int)]/\∀z,PQ QH 9 z->q (.lst (z.map .str))
def ajm{A:ZC}(T:Txt K mg A):ZK P w K mg base (ZV P w) 3 A.AU A.qB BA (Yy K aki):=by
 show T.zW.F.YR bw 03 (λc f o s H E hr=>#[_,by have:=bw.nd;walk_at "j",λxs q x h=>?_]);let#[n,U,a]:=h;have b:=Z2;ac_nf;exact#[_,_,U,01,_,9,QH,U,Le _ _,00,00,Z0,a]
def akj(s words:Za Ze)(h:Nat)(a:Za Ze):Prop:=1<=a.length/\a.length<=4/\(∀p∈a,p∈s\/p∈words)/\∀p,a=[p]->p∈s->h<s.idxOf p
def akk:YB:=λx q O=>∃(s words:Za Ze) (h:Nat) (m:Int),x=[.lst (s.map .str),.lst (words.map .str),.int h,.int m]/\1<=s.length/\s.length<=3/\words.length=3/\(∀w∈words,w∉s)/\h<s.length/\0<=m/\m<2^40/\∀p,akj s words h p->q (.tup (p.map .str))
def ajn{A:ZC}(T:Txt K mg A):ZK P w K mg base (ZV P w) 1 A.AX A.qE BE (Yy K akk):=by
 show T.zY.F.YR bA 03 (λcdv Ar B s H E hr=>#[_,by have:=bA.nd;walk_at "#Qs [0 5 @2 $ SZ $ Qr 5 :i ? rfl @3 $ Qq 5 [1 @1 $ Mt 5 [1 @1 $ |5",λxs q x h=>?_]);let#[a,words,h,m,U,k1,k3,M,wk,hh,Z,Y,hq]:=h;have hsz:Zo=16777216:=rfl;ac_nf;have Q:=mod_lt (n:=7) m 01;let#[sz,hj,ej]:=Sx D.int [2,2,1,3,2,4,2] (i:=m%7) Q.1 Q.2;have j1:1<=sz/\sz<=4:=by
  simp only[Yk,Qd,or_false]at hj;lia
 show#[01,01,_,ej,01,Vq 01 01,01,[],?_];ac_nf;show#[00,00,Mw (λi L=>∃(m:Int) (b:Za Ze) (s:L2.Slot),L=[.v (.lst (a.map .str)),.v (.lst (words.map .str)),.v (.int h),.v (.int m),.v (.int sz),.own (b.map .str),s]/\0<=m/\m<2^41/\b.length=i/\∀p∈b,p∈a\/p∈words) #[_,[],_,U,00,00,U,λp o=>by cases o] (λi ds N hi hd hn=>?_) (λds hd=>?_)]
 ·let#[m,b,s,U,Z,Y,y,o]:=hd;ac_nf;have j:∀p,p∈a\/p∈words->Mb 4099 (0+(i:Int))/\N [.v (.lst (a.map .str)),.v (.lst (words.map .str)),.v (.int h),.v (.int (m/15+4099*(0+(i:Int))+1)),.v (.int sz),.own (b.map D.str++[.str p]),.v (.int (0+(i:Int)))]:=λp C=>by
   show#[.l 01 01,hn _ #[_,b++[p],_,by rw[Xt];rfl,00,00,by rw[Yx,y];rfl,λz c=>?_]];rcases Xk.mp c with c|c;{exact o z c};rw[YJ.mp c];exact C
  rw[TR (show(0:Int)<a.length by lia)];let#[g1,g2]:=mod_lt (n:=a.length) (m%5) (K9 k1);let#[p,I,G]:=Sx D.str a g1 g2;have g3:=mod_lt (n:=3) (m/5) 01;let#[u,f,g]:=Sx D.str words (i:=m/5%3) g3.1 (by rw[M];exact g3.2);exact#[01,Vg (λO=>#[01,00,_,G,00,01,Vq 01 01,j p (.inl I)]) (λO=>#[01,Vq 01 01,01,_,g,00,01,Vq 01 01,j u (.inr f)])]
 let#[m,b,s,U,Z,Y,y,o]:=hd;ac_nf;have good:(∀p,b=[p]->p∈a->h<a.idxOf p)->q (.tup (b.map .str)):=λz=>hq b #[00,00,o,z];show Vg (λe=>?_) (λe=>good λp z=>by rw[z]at y;simp at y;lia);let#[p,U]:∃p,b=[p]:=xf.mp 00;show#[.str p,U,?_];rw[pB _ (oO (Int.lt_add_one_of_le (MY _))),<-M4];ac_nf;have et:((h:Int)+1).toNat=h+1:=00
 rw[et];show Vg (λe1=>?_) (λe1=>good λu z J=>?_);{have g3:=mod_lt (n:=3) m 01;let#[u,f,g]:=Sx D.str words (i:=m%3) g3.1 (by rw[M];exact g3.2);show#[01,_,g,01,hq [u] #[02,02,λz c=>by rw[YJ.mp c];exact .inr f,λz c J=>?_]];cases c;exact ZJ J (wk _ f)};cases z;have hi:=Lb J;show Nat.lt_of_not_le λle=>e1 ?_;have:=FT hi;rw[<-this];exact List.mem_take_iff_getElem.mpr #[_,00,U]
theorem akl{n:Za Int}{k:Int}{q:D->Prop}{x:Zg->Prop}:qU [.scr (n.map .int),.int k] q x=(0<=k/\q (.int (Vp n k))):=by
 unfold qU;show propext #[λ⟨N,g,e,c,h⟩=>?_,λ⟨c,h⟩=>#[n,k,U,c,h]];simp only[IT,D.scr.injEq,D.int.injEq,and_true]at e;let#[f,E]:=e;have inj:∀a b:Za Int,a.map D.int=b.map D.int->a=b:=by
  intro a;induction a with
  |nil=>intro b e;cases b with
   |nil=>rfl
   |cons _ _=>cases e
  |cons u a i=>intro b e;cases b with
   |nil=>cases e
   |cons v b=>
    simp only[Xo,IT,D.int.injEq]at e;rw[e.1,i b e.2]
 have:n=N:=inj _ _ f;subst this;subst E;exact#[c,h]
theorem akm{c k:Int}{q:D->Prop}{x:Zg->Prop}:qW [.int c,.int k] q x=(-(2^20)<k/\k<2^20/\q (.int (WZ c k))):=by
 unfold qW;show propext #[λ⟨C,a,e,h⟩=>?_,λh=>#[c,k,U,h]];cases e;exact h
theorem akn{c k:Int}{z:Ze}{q:D->Prop}{x:Zg->Prop}:pA [.int c,.int k,.str z] q x=(-(2^20)<k/\k<2^20/\q (wD (wP c k z) (wQ c k z))):=by
 unfold pA;show propext #[λ⟨C,a,Z,e,h⟩=>?_,λh=>#[c,k,z,U,h]];cases e;exact h
def rd7:String:=rd6 ++ " akl akm akn"
local macro_rules|`(tactic|walk_at "rd")=>UN rd7
def PQ.ako{s words:Za Ze}{n m:Nat}(e:PQ MN n s)(c:PQ QH m words):∀w∈words,w∉s:=λw h z=>by
 have a:=(c.2.1 w h).wd;have b:=(e.2.1 w z).kd;rw[yt a]at b;cases b
def akp:YB:=λx q O=>∃(n:Za Int) (s:Ze),x=[.scr (n.map .int),.str s]/\∀a words b,RY s a words b->q (.lst (b.map XO))
def ajw{A:ZC}(T:Txt K mg A):ZK P w K mg base (ZV P w) 4 A.AY A.qF BF (Yy K akp):=by
 show T.zZ.F.YR bB 03 (λcdv Ar outer s H E hr=>#[_,by have:=bB.nd;walk_at "#jL jv 4 @1 @1 $ Qs [0 5 @2 $ gG $ vN $ Qq [0 @1 $ ; Mt 5 [1 jv 5 @1 @2 $ |5",λxs q x h=>?_]);let#[j,c,U,hq]:=h;have hsz:Zo=16777216:=rfl;ac_nf;show#[j,U,λa hk k1 k3=>?_];ac_nf;show#[j,U,λwords hw=>?_];ac_nf;show#[j,U,λb ht=>?_];have w3:=hw.1;have t9:=ht.1;have wk:=hk.ako hw;ac_nf;show#[01,[],?_];ac_nf;show#[00,00,Mw (λi Y=>∃(g:Za Ru) (s6 s7 s8 s9 s10 G C B y:L2.Slot),Y=[.v (.scr (j.map .int)),.v (.str c),.v (.lst (a.map .str)),.v (.lst (words.map .str)),.v (.lst (b.map .str)),.own (g.map XO),s6,s7,s8,s9,s10,G,C,B,y]/\g.length=i/\g.map (·.ti)=b.take i/\(∀r∈g,pE c a words [] r)/\∀k,k<i->∃r,g[k]?=Zb r/\a[k]?=Zb r.hd/\r.t=Zc/\∃w∈words,r.ps=[w]) #[[],_,_,_,_,_,_,_,_,_,U,U,U,λr h=>(by cases h),λk h=>00] (λi ds N hi hd hn=>?_) (λds hd=>?_)]
 ·let#[g,s6,s7,s8,s9,s10,G,C,B,y,U,Z,o,hr,hb]:=hd;ac_nf;have I:=pC (Vp j (4+(0+(i:Int)))) 3 c;have m0:=Ni (Vp j (4+(0+(i:Int)))) 2;have m1:=Iu (Vp j (4+(0+(i:Int)))) 2;generalize WZ (Vp j (4+(0+(i:Int)))) 2=m at m0 m1⊢;generalize Vp j (4+(0+(i:Int)))=cell at I⊢;have g1:=mod_lt (n:=3) (m/3) 01;let#[w1,hw1,ew1]:=Sx D.str words (i:=m/3%3) g1.1 (by rw[w3];exact g1.2);have g2:=mod_lt (n:=3) (m/9) 01;let#[tg,L,etg]:=Sx D.str ["", "",w1] (i:=m/9%3) g2.1 g2.2;have g3:=mod_lt (n:=3) m 01;let#[w2,hw2,ew2]:=Sx D.str words (i:=m%3) g3.1 (by rw[w3];exact g3.2);have Q:i<b.length:=00
  have hik:i<a.length:=00
  have et:Xp (b.map D.str) (0+(i:Int))=Zb (.str b[i]):=by rw[KG];exact WT (by rw[YC,ZA Q];rfl)
  have ek:Xp (a.map D.str) (0+(i:Int))=Zb (.str a[i]):=by rw[KG];exact WT (by rw[YC,ZA hik];rfl)
  show#[00,01,01,01,Vq 01 01,01,_,ew1,01,01,Vq 01 01,01,_,etg,_,et,_,ek,01,_,ew2,01,01,01,01,00,hn _ #[g++[#[b[i],a[i],[w2],wP cell 3 c,wQ cell 3 c,tg,Zc]],_,_,_,_,_,_,_,_,_,by rw[Xt];rfl,by rw[Yx,Z];rfl,?_,λr h=>?_,λk h=>?_]];{rw[Xt,o,Um,ZA Q];rfl};{rcases Xk.mp h with h|h;{exact hr r h};rw[YJ.mp h];show#[La hik,ZU _,02,λp hp=>?_,λp hp M=>?_,I.1,I.2.1,I.2.2.1,I.2.2.2,?_,λJ hu=>by cases hu];{rw[YJ.mp hp];exact .inr hw2};{cases hp;exact ZJ M (wk _ hw2)};simp only[Yk,Qd,or_false]at L;rcases L with e|e|e;{exact .inl e};{exact .inl e};exact .inr (e▸hw1)};by_cases e:k<i;{let#[r,h1,h2]:=hb k e;exact#[r,by rw[VD 00];exact h1,h2]};have e:k=i:=NC (NF h) (SH e);subst e;show#[_,by rw[UR (Sa Z),Z,J8];rfl,ZA hik,U,w2,hw2,U]
 let#[g,s6,s7,s8,s9,s10,G,C,B,y,U,Z,o,hr,hb]:=hd;ac_nf;have nb:=mod_lt (n:=7) (WZ (Vp j 0) 4) 01;generalize hmany:WZ (Vp j 0) 4%7=many at nb;let#[n6,U]:∃n:Nat,many=n:=#[many.toNat,FJ (Ob nb.1)]
 rw[pB _ (Int.add_nonneg (MY _) nb.1),<-M4];have et2:((a.length:Int)+(n6:Int)).toNat=a.length+n6:=00
 rw[et2];have tl:(b.take (a.length+n6)).length=a.length+n6:=by rw[WL];lia
 generalize htt:b.take (a.length+n6)=f at tl;show#[01,01,01,01,[],?_];ac_nf;have hti2:g.map (·.ti)=f.take a.length:=by rw[o,<-htt,apS];congr 1;lia
 show#[00,00,Mw (λi Y=>∃(g:Za Ru) (s6 s7 s8 s9 G C B y:L2.Slot),Y=[.v (.scr (j.map .int)),.v (.str c),.v (.lst (a.map .str)),.v (.lst (words.map .str)),.v (.lst (f.map .str)),.own (g.map XO),s6,s7,s8,s9,.v (.int n6),G,C,B,y]/\g.length=a.length+i/\g.map (·.ti)=f.take (a.length+i)/\(∀r∈g,pE c a words f r)/\∀k,k<a.length->∃r,g[k]?=Zb r/\a[k]?=Zb r.hd/\r.t=Zc/\∃w∈words,r.ps=[w]) #[g,_,_,_,_,_,_,_,_,U,Z,hti2,λr h=>?_,hb] (λi ds N hi hd hn=>?_) (λds hd=>?_)]
 ·let#[a1,a2,a3,a4,a5,a6,a7,a8,a9,a10,a11]:=hr r h;exact#[a1,a2,a3,a4,a5,a6,a7,a8,a9,a10,λJ hu=>by
   let#[b1,b2,b3]:=a11 J hu
   cases J with
   |nil=>simp at b1
   | cons u J=>exact ZJ (b3 u (YY ..)) 02]
 ·clear hr hb Z o hti2 g;let#[g,s6,s7,s8,s9,G,C,B,y,U,Z,o,hr,hb]:=hd;ac_nf;have I:=pC (Vp j (7+(0+(i:Int)))) 3 c;have m0:=Ni (Vp j (7+(0+(i:Int)))) 5;have m1:=Iu (Vp j (7+(0+(i:Int)))) 5;have n0:=Ni (Vp j (7+(0+(i:Int)))) 6;have n1:=Iu (Vp j (7+(0+(i:Int)))) 6;generalize WZ (Vp j (7+(0+(i:Int)))) 5=m at m0 m1⊢;generalize WZ (Vp j (7+(0+(i:Int)))) 6=n at n0 n1⊢;generalize Vp j (7+(0+(i:Int)))=cell at I⊢;rw[TR (show(0:Int)<a.length by lia)];let#[h1,h2]:=mod_lt (n:=a.length) m 00;let#[h,eh]:∃h:Nat,m%(a.length:Int)=h:=#[(m%(a.length:Int)).toNat,FJ (Ob h1)]
  rw[eh]at h1 h2⊢;have hh:h<a.length:=00
  show#[00,01,01,00,01,Vq 01 01,a,words,h,m/3,U,k1,k3,w3,wk,hh,00,00,λps hps=>?_];ac_nf;show#[01,01,λY=>∃t:Option (Za Ze),Y=[.v (.scr (j.map .int)),.v (.str c),.v (.lst (a.map .str)),.v (.lst (words.map .str)),.v (.lst (f.map .str)),.own (g.map XO),.v (.int (0+(i:Int))),.v (.int cell),.v (.int m),s9,.v (.int n6),.v (.int h),.v (.tup (ps.map .str)),.v (.int n),.v (Sw t)]/\∀J,t=Zb J->1<=J.length/\J.length<=2/\∀u∈J,u∈f,?_,?_];{ac_nf;show#[01,Vg (λe=>?_) (λe=>#[Zc,U,λJ z=>by cases z])];rw[TR (show(0:Int)<f.length by lia),TR (show(0:Int)<f.length by lia)];let#[a1,a2]:=mod_lt (n:=f.length) (n/4) 00;let#[u1,hu1,eu1]:=Sx D.str f a1 a2;let#[b1,b2]:=mod_lt (n:=f.length) (n/36) 00;let#[u2,hu2,eu2]:=Sx D.str f b1 b2;have nb2:=mod_lt (n:=2) (n/324) 01;show#[01,Vq 01 01,00,_,eu1,01,Vq 01 01,00,_,eu2,01,01,Vq 01 01,01,Zb (([u1,u2]:Za Ze).take (1+n/324%2).toNat),?_,λJ z=>?_];{rw[pB _ 00];change _=D.tup _;rw[M4];rfl};cases z;rw[WL];simp only[Yu,Nz];show#[00,Ea _ _,λu hu=>?_];have:=FW hu;simp only[Yk,Qd,or_false]at this;rcases this with e|e<;>rw[e]<;>assumption};rintro _ ⟨t,rfl,htt'⟩;ac_nf;have g1:=mod_lt (n:=3) (n/648) 01;let#[w1,hw1,ew1]:=Sx D.str words (i:=n/648%3) g1.1 (by rw[w3];exact g1.2);have g2:=mod_lt (n:=3) (n/1944) 01;let#[tg,L,etg]:=Sx D.str ["", "",w1] (i:=n/1944%3) g2.1 g2.2;have Q:a.length+i<f.length:=00
  have et:Xp (f.map D.str) ((a.length:Int)+(0+(i:Int)))=Zb (.str f[a.length+i]):=by
   rw[KG,show(a.length:Int)+(i:Int)=((a.length+i:Nat):Int)by lia];exact WT (by rw[YC,ZA Q];rfl)
  have ek:Xp (a.map D.str) (h:Int)=Zb (.str a[h]):=WT (by rw[YC,ZA hh];rfl);show#[01,Vq 01 01,01,_,ew1,01,01,Vq 01 01,01,_,etg,_,et,_,ek,01,01,01,00,hn _ #[g++[#[f[a.length+i],a[h],ps,wP cell 3 c,wQ cell 3 c,tg,t]],_,_,_,_,_,_,_,_,by rw[Xt];rfl,by rw[Yx,Z];rfl,?_,λr hm=>?_,λk M=>?_]];{rw[Xt,o,<-xh,Um,ZA Q];rfl};{rcases Xk.mp hm with hm|hm;{exact hr r hm};rw[YJ.mp hm];let#[q1,q2,q3,q4]:=hps;show#[La hh,q1,q2,q3,λp hp M=>?_,I.1,I.2.1,I.2.2.1,I.2.2.2,?_,htt'];{have:=q4 p hp M;have ei:a.idxOf a[h]=h:=List.Nodup.idxOf_getElem hk.2.2 h hh;change a.idxOf a[h]<_;rw[ei];exact this};simp only[Yk,Qd,or_false]at L;rcases L with e|e|e;{exact .inl e};{exact .inl e};exact .inr (e▸hw1)};let#[r,z1,z2]:=hb k M;exact#[r,by rw[VD 00];exact z1,z2]
 let#[g,s6,s7,s8,s9,G,C,B,y,U,Z,o,hr,hb]:=hd;ac_nf;have en:(((n6:Int)).toNat)=n6:=00
 show hq a words g #[hk,k1,k3,hw,00,?_,#[b,ht,?_],?_,hb];{lia};{rw[o,<-htt,apS,Z];congr 1;lia};have:g.map (·.ti)=f:=by rw[o,xg 00]
 rw[this];exact hr
theorem RY.kd{c:Ze}{s words:Za Ze}{a:Za Ru}(h:RY c s words a):∀z∈s,YS z=Zd:=λz b=>(h.k.2.1 z b).kd
theorem RY.wd{c:Ze}{s words:Za Ze}{a:Za Ru}(h:RY c s words a):∀z∈words,Wr z=Zd:=λz b=>(h.w.2.1 z b).wd
def RY.heads{e:Ze}{s words:Za Ze}{a:Za Ru}(h:RY e s words a):∀z∈s,z∈a.map (·.hd):=λz b=>by
 let#[r,f,c,_]:=h.base _ (Lb b);have hi:=Lb b;rw[ZA hi,FT hi]at c;exact ZW.mpr #[r,YH f,(VE c).symm]
def RY.good{q:Ze}{c words:Za Ze}{g:Za Ru}{st:Ze}(h:RY q c words g)(y:st∈c)(I:q = "cost" \/q = "chance"):Good q st g:=by
 let#[i,Z,o]:=h.ti;have G:=h.kd;have C:=h.wd;have tt:∀z∈i,Wr z=Zd:=λz m=>(Z.2.1 z m).wd;have E:∀z∈g.map (·.ti),Wr z=Zd:=λz m=>tt z (by rw[o]at m;exact FW m);have Q:∀r∈g,Wr r.ti=Zd:=λr f=>E _ (ZW.mpr #[r,f,U]);have hk:∀z∈g.map (·.hd),z∈c:=λz m=>by let#[r,f,U]:=ZW.mp m;exact(h.row r f).hd
 have pn:∀r∈g,∀p∈r.ps,VM p=Zd:=λr f p J=>by
  rcases (h.row r f).ps p J with z|z;{exact aZ (G p z)};exact Fo (C p z)
 have lr:=h.len;have hn:g≠[]:=λz=>by have a:=h.nk;have b:=h.k1;rw[z]at a;simp only[Nz]at a;exact VO (K9 b) (apZ a)
 show#[⟨Yp lr (Le _ _),λr f=>?_⟩,λr f=>?_,?_,?_,?_,?_];{have R:=h.row r f;show#[yu (Fo (Q r f)),yu (aZ (G _ R.hd)),U7 (by have:=R.p4;lia) (pn r f),λj e=>?_];let#[N,M,B]:=R.un j e;exact U7 (Yp M (Le _ _)) λu n=>Fo (E u (B u n))}
 ·have R:=h.row r f;unfold TU;have e3:PH r.ps=Zd:=by
   unfold PH;rw[Yq R.p1,Yq R.p4,Oc.mpr (pn r f)];rfl
  have e4:(decide (r.tg = "")||Wr r.tg)=Zd:=by
   rcases R.tg with e|e;{rw[Yq e];rfl};rw[C _ e];simp
  have e5:yp r.t=Zd:=by
   cases e:r.t with
   |none=>rfl
   |some j=>
    let⟨N,M,B⟩:=R.un j e;change MK j=Zd;unfold MK;rw[Yq N,Oc.mpr λu n=>E u (B u n)];rfl
  rw[Q r f,G _ R.hd,e3,e4,e5];rfl
 {show akd g [] (λr f=>?_) ?_ (λr O=>02);{unfold Rh;rcases I with e|e;{rw[Yq e];rfl};rw[Yq ((h.row r f).pos e)];simp};rw[o];exact Z.2.2.sublist (apR _ _)}
 ·unfold Kq;rw[Oc];intro r f;unfold ML;cases e:r.t with
  |none=>rfl
  |some j=>
   simp only;rw[Oc];intro u n;exact Yq (((h.row r f).un j e).2.2 u n)
 {unfold ck;rw[Yq (h.heads st y),S7,Oc];intro r f;unfold Fl;rw[Oc];intro p J;let#[L,A]:=WM.mp J;rcases (h.row r f).ps p L with z|z;{exact Yq (h.heads p z)};rw[yt (C p z)]at A;cases A};have wn:YX g≠[]:=λz=>by
  let#[x,e0]:∃x,x∈g:=by
   cases g with|nil=>exact ZJ U hn|cons a b=>exact#[a,YY ..]
  have:x.hd∈YX g:=(yw _ _).mpr (ZW.mpr #[x,e0,U]);rw[z]at this;cases this
 have up:∀s∈VI g,s.2∈YX g->c.idxOf s.1<c.idxOf s.2:=λs y Y=>by
  unfold VI at y;let#[r,f,U]:=ZW.mp y;let#[f,hl]:=WM.mp f;let#[p,ep]:=xf.mp (Se hl);have R:=h.row r f;have e:r.ps.getD 0 "" = p:=by rw[ep];rfl
  simp only[e]at Y⊢;exact R.one p ep (hk p ((yw _ _).mp Y))
 let#[res,L,A]:=UO.all (steps:=VI g) (λz=>c.idxOf z) _ (YX g) (YX g) [] (ZU _) up wn;exact#[res,L,by rw[A];simp]
section
variable {r:Ru}{q:D->Prop}
theorem Z3:Uy (XO r) (.int (no_index 0)) q=q (.str r.ti):=by change(∃d,Zb (D.str r.ti)=Zb d/\q d)=_;simp
theorem akq:Uy (XO r) (.int (no_index 1)) q=q (.str r.hd):=by change(∃d,Zb (D.str r.hd)=Zb d/\q d)=_;simp
theorem akr:Uy (XO r) (.int (no_index 2)) q=q (.tup (r.ps.map .str)):=by change(∃d,Zb (D.tup (r.ps.map .str))=Zb d/\q d)=_;simp
theorem aks:Uy (XO r) (.int (no_index 3)) q=q (wD r.wa r.wb):=by change(∃d,Zb (wD r.wa r.wb)=Zb d/\q d)=_;simp
theorem akt:Uy (XO r) (.int (no_index 4)) q=q (.str r.tg):=by change(∃d,Zb (D.str r.tg)=Zb d/\q d)=_;simp
theorem aku:Uy (XO r) (.int (no_index 5)) q=q (Sw r.t):=by change(∃d,Zb (Sw r.t)=Zb d/\q d)=_;simp
theorem akv:(Sw r.t).Qp=r.t.isNone:=by cases r.t<;>rfl
end
def rd8:String:=rd7 ++ " Z3 akq akr aks akt aku akv"
local macro_rules|`(tactic|walk_at "rd")=>UN rd8
def Good.made{A:ZC}{z st:Ze}{s:Za Ru}(h:Good z st s)(a:z = "cost" \/z = "chance"){q:Za (Ze×D)->Prop}{x:Zg->Prop}(b:q (ph A z st s)):aO A [.str z,.str st,.lst (s.map (Ru.d A))] q x:=by
 let#[res,e,c]:=h.ring;exact#[z,st,s,U,h.fit,.inr #[a,.inr (.inr #[h.wt,.inr #[h.un,.inr #[h.kd,res,e,.inr #[c,b]]]])]]
def pF{A:ZC}{r:Ru}(f:r.Fit)(o:TU r.ti r.hd r.ps r.tg r.t=Zd)(lt:r.tg.length<=1000){q:Za (Ze×D)->Prop}{x:Zg->Prop}(c:q (qZ r.ti r.hd r.ps (wD r.wa r.wb) r.tg r.t)):
  aE A [.str r.ti,.str r.hd,.lst (r.ps.map .str),wD r.wa r.wb,.str r.tg,Sw r.t] q x:=by
 let#[b,a,M,m]:=f;show#[_,_,_,r.ps,_,_,_,r.t,U,.inl U,M,?_,b,a,lt,λO=>c,λz=>by rw[o]at z;cases z];cases e:r.t with|none=>rfl|some u=>exact#[.inr U,m u e]
def pG{r:Ru}(o:TU r.ti r.hd r.ps r.tg r.t=Zd):r.tg.length<=1000:=by
 unfold TU at o;simp only[XX,oB,UF]at o;rcases o.1.2 with e|e;{rw[e];decide +kernel};exact yu (Fo e)
abbrev Ed:=Int×Int×Ze×Int×Int
def rd9:String:=rd8 ++ " fg"
local macro_rules|`(tactic|walk_at "rd")=>UN rd9
def Fp{n:Nat}{k:Int}(a:0<=k)(h:k<n):Sh n k=Zb k.toNat:=by
 unfold Sh;rw[Zt a,Zt h]
def Kt{s:Za Ru}{j:Nat}{r:Ru}(h:s[j]?=Zb r):Xp (s.map XO) (j:Int)=Zb (XO r):=WT (by rw[YC,h];rfl)
def akx:YB:=λx q O=>∃i:Int,x=[.int i]/\q (.bl Zd)
def ai9{A:ZC}(T:Txt K mg A):ZK P w K mg base (ZV P w) 1 A.AH A.qu Bs (Yy K akx):=by
 show T.zQ.F.YR bc 03 (λc b o s H E hr=>#[_,by have:=bc.nd;walk_at "j",λxs q x h=>?_]);let#[i,U,a]:=h;ac_nf;exact a
noncomputable def Vz(e:Int×Int×Ze×Int×Int):D:=.tup [.int e.1,.int e.2.1,.str e.2.2.1,wD e.2.2.2.1 e.2.2.2.2]
def aky:YB:=λx q O=>∃(e:Int×Int×Ze×Int×Int) (n:Int),x=[Vz e,.int n]/\0<=e.1/\e.1<e.2.1/\e.2.1<=n/\Wr e.2.2.1=Zd/\q (.bl Zd)
def ajo{A:ZC}(T:Txt K mg A):ZK P w K mg base (ZV P w) 4 A.AI A.qv Bt (Yy K aky):=by
 show T.zR.F.YR bg 03 (λC j o s H E hr=>#[_,by have:=bg.nd;walk_at "j",λxs q x h=>?_]);let#[e,n,U,g,f,c,a,b]:=h;have i:=yk (Fo a);have z:Zo=16777216:=rfl;unfold Vz;ac_nf;rw[Zq (show¬((!decide (((4:Nat):Int)=4))=Zd)by decide)];show#[_,U,?_];ac_nf;show#[_,U,?_];ac_nf;rw[Yq g,Zt U,Yq f,Zt U,Yq c,Zt U,a];exact#[00,b]
noncomputable def Z4(n:Int)(e:Za Ed):Za (Ze×D):=[("places",.int n),("edges",.tup (e.map Vz))]
noncomputable def Nt(A:ZC)(n:Int)(e:Za Ed):D:=.obj A.Rg (Z4 n e)
section
variable {A:ZC} [T:Txt K mg A] {q:D->Prop}{n:Int}{e:Za Ed}
include T
theorem akz:D.fld K "places" (Nt A n e) q=q (.int n):=D.Ve T.zk T.bX U
theorem akA:D.fld K "edges" (Nt A n e) q=q (.tup (e.map Vz)):=D.Ve T.zk T.bZ U
end
section
variable {q:D->Prop}{e:Ed}
theorem Z5:Uy (Vz e) (.int (no_index 0)) q=q (.int e.1):=by change(∃d,Zb (D.int e.1)=Zb d/\q d)=_;simp
theorem Z6:Uy (Vz e) (.int (no_index 1)) q=q (.int e.2.1):=by change(∃d,Zb (D.int e.2.1)=Zb d/\q d)=_;simp
theorem akB:Uy (Vz e) (.int (no_index 2)) q=q (.str e.2.2.1):=by change(∃d,Zb (D.str e.2.2.1)=Zb d/\q d)=_;simp
end
def Z7:String:=rd9 ++ " akz akA Z5 Z6 akB"
local macro_rules|`(tactic|walk_at "rd")=>UN Z7
def akC(A:ZC):Pu:=λs q x=>∃(n:Int) (E:Za Ed),s=[.int n,.lst (E.map Vz)]/\1<=n/\E.length<=1000/\(∀e∈E,0<=e.1/\e.1<e.2.1/\e.2.1<=n/\Wr e.2.2.1=Zd)/\q (Z4 n E)
def akD{A:ZC}(T:Txt K mg A):ZK P w K mg base (ZV P w) 5 A.Fe A.rN CO (OO K A.Rg (akC A)):=by
 show T.B_Net___init__.F.JR cz (λb q x h=>?_) (λC L o s H E hr=>#[_,by have:=cz.nd;walk_at "#Wa 'edge [1 'places [1 1 [1 @3 $ Uz K :K [0 0 ? jv 1 @1 @5 $ Uz K :K [0 0 @3 $ |3",λB J b q x h=>?_]);{let#[n,a,U,_]:=h;rfl};let#[n,a,U,I,G,f,c]:=h;have z:Zo=16777216:=rfl;ac_nf;show#[_,U,?_];ac_nf;rw[XF (show¬n<1 by lia)];ac_nf;show UA (λO=>.bl Zd) 00 (λe m N g=>?_) ?_;{ac_nf;let#[y,u,p,j]:=f e m;exact#[e,n,U,y,u,p,j,g]};have em:(a.map λO=>D.bl Zd)=(a.map λO=>Zd).map .bl:=by rw[YG];rfl
 rw[em];ac_nf;have i:(a.map λO=>Zd).all id=Zd:=by rw[IQ];simp
 rw[i];ac_nf;exact#[T.zk,T.bX,01,T.zk,T.bZ,by change 1<1000;decide,c]
def Z8:String:=Z7 ++ " gI af3 af4 gL gM gO gS eG eH eJ eK eL eM eO eQ eR eS uU dz dE dJ dF Ia fW fX ag5 aif gk"
local macro_rules|`(tactic|walk_at "rd")=>UN Z8
def Fq{a:Type}(c:a->D)(s:Za a):LU (s.map c)=s.zipIdx.map λp=>.tup [.int p.2,c p.1]:=by
 unfold LU;apply FO ;intro i;rw[apA,YC,YC,O9];cases s[i]? with|none=>rfl|some x=>simp
abbrev ZT:=Ze×Int
noncomputable def Xs(s:ZT):D:=.tup [.str s.1,.int s.2]
noncomputable def Ti(s:ZT):Zu:=[.inl (.inr s.1),.inl (.inl s.2)]
def pH{s t:ZT}(h:Ti s=Ti t):s=t:=by
 unfold Ti at h;simp only[IT,o9,m7,and_true]at h;exact QP h.1 h.2
noncomputable def numsOf(s:Za Ru)(h:Ze):Za Nat:=(s.zipIdx.filter λp=>decide (p.1.hd=h)).map (·.2)
noncomputable def Vh(N:Za Nat):Za D:=N.map λn:Nat=>.int n
def yx{s:Za Ru}{h:Ze}{i:Nat}(hi:i∈numsOf s h):∃r,s[i]?=Zb r/\r.hd=h:=by
 unfold numsOf at hi;let#[#[r,j],c,U]:=ZW.mp hi;let#[b,a]:=WM.mp c;exact#[r,↑((KQ.mp b)),↑a]
def akE(s:Za Ru)(h:Ze):(numsOf s h).Nodup:=by
 have:(s.zipIdx.map (·.2)).Nodup:=by
  rw[apT];exact apJ
 exact this.sublist (yX.map _)
def Z9{s:Za Ru}{i:Nat}{r:Ru}(h:s[i]?=Zb r):i∈numsOf s r.hd:=ZW.mpr #[(r,i),WM.mpr #[KQ.mpr h,Yq U],U]
def yy(s:Za Ru)(h:Ze):(numsOf s h).length<=s.length:=by
 unfold numsOf;rw[ZI];have:=IX (λp:Ru×Nat=>decide (p.1.hd=h)) s.zipIdx;rw[KP]at this;exact this
def akF(A:ZC):YB:=λx q O=>∃(h:Ze) (s:Za Ru),x=[.str h,.tup (s.map (Ru.d A))]/\s.length<=1000/\q (.lst (Vh (numsOf s h)))
def ajb{A:ZC}(T:Txt K mg A):ZK P w K mg base (ZV P w) 1 A.Ax A.qj Bk (Yy K (akF A)):=by
 show T.zI.F.YR cR 03 (λC i o s H E hr=>#[_,by have:=cR.nd;walk_at "#Wa 'number 'rule [2 'head [1 0 [1 @3 $",λxs q x h=>?_]);let#[h,f,U,g,a]:=h;have z:Zo=16777216:=rfl;ac_nf;rw[Fq];show ud (λp=>decide (p.1.hd=h)) (λp=>.int p.2) (by rw[KP];lia) (λp c N b=>?_) (λp c O N b=>?_) ?_;{ac_nf;exact b};{ac_nf;exact b};unfold Vh numsOf at a;rw[YG]at a;exact a
noncomputable def Sy(b e:Int)(w:Ze):Zu:=[.inl (.inl b),.inl (.inl e),.inl (.inr w)]
def akG{b e B E:Int}{w a:Ze}(h:Sy b e w=Sy B E a):b=B/\e=E/\w=a:=by
 unfold Sy at h;simpa using h
noncomputable def Rj(E:Za Ed)(b e:Int)(w:Ze):Za Int:=(E.zipIdx.filter λp=>decide (p.1.1=b/\p.1.2.1=e/\p.1.2.2.1=w)).map λp=>(p.2:Int)
def akH{E:Za Ed}{b e i:Int}{w:Ze}(h:i∈Rj E b e w):∃(j:Nat) (x:Ed),i=j/\E[j]?=Zb x/\x.1=b/\x.2.1=e/\x.2.2.1=w:=by
 unfold Rj at h;let#[#[x,j],f,U]:=ZW.mp h;let#[c,a]:=WM.mp f;exact#[j,x,U,↑((KQ.mp c)),↑a]
def akI{e:Za Ed}{j:Nat}{x:Ed}(h:e[j]?=Zb x):(j:Int)∈Rj e x.1 x.2.1 x.2.2.1:=ZW.mpr #[(x,j),WM.mpr #[KQ.mpr h,Yq #[U,U,U]],U]
def akJ{a:Type}{s:Za a}{i:Nat}{x:a}(h:s[i]?=Zb x):(s.take (i+1)).zipIdx=(s.take i).zipIdx++[(x,i)]:=by
 have hi:=(YM.mp h).1;rw[Um,h,List.zipIdx_append,WL,nq 00];simp
def akK(A:ZC):YB:=λx q O=>∃(n:Int) (E:Za Ed),x=[Nt A n E]/\E.length<=1000/\∀a:Za ZM,(∀b e w,Yi a (Sy b e w)=Rj E b e w)->q (.dit (Te a))
def akL{A:ZC}(T:Txt K mg A):ZK P w K mg base (ZV P w) 1 A.Ay A.qk Bl (Yy K (akK A)):=by
 show T.zJ.F.YR cT 03 (λcdv Ar G s H E hr=>#[_,by have:=cT.nd;walk_at "#ahc 1 :i ? rfl @3 $ ahd 1 2 @2 $ ahe 1 @1 $ |3",λxs q x h=>?_]);let#[n,Q,U,hl,hq]:=h;have hsz:Zo=16777216:=rfl;ac_nf;intro a;show#[[],?_];ac_nf;rw[Fq];show Td (λi ds=>∃(c:Za ZM) (C B u o m:L2.Slot),ds=[.v (Nt A n Q),.st a (pM [] a c),C,B,u,o,m]/\Xj [] a c/\c.length<=i/\(∀x∈c,x.2.2.length<=i)/\∀b e w,Yi c (Sy b e w)=Rj (Q.take i) b e w) #[[],_,_,_,_,_,U,⟨02,02⟩,ZU _,λx h=>(by cases h),λb e w=>rfl] (λi p ds N L hd hn=>?_) (λds hd=>?_)
 ·let#[c,C,B,u,o,m,U,ok,h1,J,j]:=hd;rw[O9]at L;let#[e,M,U]:=G5.mp L;have hi:=(YM.mp M).1;unfold Vz;ac_nf;show#[a,c,U,ok,00,λx g=>by have:=J x g;lia,01,Sy e.1 e.2.1 e.2.2.1,U,λb I=>hn _ #[_,_,_,_,_,_,U,I.set,?_,λx g=>?_,λb' e' Y=>?_]];{rw[aie];have:=aid (Sy e.1 e.2.1 e.2.2.1) b c;lia}
  ·have ins:∀y∈WX (Sy e.1 e.2.1 e.2.2.1) b c,y.2.2.length<=i:=λy f=>by
    rcases dN f with f|rfl;{exact J y f};exact Wg _
   rcases dM g with g|⟨y,f,_,rfl⟩;{have:=ins x g;lia};have:=ins y f;change(y.2.2++[(i:Int)]).length<=i+1;rw[Yx];exact Eb this
  rw[eB,j,j];unfold Rj;rw[akJ M,oT,Xt];by_cases z:Sy b' e' Y=Sy e.1 e.2.1 e.2.2.1;{rw[Zt z];let#[U,U,U]:=akG z;simp};rw[Zq z,O2 (by
   intro Z
   simp only[UF]at Z
   let#[U,U,U]:=Z
   exact z U)]
  simp
 let#[c,C,B,u,o,m,U,ok,h1,J,j]:=hd;ac_nf;rw[KP,TZ]at j;exact#[_,_,U,ok,hq c j]
def Y0{b c:Type}(f:b->c)(g:c->b)(h:∀a,g (f a)=a){s:Za c}{e:Za b}(p:s.Perm (e.map f)):∃y:Za b,s=y.map f/\y.Perm e:=by
 show#[s.map g,?_,?_];{rw[YG];show(oY s).symm.trans (IZ λk i=>?_);let#[x,_,U]:=ZW.mp (p.mem_iff.mp i);change _=f (g (f x));rw[h];rfl};have:=p.map g;rw[YG,show g ∘ f=id from funext h,oY]at this;exact this
noncomputable def Qu(p:Int×Int):D:=.tup [.int p.1,.int p.2]
noncomputable def prK(p:Int×Int):Zu:=[.inl (.inl p.1),.inl (.inl p.2)]
def PR(n:Int)(E:Za Ed):Prop:=n<=6/\E.length<=9/\(∀e∈E,0<=e.1/\e.1<e.2.1/\e.2.1<=n/\Wr e.2.2.1=Zd)/\∀p:Int,(E.filter λe=>decide (e.2.1=p)).length<=4
noncomputable def Nk(B E:Za Int):Za (Int×Int):=B.flatMap λb=>E.flatMap λe=>if b<e then [(e-b,b)]else []
def Ku{b a c:Type}(f:b->Za a)(h:a->c)(s:Za b):(s.flatMap f).map h=s.flatMap λx=>(f x).map h:=by
 induction s with|nil=>rfl|cons x s i=>rw[Oe,Xt,i,Oe]
structure pI (n:Int)(es:List Ed)(sp:List (Int×Int)):Prop where
 at_:∀p∈sp,0<p.1/\0<=p.2/\p.2+p.1<=n
 all:∀x∈es,∀y∈es,x.1<y.2.1->(y.2.1-x.1,x.1)∈sp
 up:sp.Pairwise λp q=>p.1<=q.1
 nd:sp.Nodup
theorem Iv{i n:Type}{f:i->Za n}:∀{s:Za i},s.Nodup->(∀x∈s,(f x).Nodup)->(∀x∈s,∀y∈s,∀a,a∈f x->a∈f y->x=y)->(s.flatMap f).Nodup
 |[],_,_,_=>FX
 |x::s,nd,m,j=>by
  rw[TY]at nd;rw[Oe,UE];show#[m x YY,Iv nd.2 (λy c=>m y (YT _ c)) (λy c z o=>j y (YT _ c) z (YT _ o)),λa p b g e=>?_];subst e;let#[y,c,g]:=Vs.mp g;exact nd.1 (j x YY y (YT _ c) a p g▸c)
def pJ{c g:Type}{f:c->g}(h:∀a b,f a=f b->a=b){x:Za c}(nd:x.Nodup):(x.map f).Nodup:=by
 rw[NA,NB];exact(NA.mp nd).imp λn e=>n (h _ _ e)
set_option tactic.hygienic true in
def Fs{b:Type}{p:Prop}[Decidable p]{a x:b}(h:x∈if p then [a]else []):p/\x=a:=by
 split at h;{rename_i z;exact#[z,YJ.mp h]};cases h
def akM{bs n:Za Int}(i:bs.Nodup)(g:n.Nodup):(Nk bs n).Nodup:=Iv i (λb O=>Iv g (λe O=>by split<;>simp) λx O y O a f c=>by
  have e:=(Fs f).2.symm.trans (Fs c).2;injection e with e;lia) λx O y O a f c=>by
 let#[e,_,f]:=Vs.mp f
 let#[E,_,c]:=Vs.mp c
 have e:=(Fs f).2.symm.trans (Fs c).2
 injection e
def six{n:Za Int}(nd:n.Nodup)(h:∀y∈n,0<=y/\y<=6):n.length<=7:=OZ (ys:=[0,1,2,3,4,5,6]) nd λy a=>by
 let#[c,b]:=h y a;simp only[Yk,Qd,or_false];lia
def akN(A:ZC):YB:=λx q O=>∃(n:Int) (e:Za Ed),x=[Nt A n e]/\PR n e/\∀s:Za (Int×Int),pI n e s->q (.lst (s.map Qu))
set_option tactic.hygienic true in
def akO{A:ZC}(T:Txt K mg A):ZK P w K mg base (ZV P w) 1 A.Az A.ql Bm (Yy K (akN A)):=by
 show T.zK.F.YR cU 03 (λcdv Ar G s H E hr=>#[_,by have:=cU.nd;walk_at "#uV 'edge [1 [0 [0 ? T.Fj @5 $ ~ JF.je $ uV 'edge [1 [0 [0 ? T.Fj @5 $ ; ~ Ik $ RK fP .i [1 hu5 hr @1 @2 ? T.Fj G7 @4 $ Kc 'begin 'end [2 'ends [1 2 [1 @3 $ ~ JF.je $ Kc 'begin 'end [2 'ends [1 2 [1 @3 $ ; ~ |6",λxs q x h=>?_]);let#[n,z,U,#[h6,h9,u,_],hq]:=h;have hsz:Zo=16777216:=rfl;ac_nf;show uW (λO=>Zd) (·.1) z (by change _<4096;lia) (λe Q N m=>m) (λe Q O N m=>?_) (λbs nb I B o=>?_) _;{ac_nf;exact m};show uW (λO=>Zd) (·.2.1) z (by change _<4096;lia) (λe Q N m=>m) (λe Q O N m=>?_) (λns nn M f pn=>?_) _;{ac_nf;exact m};have lb:B.length<=7:=by
  rw[o.length_eq];exact six nb λy j=>by
   let#[e,h,_,U]:=(I y).mp j;have:=u e h;lia
 have ln:f.length<=7:=by
  rw[pn.length_eq];exact six nn λy j=>by
   let#[e,h,_,U]:=(M y).mp j;have:=u e h;lia
 have ls:(Nk B f).length<=49:=by
  unfold Nk;show Yp (Pz (n:=7) λb O=>Yp (Pz (n:=1) λe O=>?_) 00) 00;split<;>simp
 have ms:∀p∈Nk B f,0<p.1/\0<=p.2/\p.2+p.1<=n:=by
  intro p g;unfold Nk at g;let#[b,hb,g]:=Vs.mp g;let#[e,h2,g]:=Vs.mp g;split at g;{rename_i lt;rw[YJ.mp g];let#[x,x1,_,x2]:=(I b).mp (o.mem_iff.mp hb);let#[y,y1,_,y2]:=(M e).mp (pn.mem_iff.mp h2);have:=u x x1;have:=u y y1;exact#[by change 0<e-b;lia,by change 0<=b;lia,by change b+(e-b)<=n;lia]};cases g
 have al:∀x∈z,∀y∈z,x.1<y.2.1->(y.2.1-x.1,x.1)∈Nk B f:=λx J y j lt=>Vs.mpr #[x.1,o.mem_iff.mpr ((I x.1).mpr #[x,J,U,U]),Vs.mpr #[y.2.1,pn.mem_iff.mpr ((M y.2.1).mpr #[y,j,U,U]),by rw[Zt lt];simp]];have em:(Nk B f).map Qu=B.flatMap λb=>f.flatMap λe=>if b<e then [Qu (e-b,b)]else []:=by
  unfold Nk;rw[Ku];congr 1;funext b;rw[Ku];congr 1;funext e;split<;>rfl
 show GZ (C:=λds=>∃Z i,ds=[Z,i,.v (.lst (Xg f))]) (xs:=B) (c:=.int) (zs:=λb=>f.flatMap λe=>if b<e then [Qu (e-b,b)]else []) #[_,_,U] (λb hb ds Y=>?_) (by rw[<-em,ZI];lia) ?_;{let#[Z,i,U]:=Y;show Py (ds1:=[.v (.int b),i,.v (.lst (Xg f))]) (λN h=>h) (QG.mono (Ij (xs:=f) (c:=.int) (C:=λds=>∃i,ds=[.v (.int b),i,.v (.lst (Xg f))]) (λq h=>h) ⟨_,rfl⟩ λe h2 ds Y=>?_) λds ⟨i,h⟩=>#[_,i,h]);let#[i,U]:=Y;show Ct (ds1:=[.v (.int b),.v (.int e),.v (.lst (Xg f))]) (b:=decide (b<e)) (λN h=>h) (λN h=>?_) (λh=>?_) (λh=>#[Zq (of_decide_eq_false h),_,U]);{ac_nf;exact h};rw[Zt (Se h)];show Ii (λN h=>?_) #[_,U];ac_nf;exact#[01,h]};rw[<-em];show#[(Nk B f).map prK,by rw[YG];rfl,λk hk=>?_,λks g up=>?_];{let#[p,_,U]:=ZW.mp hk;exact#[trivial,trivial,trivial]};let#[sp,U,L]:=Y0 prK (λk=>match k with | [.inl (.inl a),.inl (.inl b)]=>(a,b) | _=>(0,0)) (λO=>rfl) g;rw[YG];show hq sp #[λp g=>ms p (L.mem_iff.mp g),λx J y j lt=>L.mem_iff.mpr (al x J y j lt),(NB.mp (up (by rw[ZI];lia))).imp λh=>h,L.nodup_iff.mpr (akM (o.nodup_iff.mpr nb) (pn.nodup_iff.mpr nn))]
abbrev pK(g:Za (Ze×D))(f:Ze)(d:D):Prop:=g.lookup f=Zb d
noncomputable def XW(a:Za Ze)(j:Int)(p:Ze):ZT:=(p,if p∈a then j else -1)
def akP(A:ZC):YB:=λx q O=>∃(g:Za (Ze×D)) (r:Ru) (j:Int) (a:Za Ze),x=[.obj A.Wm g,r.d A,.int j]/\pK g "tied_kinds" (.lst (a.map .str))/\r.ps.length<=1000/\q (.lst ((r.ps.map (XW a j)).map Xs))
def akQ{A:ZC}(T:Txt K mg A):ZK P w K mg base (ZV P w) 1 A.bI A.rz CA (Yy K (akP A)):=by
 show T.B_Chart_seats_beneath.F.YR dR 03 (λC m o s H E hr=>#[_,by have:=dR.nd;walk_at "#Wa 'part [1 'number 'self [2 2 0 [2 @3 $",λxs q x h=>?_]);let#[G,r,j,c,U,g,i,b]:=h;have z:Zo=16777216:=rfl;ac_nf;show UA (λp=>Xs (XW c j p)) 00 (λp f N a=>?_) ?_;{ac_nf;rw[D.Ve T.XM T.aj g];ac_nf;unfold Xs XW at a;show Vg (λe=>#[01,?_]) (λe=>#[01,?_]);{rw[Zt e]at a;exact a};rw[Zq e]at a;exact a};rw[YG]at b;exact b
set_option tactic.hygienic true in
def akR(s:Za (Zu×D))(k b:Zu)(d:D):WK (VX s k d) b=if b=k then Zb d else WK s b:=by
 unfold VX;split
 ·rename_i h;induction s with
  |nil=>simp at h
  |cons x s i=>
   let⟨a,v⟩:=x;rw[Xo];by_cases e:a=k;{subst e;rw[Zt U,Px,Px];by_cases E:a=b;{rw[Zt E,Zt E.symm]};rw[Zq E,Zq (XR E),Zq E];by_cases c:(s.any λf=>decide (f.1=a))=Zd;{rw[i c,Zq (XR E)]};congr 1;show(IZ λy g=>?_).trans (oY _);rw[Zq (λz=>c (KM.mpr #[y,g,↑z]))];rfl};rw[Zq e,Px,Px];have c:(s.any λf=>decide (f.1=k))=Zd:=by
    rw[SF,XF e,aoF]at h;exact h
   rw[i c];by_cases E:a=b;{rw[Zt E,Zt E,Zq (λz=>e (E.trans z))]};rw[Zq E,Zq E]
 rename_i h;have no:∀x∈s,x.1≠k:=λx j z=>h (KM.mpr #[x,j,↑z]);induction s with
 |nil=>
  rw[QN,Px];by_cases e:k=b;{rw[Zt e,Zt e.symm]};rw[Zq e,Zq (XR e)]
 |cons x s i=>
  let⟨a,v⟩:=x;rw[Nw,Px,Px,i (λz=>by rw[SF,z,aoG]at h;exact h U) (λy g=>no y (YT _ g))];have:=no (a,v) YY;by_cases E:a=b;{rw[Zt E,Zt E,Zq (λz=>this (E.trans z))]};rw[Zq E,Zq E]
set_option tactic.hygienic true in
def akS{s:Za (Zu×D)}{k:Zu}{d:D}{x:Zu×D}(h:x∈VX s k d):x∈s\/x=(k,d):=by
 unfold VX at h;split at h;{let#[y,a,e]:=ZW.mp h;split at e;{rename_i z;exact .inr (by rw[<-e,z])};exact .inl (e▸a)};rcases Xk.mp h with h|h;{exact .inl h};exact .inr (YJ.mp h)
def akT(s:Za (Zu×D))(k:Zu)(d:D):(VX s k d).length<=s.length+1:=by
 unfold VX;split;{rw[ZI];lia};rw[Yx];exact ZU _
noncomputable def Vr(s:Za Ru)(i:Nat)(a:Int):Bool:=match s[i]? with
 |none=>Zi
 |some r=>match r.t with
  |none=>Zd
  |some u=>!decide (a=-1)&&match s[a.toNat]? with
   |none=>Zi
   |some b=>decide (b.ti∈u)
def akU{s:Za Ru}{i:Nat}{r:Ru}{a:Int}{q:Bool->Prop}(f:s[i]?=Zb r)(g:a=-1\/(0<=a/\a.toNat<s.length))(h:q (Vr s i a)):yq s r a q:=by
 unfold Vr at h;rw[f]at h;dsimp only at h;unfold yq;cases b:r.t with
 |none=>rw[b]at h;exact h
 |some u=>
  rw[b]at h;change if a=-1 then _ else _
  by_cases e:a=-1;{rw[Zt e];rw[Yq e]at h;exact h};rw[Zq e];let#[j,c]:=g.resolve_left e;rw[XF e,ZA c]at h;exact#[_,ZA c,j,h]
noncomputable def Ui(a:Za Ru)(s:ZT):Za Nat:=(numsOf a s.1).filter λi=>Vr a i s.2
structure Nm (rs:List Ru)(all dn:List ZT)(kvs:List (Zu×D)):Prop where
 mem:∀kv∈kvs,∃s∈all,YS s.1=Zd/\kv=(Ti s,.lst (Vh (Ui rs s)))
 has:∀s∈dn,YS s.1=Zd->WK kvs (Ti s)=Zb (.lst (Vh (Ui rs s)))
 len:kvs.length<=dn.length
def Nm.put{c:Za Ru}{all n:Za ZT}{a:Za (Zu×D)}{s:ZT}(h:Nm c all n a)(i:s∈all)(k:YS s.1=Zd):Nm c all (n++[s]) (VX a (Ti s) (.lst (Vh (Ui c s)))):=by
 show#[λf z=>?_,λt b g=>?_,by rw[Yx];exact Yp (akT _ _ _) (Eb h.len)];{rcases akS z with z|z;{exact h.mem f z};exact#[s,i,k,z]};rw[akR];by_cases e:Ti t=Ti s;{rw[Zt e,pH e]};rw[Zq e];rcases Xk.mp b with b|b;{exact h.has t b g};rw[YJ.mp b]at e;exact ZJ U e
def Nm.skip{e:Za Ru}{all n:Za ZT}{a:Za (Zu×D)}{s:ZT}(h:Nm e all n a)(k:YS s.1=Zi):Nm e all (n++[s]) a:=by
 show#[h.mem,λt b c=>?_,by rw[Yx];exact Yp h.len (Rv _ _)];rcases Xk.mp b with b|b;{exact h.has t b c};rw[YJ.mp b,k]at c;cases c
def Ft{a b:Type}(f:a->b)(s:Za a):(s.flatMap λx=>[f x])=s.map f:=by
 induction s with|nil=>rfl|cons x s i=>rw[Oe,i];rfl
def akV{a b:Type}(f:a->b)(s:Za (Za a)):(s.flatMap λl=>l.flatMap λx=>[f x])=s.flatten.map f:=by
 induction s with|nil=>rfl|cons l s i=>rw[Oe,O6,Xt,Ft,i]
def akW(A:ZC):YB:=λx q O=>∃(g:Za (Ze×D)) (z st:Ze) (c:Za Ru) (p:ZT) (a:Za (Za ZT)),x=[.obj A.Wm g,Gr A z st c]/\pK g "top_seat" (Xs p)/\pK g "seats" (.lst (a.map λl=>.lst (l.map Xs)))/\c.length<=1000/\(p::a.flatten).length<=1000/\
 (∀s∈p::a.flatten,s.1.length<=1000/\(s.2=-1\/(0<=s.2/\s.2.toNat<c.length)))/\∀b,Nm c (p::a.flatten) (p::a.flatten) b->q (.dit b)
def akX{A:ZC}(T:Txt K mg A):ZK P w K mg base (ZV P w) 4 A.BQ A.rA CB (Yy K (akW A)):=by
 show T.B_Chart_fillers_of.F.YR dS 03 (λcdv Ar B s H E hr=>#[_,by have:=dS.nd;walk_at "#gP 2 :i ? rfl @3 $ Ik $ gT [0 2 ? jv 3 @1 @4 $ Mt 2 [1 jv 2 @1 @2 $ Kc 'seats 'seat [2 [0 [0 @3 $ ~ JF.je $ Kc 'seats 'seat [2 [0 [0 @3 $ ; ~ Wa 'number [1 'grammar 'above [2 1 5 [2 @3 $ ~ |7",λxs q x h=>?_]);let#[gs,z,st,g,tp,b,U,h1,Z,l1,L,hs,hq]:=h;have hsz:Zo=16777216:=rfl;ac_nf;show#[[],?_];ac_nf;rw[D.Ve T.XM T.qQ h1];show#[01,?_];rw[D.Ve T.XM T.qP Z];have ef:=akV Xs b;show GZ (C:=λds=>∃o m,ds=[o,m]) (xs:=b) (c:=λl=>.lst (l.map Xs)) (zs:=λl=>l.flatMap λs=>[Xs s]) #[_,_,U] (λl hl ds J=>?_) (by rw[ef,ZI];rw[Yu]at L;lia) ?_;{let#[o,m,U]:=J;show Py (ds1:=[.v (.lst (l.map Xs)),m]) (λN h=>h) (Ij (xs:=l) (c:=Xs) (λq h=>h) ⟨_,_,rfl⟩ λt Z ds J=>?_);let#[o,m,U]:=J;exact Py (ds1:=[o,.v (Xs t)]) (λN h=>h) (Ii (λN h=>h) #[_,_,U])};rw[ef];show#[by rw[ZI];rw[Yu]at L;lia,?_];rw[<-Xo (f:=Xs)];generalize tp::b.flatten=all at *;show Td (λi ds=>∃(a:Za (Zu×D)) (y u p:L2.Slot),ds=[.v (.obj A.Wm gs),.v (Gr A z st g),.on a,y,u,p]/\Nm g all (all.take i) a) #[[],_,_,_,U,#[λO h=>(by cases h),λO h=>(by cases h),ZU _]] (λi t ds N G hd M=>?_) (λds hd=>?_)
 ·let#[a,y,u,p,U,ok]:=hd;have Q:t∈all:=YH G;have hi:=(YM.mp G).1;let#[t1,t2]:=hs t Q;have et:all.take (i+1)=all.take i++[t]:=by rw[Um,G];rfl
  have n:=ok.len;rw[WL]at n;unfold Xs;ac_nf;show#[00,ifB (λe=>#[a,U,t.1,g,U,l1,?_]) (λe=>M _ #[a,_,_,_,U,by rw[et];exact ok.skip e])];ac_nf;have ln:=yy g t.1;show LX (λj=>Vr g j t.2) (λj:Nat=>.int j) (xs:=numsOf g t.1) 00 (λj Y N I=>?_) (λj Y O N I=>?_) ?_;{ac_nf;let#[r,hr,_]:=yx Y;exact#[z,st,g,j,t.2,r,U,hr,akU hr t2 I]};{ac_nf;exact I};show#[Ti t,U,00,M _ #[_,_,_,_,U,?_]];rw[et];exact ok.put Q e
 let#[a,y,u,p,U,ok]:=hd;ac_nf;rw[TZ]at ok;exact hq a ok
structure Ch where
 tk:List Ze
 sts:List (List ZT)
 tp:ZT
 kvs:List (Zu×D)
 een:List ZM
noncomputable def Kv(c:Ch):Za (Ze×D):=[("tied_kinds",.lst (c.tk.map .str)),("seats",.lst (c.sts.map λl=>.lst (l.map Xs))),("top_seat",Xs c.tp),("fillers",.dit c.kvs),("edge_numbers",.dit (Te c.een))]
noncomputable def Wc(A:ZC)(c:Ch)(e:Za ZM):D:=.obj A.Wm (Kv c++[(("ends" : Ze),D.dit (Te e))])
section
variable {A:ZC} [T:Txt K mg A] {q:D->Prop}{c:Ch}{e:Za ZM}
include T
theorem akY:D.fld K "seats" (Wc A c e) q=q (.lst (c.sts.map λl=>.lst (l.map Xs))):=D.Ve T.XM T.qP U
theorem pL:D.fld K "top_seat" (Wc A c e) q=q (Xs c.tp):=D.Ve T.XM T.qQ U
theorem akZ:D.fld K "fillers" (Wc A c e) q=q (.dit c.kvs):=D.Ve T.XM T.qR U
theorem ak0:D.fld K "edge_numbers" (Wc A c e) q=q (.dit (Te c.een)):=D.Ve T.XM T.ak U
theorem ak1:D.fld K "ends" (Wc A c e) q=q (.dit (Te e)):=D.Ve T.XM T.qS U
end
def Y4:String:=Z8 ++ " akY pL akZ ak0 ak1"
local macro_rules|`(tactic|walk_at "rd")=>UN Y4
noncomputable def Ym(s:ZT)(b:Int):Zu:=[.inr [.inr s.1,.inl s.2],.inl (.inl b)]
def pN{s t:ZT}{b c:Int}(h:Ym s b=Ym t c):s=t/\b=c:=by
 unfold Ym at h;simp only[IT,o9,m7,and_true]at h;exact#[QP h.1.1 h.1.2,h.2]
structure Xb (SS:List ZT)(en:List ZM):Prop where
 nd:(en.map (·.1)).Nodup
 at_:∀x∈en,∃s b,x.1=Ym s b/\s∈SS/\0<=b/\b<=6/\x.2.2.Nodup/\∀y∈x.2.2,b<y/\y<=6
def T5{n:Za Int}(nd:n.Nodup)(h:∀y∈n,0<y/\y<=6):n.length<=6:=OZ (ys:=[1,2,3,4,5,6]) nd λy a=>by
 let#[c,b]:=h y a;simp only[Yk,Qd,or_false];lia
def Xb.lk{f:Za ZT}{E:Za ZM}(h:Xb f E)(s:ZT)(b:Int):(Yi E (Ym s b)).Nodup/\∀y∈Yi E (Ym s b),0<=b/\b<y/\y<=6/\s∈f:=by
 unfold Yi;cases z:E.find? λx=>decide (x.1=Ym s b) with
 |none=>exact#[FX,λy a=>by cases a]
 |some x=>
  let⟨t,B,e,j,i,m,g,c⟩:=h.at_ x (oZ z);have:=IV z;simp only[UF]at this;let#[U,U]:=pN (this.symm.trans e);exact#[g,λy a=>#[i,(c y a).1,(c y a).2,j]]
def Xb.lk5{g:Za ZT}{e:Za ZM}(h:Xb g e)(s:ZT)(b:Int):(Yi e (Ym s b)).length<=6:=by
 let#[f,c]:=h.lk s b;exact T5 f λy a=>by have:=c y a;lia
def Xb.len{a:Za ZT}{E:Za ZM}(h:Xb a E):E.length<=a.length*7:=by
 have:=OZ (ys:=a.flatMap λs=>[0,1,2,3,4,5,6].map (Ym s)) h.nd λk f=>by
  let#[x,c,U]:=ZW.mp f;let#[t,b,e,g,j,i,_]:=h.at_ x c;show Vs.mpr #[t,g,ZW.mpr #[b,?_,e.symm]];simp only[Yk,Qd,or_false];lia
 rw[ZI]at this;exact Yp this (Pz λs O=>02)
def Y5(n:Int)(s:Za Int):(MS (.int n) (s.map V.int)=Zd)↔n∈s:=by
 unfold MS;rw[FN,KM];show#[λ⟨x,b,a⟩=>?_,λh=>#[n,h,?_]]
 ·have:x=n:=by simpa [Uv]using a
  exact this▸b
 simp[Uv]
set_option tactic.hygienic true in
def Xb.note{i:Za ZT}{E:Za ZM}(h:Xb i E){p:Mu}{e:Zg}{s:ZT}{b y:Int}{l:Zg}(m:s∈i)(o:0<=b)(C:b<y)(B:y<=6)(ok:Xj p e (WX (Ym s b) l E)):Xb i (VS (QC y) (Ym s b) (WX (Ym s b) l E)):=by
 show#[by rw[fZ];exact ok.ky,λx f=>?_];have ins:∀x∈WX (Ym s b) l E,∃s b,x.1=Ym s b/\s∈i/\0<=b/\b<=6/\x.2.2.Nodup/\∀y∈x.2.2,b<y/\y<=6:=λx f=>by
  rcases dN f with f|rfl;{exact h.at_ x f};exact#[s,b,U,m,o,00,FX,λy u=>by cases u]
 rcases dM f with f|⟨z,q,J,rfl⟩;{exact ins x f};let#[t,Q,G,N,M,L,j,I]:=ins z q;let#[U,U]:=pN (J.symm.trans G);show#[s,b,U,m,o,00,?_,?_];{change(QC y z.2.2).Nodup;unfold QC;split;{exact j};rename_i n;rw[Y5]at n;rw[UE];exact#[j,02,λa A c g e=>n (by rw[<-YJ.mp g,<-e];exact A)]};change∀c∈QC y z.2.2,_;unfold QC;split;{exact I};intro c g;rcases Xk.mp g with g|g;{exact I c g};rw[YJ.mp g];exact#[C,B]
def ak2(A:ZC):YB:=λx q O=>∃(c:Ch) (e:Za ZM) (s:ZT) (b:Int),x=[Wc A c e,Xs s,.int b]/\q (.lst (Xg (Yi e (Ym s b))))
def pO{A:ZC}(T:Txt K mg A):ZK P w K mg base (ZV P w) 1 A.BX A.rF CH (Yy K (ak2 A)):=by
 show T.B_Chart_ends_from.F.YR dZ 03 (λC f o s H E hr=>#[_,by have:=dZ.nd;walk_at "#gN $",λxs q x h=>?_]);let#[c,n,s,b,U,a]:=h;ac_nf;exact#[_,U,01,01,Ym s b,U,by rw[eC];exact a]
abbrev Sz(A:ZC)(a x:Zg)(c:Ch)(e:Zg)(E:Za ZM):Mu:=UB a A.Wm x (Kv c) "ends" e E
abbrev RZ(A:ZC)(a x:Zg)(c:Ch)(e:Zg)(E:Za ZM):Prop:=Xj (Su a A.Wm x (Kv c) "ends" e) e E
def U8(E e:Za ZM)(s:ZT)(b y:Int):Prop:=∀t c m,m∈Yi e (Ym t c)↔m∈Yi E (Ym t c)\/(t=s/\c=b/\m=y)
set_option tactic.hygienic true in
def ak3(e:Za ZM)(s:ZT)(b y:Int)(l:Zg):U8 e (VS (QC y) (Ym s b) (WX (Ym s b) l e)) s b y:=by
 intro t c m;rw[eB];by_cases z:Ym t c=Ym s b;{let#[U,U]:=pN z;rw[Zt U];unfold QC;split;{rename_i h;rw[Y5]at h;exact#[.inl,λz=>z.elim id λz=>by rw[z.2.2];exact h]};simp};rw[Zq z];exact#[.inl,λh=>h.resolve_right λh=>z (by rw[h.1,h.2.1])]
def ak4(A:ZC):Rb:=λi g q=>∃(a x:Zg) (c:Ch) (e:Zg) (n:Za ZM) (f:Za ZT) (s:ZT) (b y:Int),i=[.rf a,Xs s,.int b,.int y]/\g=Sz A a x c e n/\RZ A a x c e n/\Xb f n/\f.length<=1000/\s∈f/\0<=b/\b<y/\y<=6/\∀E,RZ A a x c e E->Xb f E->U8 n E s b y->q .non (Sz A a x c e E)
def Y6{A:ZC}(T:Txt K mg A):ZK P w K mg base (ZV P w) 1 A.BW A.rE CG (spS K 0 (ak4 A)):=by
 show T.B_Chart_note.F.MB dY (λm j q h=>?_) (λQ Ar f s H E hr=>#[_,by have:=dY.nd;walk_at "#ahl K :K 0 4 3 @4 $",λm j a q J h=>?_]);{let#[a,i,c,e,n,Y,s,b,y,U,_]:=h;rfl};let#[a',i,c,e,n,Y,s,b,y,U,U,ok,g,hl,C,N,M,L,G]:=h;cases J;ac_nf;have h6:=g.len;have B:Zo=16777216:=rfl;exact#[_,_,i,Kv c,e,n,U,ok,T.XM,T.qS,U,00,λx z=>(by
  let#[t,b',_,_,Z,_,p,I]:=g.at_ x z
  have:=T5 p λy u=>by have:=I y u;lia
  lia),01,Ym s b,U,λl o=>#[_,_,U,G _ o.set (g.note C N M L o) (ak3 n s b y l)]]
def Y7{a b:Type}(f:a->b){xs:Za a}(h:0<xs.length):∃z∈xs,Xp (xs.map f) (-1)=Zb (f z)/\xs[xs.length-1]?=Zb z:=by
 show#[xs[xs.length-1],La _,?_,ZA _];unfold Xp Sh;rw[ZI,Zq 01,Zt 00];change(xs.map f)[((xs.length:Int) + -1).toNat]?=_;rw[YC,show((xs.length:Int) + -1).toNat=xs.length-1 by lia,ZA 00];rfl
def Y8(N:Za Int):D.Sq (Xg N)=Zd:=by
 unfold Xg;induction N with|nil=>rfl|cons n N i=>rw[Xo,D.Sq,i];rfl
def Wd(E:Za ZM):Za ZT->Int->Int->Prop
 |[],b,e=>b=e
 |s::a,b,e=>∃m,m∈Yi E (Ym s b)/\Wd E a m e
theorem Wd.snoc{E:Za ZM}{t:ZT}:∀{ss:Za ZT}{b e:Int},Wd E (ss++[t]) b e->∃p,Wd E ss b p/\e∈Yi E (Ym t p)
 |[],b,e,⟨m,c,a⟩=>#[b,U,by rw[<-show m=e from a];exact c]
 |s::ss,b,e,⟨m,c,a⟩=>by
  let#[p,g,f]:=Wd.snoc (ss:=ss) a;exact#[p,#[m,c,g],f]
def ak5(A:ZC):YB:=λs q O=>∃(c:Ch) (E:Za ZM) (a:Za ZT) (i:Nat) (l:Za ZT) (b e:Int),s=[Wc A c E,.int i,.int b,.int e]/\c.sts[i]?=Zb l/\l.length<=1000/\Xb a E/\0<=b/\b<=6/\∀bs:Za (Za Int),bs.length=l.length+1->bs[0]?=Zb [b]->(∀x∈bs,x.Nodup)->(∀(k:Nat) (x:Za Int) (m:Int),bs[k]?=Zb x->Wd E (l.take k) b m->m<=e->m∈x)->q (.lst (bs.map λx=>.lst (Xg x)))
def Y9{A:ZC}(T:Txt K mg A):ZK P w K mg base (ZV P w) 2 A.Aa A.rH CJ (Yy K (ak5 A)):=by
 show T.B_Chart_borders.F.YR cg 03 (λcdv Ar Z s H E hr=>#[_,by have:=cg.nd;walk_at "#uV 'place [1 'end [1 3 [1 ? T.Fj @5 $ ~ SZ $ Qr 4 :i ? rfl @3 $ Ra 1 :k ? ? jv 3 @1 @4 $ Ik $ aic 6 [1 4 @2 $ Mt 4 [1 jv 4 @1 @2 $ aib 6 :i 4 [1 'border 'place [2 'seat 'self [2 5 0 [2 ? rfl @7 $ ~ |8",λxs q x h=>?_]);let#[c,n,SS,i,l,b,e,U,hi,hl,he,h0,h5,hq]:=h;have hsz:Zo=16777216:=rfl;ac_nf;show#[01,01,[],?_];ac_nf;show#[_,WT (by rw[YC,hi];rfl),?_];show Td (xs:=l) (c:=Xs) (λk ds=>∃(bs:Za (Za Int)) (Y Q:L2.Slot),ds=[.v (Wc A c n),.v (.int i),.v (.int b),.v (.int e),.own (bs.map λx=>.lst (Xg x)),Y,Q]/\bs.length=k+1/\bs[0]?=Zb [b]/\(∀x∈bs,x.Nodup/\∀y∈x,0<=y/\y<=6)/\∀(k:Nat) (x:Za Int) (m:Int),bs[k]?=Zb x->Wd n (l.take k) b m->m<=e->m∈x) #[[[b]],_,_,U,U,U,λx f=>(by rw[YJ.mp f];exact#[02,λy o=>by rw[YJ.mp o];exact#[h0,h5]]),λk x m f hr O=>(by
  cases k with
  |succ k=>cases f
  | zero=>cases f;rw[<-show b=m from hr];simp)] (λk t ds N ht hd hn=>?_) (λds hd=>?_)
 ·let#[bs,Y,Q,U,u,B,j,g]:=hd;have hk:=(YM.mp ht).1;ac_nf;let#[z,hz,ez,G]:=Y7 (λx=>D.lst (Xg x)) (xs:=bs) 00;show#[_,ez,?_];let#[z1,z2]:=j z hz;have z6:=six z1 z2;have er:(z.flatMap λp=>(Yi n (Ym t p)).flatMap λy=>[D.int y])=Xg (z.flatMap λp=>Yi n (Ym t p)):=by
   unfold Xg;rw[Ku];congr 1;funext p;exact Ft _ _
  have lr:(z.flatMap λp=>Yi n (Ym t p)).length<=42:=Yp (Pz λp O=>he.lk5 t p) 00;have mr:∀y∈z.flatMap λp=>Yi n (Ym t p),0<=y/\y<=6:=λy o=>by
   let#[p,_,L]:=Vs.mp o;have:=(he.lk t p).2 y L;lia
  show GZ (C:=λds=>∃J I,ds=[J,I,.v (Xs t),.v (Wc A c n)]) (xs:=z) (c:=.int) (zs:=λp=>(Yi n (Ym t p)).flatMap λy=>[D.int y]) #[_,_,U] (λp L ds hC=>?_) (by rw[er];unfold Xg;rw[ZI];lia) ?_;{let#[J,I,U]:=hC;show Py (ds1:=[.v (.int p),I,.v (Xs t),.v (Wc A c n)]) (λN h=>h) (Ij (xs:=Yi n (Ym t p)) (c:=.int) (λq h=>?_) ⟨_,_,rfl⟩ λy h2 ds hC=>?_);{ac_nf;exact#[_,_,U,_,#[T.XM,_,_,_,T.B_Chart_ends_from.e,pO T,T.B_Chart_ends_from.a],U,c,n,t,p,U,h]};let#[J,I,U]:=hC;exact Py (ds1:=[J,.v (.int y),.v (Xs t),.v (Wc A c n)]) (λN h=>h) (Ii (λN h=>h) #[_,_,U])};rw[er];have mz:∀p∈z,∀m∈Yi n (Ym t p),m∈z.flatMap λp=>Yi n (Ym t p):=λp L m M=>Vs.mpr #[p,L,M];generalize (z.flatMap λp=>Yi n (Ym t p))=rc at lr mr mz;rw[Y8,Zt U];ac_nf;show uW (c:=.int) (λy=>decide (y<=e)) (λy=>y) rc (by change _<4096;lia) (λy o N hN=>?_) (λy o O N hN=>?_) (λns nd mn ns' pn=>?_) _;{ac_nf;exact hN};{ac_nf;exact hN};show#[Y8 _,00,hn _ #[bs++[ns'],_,_,by rw[Xt];rfl,by rw[Yx,u];rfl,by rw[VD 00];exact B,λx f=>?_,λk' x m f hr M=>?_]];{rcases Xk.mp f with f|f;{exact j x f};rw[YJ.mp f];show#[pn.nodup_iff.mpr nd,λy o=>?_];let#[x,f,_,U]:=(mn y).mp (pn.mem_iff.mp o);exact mr _ f};rcases QO k' bs.length with lt|ge;{rw[VD lt]at f;exact g k' x m f hr M};have hlt:=(YM.mp f).1;rw[Yx,Ld]at hlt;obtain rfl:k'=k+1:=00
  rw[UR ge,show k+1-bs.length=0 by lia]at f;cases f;rw[Um,ht]at hr;let#[p,h1,h2]:=hr.snoc;have:=(he.lk t p).2 m h2;rw[show bs.length-1=k by lia]at G;exact pn.mem_iff.mpr ((mn m).mpr #[m,mz p (g k z p G h1 00) m h2,Yq M,U])
 let#[bs,Y,Q,U,u,B,j,g]:=hd;ac_nf;exact hq bs u B (λx f=>(j x f).1) g
def ak6{b:Type}{c:b->D}{f:DT}{e:DE}{q:Za D->Prop}{C:ZG}(R:b->Prop)(h:b->D)(all:Za b)(J:all.length<=Zo)(G:∀x∈all,∀N:Bool->Prop,(∀v,(R x->v=Zd)->N v)->f (.v (c x)::C) N (λO=>False))
  (A:∀x∈all,∀N:D->Prop,N (h x)->e (.v (c x)::C) N (λO=>False))(E:∀Y:Za b,(∀x∈all,R x->x∈Y)->Y.length<=all.length->q (Y.map h))(s:L2.Slot):UJ (VG 0) f e q (all.map c) (s::C) []:=by
 have go:∀(a Y:Za b) (s:L2.Slot),(∀x∈a,x∈all)->(∀x∈all,R x->x∈Y\/x∈a)->Y.length+a.length<=all.length->UJ (VG 0) f e q (a.map c) (s::C) (Y.map h):=by
  intro a;induction a with
  |nil=>intro Y s _ j n;exact E Y (λx i B=>(j x i B).resolve_right 02) ↑n
  |cons x a I=>
   intro Y s i j n;rw[Yu]at n;have g:∀y∈a,y∈all:=λy z=>i y (YT _ z);change f (.v (c x)::C) _ _;show G x (i x YY) _ λv u=>?_;cases v with
   |false=>
    rw[Zq XQ];show I Y _ g (λy p m=>(j y p m).imp id λo=>?_) 00;rcases Yk.mp o with rfl|o;{cases u m};exact o
   |true=>
    rw[Zt U];show A x (i x YY) _ #[by rw[ZI];lia,?_];have:=I (Y++[x]) (.v (c x)) g (λy p m=>by
     rcases j y p m with z|z
     {exact .inl (Tt _ z)}
     rcases Yk.mp z with rfl|z
     {exact .inl 02}
     exact .inr z) (by rw[Yx,Ld];lia)
    rw[Xt]at this;exact this
 exact go all [] s (λO h=>h) (λO h O=>.inr h) 02
def ak7(A:ZC):YB:=λx q O=>∃(c:Ch) (E:Za ZM) (s:Za ZT) (i:Nat) (l:Za ZT) (b e:Int),x=[Wc A c E,.int i,.int b,.int e]/\c.sts[i]?=Zb l/\l.length<=1000/\Xb s E/\0<=b/\b<=6/\∀v:Bool,(Wd E l b e->v=Zd)->q (.bl v)
def ak8{A:ZC}(T:Txt K mg A):ZK P w K mg base (ZV P w) 3 A.BZ A.rG CI (Yy K (ak7 A)):=by
 show T.B_Chart_fits.F.YR cf 03 (λG N o s H E hr=>#[_,by have:=cf.nd;walk_at "#Ra 2 :k ? ? jv 0 @1 @4 $",λxs q x h=>?_]);let#[c,C,I,i,l,b,e,U,hi,j,m,y,n,g]:=h;ac_nf;show#[_,_,U,_,⟨T.XM,_,_,_,T.B_Chart_borders.e,Y9 T,T.B_Chart_borders.a⟩,U,c,C,I,i,l,b,e,U,hi,j,m,y,n,λbs u M L p=>?_];ac_nf;let#[z,J,B,f]:=Y7 (λx=>D.lst (Xg x)) (xs:=bs) 00;show#[_,B,?_];unfold Xg;ac_nf;exact g _ λhr=>Yq (p l.length z e (by rw[<-f,u];rfl) (by rw[TZ];exact hr) (IL _))
def ak9(A:ZC):Rb:=λj i q=>∃(a b:Zg) (c:Ch) (e:Zg) (g:Za ZM) (f:Za ZT) (n:Int) (s:Za Ed),j=[.rf a,Nt A n s]/\i=Sz A a b c e g/\RZ A a b c e g/\Xb f g/\f.length<=1000/\PR n s/\(∀x∈s,((x.2.2.1,-1):ZT)∈f)/\∀E,RZ A a b c e E->Xb f E->(∀x∈s,x.2.1∈Yi E (Ym (x.2.2.1,-1) x.1))->q .non (Sz A a b c e E)
def ala{A:ZC}(T:Txt K mg A):ZK P w K mg base (ZV P w) 2 A.BR A.rB CC (spS K 0 (ak9 A)):=by
 show T.B_Chart_read_words.F.MB dU (λZ Y q h=>?_) (λcdv Ar B s H E hr=>#[_,by have:=dU.nd;walk_at "#GX P :P w :w K :K mg :mg base :base 1 :k 0 @7 $",λZ Y a q ha h=>?_]);{let#[a,m,c,e,b,L,n,I,U,_]:=h;rfl};let#[a',m,c,e,b,L,n,I,U,U,ok,g,hl,#[n5,n8,ne,_],hs,hq]:=h;cases ha;ac_nf;show#[[],?_];ac_nf;show Td (λk ds=>∃(b:Za ZM) (z u p o:L2.Slot),ds=[.st a (Sz A a m c e b),.v (Nt A n I),z,u,p,o]/\RZ A a m c e b/\Xb L b/\∀x∈I.take k,x.2.1∈Yi b (Ym (x.2.2.1,-1) x.1)) #[b,_,_,_,_,U,ok,g,λx i=>by cases i] (λk x ds N i hd hn=>?_) (λds hd=>?_)
 ·let#[b,z,u,p,o,U,ok,g,j]:=hd;have Q:=YH i;let#[e0,e1,e2,_]:=ne x Q;unfold Vz;ac_nf;exact#[a,_,U,_,_,_,QB ok,_,#[T.XM,_,_,_,T.B_Chart_note.e,Y6 T,T.B_Chart_note.a],U,01,a,m,c,e,b,L,(x.2.2.1,-1),x.1,x.2.1,U,U,ok,g,hl,hs x Q,e0,e1,00,λJ C G M=>hn _ #[J,_,_,_,_,U,C,G,λy f=>by
   rw[Um,i]at f
   rcases Xk.mp f with f|f
   {exact(M _ _ _).mpr (.inl (j y f))}
   rw[show y=x by simpa using f]
   exact(M _ _ _).mpr (.inr #[U,U,U])]]
 let#[b,z,u,p,o,U,ok,g,j]:=hd;rw[TZ]at j;exact#[_,_,U,hq b ok g j]
structure Kn (c:Ch)(k:Ze)(ns:List Nat)(b y:Int)(en en':List ZM):Prop where
 old:∀t d m,m∈Yi en (Ym t d)->m∈Yi en' (Ym t d)
 new:∀t d m,m∈Yi en' (Ym t d)->m∈Yi en (Ym t d)\/(t.1=k/\d=b/\m=y)
 due:∀s ms,(Ti s,D.lst (Vh ms))∈c.kvs->s.1=k->∀i∈ms,i∈ns->∀l,c.sts[i]?=Zb l->Wd en l b y->y∈Yi en' (Ym s b)
def alb{m n:Za Nat}(h:D.lst (Vh m)=.lst (Vh n)):m=n:=by
 unfold Vh at h;injection h with h;show List.map_inj_right (λa b e=>?_) |>.mp h;injection e with e;lia
def alc(A:ZC):Rb:=λo j q=>∃(a x:Zg) (c:Ch) (e:Zg) (f:Za ZM) (g:Za ZT) (k:Ze) (n:Za Nat) (b y:Int),o=[.rf a,.str k,.lst (Vh n),.int b,.int y]/\j=Sz A a x c e f/\RZ A a x c e f/\Xb g f/\g.length<=1000/\n.length<=1000/\(∀i∈n,∃l,c.sts[i]?=Zb l/\l.length<=1000)/\
 (∀p∈c.kvs,∃s∈g,∃m,p=(Ti s,.lst (Vh m))/\m.length<=1000)/\0<=b/\b<y/\y<=6/\∀E,RZ A a x c e E->Xb g E->Kn c k n b y f E->q .non (Sz A a x c e E)
def ald{A:ZC}(T:Txt K mg A):ZK P w K mg base (ZV P w) 4 A.BV A.rD CF (spS K 0 (alc A)):=by
 show T.B_Chart_read_kind.F.MB dX (λxs μ q h=>?_) (λcdv Ar outer s H E hr=>#[_,by have:=dX.nd;walk_at "#Ra 3 :k ? ? jv 3 @1 @4 $ ahi 5 :i 0 ? rfl Or.inr rfl @1 @5 $ ahf K :K 0 @2 $ ag7 $ GX P :P w :w K :K mg :mg base :base 1 :k 0 @7 $ Qq 5 [1 @1 $ iw 'number [1 'begin 'end 'self [3 3 4 0 [3 @3 $ ~ Wa 'number [1 'fitting [1 5 [1 @3 $ ~ |8",λxs μ a q ha h=>?_]);{let#[a,Q,c,e,p,SS,k,G,b,y,U,_]:=h;rfl};let#[a',Q,c,e,n,SS,k,G,b,y,U,U,ok,C,hl,nl,hn,hk,h0,f,I,hq]:=h;cases ha;have hsz:Zo=16777216:=rfl;ac_nf;show#[a,_,Q,Kv c, "ends",e,n,U,ok,?_];show ak6 (λi=>∃l,c.sts[i]?=Zb l/\Wd n l b y) (λi:Nat=>.int i) G 00 (λi hi N x=>?_) (λi hi N x=>x) (λfs hfs O=>?_) _;{ac_nf;let#[l,o,J]:=hn i hi;show#[_,⟨T.XM,_,_,_,T.B_Chart_fits.e,ak8 T,T.B_Chart_fits.a⟩,U,c,n,SS,i,l,b,y,U,o,J,C,h0,00,λv hv=>?_];ac_nf;exact x v λ⟨l',L,e2⟩=>hv (by rw[o]at L;cases L;exact e2)};show#[fs.map λi:Nat=>(i:Int),by unfold Xg;rw[YG];rfl,?_];have Y:∀i∈G,(∃l,c.sts[i]?=Zb l/\Wd n l b y)->(i:Int)∈fs.map λi:Nat=>(i:Int):=λi f o=>ZW.mpr #[i,hfs i f o,U];generalize (fs.map λi:Nat=>(i:Int))=fs at Y;show#[[],?_];ac_nf;show#[a,_,U,_,_,_,QB ok,T.XM,T.qR,_,U,?_];change RL _ _ _ (c.kvs.map λg=>.tup [Vn g.1,g.2]) _;show Td (λj ds=>∃(p:Za ZM) (s6 s7:L2.Slot),ds=[.st a (Sz A a Q c e p),.v (.str k),.v (.lst (Vh G)),.v (.int b),.v (.int y),.own (Xg fs),s6,s7]/\RZ A a Q c e p/\Xb SS p/\Kn {c with kvs:=c.kvs.take j} k G b y n p) #[n,_,_,U,ok,C,#[λO O O h=>h,λO O O h=>.inl h,λO O h=>by cases h]] (λj kv ds N hx hd x=>?_) (λds hd=>?_)
 ·let#[p,s6,s7,U,ok,C,u]:=hd;let#[s,hs,M,U,hm]:=hk kv (YH hx);have tk:c.kvs.take (j+1)=c.kvs.take j++[(Ti s,.lst (Vh M))]:=by rw[Um,hx];rfl
  have skip:(s.1=k->∀i∈M,(i:Int)∈fs->False)->N [.st a (Sz A a Q c e p),.v (.str k),.v (.lst (Vh G)),.v (.int b),.v (.int y),.own (Xg fs),.v (Xs s),.v (.lst (Vh M))]:=λno=>x _ #[p,.v (Xs s),.v (.lst (Vh M)),U,ok,C,u.old,u.new,λs' B f o i J h4 l I h6=>by
   rw[show(({c with kvs:=c.kvs.take (j+1)}:Ch)).kvs=_ from tk]at f
   rcases Xk.mp f with f|f
   {exact u.due s' B f o i J h4 l I h6}
   have f:=YJ.mp f
   injection f with L e2
   obtain rfl:=pH L
   obtain rfl:=alb e2
   exact(no o i J (Y i h4 #[l,I,h6])).elim]
  change TN 2 _ (.tup [Xs s,.lst (Vh M)]) _ _;unfold Xs;ac_nf;show#[_,U,?_];ac_nf;show Vg (λek=>?_) (λek=>skip λz=>ZJ z ek);show UA (λi:Nat=>.bl (decide ((i:Int)∈fs))) 00 (λi hi N x=>?_) ?_;{unfold Xg;ac_nf;exact x};rw[show(M.map λi:Nat=>D.bl (decide ((i:Int)∈fs)))=(M.map λi:Nat=>decide ((i:Int)∈fs)).map .bl by rw[YG];rfl];ac_nf;show ifB (λO=>?_) (λz=>skip λO i f o=>?_)
  ·exact#[a,_,U,_,_,_,QB ok,_,⟨T.XM,_,_,_,T.B_Chart_note.e,Y6 T,T.B_Chart_note.a⟩,U,a,Q,c,e,p,SS,s,b,y,U,U,ok,C,hl,hs,h0,f,I,λen' ok' he' Z=>x _ #[en',_,_,U,ok',he',λt d m h=>(Z t d m).mpr (.inl (u.old t d m h)),λt d m h=>((Z t d m).mp h).elim (u.new t d m) λh=>.inr ⟨by rw[h.1];exact ek,h.2⟩,λs' B f o i J h4 l I h6=>by
    rw[show(({c with kvs:=c.kvs.take (j+1)}:Ch)).kvs=_ from tk]at f
    rcases Xk.mp f with f|f
    {exact(Z _ _ _).mpr (.inl (u.due s' B f o i J h4 l I h6))}
    injection YJ.mp f with L _
    exact(Z _ _ _).mpr (.inr #[pH L,U,U])]]
  have:(M.map λi:Nat=>decide ((i:Int)∈fs)).any id=Zd:=KM.mpr #[_,ZW.mpr #[i,f,U],Yq o];rw[this]at z;cases z
 let#[p,s6,s7,U,ok,C,u]:=hd;rw[TZ]at u;exact#[_,_,U,hq p ok C u]
def Fu(o:Za Ze)(p h:Ze):Prop:=∃i j:Nat,i<j/\o[i]?=Zb p/\o[j]?=Zb h
def yz{s:Za (Ze×Ze)}{c w r o res:Za Ze}(H:UO s w r o res):(o++w).Nodup->(∀x∈c,x∈o\/x∈w)->(∀x,x∈o\/x∈w->x∈c)->(∀h p,(h,p)∈s->h∈o->p∈c->Fu o p h)->res.Nodup/\(∀x∈res,x∈c)/\∀h p,(h,p)∈s->h∈res->p∈c->Fu res p h:=by
 induction H with
 |stop=>exactλm _ b g=>#[(UE.mp m).1,λx a=>b x (.inl a),g]
 |@step w r o res _ _ I=>
  intro m u b g;have pm:(w.filter (λh=>!decide (h∈VW s w))++w.filter λh=>decide (h∈VW s w)).Perm w:=FY.trans (List.filter_append_perm _ _);show I ?_ (λx a=>?_) (λx a=>?_) (λh p n A q=>?_);{rw[VC];exact(pm.append_left o).nodup_iff.mpr m};{rcases u x a with z|z;{exact .inl (Tt _ z)};rcases Xk.mp (pm.mem_iff.mpr z)with z|z;{exact .inl (Va _ z)};exact .inr z};{rcases a with z|z;{rcases Xk.mp z with z|z;{exact b x (.inl z)};exact b x (.inr (WM.mp z).1)};exact b x (.inr (WM.mp z).1)};rcases Xk.mp A with z|z;{let#[i,j,lt,E,e]:=g h p n z q;have f:=(YM.mp e).1;exact#[i,j,lt,by rw[VD 00];exact E,by rw[VD f];exact e]};let#[B,Z]:=WM.mp z;have N:h∉VW s w:=↑Z
  have po:p∈o:=by
   rcases u p q with y|y;{exact y};exact ZJ (by unfold VW;exact ZW.mpr #[(h,p),WM.mpr #[n,↑y],U]) N
  let#[i,hi,E]:=yZ po;let#[j,f,e]:=yZ z;exact#[i,o.length+j,00,by rw[VD hi,ZA hi,E],by rw[UR 00,ng,ZA f,e]]
def ale{res:Za Ze}(nd:res.Nodup){i:Nat}{k:Ze}(h:res[i]?=Zb k):res.idxOf k=i:=by
 let#[hi,e]:=YM.mp h;rw[<-e];exact nd.idxOf_getElem i hi
theorem Wd.go{i:Za ZT}{E:Za ZM}(c:Xb i E):∀{a:Za ZT}{b e:Int},Wd E a b e->b<=e/\(a≠[]->b<e)
 |[],b,e,h=>by rw[show b=e from h];exact#[IL _,λz=>ZJ U z]
 |s::a,b,e,⟨m,g,f⟩=>by
  have:=(c.lk s b).2 m g;have:=(Wd.go c f).1;exact#[00,λO=>00]
theorem Wd.back{q:Za ZT}{n E:Za ZM}(c:Xb q E):∀{a:Za ZT}{b e:Int},Wd E a b e->(∀t∈a,∀d m,m∈Yi E (Ym t d)->b<=d->m<=e->(d=b->m=e->a=[t])->m∈Yi n (Ym t d))->Wd n a b e
 |[],_,_,h,_=>h
 |s::a,b,e,⟨m,i,f⟩,H=>by
  have g:=Wd.go c f;have l:=(c.lk s b).2 m i;show#[m,H s YY b m i (IL _) g.1 λO z=>?_,Wd.back c f λt j d M p u o O=>H t (YT _ j) d M p 00 o λz=>00];cases a with|nil=>rfl|cons t a=>have:=g.2 02;lia
def D1(c:Ch)(a:Za Ru)(e:Za ZM)(p:Int×Int)(h:Ze):Prop:=∀s m,(Ti s,D.lst (Vh m))∈c.kvs->s.1=h->∀i∈m,i∈numsOf a h->∀l,c.sts[i]?=Zb l->Wd e l p.2 (p.2+p.1)->p.2+p.1∈Yi e (Ym s p.2)
def Dn(c:Ch)(b:Za Ru)(res:Za Ze)(s:Za (Int×Int))(e:Za ZM)(j k:Nat):Prop:=∀(J a:Nat) (p:Int×Int) (h:Ze),(J<j\/(J=j/\a<k))->s[J]?=Zb p->res[a]?=Zb h->D1 c b e p h
def pP{a:Type}[DecidableEq a]{s:Za a}(nd:s.Nodup){i j:Nat}{x:a}(e:s[i]?=Zb x)(c:s[j]?=Zb x):i=j:=by
 let#[hi,f]:=YM.mp e;let#[b,E]:=YM.mp c;rw[<-nd.idxOf_getElem i hi,<-nd.idxOf_getElem j b,f,E]
def Dn.step{c:Ch}{e:Za Ru}{res:Za Ze}{A:Za (Int×Int)}{en E:Za ZM}{j k:Nat}{p:Int×Int}{h:Ze}{n:Int}{es:Za Ed}{SS:Za ZT}(N:∀(i:Nat) (r:Ru),e[i]?=Zb r->c.sts[i]?=Zb (r.ps.map (XW c.tk i)))(nd:res.Nodup)(hw:∀x∈res,x∈YX e)(ha:∀h p,(h,p)∈VI e->h∈res->p∈YX e->Fu res p h)
  (hs:pI n es A)(B:A[j]?=Zb p)(hh:res[k]?=Zb h)(I:Kn c h (numsOf e h) p.2 (p.2+p.1) en E)(he:Xb SS E)(hd:Dn c e res A en j k):Dn c e res A E j (k+1):=by
 intro J k' g h' lt f u s ms m1 m2 i hi Z l C hr;have q:Wd en l g.2 (g.2+g.1):=hr.back he λt ht d m h1 h2 h3 h4=>by
  rcases I.new t d m h1 with z|⟨z1,z2,z3⟩;{exact z};exfalso;have up:g.1<=p.1:=by
   rcases QO J j with y|y;{let#[hj',G]:=YM.mp f;let#[hj,Q]:=YM.mp B;have:=He.mp hs.up J j hj' hj y;rw[G,Q]at this;exact this};obtain rfl:J=j:=00
   rw[B]at f;cases f;exact IL _
  have ep:g=p:=QP 00 00;subst ep;obtain rfl:=pP hs.nd f B;let#[r,o,Y]:=yx Z;rw[N i r o]at C;have L:=h4 z2 z3;rw[<-VE C]at L;let#[x,M]:=xf.mp (show r.ps.length=1 by have:=XI Lc L;rw[ZI]at this;exact this);rw[M]at L;have et:t.1=x:=by rw[<-(aps L).1];rfl
  let#[a,b,ab,G,Q]:=ha h' x (by
   unfold VI
   show ZW.mpr #[r,WM.mpr #[YH o,by rw[M];rfl],?_]
   rw[M,Y]
   rfl) (YH u) (hw x (by rw[<-et,z1];exact YH hh))
  have k1:=pP nd G (by rw[<-et,z1];exact hh);have k2:=pP nd Q u;lia
 by_cases z:J=j/\k'=k;{let#[U,U]:=z;rw[B]at f;rw[hh]at u;cases f;cases u;exact I.due s ms m1 m2 i hi Z l C q};exact I.old _ _ _ (hd J k' g h' 00 f u s ms m1 m2 i hi Z l C q)
def alf{a:Type}(f g:a->D)(s:Za a):RO (s.map f) (s.map g)=s.map λx=>.tup [f x,g x]:=by
 unfold RO;rw[List.zip_map',YG];rfl
def alg(A:ZC):Rb:=λy u q=>∃(a g:Zg) (c:Ch) (e:Zg) (f:Za ZM) (j:Za ZT) (z st:Ze) (b:Za Ru) (res:Za Ze) (o:Za (Int×Int)),y=[.rf a,Gr A z st b,.lst (o.map Qu)]/\(∃n C,pI n C o/\n<=6)/\(∀(i:Nat) (r:Ru),b[i]?=Zb r->c.sts[i]?=Zb (r.ps.map (XW c.tk i)))/\res.Nodup/\(∀x∈res,x∈YX b)/\(∀h p,(h,p)∈VI b->h∈res->p∈YX b->Fu res p h)/\u=Sz A a g c e f/\RZ A a g c e f/\Xb j f/\j.length<=1000/\PK b/\UO (VI b) (YX b) (YX b) [] res/\res.length<=1000/\(∀i,i<b.length->∃l,c.sts[i]?=Zb l/\l.length<=1000)/\
 (∀B∈c.kvs,∃s∈j,∃M,B=(Ti s,.lst (Vh M))/\M.length<=1000)/\∀E,RZ A a g c e E->Xb j E->(∀t d m,m∈Yi f (Ym t d)->m∈Yi E (Ym t d))->(∀p∈o,∀h∈res,D1 c b E p h)->q .non (Sz A a g c e E)
def alh{A:ZC}(T:Txt K mg A):ZK P w K mg base (ZV P w) 5 A.BU A.rC CD (spS K 0 (alg A)):=by
 show T.B_Chart_read_kinds.F.MB dW (λxs μ q h=>?_) (λcdv Ar outer s H E hr=>#[_,by have:=dW.nd;walk_at "#LW 4 :i 'head [1 'grammar [1 1 [1 ? rfl @6 $ afI ? T.qT @2 $ GX P :P w :w K :K mg :mg base :base 4 :k 0 @7 $ |3",λxs μ a q ha h=>?_]);{let#[a,B,c,e,b,Q,z,st,f,res,C,U,_]:=h;rfl};let#[a',B,c,e,x,Q,z,st,f,res,C,U,#[n,es,G,n6],hst,nd,hww,hah,U,ok,g,hl,hr,hh,rl,hn,hk,hq]:=h;cases ha;have hsz:Zo=16777216:=rfl;ac_nf;show#[f,res,_,U,.inr U,hr,hh,?_];ac_nf;show UA (λh=>.lst (Vh (numsOf f h))) 00 (λh hm N hN=>?_) ?_;{ac_nf;exact#[h,f,U,hr.1,hN]};show#[[],?_];ac_nf;show Td (c:=Qu) (λj ds=>∃(b:Za ZM) (Z Y u o:L2.Slot),ds=[.st a (Sz A a B c e b),.v (Gr A z st f),.v (.lst (C.map Qu)),.v (.lst (res.map .str)),.v (.lst (res.map λh=>.lst (Vh (numsOf f h)))),Z,Y,u,o]/\RZ A a B c e b/\Xb Q b/\(∀t d m,m∈Yi x (Ym t d)->m∈Yi b (Ym t d))/\Dn c f res C b j 0) #[x,_,_,_,_,U,ok,g,λO O O h=>h,λj' k' O O h=>00] (λj p ds N hx hd hN=>?_) (λds hd=>?_)
 ·let#[b,Z,Y,u,o,U,ok,g,M,y]:=hd;let#[p1,p2,p3]:=G.at_ p (YH hx);change TN 2 _ (.tup [.int p.1,.int p.2]) _ _;ac_nf;show#[[],?_];ac_nf;show#[_,U,_,U,?_];rw[alf];show Td (λk ds=>∃(b:Za ZM) (u o:L2.Slot),ds=[.st a (Sz A a B c e b),.v (Gr A z st f),.v (.lst (C.map Qu)),.v (.lst (res.map .str)),.v (.lst (res.map λh=>.lst (Vh (numsOf f h)))),.v (.int p.1),.v (.int p.2),u,o]/\RZ A a B c e b/\Xb Q b/\(∀t d m,m∈Yi x (Ym t d)->m∈Yi b (Ym t d))/\Dn c f res C b j k) #[b,_,_,U,ok,g,M,y] (λk h ds N' hh' hd hN'=>?_) (λds hd=>?_)
  ·let#[b,u,o,U,ok,g,M,y]:=hd;ac_nf;exact#[a,_,U,_,_,_,QB ok,_,#[T.XM,_,_,_,T.B_Chart_read_kind.e,ald T,T.B_Chart_read_kind.a],U,a,B,c,e,b,Q,h,numsOf f h,p.2,p.2+p.1,U,U,ok,g,hl,Yp (yy f h) hr.1,λi hi=>(by
    let#[r,hr,_]:=yx hi
    exact hn i (YM.mp hr).1),hk,p2,00,00,λen' ok' I kn=>hN' _ #[en',_,_,U,ok',I,λt d m h=>kn.old t d m (M t d m h),y.step hst nd hww hah G hx hh' kn I]]
  let#[b,u,o,U,ok,g,M,y]:=hd;exact hN _ #[b,_,_,_,_,U,ok,g,M,λj' k' p' h' lt L J=>y j' k' p' h' (by have:=(YM.mp J).1;lia) L J]
 let#[b,Z,Y,u,o,U,ok,g,M,y]:=hd;exact#[_,_,U,hq b ok g M λp hp h hh=>by
  let#[j,L]:=FV.mp hp
  let#[k,J]:=FV.mp hh
  exact y j k p h (.inl (YM.mp L).1) L J]
noncomputable def XG(s:Za Ru):Za Ze:=(s.filter λr=>r.t.isSome).map (·.hd)
noncomputable def Tj(s:Za Ru):Za (Za ZT):=s.zipIdx.map λp=>p.1.ps.map (XW (XG s) p.2)
noncomputable def Tn(st:Ze)(s:Za Ru):Za ZT:=(st,-1)::(Tj s).flatten
noncomputable def Fv(st:Ze)(s:Za Ru)(E:Za Ed):Za ZT:=Tn st s++E.map λe=>(e.2.2.1,-1)
structure QI (rs:List Ru):Prop where
 len:rs.length<=9
 ps:∀r∈rs,r.ps.length<=4/\r.ps≠[]
 hk:∀r∈rs,YS r.hd=Zd
 fit:PK rs
structure pQ (st:Ze)(rs:List Ru)(es:List Ed)(c:Ch):Prop where
 tk:c.tk=XG rs
 sts:c.sts=Tj rs
 tp:c.tp=(st,-1)
 kvs:Nm rs (Tn st rs) (Tn st rs) c.kvs
 een:∀b e w,Yi c.een (Sy b e w)=Rj es b e w
def Fw{s:Za Ru}{i:Nat}{r:Ru}(h:s[i]?=Zb r):(Tj s)[i]?=Zb (r.ps.map (XW (XG s) i)):=by
 unfold Tj;rw[YC,O9,h];simp
def pR{a:Za Ru}{s:ZT}(h:s∈(Tj a).flatten):∃(i:Nat) (r:Ru),a[i]?=Zb r/\∃p∈r.ps,s=XW (XG a) i p:=by
 let#[l,b,c]:=apH.mp h;unfold Tj at b;let#[#[r,i],f,U]:=ZW.mp b;let#[p,e,U]:=ZW.mp c;exact#[i,r,↑((KQ.mp f)),p,e,U]
def X3{st:Ze}{s:Za Ru}(h:QI s):(Tn st s).length<=37:=by
 unfold Tn;rw[Yu];have:(Tj s).flatten.length<=s.length*4:=by
  unfold Tj;rw[<-List.flatMap_def];have:=Pz (n:=4) (f:=λp:Ru×Nat=>p.1.ps.map (XW (XG s) p.2)) (xs:=s.zipIdx) λp a=>by
   rw[ZI];exact(h.ps p.1 (apy a)).1
  rw[KP]at this;exact this
 have:=h.len;lia
structure Fx (st:Ze)(rs:List Ru)(res:List Ze)(es:List Ed)(en:List ZM):Prop where
 wd:∀x∈es,x.2.1∈Yi en (Ym (x.2.2.1,-1) x.1)
 kd:∀x∈es,∀y∈es,x.1<y.2.1->∀s∈Tn st rs,YS s.1=Zd->s.1∈res->∀i∈Ui rs s,∀r,rs[i]?=Zb r->Wd en (r.ps.map (XW (XG rs) i)) x.1 y.2.1->y.2.1∈Yi en (Ym s x.1)
def pU{a:Type}(f:a->D)(s:Za a)(h:∀x∈s,(f x).Ue=Zd):(D.lst (s.map f)).Ue=Zd:=by
 unfold D.Ue;induction s with|nil=>rfl|cons x s i=>rw[Xo,D.Ih,h x YY,i λy b=>h y (YT _ b)];rfl
theorem X4{b:Za Ru}{all:Za ZT}:∀{kvs:Za (Zu×D)},(∀a∈kvs,∃s∈all,YS s.1=Zd/\a=(Ti s,.lst (Vh (Ui b s))))->(D.dit kvs).Ue=Zd
 |[],_=>rfl
 |a::kvs,h=>by
  have i:=X4 (kvs:=kvs) λy c=>h y (YT _ c);unfold D.Ue at i⊢;let#[s,_,_,U]:=h a YY;rw[D.GW,i];have:=pU (λn:Nat=>D.int n) (Ui b s) λO O=>rfl;unfold Vh;rw[this];rfl
def ali(A:ZC):Pu:=λa q O=>∃(z st:Ze) (s:Za Ru) (res:Za Ze) (n:Int) (e:Za Ed),a=[Gr A z st s,Nt A n e]/\QI s/\PR n e/\st.length<=1000/\UO (VI s) (YX s) (YX s) [] res/\res.length<=1000/\res.Nodup/\(∀x∈res,x∈YX s)/\(∀h p,(h,p)∈VI s->h∈res->p∈YX s->Fu res p h)/\∀c E,pQ st s e c->Xb (Fv st s e) E->Fx st s res e E->q (Kv c++[(("ends" : Ze),D.dit (Te E))])
def alj{A:ZC}(T:Txt K mg A):ZK P w K mg base (ZV P w) 6 A.Fb A.rr Cz (OO K A.Wm (ali A)):=by
 show T.B_Chart___init__.F.JR aiy (λxs q x h=>?_) (λcdv Ar outer s H E c=>#[_,(Xy (Uz (K:=K) [] 0 U (Wa ["rule"] [] [] (JK (JP (K:=K) U (jv 1))) (λO=>(Uc 0 (GD ["rule"] []))) (λO=>(iq (LJ jE (JP (K:=K) U (jv 0)) Dk (NY _)))) (λO=>(JP (K:=K) U (jv 0)))))
   (Xy (eP (K:=K) 0 U (Wa ["number", "rule"] ["self"] [0] (gJ (by rfl) T.aq (ZO (JP (K:=K) U (jv 1)) Yw)) (λO=>(DB (n:=2) (vM (Uc 0 (GD ["number", "rule"] ["self"])) (vM (Uc 1 (GD ["number", "rule"] ["self"])) jS)))) (λO=>vR) (λO=>(Ra (k:=1) (c.mono 01) Mv (jv 2) (ZO (jv 1) (ZO (jv 0) Yw))))))
   (Xy (Uz (K:=K) [] 0 U (LL (ZO (JP (K:=K) U (jv 1)) (ZO (vA Xm) Yw))))
   (Xy (eP (K:=K) 0 U (Ra (k:=4) (c.mono 01) SV (jv 0) (ZO (jv 1) Yw)))
   (Xy (Uz (K:=K) [] 0 U (Xr (akL T) T.zJ c (ZO (jv 2) Yw)))
   (Xy (ahh (K:=K) 0 U)
   (Xy (GX (P:=P) (w:=w) (K:=K) (mg:=mg) (base:=base) (k:=2) 0 (c.mono 01) SV (ZO (jv 2) Yw))
   (Ub (ahj 0 (GX (P:=P) (w:=w) (K:=K) (mg:=mg) (base:=base) (k:=5) 0 (c.mono 01) SV (ZO (jv 1) (ZO (Xr (akO T) T.zK c (ZO (jv 2) Yw)) Yw)))))))))))),λo Y xs q x h=>?_])
 {let#[z,st,b,res,n,m,U,_]:=h;rfl};let#[z,st,b,res,n,m,U,c,I,hst,hh,hl,rnd,Z,rah,hq]:=h;have hsz:Zo=16777216:=rfl;have l9:=c.len;have l37:=X3 (st:=st) c;ac_nf;show#[T.XM,T.aj,01,?_];show LX (λr:Ru=>r.t.isSome) (λr=>.str r.hd) 00 (λr hm N j=>?_) (λr hm O N j=>?_) ?_;{ac_nf;cases ht:r.t with|none=>rw[ht]at j;exact j|some us=>rw[ht]at j;exact j};{ac_nf;exact j};rw[show(b.filter λr:Ru=>r.t.isSome).map (λr=>D.str r.hd)=(XG b).map .str by unfold XG;rw[YG];rfl];show#[T.XM,T.qP,by change 1<1000;decide,?_];rw[Fq];show DN (λp:Ru×Nat=>.lst ((p.1.ps.map (XW (XG b) p.2)).map Xs)) (by rw[KP];lia) (λp L N j=>?_) ?_;{ac_nf;have:=(c.ps p.1 (apy L)).1;exact#[_,#[T.XM,_,_,_,T.B_Chart_seats_beneath.e,akQ T,T.B_Chart_seats_beneath.a],U,_,p.1,p.2,XG b,U,U,00,j]};rw[show(b.zipIdx.map λp:Ru×Nat=>D.lst ((p.1.ps.map (XW (XG b) p.2)).map Xs))=(Tj b).map λl=>.lst (l.map Xs)by unfold Tj;rw[YG];rfl];show#[pU _ _ λl O=>pU _ _ λO O=>rfl,T.XM,T.qQ,by change 2<1000;decide,01,T.XM,T.qR,by change 3<1000;decide,_,#[T.XM,_,_,_,T.B_Chart_fillers_of.e,akX T,T.B_Chart_fillers_of.a],U,_,z,st,b,(st,-1),Tj b,U,U,U,00,Yp l37 01,λs u=>?_,λf M=>?_];{rcases Yk.mp u with rfl|u;{exact#[hst,.inl U]};let#[i,r,B,p,L,U]:=pR u;show#[((c.fit.2 r (YH B)).2.2.1).2 p L,?_];change(if p∈XG b then ((i:Nat):Int)else -1)=-1\/_;have hi:=(YM.mp B).1;unfold XW;split;{exact .inr #[MY i,↑hi]};exact .inl U};show#[X4 M.mem,T.XM,T.ak,by change 4<1000;decide,n,m,U,Yp I.2.1 01,λg he=>?_];show#[T.XM,T.qS,by change 5<1000;decide,U,λe ok=>?_];have ss:(Fv st b m).length<=1000:=by
  unfold Fv;rw[Yx,ZI];have:=I.2.1;lia
 show#[o,Sz A o Y #[XG b,Tj b,(st,-1),f,g] e [],U,_,_,_,QB ok,_,#[T.XM,_,_,_,T.B_Chart_read_words.e,ala T,T.B_Chart_read_words.a],U,o,Y,#[XG b,Tj b,(st,-1),f,g],e,[],Fv st b m,n,m,U,U,ok,⟨02,λx h=>by cases h⟩,ss,I,λx G=>Va _ (ZW.mpr #[x,G,U]),λen C Q hwd=>?_];show#[o,_,U,_,_,_,QB C,_,⟨T.XM,_,_,_,T.B_Chart_read_kinds.e,alh T,T.B_Chart_read_kinds.a⟩,U,n,m,U,I,λsp u=>?_];show#[o,Y,⟨XG b,Tj b,(st,-1),f,g⟩,e,en,Fv st b m,z,st,b,res,sp,U,⟨n,m,u,I.1⟩,λi r h=>Fw h,rnd,Z,rah,U,C,Q,ss,c.fit,hh,hl,λi hi=>⟨_,Fw (ZA hi),?_⟩,λkv hkv=>?_,λJ ok2 e2 mo hd=>#[o,_,Y,Kv #[XG b,Tj b,(st,-1),f,g], "ends",e,J,U,ok2,U,U,U,hq ⟨XG b,Tj b,(st,-1),f,g⟩ J ⟨rfl,rfl,rfl,M,he⟩ e2 #[λx G=>mo _ _ _ (hwd x G),λx G y hy lt s B h2 h3 i hi r hri hrc=>?_]]];{rw[ZI];have:=(c.ps _ (La hi)).1;lia};{let#[s,B,_,h2]:=M.mem kv hkv;show#[s,Tt _ B,_,h2,?_];unfold Ui;have:=IX (λi=>Vr b i s.2) (numsOf b s.1);have:=yy b s.1;lia};let#[p,L]:∃p,p=(y.2.1-x.1,x.1):=#[_,U]
 have h4:=hd _ (u.all x G y hy lt) s.1 h3 s (Ui b s) ?_ U i hi (WM.mp hi).1 _ (Fw hri);{rw[show x.1+(y.2.1-x.1)=y.2.1 by lia]at h4;exact h4 hrc};have:=M.has s B h2;unfold WK at this;let#[kv,Q,e2]:=G5.mp this;have e3:=IV Q;have e4:=oZ Q;simp only[UF]at e3;rw[<-e3,<-e2];exact e4
inductive Yl
 | ed (i:Int)
 | nd (s:ZT) (b e:Int)
 deriving DecidableEq
noncomputable def Iw(s:ZT)(b e:Int):D:=.tup [.str s.1,.int s.2,.int b,.int e]
noncomputable def Yl.d:Yl->D
 |.ed i=>.tup [.str "edge",.int i]
 |.nd s b e=>.tup [.str "node",Iw s b e]
noncomputable def WB(E:Za Ed)(n:Za ZM)(s:ZT)(b e:Int):Za Yl:=if YS s.1=Zd then (if e∈Yi n (Ym s b)then [.nd s b e]else [])else (Rj E b e s.1).map .ed
def alk(E:Za Ed)(b e:Int)(w:Ze):(Rj E b e w).length<=E.length:=by
 unfold Rj;rw[ZI];have:=IX (λp:Ed×Nat=>decide (p.1.1=b/\p.1.2.1=e/\p.1.2.2.1=w)) E.zipIdx;rw[KP]at this;exact this
def alm(A:ZC):YB:=λx q O=>∃(c:Ch) (n:Za ZM) (E:Za Ed) (s:ZT) (b e:Int),x=[Wc A c n,Xs s,.int b,.int e]/\(∀b e w,Yi c.een (Sy b e w)=Rj E b e w)/\E.length<=1000/\s.1.length<=1000/\q (.lst ((WB E n s b e).map Yl.d))
def aln{A:ZC}(T:Txt K mg A):ZK P w K mg base (ZV P w) 4 A.Ae A.rL CM (Yy K (alm A)):=by
 show T.B_Chart_kids_between.F.YR cq 03 (λC B o s H E hr=>#[_,by have:=cq.nd;walk_at "#gN $ Wa 'number [1 [0 [0 @3 $ Ra 1 :k ? ? jv 0 @1 @4 $ |3",λxs q x h=>?_]);let#[c,p,g,s,b,e,U,m,y,u,f]:=h;have j:Zo=16777216:=rfl;unfold Xs;ac_nf;show#[00,PJ (λk=>#[_,U,01,01,Sy b e s.1,U,?_]) (λk=>#[_,_,U,_,#[T.XM,_,_,_,T.B_Chart_ends_from.e,pO T,T.B_Chart_ends_from.a],U,c,p,s,b,U,?_])];{unfold WB at f;rw[Zq (by rw[k];decide)]at f;have:=alk g b e s.1;rw[eC,m];show UA (c:=D.int) (λi=>(Yl.ed i).d) (xs:=Rj g b e s.1) 00 (λi O N n=>?_) ?_;{ac_nf;exact#[01,n]};rw[YG]at f;exact f};unfold WB at f;rw[Zt k]at f;unfold Xg;ac_nf;show Vg (λz=>#[01,01,01,?_]) (λz=>#[01,?_]);{rw[Zt z]at f;exact f};rw[Zq z]at f;exact f
def alo{E:Za Ed}(P:Ed×Nat->Bool):((E.zipIdx.filter P).map λp=>(p.2:Int)).Nodup:=by
 have h:(E.zipIdx.map λp=>(p.2:Int)).Nodup:=by
  rw[show(λp:Ed×Nat=>(p.2:Int))=(λn:Nat=>(n:Int)) ∘ Prod.snd from rfl,<-YG,apT];rw[NA,NB];exact(NA.mp (apJ (s:=0) (n:=E.length))).imp λh e=>h 00
 exact h.sublist (yX.map _)
def alp{E:Za Ed}(e:Int):(E.zipIdx.filter λp=>decide (p.1.2.1=e)).length=(E.filter λx=>decide (x.2.1=e)).length:=by
 have h:(E.zipIdx.map nH).filter (λx=>decide (x.2.1=e))=(E.zipIdx.filter λp=>decide (p.1.2.1=e)).map nH:=by rw[List.filter_map];rfl
 rw[K1]at h;rw[h,ZI]
def Iy{e:Za Ed}{E:Za ZM}{s:ZT}{b m:Int}{k:Yl}(a:YS s.1=Zi)(h:k∈WB e E s b m):∃(j:Nat) (x:Ed),k=.ed j/\e[j]?=Zb x/\x.1=b/\x.2.1=m/\x.2.2.1=s.1:=by
 unfold WB at h;rw[Zq (by rw[a];decide)]at h;let#[i,hi,U]:=ZW.mp h;let#[j,x,U,r]:=akH hi;exact#[j,x,U,r]
def Nn{E:Za Ed}{e:Za ZM}{s:ZT}{b m:Int}{k:Yl}(a:YS s.1=Zd)(h:k∈WB E e s b m):m∈Yi e (Ym s b)/\k=.nd s b m:=by
 unfold WB at h;rw[Zt a]at h;exact Fs h
def pV{g:Za Ed}{n:Za ZM}{s:ZT}{p m c M:Int}{k:Yl}(h:k∈WB g n s p m)(f:k∈WB g n s c M):p=c/\m=M:=by
 cases a:YS s.1 with
 |true=>
  have e:=(Nn a h).2.symm.trans (Nn a f).2;injection e with _ b E;exact#[b,E]
 |false=>
  let⟨j,x,b,E,rfl,rfl,_⟩:=Iy a h;let#[J,q,o,i,U,U,_]:=Iy a f;have e:=b.symm.trans o;injection e with e;obtain rfl:j=J:=00
  rw[E]at i;cases i;exact#[U,U]
def X5(E:Za Ed)(n:Za ZM)(s:ZT)(p m:Int):(WB E n s p m).Nodup:=by
 unfold WB;split;{split<;>simp};exact pJ (λa b e=>by injection e) (alo _)
def alq{C:Za ZT}{E:Za ZM}{n:Int}{b:Za Ed}{bd:Za Int}{s:ZT}{e:Int}(q:Xb C E)(o:PR n b)(nd:bd.Nodup):(bd.flatMap λp=>WB b E s p e).length<=max 4 e.toNat:=by
 by_cases k:YS s.1=Zd
 ·have:=OZ (xs:=(bd.filter λp=>decide (e∈Yi E (Ym s p)))) (ys:=(Vj e.toNat).map λi:Nat=>(i:Int)) (nd.sublist yX) λp m=>by
   have:=(q.lk s p).2 e (Se (WM.mp m).2);exact ZW.mpr #[p.toNat,Hd.mpr 00,00]
  rw[ZI,IY]at this;show Yp (Sa ?_) (Yp this (ap3 _ _));clear this nd;induction bd with
  |nil=>rfl
  |cons p G I=>
   rw[Oe,Yx,I,yW];unfold WB;rw[Zt k];by_cases z:e∈Yi E (Ym s p);{rw[Zt z,Zt (Yq z)];simp;lia};rw[Zq z,Zq ↑z];simp
 have g:YS s.1=Zi:=↑k
 have B:(bd.flatMap λp=>WB b E s p e).Nodup:=Iv nd (λp O=>X5 b E s p e) λx O y O a f A=>(pV f A).1;have:=OZ (ys:=(b.zipIdx.filter λp=>decide (p.1.2.1=e)).map λp=>Yl.ed p.2) B λa c=>by
  let#[p,_,c]:=Vs.mp c;let#[j,x,U,f,_,u,_]:=Iy g c;exact ZW.mpr #[(x,j),WM.mpr #[KQ.mpr f,Yq u],U]
 rw[ZI,alp]at this;exact Yp this (Yp (o.2.2.2 e) (ap2 _ _))
def WH(E:Za Ed)(n:Za ZM):Za ZT->Za Yl->Int->Int->Prop
 |[],[],b,e=>b=e
 |s::a,k::c,b,e=>∃m,k∈WB E n s b m/\WH E n a c m e
 |_,_,_,_=>False
theorem WH.len{E:Za Ed}{n:Za ZM}:∀{a:Za ZT}{c:Za Yl}{b e:Int},WH E n a c b e->c.length=a.length
 |[],[],_,_,_=>rfl
 |s::a,k::c,b,e,⟨m,_,h⟩=>by rw[Yu,Yu,h.len]
 |[],k::c,_,_,h=>h.elim
 |s::a,[],_,_,h=>h.elim
def X6{E:Za Ed}{e:Za ZM}(b:∀x∈E,x.2.1∈Yi e (Ym (x.2.2.1,-1) x.1)){s:ZT}(c:YS s.1=Zi->s.2=-1){p m:Int}{k:Yl}(h:k∈WB E e s p m):m∈Yi e (Ym s p):=by
 cases a:YS s.1 with
 |true=>exact(Nn a h).1
 |false=>
  let⟨j,x,_,g,rfl,rfl,f⟩:=Iy a h;have:=b x (YH g);rw[show(x.2.2.1,(-1:Int))=s from QP f (c a).symm]at this;exact this
theorem WH.rch{i:Za Ed}{E:Za ZM}(f:∀x∈i,x.2.1∈Yi E (Ym (x.2.2.1,-1) x.1)):∀{a:Za ZT}{c:Za Yl}{b e:Int},(∀s∈a,YS s.1=Zi->s.2=-1)->WH i E a c b e->Wd E a b e
 |[],[],_,_,_,h=>h
 |s::a,k::c,b,e,g,⟨m,o,n⟩=>#[m,X6 f (g s YY) o,WH.rch f (λt j=>g t (YT _ j)) n]
 |[],k::c,_,_,_,h=>h.elim
 |s::a,[],_,_,_,h=>h.elim
theorem Wd.app{E:Za ZM}{t:ZT}{p e:Int}(c:e∈Yi E (Ym t p)):∀{a:Za ZT}{b:Int},Wd E a b p->Wd E (a++[t]) b e
 |[],b,h=>#[e,by rw[show b=p from h];exact c,U]
 |s::a,b,⟨m,g,f⟩=>#[m,g,Wd.app c f]
theorem WH.far{y:Za ZT}{E:Za Ed}{p:Za ZM}{n:Int}(i:Xb y p)(f:PR n E):∀{a:Za ZT}{c:Za Yl}{b e:Int},WH E p a c b e->b+a.length<=e
 |[],[],b,e,h=>by rw[show b=e from h];simp
 |s::a,k::c,b,e,⟨m,o,q⟩=>by
  have:=WH.far i f q;have:b<m:=by
   cases g:YS s.1 with
   |true=>exact((i.lk s b).2 m (Nn g o).1).2.1
   |false=>
    let⟨j,x,_,u,rfl,rfl,_⟩:=Iy g o;exact(f.2.2.1 x (YH u)).2.1
  rw[Yu];lia
 |[],k::c,_,_,h=>h.elim
 |s::a,[],_,_,h=>h.elim
noncomputable def Kw(j:Nat):Nat:=[1,6,30,120,480].getD j 480
def alr{j a:Nat}(b:j<4)(c:a+j<=6):Kw j*max 4 a<=Kw (j+1):=by
 unfold Kw;rcases (show j=0\/j=1\/j=2\/j=3 by lia)with rfl|rfl|rfl|rfl<;>simp<;>lia
def X7{j:Nat}(a:j<=4):Kw j<=480:=by
 unfold Kw;rcases (show j=0\/j=1\/j=2\/j=3\/j=4 by lia)with rfl|rfl|rfl|rfl|rfl<;>simp
noncomputable def Fy(r:Za Yl×Int):D:=.tup [.tup (r.1.map Yl.d),.int r.2]
noncomputable def Kx(e:Za Ed)(E:Za ZM)(s:ZT)(bd:Za Int)(R:Za (Za Yl×Int)):Za (Za Yl×Int):=R.flatMap λr=>bd.flatMap λp=>(WB e E s p r.2).map λk=>(k::r.1,p)
def als{es:Za Ed}{en:Za ZM}{s:ZT}{bd:Za Int}{R:Za (Za Yl×Int)}(m:bd.Nodup)(n:R.Nodup):(Kx es en s bd R).Nodup:=Iv n (λr O=>Iv m (λp O=>pJ (λa b e=>by injection e with e _;injection e) (X5 es en s p r.2)) λx O y O a f c=>by
  let#[k,_,U]:=ZW.mp f;let#[j,_,e]:=ZW.mp c;injection e with _ e;exact e.symm) λr O q O a f c=>by
 let#[p,_,f]:=Vs.mp f
 let#[k,i,U]:=ZW.mp f
 let#[u,_,c]:=Vs.mp c
 let#[j,g,e]:=ZW.mp c
 injection e with E _
 injection E with E o
 subst E
 exact QP o.symm (pV i g).2
def alu{b a:Type}(f:b->D)(g:a->D)(x:Za b)(y:Za a):RO (x.map f) (y.map g)=(x.zip y).map λp=>.tup [f p.1,g p.2]:=by
 unfold RO;rw[List.zip_map,YG];rfl
def alv{b a:Type}{s:Za b}{Y:Za a}{j:Nat}{x:b}{y:a}(c:s.length<=Y.length)(e:j<s.length)(h:(s.zip Y).reverse[j]?=Zb (x,y)):s[s.length-1-j]?=Zb x/\Y[s.length-1-j]?=Zb y:=by
 have lz:(s.zip Y).length=s.length:=by rw[M3];lia
 rw[apB 00,lz]at h;rw[List.getElem?_zip_eq_some]at h;exact h
def alw{a b c:Type}(f:a->Za b)(g:a->b->c)(s:Za a):(s.flatMap λx=>(f x).map (g x)).length=(s.flatMap f).length:=by
 induction s with|nil=>rfl|cons x s i=>rw[Oe,Oe,Yx,Yx,i,ZI]
def alx(A:ZC):YB:=λj q O=>∃(c:Ch) (g:Za ZM) (m:Za ZT) (E:Za Ed) (n:Int) (i:Nat) (l:Za ZT) (b e:Int),j=[Wc A c g,.int i,.int b,.int e]/\c.sts[i]?=Zb l/\l≠[]/\l.length<=4/\(∀s∈l,s.1.length<=1000)/\Xb m g/\(∀b e w,Yi c.een (Sy b e w)=Rj E b e w)/\PR n E/\0<=b/\b<=6/\e<=6/\(∀x∈E,x.2.1∈Yi g (Ym (x.2.2.1,-1) x.1))/\(∀s∈l,YS s.1=Zi->s.2=-1)/\
 ∀a:Za (Za Yl),(∀f,f∈a↔WH E g l f b e)->a.Nodup->a.length<=480->q (.lst (a.map λf=>.tup (f.map Yl.d)))
def aly{A:ZC}(T:Txt K mg A):ZK P w K mg base (ZV P w) 5 A.Ad A.rK CL (Yy K (alx A)):=by
 show T.B_Chart_kids_of.F.YR cm 03 (λcdv Ar outer s H E hr=>#[_,by have:=cm.nd;walk_at "#Ra 2 :k ? ? jv 0 @1 @4 $ dA ? T.Km ? T.qT @4 $ JF.je $ dA ? T.Km ? T.qT @4 $ ; ah0 ? T.aiX @2 $ Ra 4 :k ? ? jv 6 @1 @4 $ aih $ Ik $ aia 5 :i 'kids 'behind 'place 'kid [4 'border 'seat 'self [3 7 6 0 [3 ? rfl @6 $ ~ Wa 'kids 'place [2 [0 [0 @3 $ ~ |9",λxs q x h=>?_]);let#[c,o,SS,B,n,i,l,b,e,U,hi,hne,h4,hs,he,hee,hn,h0,h5,h6,hwd,hsw,hq]:=h;have hsz:Zo=16777216:=rfl;ac_nf;show#[_,_,U,_,⟨T.XM,_,_,_,T.B_Chart_borders.e,Y9 T,T.B_Chart_borders.a⟩,U,c,o,SS,i,l,b,e,U,hi,00,he,h0,h5,λbs b1 b2 b3 b4=>?_];show#[01,01,01,[],?_];ac_nf;show#[_,WT (by rw[YC,hi];rfl),_,U,_,U,by rw[ZI,ZI];lia,?_];rw[alu,<-List.map_reverse];have lz:(l.zip bs).reverse.length=l.length:=by rw[List.length_reverse,M3];lia
 show Td (λj ds=>∃(R:Za (Za Yl×Int)) (s6 s7:L2.Slot),ds=[.v (Wc A c o),.v (.int i),.v (.int b),.v (.int e),.v (.lst (bs.map λx=>.lst (Xg x))),.v (.lst (R.map Fy)),s6,s7]/\R.length<=Kw j/\(∀r∈R,WH B o (l.drop (l.length-j)) r.1 r.2 e/\(0<j->∃x,bs[l.length-j]?=Zb x/\r.2∈x))/\R.Nodup/\∀r:Za Yl×Int,WH B o (l.drop (l.length-j)) r.1 r.2 e->Wd o (l.take (l.length-j)) b r.2->r∈R) #[[([],e)],_,_,U,ZU _,λr hr=>(by
  rw[YJ.mp hr,nA,oS]
  exact#[U,λz=>ZJ z (NI 0)]),02,λr hr O=>(by
  rw[nA,oS]at hr
  let#[I,p]:=r
  cases I with
  |nil=>rw[show p=e from hr];simp
  | cons k I=>exact hr.elim)] (λj p ds N Z hd hN=>?_) (λds hd=>?_)
 ·let#[R,s6,s7,U,hR,L,M,G]:=hd;let#[f,bd]:=p;have hj:=(YM.mp Z).1;rw[lz]at hj;let#[g1,g2]:=alv 00 hj Z;have hsd:f.1.length<=1000:=hs f (YH g1);have hbd:bd.Nodup:=b3 bd (YH g2);have l5:(Kx B o f bd R).length<=R.length*max 4 (6-j):=Pz λr hr=>by
   have:=alq (s:=f) (e:=r.2) he hn hbd;rw[<-alw (λp=>WB B o f p r.2) (λp k=>(k::r.1,p))]at this;have g:=(L r hr).1.far he hn;rw[FU]at g;exact Yp this (Nat.max_le.mpr #[ap2 _ _,Yp (show r.2.toNat<=6-j by lia) (ap3 _ _)])
  have l6:(Kx B o f bd R).length<=Kw (j+1):=Yp l5 (Yp (Nat.mul_le_mul_right _ hR) (alr 00 00));have l7:=X7 (j:=j+1) 00;have dr:l.drop (l.length-(j+1))=f::l.drop (l.length-j):=by
   have hlt:l.length-1-j<l.length:=00
   rw[show l.length-(j+1)=l.length-1-j by lia,Od hlt,show l.length-1-j+1=l.length-j by lia];rw[ZA hlt]at g1;cases g1;rfl
  have tk:l.take (l.length-j)=l.take (l.length-(j+1))++[f]:=by
   rw[show l.length-j=l.length-1-j+1 by lia,Um,g1,show l.length-(j+1)=l.length-1-j by lia];rfl
  have lal:∀r:Za Yl×Int,WH B o (l.drop (l.length-(j+1))) r.1 r.2 e->Wd o (l.take (l.length-(j+1))) b r.2->r∈Kx B o f bd R:=λr Y h2=>by
   rw[dr]at Y;let#[I,p]:=r;cases I with
   |nil=>exact Y.elim
   |cons k I=>
    have far:=WH.far he hn Y;let#[m,k1,k2]:=Y;have in1:=G (I,m) k2 (by rw[tk];exact Wd.app (X6 hwd (hsw f (YH g1)) k1) h2);rw[Yu]at far;have in2:p∈bd:=b4 _ bd p g2 (by rw[show l.length-1-j=l.length-(j+1)by lia];exact h2) 00;exact Vs.mpr #[_,in1,Vs.mpr #[p,in2,ZW.mpr #[k,k1,U]]]
  have em:(Kx B o f bd R).map Fy=R.flatMap λr=>bd.flatMap λp=>(WB B o f p r.2).flatMap λk=>[Fy (k::r.1,p)]:=by
   unfold Kx;rw[Ku];congr 1;funext r;rw[Ku];congr 1;funext p;rw[Ft,YG];rfl
  change TN 2 _ (.tup [Xs f,.lst (Xg bd)]) _ _;ac_nf;show GZ (C:=λds=>∃s0 s1 J u,ds=[s0,s1,J,u,.v (.lst (Xg bd)),.v (Xs f),.v (Wc A c o)]) (xs:=R) (c:=Fy) (zs:=λr=>bd.flatMap λp=>(WB B o f p r.2).flatMap λk=>[Fy (k::r.1,p)]) #[_,_,_,_,U] (λr hr ds hC=>?_) (by rw[<-em,ZI];lia) ?_;{let#[s0,s1,J,u,U]:=hC;have lk:=(L r hr).1.len;rw[FU]at lk;show Py (ds1:=[.v (.tup (r.1.map Yl.d)),.v (.int r.2),J,u,.v (.lst (Xg bd)),.v (Xs f),.v (Wc A c o)]) (λN h=>by change TN 2 _ (.tup [_,_]) _ _;ac_nf;exact h) (QG.mono (Ij (xs:=bd) (c:=.int) (C:=λds=>∃J u,ds=[.v (.tup (r.1.map Yl.d)),.v (.int r.2),J,u,.v (.lst (Xg bd)),.v (Xs f),.v (Wc A c o)]) (λq h=>h) ⟨_,_,rfl⟩ λp Z ds hC=>?_) λds ⟨J,u,h⟩=>#[_,_,J,u,h]);let#[J,u,U]:=hC;show Py (ds1:=[.v (.tup (r.1.map Yl.d)),.v (.int r.2),.v (.int p),u,.v (.lst (Xg bd)),.v (Xs f),.v (Wc A c o)]) (λN h=>h) (QG.mono (Ij (xs:=WB B o f p r.2) (c:=Yl.d) (C:=λds=>∃u,ds=[.v (.tup (r.1.map Yl.d)),.v (.int r.2),.v (.int p),u,.v (.lst (Xg bd)),.v (Xs f),.v (Wc A c o)]) (λq h=>?_) ⟨_,rfl⟩ λk Q ds hC=>?_) λds ⟨u,h⟩=>#[_,u,h]);{ac_nf;exact#[_,_,U,_,#[T.XM,_,_,_,T.B_Chart_kids_between.e,aln T,T.B_Chart_kids_between.a],U,c,o,B,f,p,r.2,U,hee,Yp hn.2.1 01,hsd,h]};let#[u,U]:=hC;show Py (ds1:=[.v (.tup (r.1.map Yl.d)),.v (.int r.2),.v (.int p),.v k.d,.v (.lst (Xg bd)),.v (Xs f),.v (Wc A c o)]) (λN h=>h) (Ii (λN h=>?_) #[_,U]);ac_nf;exact#[01,00,01,h]};rw[<-em];show hN _ #[_,_,_,U,l6,λr' y=>?_,(als (es:=B) (en:=o) (s:=f) hbd M),lal];unfold Kx at y;let#[r,hr,y]:=Vs.mp y;let#[p,hp',y]:=Vs.mp y;let#[k,Q,U]:=ZW.mp y;show#[?_,λO=>#[bd,by rw[show l.length-(j+1)=l.length-1-j by lia];exact g2,hp']];let#[c1,_]:=L r hr;rw[dr];exact#[r.2,Q,c1]
 let#[R,s6,s7,U,hR,L,M,G]:=hd;rw[lz]at hR L G;ac_nf;have l8:=X7 h4;rw[J8]at L G;have e0:∀r∈R,r.2=b:=λr hr=>by
  let#[x,hx,Z]:=(L r hr).2 (N8.mpr hne);rw[b2]at hx;cases hx;exact YJ.mp Z
 show DN (xs:=R) (c:=λr=>.tup (r.1.map Yl.d)) (c':=λr=>.int r.2) (λr=>.tup (r.1.map Yl.d)) 00 (λr hr N hN=>?_) ?_;{exact hN};have:=hq (R.map (·.1)) (λI=>#[λQ=>?_,λQ=>ZW.mpr #[(I,b),G (I,b) Q U,U]]) ?_ (by rw[ZI];lia);{rw[YG]at this;exact this};{let#[r,hr,U]:=ZW.mp Q;have:=(L r hr).1;rw[e0 r hr]at this;exact this};rw[NA,NB];exact(NA.mp M).imp_of_mem λ{r r'} Y h2 n e=>n (QP e ((e0 r Y).trans (e0 r' h2).symm))
def alz{p:Type}{c:p->D}{g:DG}{f:DT}{n:UK}{N:ZG->Za D->Prop}{xs:Za p}(C:ZG->Prop)(S:Nat->Za D->Prop)
  (B:∀i x,xs[i]?=Zb x->∀ds a M,C ds->S i a->(∀e A,C e->S (i+1) A->M e A)->g (c x) ds λm=>f m (λb=>if b=Zd then n m a M else M m a) (λO=>False)){ds:ZG}{a:Za D}(o:C ds)(E:S 0 a)(k:∀e A,C e->S xs.length A->N e A):Qw g f n N (xs.map c) ds a:=by
 have go:∀(Y:Za p) (i:Nat) (ds:ZG) (a:Za D),xs.drop i=Y->i<=xs.length->C ds->S i a->Qw g f n N (Y.map c) ds a:=by
  intro Y;induction Y with
  |nil=>
   intro i ds a hd hi o s;obtain rfl:i=xs.length:=by have:=Q9.mp hd;lia
   exact k ds a o s
  |cons y Y I=>
   intro i ds a hd hi o s;have j:i<xs.length:=by
    rcases QO i xs.length with z|z;{exact z};rw[IU z]at hd;cases hd
   rw[Od j]at hd;cases hd;exact B i _ (ZA j) ds a _ o s λe A u q=>I (i+1) e A U j u q
 exact go xs 0 ds a U (Wg _) o E
def alA(a:Za Ru)(s:ZT):(Ui a s).Nodup:=(akE a s.1).sublist yX
def X8{s:Za Ru}(a:QI s){i:Int}{p:Ze}(h:YS (XW (XG s) i p).1=Zi):(XW (XG s) i p).2=-1:=by
 unfold XW;show Zq λz=>?_;let#[r,m,e]:=ZW.mp z;have:=a.hk r (WM.mp m).1;rw[e,show YS p=Zi from h]at this;cases this
def alB{g:DG}{A:UK}{M:ZG->Za D->Prop}{d:D}{ds ds1:ZG}{a:Za D}(c:∀N:ZG->Prop,N ds1->g d ds N)(h:A ds1 a M):g d ds λds1=>OM ds1 (λb=>if b=Zd then A ds1 a M else M ds1 a) (λO=>False):=c _ (by
 change if Zd=Zd then A ds1 a M else M ds1 a
 rw[Zt U];exact h)
noncomputable def PU(w:Nat×Za Yl):D:=.tup [.int w.1,.tup (w.2.map Yl.d)]
def Iz(a:Za Ru)(E:Za Ed)(n:Za ZM)(s:ZT)(b e:Int)(w:Nat×Za Yl):Prop:=w.1∈Ui a s/\∃r,a[w.1]?=Zb r/\WH E n (r.ps.map (XW (XG a) w.1)) w.2 b e
def alC(A:ZC):YB:=λi q O=>∃(c:Ch) (g:Za ZM) (j:Za ZT) (st:Ze) (f:Za Ru) (E:Za Ed) (n:Int) (s:ZT) (b e:Int),i=[Wc A c g,Iw s b e]/\pQ st f E c/\QI f/\Xb j g/\PR n E/\s∈Tn st f/\YS s.1=Zd/\0<=b/\b<=6/\e<=6/\(∀x∈E,x.2.1∈Yi g (Ym (x.2.2.1,-1) x.1))/\
 ∀a:Za (Nat×Za Yl),(∀w,w∈a↔Iz f E g s b e w)->a.Nodup->a.length<=4320->q (.lst (a.map PU))
def alD{A:ZC}(T:Txt K mg A):ZK P w K mg base (ZV P w) 6 A.Ab A.rJ CK (Yy K (alC A)):=by
 show T.B_Chart_ways_of.F.YR cj 03 (λcdv Ar Y s H E hr=>#[_,by have:=cj.nd;walk_at "#GH $ Ra 5 :k ? ? jv 4 @1 @4 $ Ik $ Kc 'number 'kids [2 'begin 'end 'self [3 4 5 0 [3 @3 $ ~ JF.je $ Kc 'number 'kids [2 'begin 'end 'self [3 4 5 0 [3 @3 $ ; ~ |5",λxs q x h=>?_]);let#[c,I,SS,st,f,es,n,s,b,e,U,hc,hr,he,hn,hs,hk,h0,h5,h6,Z,hq]:=h;have hsz:Zo=16777216:=rfl;unfold Iw;ac_nf;show#[01,_,U,Ti s,U,_,hc.kvs.has s hs hk,?_];have lf:(Ui f s).length<=9:=by
  unfold Ui;have:=IX (λi=>Vr f i s.2) (numsOf f s.1);have:=yy f s.1;have:=hr.len;lia
 show alz (xs:=Ui f s) (c:=λi:Nat=>.int i) (λds=>∃s0 u,ds=[s0,u,.v (.int b),.v (.int e),.v (Wc A c I)]) (λi G=>∃o:Za (Nat×Za Yl),G=o.map PU/\o.length<=i*480/\o.Nodup/\∀w,w∈o↔w.1∈(Ui f s).take i/\Iz f es I s b e w) (λj i hi ds G M hC hS hM=>?_) #[_,_,U] #[[],U,02,02,λw=>02] (λds G O hS=>?_)
 ·let#[s0,u,U]:=hC;let#[o,U,hw,B,J]:=hS;have mi:i∈Ui f s:=YH hi;let#[r,m,_]:=yx (WM.mp mi).1;have mr:=YH m;let#[p4,p0]:=hr.ps r mr;have hj:=(YM.mp hi).1;show alB (ds1:=[.v (.int i),u,.v (.int b),.v (.int e),.v (Wc A c I)]) (λN h=>h) ?_;unfold JZ;ac_nf;show#[_,_,U,_,#[T.XM,_,_,_,T.B_Chart_kids_of.e,aly T,T.B_Chart_kids_of.a],U,c,I,SS,es,n,i,r.ps.map (XW (XG f) i),b,e,U,by rw[hc.sts];exact Fw m,λz=>p0 (List.map_eq_nil_iff.mp z),by rw[ZI];exact p4,λt ht=>?_,he,hc.een,hn,h0,h5,h6,Z,λt ht=>?_,λy Q hn2 hl2=>?_];{let#[p,hp,U]:=ZW.mp ht;exact(hr.fit.2 r mr).2.2.1.2 p hp};{let#[p,hp,U]:=ZW.mp ht;exact X8 hr};show Cr (xs:=y) (c:=λg=>.tup (g.map Yl.d)) (C:=λds=>∃u,ds=[.v (.int i),u,.v (.int b),.v (.int e),.v (Wc A c I)]) (zs:=λg=>[PU (i,g)]) (λg L ds hC=>?_) y _ (o.map PU) (λO h=>h) #[_,U] (by rw[Ft,ZI,ZI];lia) (λds' hC'=>?_);{let#[u,U]:=hC;show Py (ds1:=[.v (.int i),.v (.tup (g.map Yl.d)),.v (.int b),.v (.int e),.v (Wc A c I)]) (λN h=>h) (Ii (λN h=>?_) #[_,U]);ac_nf;exact#[01,h]};let#[u,U]:=hC';have et:(Ui f s).take (j+1)=(Ui f s).take j++[i]:=by rw[Um,hi];rfl
  have ni:i∉(Ui f s).take j:=λz=>by
   have:=alA f s;rw[<-KR (j+1) (Ui f s),et,UE,UE]at this;exact this.1.2.2 i z i 02 U
  show hM _ _ ⟨_,_,rfl⟩ #[o++y.map λg=>(i,g),?_,?_,?_,λw=>?_];{rw[Ft,Xt,YG];rfl};{rw[Yx,ZI];lia};{rw[UE];show#[B,pJ (λa b e=>by injection e) hn2,λa ha b hb e=>ni ?_];let#[g,_,U]:=ZW.mp hb;have:=((J a).mp ha).1;rw[e]at this;exact this};rw[Xk,et,Xk,J];constructor;{rintro (z|z);{exact#[.inl z.1,z.2]};let#[g,L,U]:=ZW.mp z;exact#[.inr 02,mi,r,m,(Q g).mp L]};rintro⟨z|z,h⟩;{exact .inl #[z,h]};let#[a,g]:=w;obtain rfl:a=i:=YJ.mp z;let#[_,r',h1,h2]:=h;rw[show f[a]?=Zb r' from h1]at m;cases m;exact .inr (ZW.mpr #[g,(Q g).mpr h2,U])
 let#[o,U,hw,B,J]:=hS;rw[TZ]at J;exact hq o (λw=>(J w).trans #[λh=>h.2,λh=>#[h.1,h]]) B 00
def alE(A:ZC):YB:=λx q O=>∃(z st:Ze) (s:Za Ru) (n:Int) (E:Za Ed),x=[Gr A z st s,Nt A n E]/\(z = "cost" \/z = "chance")/\(∀e∈E,Rh z e.2.2.2.1=Zd)/\q .non
def ajq{A:ZC}(T:Txt K mg A):ZK P w K mg base (ZV P w) 2 A.AB A.qo Bo (Yy K (alE A)):=by
 show T.zM.F.YR cW 03 (λQ Y o s H E hr=>#[_,by have:=cW.nd;walk_at "#Ra 1 :k ? ? jv 2 @1 @4 $",λxs q x h=>?_]);let#[z,st,p,n,L,U,u,y,B]:=h;ac_nf;show#[z,U,λO=>?_,λa b=>(u.elim a b).elim];show#[[],?_];ac_nf;let#[C,g,m,M,G]:=aJ (P:=P) (w:=w) (base:=base) T z;show Td (λk ds=>∃j i f c:L2.Slot,ds=[.v (Gr A z st p),.v (Nt A n L),.v (PL A z),j,i,f,c]) #[_,_,_,_,U] (λk e ds N I hd J=>?_) (λds hd=>?_);{let#[j,i,f,c,U]:=hd;unfold Vz;ac_nf;show#[C,[],m,g,M,U,G ?_];rw[y e (YH I)];ac_nf;exact J _ #[_,_,_,_,U]};let#[j,i,f,c,U]:=hd;ac_nf;exact B
abbrev Yf:=ZT×Int×Int
abbrev WC:=Nat×Za Yl
noncomputable def Yf.d(x:Yf):D:=Iw x.1 x.2.1 x.2.2
noncomputable def VU(x:Yf):Zu:=[.inl (.inr x.1.1),.inl (.inl x.1.2),.inl (.inl x.2.1),.inl (.inl x.2.2)]
def yA{x y:Yf}(h:VU x=VU y):x=y:=by
 unfold VU at h;simp only[IT,o9,m7,and_true]at h;let#[e,c,b,a]:=h;exact QP (QP e c) (QP b a)
noncomputable def PV(x:Yf×Za WC):Zu×D:=(VU x.1,.lst (x.2.map PU))
noncomputable def MP:Yl->Za Yf
 |.ed _=>[]
 |.nd s b e=>[(s,b,e)]
noncomputable def Rk(w:WC):Za Yf:=w.2.flatMap MP
structure Oa (st:Ze)(rs:List Ru)(x:Yf):Prop where
 seat:x.1∈Tn st rs
 kd:YS x.1.1=Zd
 b0:0<=x.2.1
 be:x.2.1<x.2.2
 e5:x.2.2<=6
noncomputable def W2:Za (Int×Int):=[(0,1),(0,2),(0,3),(0,4),(0,5),(0,6),(1,2),(1,3),(1,4),(1,5),(1,6),(2,3),(2,4),(2,5),(2,6),(3,4),(3,5),(3,6),(4,5),(4,6),(5,6)]
def W3{st:Ze}{e:Za Ru}{g:Za Yf}(u:QI e)(nd:g.Nodup)(h:∀x∈g,Oa st e x):g.length<=777:=by
 have z:=OZ (ys:=(Tn st e).flatMap λs=>W2.map λp=>((s,p.1,p.2):Yf)) nd λx q=>by
  let#[#[a,b],c,d]:=x;let#[o,_,m,j,i]:=h _ q;dsimp only at o m j i;show Vs.mpr #[_,o,ZW.mpr #[(c,d),?_,U]];rcases (show c=0\/c=1\/c=2\/c=3\/c=4\/c=5 by lia)with rfl|rfl|rfl|rfl|rfl|rfl<;>rcases (show d=1\/d=2\/d=3\/d=4\/d=5\/d=6 by lia)with rfl|rfl|rfl|rfl|rfl|rfl<;>first|decide|lia
 have y:=Pz (xs:=Tn st e) (n:=21) (f:=λs=>W2.map λp=>((s,p.1,p.2):Yf)) λs O=>by rw[ZI];decide
 have:=X3 (st:=st) u;lia
def alF{F:Za (Yf×Za WC)}{x:Yf}:(WK (F.map PV) (VU x)).isSome=decide (x∈F.map (·.1)):=by
 induction F with
 |nil=>simp[WK]
 |cons y F i=>
  rw[Xo,Xo];unfold PV at i⊢;rw[Px];by_cases e:y.1=x;{subst e;simp};rw[Zq (λz=>e (yA z)),i];rw[decide_eq_decide];simp only[Yk];exact#[.inr,λz=>z.resolve_left (XR e)]
def W4{F:Za (Yf×Za WC)}{x:Yf}{ws:Za WC}(nd:(F.map (·.1)).Nodup)(h:(x,ws)∈F):WK (F.map PV) (VU x)=Zb (.lst (ws.map PU)):=by
 induction F with
 |nil=>cases h
 |cons y F i=>
  rw[Xo]at nd⊢;rw[TY]at nd;unfold PV at i⊢;rw[Px];rcases Yk.mp h with rfl|h;{rw[Zt U]};rw[Zq (λz=>nd.1 (by rw[yA z];exact ZW.mpr #[_,h,U])),i nd.2 h]
def alG{F:Za (Yf×Za WC)}{x:Yf}{s:Za WC}(h:x∉F.map (·.1)):VX (F.map PV) (VU x) (.lst (s.map PU))=(F++[(x,s)]).map PV:=by
 unfold VX;rw[Zq,Xt];{rfl};intro z;let#[y,a,e]:=KM.mp z;let#[f,b,U]:=ZW.mp a;have:VU f.1=VU x:=Se e;exact h (by rw[<-yA this];exact ZW.mpr #[f,b,U])
structure T4 (st:Ze)(rs:List Ru)(es:List Ed)(en:List ZM)(F:List (Yf×List WC))(wt:List Yf):Prop where
 nd:(F.map (·.1)).Nodup
 ok:∀x∈F,Oa st rs x.1
 ways:∀x∈F,∀w,w∈x.2↔Iz rs es en x.1.1 x.1.2.1 x.1.2.2 w
 wn:∀x∈F,x.2.Nodup
 cl:∀x∈F,∀w∈x.2,∀y∈Rk w,y∈F.map (·.1)\/y∈wt
 wt:∀y∈wt,Oa st rs y
 wl:∀x∈F,x.2.length<=4320
def alH(s:Za Yf):D.Sq (s.map Yf.d)=Zd:=by
 induction s with|nil=>rfl|cons x s i=>rw[Xo,D.Sq,i];rfl
theorem WH.mem{E:Za Ed}{n:Za ZM}:∀{a:Za ZT}{c:Za Yl}{b e:Int}{k:Yl},WH E n a c b e->k∈c->∃s∈a,∃p m,k∈WB E n s p m
 |_,[]=>λO h=>by cases h
 |[],_::_=>λh O=>h.elim
 |s::a,o::c=>λg h=>by
  let#[m,j,i]:=g;rcases Yk.mp h with rfl|h;{exact#[s,YY,_,m,j]};let#[t,f,r]:=WH.mem i h;exact#[t,YT _ f,r]
def W5{st:Ze}{a:Za Ru}{i:Nat}{r:Ru}{s:ZT}(h:a[i]?=Zb r)(b:s∈r.ps.map (XW (XG a) i)):s∈Tn st a:=YT _ (apH.mpr #[_,YH (Fw h),b])
set_option tactic.hygienic true in
def alI{j:Za Ed}{E:Za ZM}{s a:ZT}{p m b e:Int}(h:Yl.nd a b e∈WB j E s p m):YS s.1=Zd/\a=s/\b=p/\e=m/\m∈Yi E (Ym s p):=by
 unfold WB at h;split at h;{rename_i k;split at h;{rename_i z;have:=YJ.mp h;injection this with g f c;exact#[k,g,f,c,z]};cases h};let#[i,_,e]:=ZW.mp h;cases e
def alJ{st:Ze}{I:Za ZT}{c:Za Ru}{B:Za Ed}{E:Za ZM}{s:ZT}{b e:Int}{w:WC}{y:Yf}(u:Xb I E)(g:Iz c B E s b e w)(a:y∈Rk w):Oa st c y:=by
 let#[_,r,n,x]:=g;unfold Rk at a;let#[k,q,a]:=Vs.mp a;cases k with
 |ed i=>cases a
 |nd f G C=>
  rw[YJ.mp a];let#[t,j,p,m,o]:=x.mem q;let#[A,U,U,U,z]:=alI o;have:=(u.lk f G).2 C z;exact#[W5 n j,A,this.1,this.2.1,this.2.2.1]
def alK{a:Za Ru}{E:Za Ed}{m:Za ZM}{s:ZT}{b e:Int}{w:WC}(g:QI a)(c:Iz a E m s b e w):(Rk w).length<=4:=by
 let#[_,r,h,i]:=c;have j:=i.len;rw[ZI]at j;have p:=(g.ps r (YH h)).1;have o:=Pz (xs:=w.2) (n:=1) (f:=MP) λk O=>by cases k<;>simp[MP]
 unfold Rk;lia
def WvI(A:ZC)(c:Ch)(e:Za ZM)(st:Ze)(b:Za Ru)(E:Za Ed)(x:Yf)(m:Nat)(ds:ZG):Prop:=∃(F:Za (Yf×Za WC)) (a:Za Yf) (s:L2.Slot),ds=[.v (Wc A c e),.v x.d,.on (F.map PV),.own (a.map Yf.d),s]/\T4 st b E e F a/\(x∈F.map (·.1)\/x∈a)/\a.length<=1+F.length*17280/\m=(777-F.length)*17281+a.length
def alL(A:ZC):YB:=λb q O=>∃(c:Ch) (E:Za ZM) (f:Za ZT) (st:Ze) (s:Za Ru) (e:Za Ed) (n:Int) (a:Yf),b=[Wc A c E,a.d]/\pQ st s e c/\QI s/\Xb f E/\PR n e/\Oa st s a/\(∀x∈e,x.2.1∈Yi E (Ym (x.2.2.1,-1) x.1))/\∀F,T4 st s e E F []->a∈F.map (·.1)->q (.dit (F.map PV))
def ajr{A:ZC}(T:Txt K mg A):ZK P w K mg base (ZV P w) 7 A.AD A.qp Bp (Yy K (alL A)):=by
 show T.zN.F.YR cX 03 (λcdv Ar outer s H E hr=>#[_,by have:=cX.nd;walk_at "#gP 2 :i ? rfl @3 $ SZ $ Qr 3 :i ? rfl @3 $ ad3 3 @1 $ af8 $ Ra 6 :k ? ? jv 0 @1 @4 $ gT [0 2 ? jv 4 @1 @4 $ GH ? jv 2 @1 jv 4 @1 @3 $ Ik $ Kc 'number 'kids 'form 'thing [4 [0 [0 @3 $ ah1 2 [1 3 @2 $ Qq 2 [1 @1 $ ie 3 [1 @1 $ Mt 2 [1 jv 2 @1 @2 $ |14",λxs q x h=>?_]);let#[c,en,SS,st,Z,es,n,Y,U,hc,hr,he,hn,h0,hwd,hq]:=h;have hsz:Zo=16777216:=rfl;ac_nf;show#[01,WvI A c en st Z es Y,#[_,[],[Y],.un,U,#[FX,λO h=>(by cases h),λO h=>(by cases h),λO h=>(by cases h),λO h=>(by cases h),λy J=>(by rw[YJ.mp J];exact h0),λO h=>(by cases h)],.inr 02,ZU _,U],?_];rintro m _ ⟨F,wt,s4,rfl,o,g,hl,rfl⟩;rcases List.eq_nil_or_concat wt with rfl|⟨u,y,rfl⟩;{ac_nf;exact hq F o (g.resolve_right 02)};rw[List.concat_eq_append]at hl o g⊢;rw[Yx,Ld]at hl;rw[Yx,Ld];have j:Oa st Z y:=o.wt y 02;have rest:∀z,z∈u++[y]->z=y\/z∈u:=λz f=>by
  rcases Xk.mp f with f|f;{exact .inr f};exact .inl (YJ.mp f)
 rw[Xt];ac_nf;rw[Zt 02];show#[_,_,U,VU y,U,?_];rw[alF];by_cases J:y∈F.map (·.1);{rw[Yq J,Zq 01];show#[_,?_,F,u,_,U,#[o.nd,o.ok,o.ways,o.wn,λx g w Q z f=>?_,λz f=>o.wt z (Tt _ f),o.wl],?_,00,U];{lia};{rcases o.cl x g w Q z f with h|h;{exact .inl h};rcases rest z h with rfl|h;{exact .inl J};exact .inr h};rcases g with h|h;{exact .inl h};rcases rest Y h with rfl|h;{exact .inl J};exact .inr h};rw[XF J,Zt 01];show#[_,U,_,_,U,_,#[T.XM,_,_,_,T.B_Chart_ways_of.e,alD T,T.B_Chart_ways_of.a],U,c,en,SS,st,Z,es,n,y.1,y.2.1,y.2.2,U,hc,hr,he,hn,j.seat,j.kd,j.b0,by have:=j.be;have:=j.e5;lia,j.e5,hwd,λB Q hwn hwl=>?_];have L:((F++[(y,B)]).map (·.1)).Nodup:=by
  rw[Xt,UE];exact#[o.nd,02,λa ha b hb e=>J (by rw[show b=y by simpa using hb]at e;rw[<-e];exact ha)]
 have M:∀x∈F++[(y,B)],Oa st Z x.1:=λx g=>by
  rcases Xk.mp g with h|h;{exact o.ok x h};rw[YJ.mp h];exact j
 have l5:=W3 (st:=st) hr L λx g=>by
  let#[z,f,U]:=ZW.mp g;exact M z f
 rw[ZI,Yx,Ld]at l5;have ln:(B.flatMap Rk).length<=B.length*4:=Pz λw h=>alK hr ((Q w).mp h);show#[VU y,U,by rw[ZI];lia,?_];rw[alG J];show#[_,U,VU y,U,_,W4 (ws:=B) L 02,?_];have em:(B.flatMap λw=>w.2.flatMap λk=>(MP k).map Yf.d)=(B.flatMap Rk).map Yf.d:=by
  unfold Rk;rw[Ku];congr 1;funext w;rw[Ku]
 show GZ (C:=λds=>∃s0 s1 I G,ds=[s0,s1,I,G]) (xs:=B) (c:=PU) (zs:=λw=>w.2.flatMap λk=>(MP k).map Yf.d) #[_,_,_,_,U] (λw p ds hC=>?_) (by rw[em,ZI];lia) ?_
 ·let#[s0,s1,I,G,U]:=hC;show Py (ds1:=[.v (.int w.1),.v (.tup (w.2.map Yl.d)),I,G]) (λN h=>by change TN 2 _ (.tup [_,_]) _ _;ac_nf;exact h) (QG.mono (Ij (xs:=w.2) (c:=Yl.d) (C:=λds=>∃I G,ds=[.v (.int w.1),.v (.tup (w.2.map Yl.d)),I,G]) (λq h=>h) ⟨_,_,rfl⟩ λk hk ds hC=>?_) λds ⟨I,G,h⟩=>#[_,_,I,G,h]);let#[I,G,U]:=hC;cases k with
  |ed i=>
   show Ct (ds1:=[.v (.int w.1),.v (.tup (w.2.map Yl.d)),.v (.str "edge"),.v (.int i)]) (b:=Zi) (λN h=>by change TN 2 _ (.tup [_,_]) _ _;ac_nf;exact h) (λN h=>?_) (λh=>by cases h) (λO=>#[U,_,_,U]);ac_nf;exact h
  |nd t b e=>
   show Ct (ds1:=[.v (.int w.1),.v (.tup (w.2.map Yl.d)),.v (.str "node"),.v (Iw t b e)]) (b:=Zd) (λN h=>by change TN 2 _ (.tup [_,_]) _ _;ac_nf;exact h) (λN h=>?_) (λO=>Ii (λN h=>h) #[_,_,U]) (λh=>by cases h);ac_nf;exact h
 rw[em];show#[alH _,by rw[ZI,ZI];lia,_,?_,F++[(y,B)],u++B.flatMap Rk,.v y.d,by rw[Xt (l₁:=u)],#[L,M,λx g=>?_,λx g=>?_,λx g w p z f=>?_,λz f=>?_,λx g=>?_],?_,?_,U];{rw[Yx,Yx,Ld];lia};{rcases Xk.mp g with h|h;{exact o.ways x h};rw[YJ.mp h];exact Q};{rcases Xk.mp g with h|h;{exact o.wn x h};rw[YJ.mp h];exact hwn};{rw[Xt];rcases Xk.mp g with h|h;{rcases o.cl x h w p z f with h|h;{exact .inl (Tt _ h)};rcases rest z h with rfl|h;{exact .inl (Va _ 02)};exact .inr (Tt _ h)};rw[YJ.mp h]at p;exact .inr (Va _ (Vs.mpr #[w,p,f]))};{rcases Xk.mp f with h|h;{exact o.wt z (Tt _ h)};let#[w,p,f]:=Vs.mp h;exact alJ he ((Q w).mp p) f};{rcases Xk.mp g with h|h;{exact o.wl x h};rw[YJ.mp h];exact hwl};{rw[Xt];rcases g with h|h;{exact .inl (Tt _ h)};rcases rest Y h with rfl|h;{exact .inl (Va _ 02)};exact .inr (Tt _ h)};rw[Yx,Yx,Ld];lia
theorem pW{a:Type}[DecidableEq a]{k:a}{d:D}:∀{s:Za (a×D)},(s.map (·.1)).Nodup->(k,d)∈s->(s.find? λb=>decide (b.1=k)).map (·.2)=Zb d
 |x::s,nd,h=>by
  rw[Xo,TY]at nd;rcases Yk.mp h with rfl|h;{rw[O4 02];rfl};rw[O3 (by
   intro z
   exact nd.1 (by rw[Se z];exact ZW.mpr #[_,h,U]))]
  exact pW nd.2 h
theorem W6:∀(s a:Za (Zx×D)),((a++s).map (·.1)).Nodup->Pw a s=a++s
 |[],a,_=>(SG a).symm
 |(k,d)::s,a,nd=>by
  have e:OS a k d=a++[(k,d)]:=by
   unfold OS;rw[Zq];intro z;let#[y,b,e]:=KM.mp z;rw[Xt,UE]at nd;exact nd.2.2 _ (ZW.mpr #[y,b,U]) k 02 (Se e)
  change Pw (OS a k d) s=_;rw[e,W6 s (a++[(k,d)]) (by rw[VC];exact nd),VC];rfl
theorem W7:∀(s A:Za (Zu×D)),((A++s).map (·.1)).Nodup->s.foldl (λa g=>VX a g.1 g.2) A=A++s
 |[],A,_=>(SG A).symm
 |(k,d)::s,A,nd=>by
  have e:VX A k d=A++[(k,d)]:=by
   unfold VX;rw[Zq];intro z;let#[y,b,e]:=KM.mp z;rw[Xt,UE]at nd;exact nd.2.2 _ (ZW.mpr #[y,b,U]) k 02 (Se e)
  change s.foldl _ (VX A k d)=_;rw[e,W7 s (A++[(k,d)]) (by rw[VC];exact nd),VC];rfl
noncomputable def pX(p:Ze->Int)(x:Yf):Zu:=[.inl (.inl (x.2.2-x.2.1)),.inl (.inl (p x.1.1)),.inr [.inr x.1.1,.inl x.1.2,.inl x.2.1,.inl x.2.2]]
def pY{ds:ZG}{x:Zg->Prop}{A B:Prop}(h:A):OM ds (λb=>if b=Zd then A else B) x:=by
 change if Zd=Zd then A else B
 rw[Zt U];exact h
def alM(A:ZC):YB:=λa q O=>∃(z st:Ze) (s:Za Ru) (res:Za Ze) (F:Za (Yf×Za WC)),a=[Gr A z st s,.dit (F.map PV)]/\PK s/\UO (VI s) (YX s) (YX s) [] res/\res.Nodup/\res.length<=1000/\(∀x∈F,x.1.1.1∈res)/\F.length<=1000/\
 ∀L:Za Yf,L.Perm (F.map (·.1))->q (.lst (L.map Yf.d))
def ajs{A:ZC}(T:Txt K mg A):ZK P w K mg base (ZV P w) 2 A.AF A.qq Bq (Yy K (alM A)):=by
 show T.zO.F.YR cY 03 (λcdv Ar u s H E hr=>#[_,by have:=cY.nd;walk_at "#ag6 jv 1 @1 @1 $ afK ? jv 4 @1 jv 0 @1 @3 $ RK fP .i .n Zi Zd Zd Zd [4 @1 [2 hu5 hr @1 @2 ? T.Fj G7 @4 $ Wa 'place 'head [2 [0 [0 @3 $ ~ LW 3 :i 'kind 'above 'begin 'end [4 'places [1 2 [1 ? rfl @6 $ ~ Wa 'length 'place 'node [3 [0 [0 @3 $ ~ |6",λxs q x h=>?_]);let#[z,st,rs,res,F,U,hr,hh,nd,hl,hf,hF,Q]:=h;have hsz:Zo=16777216:=rfl;ac_nf;show#[rs,res,_,U,.inr U,hr,hh,?_];ac_nf;rw[Fq];show DN (λp:Ze×Nat=>.tup [.str p.1,.int p.2]) (by rw[KP];lia) (λp Y N hN=>?_) ?_;{ac_nf;exact#[01,hN]};show#[res.zipIdx.map λp=>(Wh p.1,.int p.2),by rw[YG];rfl,?_];have kd:((res.zipIdx.map λp=>((Wh p.1:Zx),D.int (p.2:Int))).map (·.1))=res.map Wh:=by
  rw[YG,show((λx:Zx×D=>x.1) ∘ λp:Ze×Nat=>((Wh p.1:Zx),D.int (p.2:Int)))=Wh ∘ nH from rfl,<-YG,K1]
 have M:((res.zipIdx.map λp=>((Wh p.1:Zx),D.int (p.2:Int))).map (·.1)).Nodup:=by
  rw[kd,NA,NB];exact(NA.mp nd).imp λh e=>h (by injection e)
 rw[W6 _ [] M,QN];ac_nf;have ek:Kg (F.map PV)=(F.map (·.1)).map Yf.d:=by unfold Kg;rw[YG,YG];rfl
 rw[ek];have n:∀x∈F.map (·.1),x.1.1∈res:=λx o=>by
  let#[y,hy,U]:=ZW.mp o;exact hf y hy
 have B:(F.map (·.1)).length<=1000:=by rw[ZI];exact hF
 generalize F.map (·.1)=xs at n B Q;show JU (C:=λds=>∃j g f J,ds=[j,g,f,J,.v (.dic (res.zipIdx.map λp=>(Wh p.1,.int p.2)))]) (λO=>Zd) (λx=>Vn (pX (λk=>(res.idxOf k:Int)) x)) #[_,_,_,_,U] (λx o ds N0 N1 G O I=>?_) (by simp only[Nz];lia) ?_
 ·let#[j,g,f,J,U]:=G;change TN 4 _ (.tup [.str x.1.1,.int x.1.2,.int x.2.1,.int x.2.2]) _ _;ac_nf;let#[i,hi,e]:=yZ (n x o);have m:res[i]?=Zb x.1.1:=by rw[ZA hi,e]
  have hv:Mz (res.zipIdx.map λp=>((Wh p.1:Zx),D.int (p.2:Int))) (Wh x.1.1)=Zb (.int (res.idxOf x.1.1:Int)):=by
   show pW M (ZW.mpr #[(x.1.1,i),KQ.mpr m,?_]);rw[ale nd m]
  exact pY #[_,.inr x.1.1,_,U,U,hv,01,01,I U _ #[_,_,_,_,U]]
 rw[Gx,QN];show#[xs.map (pX λk=>(res.idxOf k:Int)),by rw[YG];rfl,λk hk=>?_,λks Y O=>?_];{let#[x,_,U]:=ZW.mp hk;exact#[trivial,trivial,#[trivial,trivial,trivial,trivial,trivial],trivial]};let#[L,U,Z]:=Y0 (pX λk=>(res.idxOf k:Int)) (λk=>match k with | [_,_,.inr [.inr a,.inl b,.inl c,.inl d]]=>(((a,b),c,d):Yf) | _=>(("",0),0,0)) (λO=>rfl) Y;rw[YG];have:=Z.length_eq;show JU (xs:=L) (C:=λds=>∃j g f,ds=[j,g,f]) (λO=>Zd) Yf.d #[_,_,_,U] (λx o ds N0 N1 G O I=>?_) (by simp only[Nz];lia) ?_;{let#[j,g,f,U]:=G;change TN 3 _ (.tup [.int _,.int _,x.d]) _ _;ac_nf;exact I U _ #[_,_,_,U]};rw[Gx,QN];exact Q L Z
noncomputable def MQ(I:Yf->Nat):Yl->D
 |.ed i=>.tup [.str "edge",.int i]
 |.nd s b e=>.tup [.str "node",.int (I (s,b,e))]
noncomputable def Np(i:Yf->Nat)(w:WC):D:=.tup [.int w.1,.tup (w.2.map (MQ i))]
def alN:YB:=λx q O=>∃(w:WC) (s:Za (Zu×D)) (i:Yf->Nat),x=[PU w,.dit s]/\(∀y∈Rk w,WK s (VU y)=Zb (.int (i y)))/\w.2.length<=1000/\q (Np i w)
def ajt{A:ZC}(T:Txt K mg A):ZK P w K mg base (ZV P w) 1 A.AG A.qt Br (Yy K alN):=by
 show T.zP.F.YR cZ 03 (λB L o s H E hr=>#[_,by have:=cZ.nd;walk_at "#GH ? jv 2 @1 jv 1 @1 @3 $ Wa 'form 'thing [2 'numbers [1 1 [1 @3 $ |2",λxs q x h=>?_]);let#[m,a,I,U,n,G,p]:=h;have z:Zo=16777216:=rfl;unfold PU;ac_nf;show JU (xs:=m.2) (c:=Yl.d) (C:=λds=>∃g f,ds=[g,f,.v (.dit a)]) (λO=>Zd) (MQ I) #[_,_,U] (λk u ds J N y O j=>?_) (by simp only[Nz];lia) ?_
 ·let#[g,f,U]:=y;cases k with
  |ed i=>
   show TN 2 _ (.tup [.str "edge",.int i]) _ _;ac_nf;show pY ?_;rw[Zq 01];exact#[01,j U _ #[_,_,U]]
  |nd t b e=>
   show TN 2 _ (.tup [.str "node",Iw t b e]) _ _;ac_nf;exact pY (#[_,U,VU (t,b,e),U,_,n (t,b,e) (Vs.mpr #[_,u,by simp[MP]]),01,j U _ #[_,_,U]])
 rw[Gx,QN];exact#[01,p]
noncomputable def pZ(g n a b t:D):Za (Ze×D):=[("grammar",g),("net",n),("nodes",a),("ways",b),("top",t)]
def alO(A:ZC):Pu:=λx q O=>∃g n a b t:D,x=[g,n,a,b,t]/\q (pZ g n a b t)
def alP{A:ZC}(T:Txt K mg A):ZK P w K mg base (ZV P w) 1 A.Ff A.rO CP (OO K A.RU (alO A)):=by
 show T.B_Wood___init__.F.JR cA (λc q x h=>?_) (λC j o s H E hr=>#[_,by have:=cA.nd;walk_at "#Uz K :K [0 0 ? jv 1 @1 @5 $ Uz K :K [0 0 ? jv 2 @1 @5 $ Uz K :K [0 0 ? jv 3 @1 @5 $ Uz K :K [0 0 ? jv 4 @1 @5 $ Uz K :K [0 0 ? jv 5 @1 @5 $ |5",λf i c q x h=>?_]);{let#[g,n,a,b,t,U,_]:=h;rfl};let#[g,n,a,b,t,U,e]:=h;ac_nf;exact#[T.PF,T.aa,01,T.PF,T.ae,by change 1<1000;decide,T.PF,T.af,by change 2<1000;decide,T.PF,T.ah,by change 3<1000;decide,T.PF,T.ai,by change 4<1000;decide,e]
structure Kinds (st:Ze)(rs:List Ru)(res:List Ze):Prop where
 nd:res.Nodup
 all:∀x∈YX rs,x∈res
 st:st∈YX rs
 ps:∀r∈rs,∀p∈r.ps,YS p=Zd->p∈YX rs
set_option tactic.hygienic true in
def yB(s:Za Ru):([]++YX s).Nodup:=by
 have go:∀(Z a:Za Ze),a.Nodup->(Z.foldl Kr a).Nodup:=by
  intro Z;induction Z with
  |nil=>exactλa h=>h
  |cons z Z i=>
   intro a h;rw[Rr];show i _ ?_;unfold Kr;split;{exact h};rename_i n;rw[UE];exact#[h,02,λx c y b e=>n (by rw[<-YJ.mp b,<-e];exact c)]
 exact go _ [] FX
noncomputable def Ky(st:Ze)(n:Int):Yf:=((st,-1),0,n)
structure oe (st:Ze)(n:Int)(rs:List Ru)(es:List Ed)(en:List ZM)(L:List Yf)(G:Yf->List WC):Prop where
 nd:L.Nodup
 ways:∀x∈L,∀w,w∈G x↔Iz rs es en x.1 x.2.1 x.2.2 w
 wn:∀x∈L,(G x).Nodup
 wl:∀x∈L,(G x).length<=4320
 cl:∀x∈L,∀w∈G x,∀y∈Rk w,y∈L
 top:Ky st n∈L
 ends:∃SS,Xb SS en
 len:L.length<=777
 ok:∀x∈L,Oa st rs x
noncomputable def QJ(A:ZC)(g n:D)(L:Za Yf)(G:Yf->Za WC)(t:Yf):D:=.obj A.RU (pZ g n (.tup (L.map Yf.d)) (.tup (L.map λx=>.tup ((G x).map (Np L.idxOf)))) (.int (L.idxOf t:Int)))
noncomputable def gOf(F:Za (Yf×Za WC))(x:Yf):Za WC:=((F.find? λp=>decide (p.1=x)).map (·.2)).getD []
def alQ{F:Za (Yf×Za WC)}:∀x∈F.map (·.1),(x,gOf F x)∈F:=λx c=>by
 unfold gOf;cases z:F.find? λp=>decide (p.1=x) with
 |none=>
  let⟨y,b,rfl⟩:=ZW.mp c;exact ZJ (oU.mp z y b) 02
 |some y=>
  have a:=IV z;simp only[UF]at a;rw[<-a];exact(oZ z)
noncomputable def IA(L:Za Yf):Za (Zu×D):=L.zipIdx.map λp:Yf×Nat=>(VU p.1,.int (p.2:Int))
def W8{L:Za Yf}(nd:L.Nodup):((([]:Za (Zu×D))++IA L).map (·.1)).Nodup:=by
 rw[QN];unfold IA;rw[ YG,show((λx:Zu×D=>x.1) ∘ λp:Yf×Nat=>(VU p.1,D.int (p.2:Int)))=VU ∘ nH from rfl,<-YG,K1,NA,NB];exact(NA.mp nd).imp λh e=>h (yA e)
def W9{L:Za Yf}(nd:L.Nodup){y:Yf}(h:y∈L):WK (IA L) (VU y)=Zb (.int (L.idxOf y:Int)):=by
 let#[i,hi,e]:=yZ h;have n:=W8 nd;rw[QN]at n;show pW n (ZW.mpr #[(y,i),KQ.mpr (by rw[ZA hi,e]),?_]);rw[<-e,nd.idxOf_getElem i hi]
def alR(A:ZC):YB:=λx q O=>∃(z st:Ze) (s:Za Ru) (res:Za Ze) (n:Int) (E:Za Ed),x=[Gr A z st s,Nt A n E]/\(z = "cost" \/z = "chance")/\QI s/\PR n E/\0<n/\(∀e∈E,Rh z e.2.2.2.1=Zd)/\YS st=Zd/\st.length<=1000/\UO (VI s) (YX s) (YX s) [] res/\res.length<=1000/\Kinds st s res/\
 (∀a b,Xb b a->Fx st s res E a->n∉Yi a (Ym (st,-1) 0)->q (.obj A.RU (pZ (Gr A z st s) (Nt A n E) (.tup []) (.tup []) .non)))/\∀a L G,oe st n s E a L G->Fx st s res E a->q (QJ A (Gr A z st s) (Nt A n E) L G (Ky st n))
def ajy{A:ZC}(T:Txt K mg A):ZK P w K mg base (ZV P w) 8 A.AA A.qm Bn (Yy K (alR A)):=by
 show T.zL.F.YR cV 03 (λcdv Ar Z s H E hr=>#[_,by have:=cV.nd;walk_at "#JQ [0 :dvs [0 :dds T.aiM alj T @1 ? ? T.aiL T.B_Chart___init__.a .nil %1 @10 $ Ra 1 :k ? ? jv 2 @1 @4 $ JQ [0 :dvs [0 :dds T.aiK alP T @1 ? ? T.aiJ T.B_Wood___init__.a .nil %1 @10 $ Pq ah8 hu9 hr @1 @1 ? T.ay aqj @4 $ GH ? jv 2 @1 jv 0 @1 @3 $ GH ? jv 6 @1 jv 3 @1 @3 $ Wa 'number 'node [2 [0 [0 @3 $ ~ Wa 'way [1 'numbers [1 1 [1 @3 $ ~ LW 7 :i 'node [1 'numbers 'found [2 6 4 [2 ? rfl @6 $ ~ |9",λxs q x h=>?_]);let#[z,st,j,res,n,M,U,hz,hr,hn,n0,hw,hk,hst,C,hl,u,q0,q1]:=h;have hsz:Zo=16777216:=rfl;ac_nf;show#[z,st,j,n,M,U,hz,hw,z,st,j,res,n,M,U,hr,hn,hst,C,hl,(yz C (yB j) (λx b=>.inr b) (λx b=>b.elim (λz=>by cases z) id) (λO O O z=>by cases z)).1,λx b=>(yz C (yB j) (λx b=>.inr b) (λx b=>b.elim (λz=>by cases z) id) (λO O O z=>by cases z)).2.1 x b,(yz C (yB j) (λx b=>.inr b) (λx b=>b.elim (λz=>by cases z) id) (λO O O z=>by cases z)).2.2,λc o hc he ha=>?_];show#[_,#[T.XM,_,_,_,T.B_Chart_ends_from.e,pO T,T.B_Chart_ends_from.a],U,?_];change D.fld K "top_seat" (Wc A c o) _;rw[pL];show#[c,o,c.tp,0,U,?_];unfold Xg;ac_nf;show Ir (λe=>#[01,01,_,_,_,_,_,U,q0 o _ he ha (by rw[<-hc.tp];exact e)]) (λe=>?_);change D.fld K "top_seat" (Wc A c o) _;rw[pL,hc.tp];show#[01,02,by change 4<=Zo;decide,?_];have tok:Oa st j (Ky st n):=#[YY,hk,IL _,n0,hn.1]
 show#[c,o,_,st,j,M,n,Ky st n,U,hc,hr,he,hn,tok,ha.wd,λF f b=>?_];have hf:∀x,Oa st j x->x.1.1∈res:=λx b=>by
  rcases Yk.mp b.seat with h|h;{rw[h];exact u.all st u.st};let#[i,r,h1,p,hp,h2]:=pR h;have k1:=b.kd;rw[h2]at k1⊢;exact u.all p (u.ps r (YH h1) p hp k1)
 have l5:=W3 (st:=st) hr f.nd λx b=>by
  let#[z,hz,U]:=ZW.mp b;exact f.ok z hz
 have l5':F.length<=777:=by rw[ZI]at l5;exact l5
 show#[z,st,j,res,F,U,hr.fit,C,u.nd,hl,λx b=>hf x.1 (f.ok x b),00,λL g=>?_];have lL:L.length<=777:=by rw[g.length_eq];exact l5
 have J:L.Nodup:=g.nodup_iff.mpr f.nd;have m:=alQ (F:=F);generalize gOf F=G at m;have cl:∀x∈L,∀w∈G x,∀y∈Rk w,y∈L:=λx b w hw y hy=>g.mem_iff.mpr ((f.cl _ (m x (g.mem_iff.mp b)) w hw y hy).resolve_right 02);have Q:oe st n j M o L G:=#[J,λx b=>f.ways _ (m x (g.mem_iff.mp b)),λx b=>f.wn _ (m x (g.mem_iff.mp b)),λx b=>f.wl _ (m x (g.mem_iff.mp b)),cl,g.mem_iff.mpr b,⟨_,he⟩,lL,λx b=>f.ok _ (m x (g.mem_iff.mp b))]
 ac_nf;rw[Fq];show DN (λp:Yf×Nat=>.tup [p.1.d,.int p.2]) (by rw[KP];lia) (λp hp N I=>?_) ?_;{ac_nf;exact#[01,I]};show#[IA L,by unfold IA;rw[YG];rfl,?_];rw[W7 _ [] (W8 J),QN];show UA (λx=>.tup ((G x).map (Np L.idxOf))) 00 (λx b N I=>?_) ?_;{ac_nf;have mf:=m x (g.mem_iff.mp b);show#[_,U,VU x,U,_,W4 f.nd mf,?_];show UA (Np L.idxOf) (by change(G x).length<=Zo;exact Yp (f.wl _ mf) 01) (λY B N I=>?_) I;ac_nf;show#[Y,IA L,L.idxOf,U,λy hy=>W9 J (cl x b Y B y hy),?_,I];let#[_,r,h1,h2]:=(f.ways _ mf Y).mp B;have h3:=h2.len;rw[ZI]at h3;have:=(hr.ps r (YH h1)).1;lia};exact#[_,U,VU (Ky st n),U,_,W9 J (g.mem_iff.mpr b),_,_,_,_,_,U,q1 o L G Q ha]
def V0:String:=Y4 ++ ""
local macro_rules|`(tactic|walk_at "rd")=>UN V0
def alS(A:ZC):YB:=λx q O=>∃(s:Ze) (a:Za Ru) (b:Ru),x=[.lst (a.map XO),.str s]/\(s = "cost" \/s = "chance")/\a[0]?=Zb b/\Good s b.hd a/\q (Gr A s b.hd a)
def ajx{A:ZC}(T:Txt K mg A):ZK P w K mg base (ZV P w) 7 A.za A.qH BH (Yy K (alS A)):=by
 show T.yc.F.YR sW 03 (λQ Z o s H E c=>#[_,(Xy (Qr (i:=2) sW.nd U (Rx U) (SZ Yw))
   (Xy (LV Hi (JK (jv 0)) (Uc 3 sW.nd) (Ub (Qq [] (vl (Dr (LJ (vJ c.Da) (XJ (jv 3) Xm) jl (NY _)) (vk (LJ vx (XJ (jv 3) Xm) Dk (NY _))))) (Ub (Qs [] 2 (JQ (dvs:=[.str "",.non]) (dds:=[.str "",.non]) T.bN (aF T) (c.mono 01) (by rfl) T.bM T.aiO (.cons #[_,U] (.cons U .nil)) (λO=>#[_,_,U,U,#[_,_,U,U,U]]) SV (ZO (XJ (jv 3) Xm) (ZO (XJ (jv 3) Xm) (ZO (Pq vE (by rfl) T.Km Ec (ZO (XJ (jv 3) Xm) Yw)) (ZO (XJ (jv 3) Xm) Yw))))))) (Ub (Qs [] 2 (JQ (dvs:=[]) (dds:=[]) T.bN (aF T) (c.mono 01) (by rfl) T.bM T.aiP .nil (λO=>rfl) SV (ZO (XJ (jv 3) Xm) (ZO (XJ (jv 3) Xm) (ZO (Pq vE (by rfl) T.Km Ec (ZO (XJ (jv 3) Xm) Yw)) (ZO (XJ (jv 3) Xm) (ZO (XJ (jv 3) Xm) (ZO (XJ (jv 3) Xm) Yw))))))))))))
   (Ub (Mt [2] (JQ (dvs:=[]) (dds:=[]) T.aiG (ajZ T) (c.mono 01) (by rfl) T.aiF T.B_Grammar___init__.a .nil (λO=>rfl) SV (ZO (jv 1) (ZO (XJ (XJ (jv 0) Xm) Xm) (ZO (jv 2) Yw)))))))),λxs q x h=>?_])
 let#[f,b,B,U,p,J,u,G]:=h;have C:Zo=16777216:=rfl;let#[Y,L]:=u.fit;ac_nf;show#[01,[],?_];ac_nf;show Td (λi y=>∃g:L2.Slot,y=[.v (.lst (b.map XO)),.v (.str f),.own ((b.take i).map (Ru.d A)),g]) #[_,by rw[List.take_zero];rfl] (λi r ds N c hd I=>?_) (λds ⟨g,e⟩=>?_)
 ·let#[g,U]:=hd;have m:=YH c;have ok:=u.ok r m;have lt:(b.take i).length<=1000:=by rw[WL];lia
  have n:(b.take i).length<Zo/\N [.v (.lst (b.map XO)),.v (.str f),.own ((b.take i).map (Ru.d A)++[r.d A]),.v (XO r)]:=#[00,I _ #[.v (XO r),by rw[Um,c];simp]]
  ac_nf;show Vg (λe=>?_) (λe=>pF (L r m) ok (pG ok) n);show ifB (λz=>?_) (λz=>pF (L r m) ok (pG ok) n);have:=pF (A:=A) (x:=x) (L r m) ok (pG ok) (q:=λM=>(b.take i).length<Zo/\N [.v (.lst (b.map XO)),.v (.str f),.own ((b.take i).map (Ru.d A)++[.obj A.Th M]),.v (XO r)]) n;rw[e,Option.isNone_iff_eq_none.mp z]at this;exact this
 subst e;ac_nf;rw[TZ];have:Xp (b.map XO) 0=Zb (XO B):=WT (j:=0) (by rw[YC,J];rfl);show#[_,this,?_];ac_nf;exact u.made p G
def alT:YB:=λx q O=>∃n:Za Int,x=[.scr (n.map .int)]/\∀s:Ze,(s = "cost" \/s = "chance")->q (.str s)
def ajv{A:ZC}(T:Txt K mg A):ZK P w K mg base (ZV P w) 2 A.AZ A.qG BG (Yy K alT):=by
 show T.ya.F.YR bC 03 (λC j o s H E hr=>#[_,by have:=bC.nd;walk_at "j",λxs q x h=>?_]);let#[N,U,g]:=h;ac_nf;have b:=mod_lt (n:=2) (Vp N 0) 01;let#[f,c,a]:=Sx D.str ["cost", "chance"] (i:=Vp N 0%2) b.1 b.2;exact#[01,01,01,_,a,g f ↑c]
inductive Tr where
 | lf (d:D)
 | nd (k:Int) (ts:List Tr)
mutual
def Tr.d:Tr->D
 |.lf d=>d
 |.nd k ts=>.tup [.int k,.tup (Tr.ds ts)]
def Tr.ds:List Tr->List D
 |[]=>[]
 |t::ts=>t.d::Tr.ds ts
end
def Tr.alU(s:Za Tr):Tr.ds s=s.map Tr.d:=by
 induction s with|nil=>rfl|cons t s i=>unfold Tr.ds;rw[i];rfl
theorem Rl{k:Int}{s:Za Tr}:(Tr.nd k s).d=.tup [.int k,.tup (s.map Tr.d)]:=by unfold Tr.d;rw[Tr.alU]
theorem og{d:D}:(Tr.lf d).d=d:=by unfold Tr.d;rfl
mutual
def Tr.sz:Tr->Nat
 |.lf _=>1
 |.nd _ ts=>1+Tr.WY ts
def Tr.WY:List Tr->Nat
 |[]=>0
 |t::ts=>t.sz+Tr.WY ts
end
def Tr.yC(a b:Za Tr):Tr.WY (a++b)=Tr.WY a+Tr.WY b:=by
 induction a with|nil=>simp[Tr.WY]|cons t a i=>rw[Nw,Tr.WY,Tr.WY,i];omega
def Tr.oh(t:Tr):1<=t.sz:=by cases t<;>unfold Tr.sz<;>omega
mutual
def SA(rs:List Ru)(ws:List Ze)(m:Nat):Ze->Int->Tr->Nat->Nat->Prop
 |p,_,.lf d,a,b=>YS p=Zi/\ws[a]?=Zb p/\d=.int ((m+a:Nat):Int)/\b=a+1
 |p,ab,.nd k ts,a,b=>YS p=Zd/\∃r,0<=k/\rs[k.toNat]?=Zb r/\r.hd=p/\Vr rs k.toNat ab=Zd/\Ws rs ws m r.ps k ts a b
def Ws(rs:List Ru)(ws:List Ze)(m:Nat):List Ze->Int->List Tr->Nat->Nat->Prop
 |[],_,[],a,b=>a=b
 |p::ps,k,t::ts,a,b=>∃c,SA rs ws m p k t a c/\Ws rs ws m ps k ts c b
 |_,_,_,_,_=>False
end
noncomputable def alV(s:Za Ru)(k:Int)(p:Ze):Tr->Nat->Nat->Yl
 |.lf (.int i),_,_=>.ed i
 |_,a,b=>.nd (XW (XG s) k p) a b
def yD(s:Za Ze)(m:Nat)(e:Za Ed):Prop:=∀a w,s[a]?=Zb w->∃x,e[m+a]?=Zb x/\x.1=a/\x.2.1=((a+1:Nat):Int)/\x.2.2.1=w
set_option tactic.hygienic true in
def V1{s:Za Ru}{i:Nat}{r:Ru}{A:Int}(b:s[i]?=Zb r)(h:Vr s i A=Zd):Vr s i (XW (XG s) A r.hd).2=Zd:=by
 unfold XW;dsimp only;split;{exact h};rename_i n;unfold Vr;rw[b];cases a:r.t with|none=>dsimp only;rw[a]|some u=>exact ZJ (ZW.mpr #[r,WM.mpr #[YH b,by rw[a];rfl],U]) n
noncomputable def Tr.lo:Tr->Int
 |.lf (.int i)=>i
 |.lf _=>0
 |.nd _ (t::_)=>t.lo
 |.nd _ []=>0
mutual
def Tr.hi:Tr->Int
 |.lf (.int i)=>i
 |.lf _=>0
 |.nd _ ts=>Tr.his ts
def Tr.his:List Tr->Int
 |[]=>0
 |[t]=>t.hi
 |_::t::ts=>Tr.his (t::ts)
end
mutual
def Tr.wf:Tr->Bool
 |.lf (.int _)=>Zd
 |.lf _=>Zi
 |.nd _ ts=>!ts.isEmpty&&Tr.IB ts
def Tr.IB:List Tr->Bool
 |[]=>Zd
 |t::ts=>t.wf&&Tr.IB ts
end
noncomputable def MR(E:Za Ed)(l h b e:Int):Bool:=match E[l.toNat]?,E[h.toNat]? with
 |some x,Zb y=>decide (x.1=b/\y.2.1=e)
 |_,_=>Zi
set_option tactic.hygienic true in
def oi{E:Za Ed}{l h b e:Int}(z:MR E l h b e=Zd):∃x y,E[l.toNat]?=Zb x/\E[h.toNat]?=Zb y/\x.1=b/\y.2.1=e:=by
 unfold MR at z;split at z;{rename_i x y c a;exact#[x,y,c,a,Se z]};cases z
noncomputable def yO(j:Int):D->Bool
 |.int i=>decide (j=i)
 |_=>Zi
def alW{j:Int}{d:D}(h:yO j d=Zd):d=.int j:=by
 cases d with
 |int i=>rw[Se h]
 |_=>cases h
noncomputable def Nq(E:Za Ed)(t:Tr):Yl->Bool
 |.ed j=>(match t with | .lf d=>yO j d | .nd _ _=>Zi)
 |.nd _ b e=>(match t with | .lf _=>Zi | .nd k s=>MR E (Tr.nd k s).lo (Tr.nd k s).hi b e)
def om{e:Za Ed}{t:Tr}{k:Yl}(h:Nq e t k=Zd):(∃i,t=.lf (.int i)/\k=.ed i)\/∃j u s b m,t=.nd j u/\k=.nd s b m/\MR e t.lo t.hi b m=Zd:=by
 cases k with
 |ed i=>
  cases t with
  |lf d=>exact .inl #[i,by rw[alW h],U]
  |nd=>cases h
 |nd s b m=>
  cases t with
  |lf=>cases h
  |nd j u=>exact .inr #[j,u,s,b,m,U,U,h]
noncomputable def Rm(e:Za Ed):Za Tr->Za Yl->Bool
 |[],s=>s.isEmpty
 |t::a,s=>(match s with | []=>Zi | k::s=>Nq e t k&&Rm e a s)
theorem yE{e:Za Ed}{t:Tr}{s:Za Tr}{k:Yl}{a:Za Yl}:Rm e (t::s) (k::a)=(Nq e t k&&Rm e s a):=rfl
section
variable {st:Ze}{f:Za Ru}{g:Za Ze}{E:Za Ed}{en:Za ZM}{n:Int}{w:Za Ze}{m:Nat}
def SpE(st:Ze)(f:Za Ru)(en:Za ZM)(w:Za Ze)(m:Nat)(t:Tr)(p:Ze)(a b:Nat):Prop:=a<b/\b<=w.length/\t.wf=Zd/\t.lo=((m+a:Nat):Int)/\t.hi+1=((m+b:Nat):Int)/\∀k c,t=.nd k c->∀s∈Tn st f,s.1=p->Vr f k.toNat s.2=Zd->(b:Int)∈Yi en (Ym s a)
def oo{x:Int}{n:Nat}(h:x=(n:Int)):x.toNat=n:=by rw[h];rfl
def oq{x:Int}{m c d:Nat}(h:x+1=((m+d:Nat):Int))(a:c<d):x.toNat=m+(d-1):=by omega
def ot{c d:Nat}{x:Int}(h:x=((d-1+1:Nat):Int))(a:c<d):x=(d:Int):=by rw[h,Nat.sub_add_cancel (aqb a)]
def V2(I:yD w m E){k:Int}{r:Ru}(hr:f[k.toNat]?=Zb r)(h0:0<=k){e:Za Tr}:∀{s:Za Ze}{a b:Nat},(∀p∈s,p∈r.ps)->(∀t∈e,∀p ab a b,SA f w m p ab t a b->SpE st f en w m t p a b)->Ws f w m s k e a b->(∃i,WH E en (s.map (XW (XG f) k)) i a b/\Rm E e i=Zd)/\a<=b/\Tr.IB e=Zd/\(s≠[]->a<b/\b<=w.length/\Tr.his e+1=((m+b:Nat):Int)):=by
 induction e with
 |nil=>
  intro s a b _ _ h;cases s with
  |nil=>
   obtain rfl:a=b:=h;exact#[⟨[],rfl,rfl⟩,ZU _,U,λz=>ZJ U z]
  |cons=>exact h.elim
 |cons t e IH=>
  intro s a b N M h;cases s with
  |nil=>exact h.elim
  |cons p s=>
    let⟨c,A,o⟩:=h;let#[#[i,h3,h7],h4,h8,h6]:=IH (λq hq=>N q (YT _ hq)) (λu hu=>M u (YT _ hu)) o;let#[lt,le,wf,lo,hi,h5]:=M t YY p k a c A;show#[#[alV f k p t a c::i,#[c,?_,h3],?_],by omega,by rw[Tr.IB,wf,h8];rfl,λO=>#[by omega,?_]]
    ·cases t with
     |lf d=>
      let⟨G,hw,rfl,rfl⟩:=A;let#[x,L,e2,J,e4]:=I a p hw;change Yl.ed ((m+a:Nat):Int)∈_;unfold WB;rw[Zq (show¬YS (XW (XG f) k p).1=Zd by rw[show(XW (XG f) k p).1=p from rfl,G];decide)];show ZW.mpr #[_,?_,U];have:=akI L;rw[e2,J,e4]at this;exact this
     |nd j B=>
      let⟨G,C,j0,L,rfl,J,_⟩:=A;change Yl.nd _ _ _∈_;unfold WB;rw[Zt (show YS (XW (XG f) k C.hd).1=Zd from G)];have hs:XW (XG f) k C.hd∈Tn st f:=by
       have:=W5 (st:=st) hr (ZW.mpr #[C.hd,N _ YY,U]);rw[show((k.toNat:Nat):Int)=k by omega]at this;exact this
      rw[Zt (h5 j B U _ hs U (V1 L J))];simp
    ·rw[yE,h7,MV];cases t with
     |lf d=>
      let⟨_,_,rfl,_⟩:=A;exact Yq U
     |nd j B=>
      show MR E _ _ _ _=Zd;let#[x,x1,Z,_,_]:=I a _ (ZA (YK lt le));let#[y,Q,_,Y,_]:=I (c-1) _ (ZA (YK (J7 lt) le));unfold MR;rw[oo lo,oq hi lt,x1,Q];exact Yq #[Z,ot Y lt]
    cases s with
    |nil=>
     cases e with|nil=>obtain rfl:c=b:=o;exact#[le,hi]|cons=>exact o.elim
    |cons q s=>
     let⟨_,q2,q3⟩:=h6 02;show#[q2,?_];cases e with|nil=>exact o.elim|cons u B=>exact q3
theorem Ws.len:∀{s:Za Tr}{e:Za Ze}{k:Int}{a b:Nat},Ws f w m e k s a b->s.length=e.length
 |[],[],_,_,_,_=>rfl
 |t::s,p::e,k,_,_,⟨c,_,h⟩=>by rw[Yu,Yu,Ws.len h]
 |[],_::_,_,_,_,h=>h.elim
 |_::_,[],_,_,_,h=>h.elim
def Tr.yF{t:Tr}{s:Za Tr}(h:t∈s):t.sz<=Tr.WY s:=by
 induction s with
 |nil=>cases h
 |cons u a i=>
  rw[Tr.WY];rcases Yk.mp h with rfl|h;{omega};have:=i h;omega
def V3(B:QI f)(J:yD w m E)(hA:Fx st f g E en)(hR:∀x∈Tn st f,YS x.1=Zd->x.1∈g):∀(N:Nat) (t:Tr),t.sz<=N->∀p ab a b,SA f w m p ab t a b->SpE st f en w m t p a b:=by
 intro N;induction N with
 |zero=>intro t h;have:=t.oh;omega
 |succ N L=>
  intro t hN p ab a b h;cases t with
  |lf d=>
   let⟨_,hw,rfl,rfl⟩:=h;exact#[by omega,(YM.mp hw).1,U,U,by change((m+a:Nat):Int)+1=_;omega,λO O e=>by cases e]
  |nd k A=>
   let⟨Z,r,k0,C,rfl,_,z⟩:=h;rw[Tr.sz]at hN;have M:=YH C;let#[#[ks,hc,_],_,I,h2]:=V2 (st:=st) (en:=en) J C k0 (λO h=>h) (λu hu q qb c d=>L u (by have:=Tr.yF hu;omega) q qb c d) z;let#[lt,le,hi]:=h2 (B.ps r M).2;have lo:(Tr.nd k A).lo=((m+a:Nat):Int):=by
    have o:=Ws.len z;cases A with
    |nil=>exact ZJ (oX.mp o.symm) (B.ps r M).2
    |cons u us=>
     cases j:r.ps with
     |nil=>rw[j]at o;cases o
     |cons q qs=>
      rw[j]at z;let#[c,g1,_]:=z;rw[Tr.WY]at hN;exact(L u (by omega) q k a c g1).2.2.2.1
   have wf:(Tr.nd k A).wf=Zd:=by
    have o:=Ws.len z;rw[Tr.wf,I,MV];cases A with|nil=>exact ZJ (oX.mp o.symm) (B.ps r M).2|cons=>rfl
   show#[lt,le,wf,lo,hi,λk' ts' e s Q i hm=>?_];injection e with e _;subst e;let#[x,x1,G,_,_]:=J a _ (ZA (by omega));let#[y,y1,_,y2,_]:=J (b-1) _ (ZA (by omega));have Y:=ot y2 lt;have:=hA.kd x (YH x1) y (YH y1) (by rw[G,Y];omega) s Q (by rw[i];exact Z) (hR s Q (by rw[i];exact Z)) k.toNat (WM.mpr #[by rw[i];exact Z9 C,hm]) r C ?_;{rw[G,Y]at this;exact this};rw[G,Y];rw[show((k.toNat:Nat):Int)=k by omega];show hc.rch hA.wd λt ht=>?_;let#[p,_,U]:=ZW.mp ht;exact X8 B
end
def alX{e:Type}{s:Za e}{P:e->Bool}{a:e}(nd:s.Nodup)(b:a∈s)(h:∀x∈s,P x=Zd↔x=a):s.filter P=[a]:=by
 induction s with
 |nil=>cases b
 |cons x s i=>
  rw[TY]at nd;rcases Yk.mp b with rfl|b;{rw[apw ((h _ YY).mpr U),List.filter_eq_nil_iff.mpr λy c z=>nd.1 (by rw[<-(h y (YT _ c)).mp z];exact c)]};rw[O2 λz=>nd.1 (by rw[(h x YY).mp z];exact b),i nd.2 b λy c=>h y (YT _ c)]
def alY{A:Za Ed}{G:Za ZM}{u:Za Tr}:∀{n:Za ZT}{g f:Za Yl}{a b:Int},WH A G n g a b->WH A G n f a b->Rm A u g=Zd->Rm A u f=Zd->g=f:=by
 induction u with
 |nil=>
  intro n g f a b _ _ o E;rw[N7.mp o,N7.mp E]
 |cons t u Y=>
  intro n g f a b m q o E;cases g with
  |nil=>cases o
  |cons k g=>
   cases f with
   |nil=>cases E
   |cons N f=>
    cases n with
    |nil=>exact m.elim
    |cons s n=>
     let⟨c,m,h2⟩:=m;let#[c',q,h4]:=q;rw[yE,XX]at o E;have ek:k=N:=by
      rcases om o.1 with⟨i,rfl,rfl⟩|⟨j,us,s1,b1,m1,rfl,rfl,I⟩;{rcases om E.1 with⟨i',e,rfl⟩|⟨_,_,_,_,_,e,_⟩;{cases e;rfl};cases e};rcases om E.1 with⟨_,e,_⟩|⟨_,_,s2,b2,m2,_,rfl,Z⟩;{cases e};cases p:YS s.1 with
      |false=>let⟨_,_,z,_⟩:=Iy p m;cases z
      |true=>
       have B:=(Nn p m).2;have Q:=(Nn p q).2;let#[x,y,p1,M,p3,L]:=oi I;let#[x',y',p5,C,p7,J]:=oi Z;rw[M]at C;cases C;injection B with _ _ B;injection Q with _ _ Q;rw[(Nn p m).2,(Nn p q).2,<-B,<-Q,<-L,<-J]
     subst ek;let#[_,U]:=pV m q;rw[Y h2 h4 o.2 E.2]
section
variable {A:ZC} [T:Txt K mg A] {q:D->Prop}{g n:D}{L:Za Yf}{G:Yf->Za WC}{t:Yf}
include T
theorem alZ:D.fld K "grammar" (QJ A g n L G t) q=q g:=D.Ve T.PF T.aa U
theorem al0:D.fld K "net" (QJ A g n L G t) q=q n:=D.Ve T.PF T.ae U
theorem al1:D.fld K "nodes" (QJ A g n L G t) q=q (.tup (L.map Yf.d)):=D.Ve T.PF T.af U
theorem al2:D.fld K "ways" (QJ A g n L G t) q=q (.tup (L.map λx=>.tup ((G x).map (Np L.idxOf)))):=D.Ve T.PF T.ah U
theorem al3:D.fld K "top" (QJ A g n L G t) q=q (.int (L.idxOf t:Int)):=D.Ve T.PF T.ai U
end
theorem al4{x:D}{s:Za D}:Xp (x::s) (no_index 0)=Zb x:=by unfold Xp;rw[Yu,Fp 01 00];rfl
theorem al5{x y:D}{s:Za D}:Xp (x::y::s) (no_index 1)=Zb y:=by unfold Xp;rw[Yu,Yu,Fp 01 00];rfl
theorem al6{I:Yf->Nat}{i:Int}:MQ I (.ed i)=.tup [.str "edge",.int i]:=rfl
theorem V4{i:Yf->Nat}{s:ZT}{b e:Int}:MQ i (.nd s b e)=.tup [.str "node",.int (i (s,b,e))]:=rfl
def V5:String:=V0 ++ " alZ al0 al1 al2 al3 al4 al5 al6 V4"
local macro_rules|`(tactic|walk_at "rd")=>UN V5
def wz{x:Za D}{j:Nat}{d:D}{q:D->Prop}(h:x[j]?=Zb d)(a:q d):Uy (.tup x) (.int (j:Int)) q:=#[d,WT h,a]
theorem al7{x y z:D}{s:Za D}:Xp (x::y::z::s) (no_index 2)=Zb z:=by unfold Xp;rw[Yu,Yu,Yu,Fp 01 00];rfl
theorem al8{x y z u:D}{s:Za D}:Xp (x::y::z::u::s) (no_index 3)=Zb u:=by unfold Xp;rw[Yu,Yu,Yu,Yu,Fp 01 00];rfl
theorem al9{x:Yf}:x.d=.tup [.str x.1.1,.int x.1.2,.int x.2.1,.int x.2.2]:=rfl
theorem ama{i:Yf->Nat}{w:WC}:Np i w=.tup [.int w.1,.tup (w.2.map (MQ i))]:=rfl
def V6:String:=V5 ++ " al7 al8 al9 ama"
local macro_rules|`(tactic|walk_at "rd")=>UN V6
theorem Tr.ou{t:Tr}:∀{s:Za Tr},Tr.IB s=Zd->t∈s->t.wf=Zd
 |u::a,h,m=>by
  rw[Tr.IB,XX]at h;rcases Yk.mp m with rfl|m;{exact h.1};exact Tr.ou h.2 m
theorem V7:∀{ts:Za Tr}{u:Tr},ts[ts.length-1]?=Zb u->Tr.his ts=u.hi
 |[t],u,h=>by cases h;rfl
 |_::t::ts,u,h=>by
  rw[Tr.his];exact V7 (ts:=t::ts) ↑h
def V8:String:=V6 ++ " Rl og iX iW iV iU"
local macro_rules|`(tactic|walk_at "rd")=>UN V8
def amb:YB:=λs q O=>∃(t:Tr) (e:Za Ed) (x y:Ed),s=[t.d,.lst (e.map Vz)]/\t.wf=Zd/\0<=t.lo/\0<=t.hi/\e[t.lo.toNat]?=Zb x/\e[t.hi.toNat]?=Zb y/\q (.tup [.int x.1,.int y.2.1])
def aju{A:ZC}(T:Txt K mg A):ZK P w K mg base (ZV P w) 1 A.zh A.qM BM (Yy K amb):=by
 show T.yd.F.YR bE 03 (λJ N o s H E hr=>#[_,by have:=bE.nd;walk_at "j",λxs q x h=>?_]);let#[t,n,x,y,U,g,L,I,B,z,G]:=h;ac_nf;have C:Zo=16777216:=rfl;show#[λ(m:Nat) (ds:ZG)=>∃u:Tr,ds=[.v t.d,.v (.lst (n.map Vz)),.v u.d,.un]/\u.wf=Zd/\u.lo=t.lo/\m=u.sz,#[_,t,U,g,U,U],?_];rintro m _ ⟨u,rfl,f,e,rfl⟩;cases u with
 |lf d=>
  cases d with
  |int i=>
   ac_nf;show#[λ(m:Nat) (ds:ZG)=>∃u:Tr,ds=[.v t.d,.v (.lst (n.map Vz)),.v (.int i),.v u.d]/\u.wf=Zd/\u.hi=t.hi/\m=u.sz,#[_,t,U,g,U,U],?_];rintro m _ ⟨u,rfl,b,p,rfl⟩;cases u with
   |lf d=>
    cases d with
    |int j=>
     ac_nf;obtain rfl:i=t.lo:=e;obtain rfl:j=t.hi:=p;show#[_,by rw[<-Ob L];exact WT (by rw[YC,B];rfl),?_];rw[Z5];show#[_,by rw[<-Ob I];exact WT (by rw[YC,z];rfl),?_];rw[Z6];exact#[01,G]
    |_=>cases b
   |nd k a=>
    rw[Tr.wf,XX]at b;ac_nf;have lt:a.length-1<a.length:=by
     cases a with
     |nil=>cases b.1
     |cons=>simp
    have c:=ZA lt;generalize a[a.length-1]=v at c;show#[v.d,?_,v.sz,?_,v,U,Tr.ou b.2 (YH c),?_,U];{rw[show(a.length:Int)-1=((a.length-1:Nat):Int)by lia];exact WT (by rw[YC,c];rfl)};{have:=Tr.yF (YH c);rw[Tr.sz];lia};rw[<-V7 c];exact p
  |_=>cases f
 |nd k a=>
  rw[Tr.wf,XX]at f;cases a with
  |nil=>cases f.1
  |cons v M=>
   ac_nf;show#[v.sz,?_,v,U,Tr.ou f.2 YY,e,U];rw[Tr.sz,Tr.WY];lia
def T6:D.VF [] []=Zd:=by unfold D.VF;rfl
def amc(a b:Ze):D.SY (.str a) (.str b)=decide (a=b):=by
 rw[vI U,Qb];simp[D.toV,Uv]
def ow(a b:Int):D.SY (.int a) (.int b)=decide (a=b):=by
 rw[vI U,Qb];simp[D.toV,Uv]
def V9(a b:Ze)(x y:Int):D.VF [.str a,.int x] [.str b,.int y]=(decide (a=b)&&decide (x=y)):=by rw[D.VF,D.VF,amc,ow,T6,MV]
def amd(a b x y:Int):D.VF [.int a,.int x] [.int b,.int y]=(decide (a=b)&&decide (x=y)):=by rw[D.VF,D.VF,ow,ow,T6,MV]
def U0{b:Za Ed}{a:Za Tr}:∀{s:Za Yl}{j:Nat}{t:Tr}{k:Yl},Rm b a s=Zd->a[j]?=Zb t->s[j]?=Zb k->Nq b t k=Zd:=by
 induction a with
 |nil=>intro _ _ _ _ _ e;cases e
 |cons u f i=>
  intro s j t k h e E;cases s with
  |nil=>cases E
  |cons c C=>
   rw[yE,XX]at h;cases j with
   |zero=>
    cases e;cases E;exact h.1
   |succ j=>exact i h.2 e E
def ame{e:Za Ed}{a:Za Tr}:∀{s:Za Yl},a.length=s.length->(∀(j:Nat) t k,a[j]?=Zb t->s[j]?=Zb k->Nq e t k=Zd)->Rm e a s=Zd:=by
 induction a with
 |nil=>intro s h _;rw[MZ h.symm];rfl
 |cons t a i=>
  intro s h H;cases s with
  |nil=>cases h
  |cons k s=>
   rw[yE,H 0 t k U U,i (Hg h) λj u l b E=>H (j+1) u l b E];rfl
def amf(A:ZC):YB:=λx q O=>∃(g n:D) (L:Za Yf) (G:Yf->Za WC) (p:Yf) (e:Za Ed) (w:WC) (k:Int) (s:Za Tr),x=[QJ A g n L G p,.lst (e.map Vz),Np L.idxOf w,(Tr.nd k s).d]/\s.length<=1000/\(∀t∈s,t.wf=Zd/\0<=t.lo/\0<=t.hi/\t.lo.toNat<e.length/\t.hi.toNat<e.length)/\(∀y∈Rk w,y∈L)/\q (.bl (decide ((w.1:Int)=k)&&decide (w.2.length=s.length)&&Rm e s w.2))
def amg{A:ZC}(T:Txt K mg A):ZK P w K mg base (ZV P w) 2 A.zi A.qN BO (Yy K (amf A)):=by
 show T.ye.F.YR bF 03 (λcdv Ar outer s H E hr=>#[_,by have:=bF.nd;walk_at "#gG $",λxs q x h=>?_]);let#[g,n,L,G,tp,p,m,k,B,U,hl,ht,hy,I]:=h;have hsz:Zo=16777216:=rfl;unfold Np;ac_nf;by_cases e1:(m.1:Int)=k
 ·rw[Yq e1,Zq 01];by_cases e2:m.2.length=B.length
  ·rw[Yq (show(m.2.length:Int)=B.length by lia),Zq 01];have Z:Rm p B m.2=Zi->q (.bl Zi):=λz=>by
    rw[Yq e1,Yq e2,z]at I;exact I
   have bad:∀{j:Nat}{t:Tr}{c:Yl},B[j]?=Zb t->m.2[j]?=Zb c->Nq p t c=Zi->q (.bl Zi):=λo f h3=>Z (by
    cases z:Rm p B m.2 with
    |false=>rfl
    | true=>rw[U0 z o f]at h3;cases h3)
   show#[[],?_];ac_nf;show#[00,00,Mw (λj ds=>(∃s4 s5:L2.Slot,ds=[.v (QJ A g n L G tp),.v (.lst (p.map Vz)),.v (.tup [.int m.1,.tup (m.2.map (MQ L.idxOf))]),.v (.tup [.int k,.tup (B.map Tr.d)]),s4,s5])/\∀(i:Nat) t c,i<j->B[i]?=Zb t->m.2[i]?=Zb c->Nq p t c=Zd) #[⟨_,_,rfl⟩,λi t c h=>00] (λj ds N hj hd hN=>?_) (λds hd=>?_)]
   ·let#[#[s4,s5,U],hk]:=hd;have hj':j<B.length:=00
    have o:=ZA hj';have f:=ZA (show j<m.2.length by lia);generalize B[j]=t at o;generalize m.2[j]=c at f;let#[t1,t2,t3,t4,t5]:=ht t (YH o);have good:Nq p t c=Zd->N [.v (QJ A g n L G tp),.v (.lst (p.map Vz)),.v (.tup [.int m.1,.tup (m.2.map (MQ L.idxOf))]),.v (.tup [.int k,.tup (B.map Tr.d)]),.v (.int j),.v t.d]:=λz=>hN _ #[⟨_,_,rfl⟩,λi u b h3 h4 h5=>by
     rcases QO i j with y|y
     {exact hk i u b y h4 h5}
     obtain rfl:i=j:=00
     rw[o]at h4
     rw[f]at h5
     cases h4
     cases h5
     exact z]
    rw[KG];ac_nf;show#[_,WT (by rw[YC,o];rfl),?_];cases t with
    |lf d=>
     cases d with
     |int i=>
      rw[og]at good;ac_nf;show#[_,WT (by rw[YC,f];rfl),01,?_];cases c with
      |ed i'=>
       ac_nf;show#[U,?_];rw[V9];by_cases z:i'=i;{rw[Yq z,Yq U,Zq 01];exact good (Yq z)};rw[XF z,KD,Zt 01];exact bad o f (XF z)
      |nd s' J M=>
       ac_nf;show#[U,?_];rw[V9,XF 01,yQ,Zt 01];exact bad o f U
     |_=>cases t1
    |nd k' C=>
     rw[Rl]at good⊢;ac_nf;show#[_,WT (by rw[YC,f];rfl),?_];cases c with
     |ed i'=>
      ac_nf;rw[Zt 01];exact bad o f U
     |nd s' J M=>
      ac_nf;show#[_,WT (by rw[YC,f];rfl),?_];ac_nf;have my:=hy (s',J,M) (Vs.mpr #[_,YH f,by simp[MP]]);let#[a,ha,ea]:=yZ my;show wz (d:=Yf.d (s',J,M)) (by rw[YC,ZA (Lb my),FT];rfl) ?_;have hx:=ZA t4;have Q:=ZA t5;generalize p[(Tr.nd k' C).lo.toNat]=Y at hx;generalize p[(Tr.nd k' C).hi.toNat]=y' at Q;show#[_,U,Tr.nd k' C,p,Y,y',by rw[Rl],t1,t2,t3,hx,Q,?_];have ec:∀a b c d:D,SX [a,b,c,d] (Zb 2) Zc=[c,d]:=λO O O O=>rfl;rw[ec];show#[U,?_];rw[Zt U];change if (!D.VF [.int J,.int M] [.int Y.1,.int y'.2.1])=Zd then q (.bl Zi)else _
      rw[amd];have eb:Nq p (Tr.nd k' C) (Yl.nd s' J M)=decide (Y.1=J/\y'.2.1=M):=by
       change MR p _ _ _ _=_;unfold MR;rw[hx,Q]
      by_cases z:Y.1=J/\y'.2.1=M;{rw[Yq z.1.symm,Yq z.2.symm,Zq 01];exact good (by rw[eb];exact Yq z)};rw[Zt];{exact bad o f (by rw[eb];exact XF z)};simp only[Bool.not_eq_true',Bool.and_eq_false_iff,decide_eq_false_iff_not];rcases aoP (J=Y.1)with y|y;{exact .inr λy2=>z #[y.symm,y2.symm]};exact .inl y
   let#[#[s4,s5,U],hk]:=hd;rw[Yq e1,Yq e2,ame e2.symm λj t c o f=>hk j t c (by have:=(YM.mp f).1;simpa using this) o f]at I;exact I
  rw[XF (show¬(m.2.length:Int)=B.length by lia),Zt 01];rw[XF e2,KD,yQ]at I;exact I
 rw[XF e1,Zt 01];rw[XF e1,yQ,yQ]at I;exact I
theorem Ws.at_{i:Za Ru}{g:Za Ze}{m:Nat}:∀{s:Za Tr}{f:Za Ze}{k:Int}{a b j:Nat}{t:Tr},Ws i g m f k s a b->s[j]?=Zb t->∃p c d,f[j]?=Zb p/\SA i g m p k t c d
 |t::s,p::f,k,a,b,0,_,⟨c,h,_⟩,e=>by cases e;exact#[p,a,c,U,h]
 |t::s,p::f,k,a,b,j+1,_,⟨c,_,h⟩,e=>by simpa using Ws.at_ h ↑e
 |[],[],_,_,_,_,_,_,e=>by cases e
 |[],_::_,_,_,_,_,_,h,_=>h.elim
 |_::_,[],_,_,_,_,_,h,_=>h.elim
theorem WH.at_{E:Za Ed}{n:Za ZM}:∀{f:Za ZT}{g:Za Yl}{a b:Int}{j:Nat}{c:Yl},WH E n f g a b->g[j]?=Zb c->∃s p m,f[j]?=Zb s/\c∈WB E n s p m
 |s::f,k::g,a,b,0,_,⟨m,h,_⟩,e=>by cases e;exact#[s,a,m,U,h]
 |s::f,k::g,a,b,j+1,_,⟨m,_,h⟩,e=>by simpa using WH.at_ h ↑e
 |[],[],_,_,_,_,_,e=>by cases e
 |[],_::_,_,_,_,_,h,_=>h.elim
 |_::_,[],_,_,_,_,h,_=>h.elim
structure Gd (st:Ze)(n:Int)(rs:List Ru)(res:List Ze)(es:List Ed)(en:List ZM)(SS:List ZT)(ws:List Ze)(m:Nat)(L:List Yf)(G:Yf->List WC):Prop where
 wok:oe st n rs es en L G
 hr:QI rs
 hE:yD ws m es
 hA:Fx st rs res es en
 hR:∀x∈Tn st rs,YS x.1=Zd->x.1∈res
 he:Xb SS en
 le:es.length<=1000
def amh(A:ZC):Nat->YB
 |0=>λO O O=>False
 |N+1=>λx q O=>∃(g nd:D) (st:Ze) (n:Int) (e:Za Ru) (res:Za Ze) (E:Za Ed) (j:Za ZM) (u:Za ZT) (f:Za Ze) (m:Nat) (L:Za Yf) (G:Yf->Za WC) (p:Yf) (i:Nat) (s:ZT) (a b:Nat) (o k:Int) (c:Za Tr),x=[QJ A g nd L G p,.lst (E.map Vz),.int i,(Tr.nd k c).d]/\
  Gd st n e res E j u f m L G/\(Tr.nd k c).sz<=N+1/\L[i]?=Zb (s,(a:Int),(b:Int))/\SA e f m s.1 o (.nd k c) a b/\Vr e k.toNat s.2=Zd/\q (.bl Zd)
section
local macro_rules|`(tactic|walk_at "i")=>do let t←rpn "LW 4 :i '_law_way [1 '_law_wood '_law_edges_here '_law_tree [3 0 1 3 [3 ? rfl @6 $";`(tactic|iterate 7 fail;apply uk (amg T) T.ye (hr.mono (by omega));$t:tactic;apply uk ami T.Fi (hr.mono (by omega));fail)
set_option tactic.hygienic true in
def amj{A:ZC}(T:Txt K mg A):∀n,ZK P w K mg base (ZV P w) (3+n) A.zj A.qO BP (Yy K (amh A n)):=by
 intro n;induction n with
 |zero=>exact ZK.never λvs H Q E h=>by first|(let⟨_,_,_,_,_,_,_,_,_,h,_⟩:=h;exact h)|(let⟨_,_,_,_,_,_,h,_⟩:=h;exact h)
 |succ n ih=>?_
 have ami:=ih;rw[show 3+(n+1)=(3+n)+1 by omega];show T.Fi.F.YR bG 03 (λcdv Ar outer s H E hr=>#[_,by have:=bG.nd;walk_at "j",λxs q x h=>?_]);let#[g,nd,st,n,J,res,Z,en,SS,ws,m,L,G,tp,i,s,a,b,ab,k,u,U,f,hsz',hi,hsp,hm,hq]:=h;rename_i N0 s0;have hsz:Zo=16777216:=rfl;ac_nf;let#[hk,r,k0,e1,ehd,_,hL]:=id hsp;have M:((s,(a:Int),(b:Int)):Yf)∈L:=YH hi;have ok:=λt p qb c d=>V3 (st:=st) (en:=en) f.hr f.hE f.hA f.hR (Tr.sz t) t (ZU _) p qb c d;let#[#[Y,hc,C],_]:=V2 (st:=st) (en:=en) f.hE e1 k0 (λO h=>h) (λt O p qb c d=>ok t p qb c d) hL;have kk:((k.toNat:Nat):Int)=k:=00
 have hc':WH Z en (r.ps.map (XW (XG J) (k.toNat:Nat))) Y a b:=by rw[kk];exact hc
 have mw:((k.toNat,Y):WC)∈G (s,(a:Int),(b:Int)):=(f.wok.ways _ M _).mpr #[WM.mpr #[by rw[<-ehd];exact Z9 e1,hm],r,e1,hc'];have hl:=Ws.len hL;have lk:=hc.len;rw[ZI]at lk;have p4:=(f.hr.ps r (YH e1)).1;have sub:∀t∈u,∃p c d,SA J ws m p k t c d:=λt h=>by
  let#[j,e]:=FV.mp h;let#[p,c,d,_,h]:=Ws.at_ hL e;exact#[p,c,d,h]
 have flt:(G (s,(a:Int),(b:Int))).filter (λw=>decide ((w.1:Int)=k)&&decide (w.2.length=u.length)&&Rm Z u w.2)=[(k.toNat,Y)]:=alX (f.wok.wn _ M) mw λw hw=>by
  constructor;{intro h;simp only[XX,UF]at h;let#[_,r',z,B]:=(f.wok.ways _ M w).mp hw;rw[show w.1=k.toNat by lia,e1]at z;cases z;rw[h.1.1]at B;exact QP (by change w.1=k.toNat;lia) (alY B hc h.2 C)};rintro rfl;simp only[XX,UF];exact#[#[kk,00],C]
 show#[_,WT (by rw[YC,hi];rfl),?_];show LX (λw:WC=>decide ((w.1:Int)=k)&&decide (w.2.length=u.length)&&Rm Z u w.2) (Np L.idxOf) (xs:=G (s,(a:Int),(b:Int))) (by have:=f.wok.wl _ M;lia) (λw hw N hN=>?_) (λw hw O N hN=>?_) ?_;{ac_nf;show#[g,nd,L,G,tp,Z,w,k,u,by rw[Rl];rfl,00,λt ht=>?_,λy hy=>?_,hN];{let#[p,c,d,h]:=sub t ht;let#[lt,le,wf,lo,I,_]:=ok t p k c d h;let#[x1,y1,_]:=f.hE c _ (ZA (YK lt le));let#[x2,y2,_]:=f.hE (d-1) _ (ZA (YK (J7 lt) le));exact#[wf,by rw[lo];exact MY _,by omega,by rw[oo lo];exact(YM.mp y1).1,by rw[oq I lt];exact(YM.mp y2).1]};exact f.wok.cl _ M w hw y hy};{exact hN};rw[flt];ac_nf;rw[Zq 02];show#[[],?_];ac_nf;show#[00,00,Mw (λj ds=>∃s5:L2.Slot,ds=[.v (QJ A g nd L G tp),.v (.lst (Z.map Vz)),.v (.int i),.v (.tup [.int k,.tup (u.map Tr.d)]),.v (.lst [.tup [.int (k.toNat:Nat),.tup (Y.map (MQ L.idxOf))]]),s5]) #[_,U] (λj ds N hj hd hN=>?_) (λds hd=>?_)]
 ·let#[s5,U]:=hd;have hj':j<u.length:=00
  have z:=ZA hj';have B:=ZA (show j<Y.length by lia);generalize u[j]=t at z;generalize Y[j]=c at B;let#[p,c1,d1,hp,o]:=Ws.at_ hL z;have next:=hN _ #[.v (.int j),U]
  rw[KG];ac_nf;show#[_,WT (by rw[YC,z];rfl),?_];cases t with
  |lf d=>
   let⟨_,_,rfl,_⟩:=o;ac_nf;exact next
  |nd k' ts'=>
   rw[Rl];ac_nf;have hb:=U0 C z B;let#[lt,le,wf,lo,I,_]:=ok _ p k c1 d1 o;let#[kp,_]:=id o;cases c with
   |ed=>cases hb
   |nd s' b' m'=>
    let⟨sd,p',m2,g1,g2⟩:=WH.at_ hc B;rw[YC,hp]at g1;cases g1;have g3:=(Nn kp g2).2;injection g3 with g3 _ _;subst g3;let#[x1,x2,q1,q2,q3,q4]:=oi hb;let#[z1,y1,y2,_]:=f.hE c1 _ (ZA (YK lt le));let#[z2,y3,_,y4,_]:=f.hE (d1-1) _ (ZA (YK (J7 lt) le));rw[oo lo,y1]at q1;rw[oq I lt,y3]at q2;cases q1;cases q2;obtain rfl:b'=c1:=by rw[<-q3,y2]
    obtain rfl:m'=d1:=by rw[<-q4];exact ot y4 lt
    have my:=f.wok.cl _ M _ mw (XW (XG J) k p,(c1:Int),(d1:Int)) (Vs.mpr #[_,YH B,by simp[MP]]);have tz:=Tr.yF (YH z);rw[Tr.sz]at hsz';show#[_,WT (by rw[YC,B];rfl),?_];rw[V4];ac_nf;show#[_,WT (by rw[YC,z];rfl),?_];cases N0 with
    |zero=>have:=(Tr.nd k' ts').oh;lia
    |succ N1=>
     show#[g,nd,st,n,J,res,Z,en,SS,ws,m,L,G,tp,L.idxOf (XW (XG J) k p,(c1:Int),(d1:Int)),XW (XG J) k p,c1,d1,k,k',ts',U,f,00,?_,o,?_,?_];{rw[ZA (Lb my),FT]};{let#[_,r',_,e3,e4,e5,_]:=o;rw[<-e4];exact V1 e3 e5};exact next
 let#[s5,U]:=hd;ac_nf;exact hq
end
theorem amk{a:Zg}{m:MO}:Og a ([(a,m)]:Mu)=Zb m:=by simp[Og]
theorem aml{a:Zg}{m M:MO}:Mu.put [(a,m)] a M=[(a,M)]:=by simp[Mu.put]
theorem amm{n:Nat}:Sh (n+1) (no_index 0)=Zb 0:=Fp 01 00
def amn:String:=V8 ++ " gr fe gE gB gq gp gC beq_self_eq_true amm DR amk aml Slot.st.injEq D.rf.injEq MO.lst.injEq"
local macro_rules|`(tactic|walk_at "rd")=>UN amn
def amo:Rb:=λx b q=>∃(n:Za Int) (a:Zg) (c:Int),x=[.scr (n.map .int),.rf a]/\b=[(a,.lst [.int c])]/\0<=c/\c<=100000/\∀v:Int,0<=v->q (.int v) [(a,.lst [.int (c+1)])]
def Fz{A:ZC}(T:Txt K mg A):ZK P w K mg base (ZV P w) 2 A.zb A.qI BI (spS K 1 amo):=by
 show T.UC.F.MB bD (λx e q h=>?_) (λC G o s H E hr=>#[_,by have:=bD.nd;walk_at "#uj 1 VR 1 @1 @2 $ afL [0 1 VR 1 @1 @3 $ DQ [0 @1 $ |3",λx e a q g h=>?_]);{let#[n,a,c,U,_]:=h;rfl};let#[n,u,c,U,U,B,y,b]:=h;have p:u=a:=by simpa using g
 subst p;have z:Zo=16777216:=rfl;ac_nf;by_cases h:21<n.length
 ·rw[Zt (Yq 00)];have m:(0:Int)<=(c+1)%((n.length:Int)-21):=Ts _ 00;have i:(c+1)%((n.length:Int)-21)<(n.length:Int)-21:=Tq _ 00;rw[TR 00];generalize (c+1)%((n.length:Int)-21)=r at m i;let#[j,U]:∃j:Nat,r=j:=#[r.toNat,00]
  have f:=ZA (show 21+j<n.length by lia);show#[00,.int n[21+j],?_,_,_,U,00,00,b _ (Ni _ _)];rw[show(21:Int)+(j:Int)=((21+j:Nat):Int)by lia];exact WT (by rw[YC,f];rfl)
 rw[Zq (by rw[XF 00];decide)];exact#[00,00,b _ (Ni _ _)]
mutual
def FA(rs:List Ru):Ze->Int->Tr->List Ze->Prop
 |p,_,.lf d,us=>YS p=Zi/\d=.str p/\us=[p]
 |p,ab,.nd k ts,us=>YS p=Zd/\∃r,0<=k/\rs[k.toNat]?=Zb r/\r.hd=p/\Vr rs k.toNat ab=Zd/\QK rs r.ps k ts us
def QK(rs:List Ru):List Ze->Int->List Tr->List Ze->Prop
 |[],_,[],us=>us=[]
 |p::ps,k,t::ts,us=>∃u v,FA rs p k t u/\QK rs ps k ts v/\us=u++v
 |_,_,_,_=>False
end
mutual
theorem SA.app{rs:List Ru}{ws:List Ze}{m:Nat}(vs:List Ze):∀{t:Tr}{p:Ze}{ab:Int}{a b:Nat},SA rs ws m p ab t a b->SA rs (ws++vs) m p ab t a b
 |.lf d,p,ab,a,b,⟨h1,h2,h3⟩=>#[h1,by rw[VD (YM.mp h2).1];exact h2,h3]
 |.nd k ts,p,ab,a,b,⟨h1,r,h2,h3,h4,h5,h6⟩=>#[h1,r,h2,h3,h4,h5,Ws.app vs h6]
theorem Ws.app{rs:List Ru}{ws:List Ze}{m:Nat}(vs:List Ze):∀{ts:List Tr}{ps:List Ze}{k:Int}{a b:Nat},Ws rs ws m ps k ts a b->Ws rs (ws++vs) m ps k ts a b
 |[],[],_,_,_,h=>h
 |t::ts,p::ps,k,a,b,⟨c,h1,h2⟩=>#[c,SA.app vs h1,Ws.app vs h2]
 |[],_::_,_,_,_,h=>h.elim
 |_::_,[],_,_,_,h=>h.elim
end
theorem Ws.snoc{f:Za Ru}{s:Za Ze}{m:Nat}{p:Ze}{k:Int}{t:Tr}{c d:Nat}(i:SA f s m p k t c d):∀{b:Za Tr}{g:Za Ze}{a:Nat},Ws f s m g k b a c->Ws f s m (g++[p]) k (b++[t]) a d
 |[],[],a,h=>#[d,by rw[show a=c from h];exact i,U]
 |u::b,q::g,a,⟨e,n,j⟩=>#[e,n,Ws.snoc i j]
 |[],_::_,_,h=>h.elim
 |_::_,[],_,h=>h.elim
def amq:Nat->Rb
 |0=>λO O O=>False
 |N+1=>λx f q=>∃(e:Za Ru) (m:Nat) (a:Zg) (s u:Za Ze) (p:Ze) (A k:Int) (c:Za Tr),x=[(Tr.nd k c).d,.int m,.rf a]/\f=[(a,.lst (s.map .str))]/\FA e p A (.nd k c) u/\(Tr.nd k c).sz<=N+1/\s.length+u.length+m<=1000/\(∀r∈e,r.ps.length<=1000)/\
  ∀b,(Tr.nd k b).sz=(Tr.nd k c).sz->SA e (s++u) m p A (.nd k b) s.length (s++u).length->q (Tr.nd k b).d [(a,.lst ((s++u).map .str))]
def amr{A:ZC}(T:Txt K mg A):∀n,ZK P w K mg base (ZV P w) (1+n) A.zf A.qK BK (spS K 2 (amq n)):=by
 intro n;induction n with
 |zero=>exact ZK.never λvs H Q E h=>by first|(let⟨_,_,_,_,_,_,_,_,_,h,_⟩:=h;exact h)|(let⟨_,_,_,_,_,_,h,_⟩:=h;exact h)
 |succ n ih=>?_
 rw[show 1+(n+1)=(1+n)+1 by omega];show T.Nh.F.MB rg (λxs μ q h=>?_) (λcdv Ar outer s H E hr=>#[_,(Xy (Qr (i:=3) rg.nd U (Rx U) (SZ Yw))
   (Xy (LV Hi (JK (XJ (jv 0) Xm)) (Uc 4 rg.nd) (Ub (Qq [] (vj (RK (dP (K:=K) U) (by rfl) T.au aql (ZO (jv 4) (ZO (Jw (n := "str") (by rfl) T.aw aqm) Yw)))) (Xy (Qs [] 3 (UH Ml (jv 1) (JY 2 (by rfl) T.RX (ZO (VR 2) Yw))))
   (Ub (agi 2 (VR 2) (jv 4)))) (Ub (afR 3 2 2 01 ih (hr.mono (by omega)) (by rfl) T.Nh.m T.Nh.F.kp T.Nh.a SV (ZO (jv 4) (ZO (jv 1) (ZO (VR 2) Yw))))))))
   (Ub (DQ [3] (LL (ZO (XJ (jv 0) Xm) (ZO (Pq vF (by rfl) T.yf nI (ZO (jv 3) Yw)) Yw))))))),λxs μ a q ha h=>?_])
 {let#[I,m,a,f,L,p,ab,k,o,U,_]:=h;rfl};let#[I,m,a',f,L,p,ab,k,o,U,U,hsh,hz,hl,J,hq]:=h;have ea:a'=a:=by simpa using ha
 subst ea;have hsz:Zo=16777216:=rfl;rw[Rl];ac_nf;let#[hk,r,k0,e1,ehd,hm,hL]:=id hsh;have hr4:=J r (YH e1);show#[Wg _,[],?_];ac_nf;show Td (λi ds=>∃(u v:Za Ze) (c:Za Tr) (s4:L2.Slot),ds=[.v (.tup [.int k,.tup (o.map Tr.d)]),.v (.int m),.st a' [(a',.lst ((f++u).map .str))],.own (c.map Tr.d),s4]/\L=u++v/\Ws I (f++u) m (r.ps.take i) k c f.length (f++u).length/\QK I (r.ps.drop i) k (o.drop i) v/\Tr.WY c=Tr.WY (o.take i)) #[[],L,[],_,by rw[SG];rfl,U,by rw[SG];rfl,hL,U] (λi t ds N Z hd hN=>?_) (λds hd=>?_)
 ·let#[u,v,c,s4,U,B,C,b,x]:=hd;have hi:=(YM.mp Z).1;have lk:=C.len;have G:∀t':Tr,t'.sz=t.sz->Tr.WY (c++[t'])=Tr.WY (o.take (i+1)):=λt' e=>by rw[Um,Z,Tr.yC,Tr.yC,x];simp[Tr.WY,e]
  rw[Od hi,show o[i]=t from VE ((ZA hi).symm.trans Z)]at b;have lp:i<r.ps.length:=by
   rcases QO i r.ps.length with z|z;{exact z};rw[IU z]at b;exact b.elim
  rw[Od lp]at b;have tk:r.ps.take (i+1)=r.ps.take i++[r.ps[i]]:=by rw[Um,ZA lp];rfl
  generalize r.ps[i]=g at b tk;let#[M,v1,h1,h2,U]:=b;rw[WL]at lk;have lu:L.length=u.length+(M.length+v1.length):=by rw[B,Yx,Yx]
  cases t with
  |lf d=>
   let⟨g1,rfl,rfl⟩:=h1;ac_nf;show#[00,by rw[Yx];lia,hN _ #[u++[g],v1,c++[.lf (.int ((m+(f++u).length:Nat):Int))],.v (.str g),?_,by rw[B,VC],?_,h2,G _ (by rw[Tr.sz,Tr.sz])]];{rw[Xt (l₁:=c),<-VC f,Xt (l₁:=f++u),Int.natCast_add];rfl};rw[tk,<-VC f];have sp:SA I ((f++u)++[g]) m g k (.lf (.int ((m+(f++u).length:Nat):Int))) (f++u).length ((f++u)++[g]).length:=#[g1,by rw[UR (ZU _),J8];rfl,U,by rw[Yx (bs:=[g])];rfl]
   exact Ws.snoc sp (Ws.app [g] C)
  |nd Y j=>
   rw[Rl];ac_nf;show#[00,#[_,U],?_];have tz:=Tr.yF (YH Z);rw[Tr.sz]at hz;cases n with
   |zero=>have:=(Tr.nd Y j).oh;lia
   |succ N1=>
    show#[I,m,a',f++u,M,g,k,Y,j,by rw[Rl],U,h1,00,by rw[Yx];lia,J,λts2 hz2 hsp=>hN _ #[u++M,v1,c++[.nd Y ts2],.v (.tup [.int Y,.tup (j.map Tr.d)]),?_,by rw[B,VC],?_,h2,G _ hz2]];{rw[Xt (l₁:=c),<-VC f];rfl};rw[tk,<-VC f];exact Ws.snoc hsp (Ws.app M C)
 let#[u,v,c,s4,U,B,C,b,x]:=hd;ac_nf;rw[oS]at b;cases y:r.ps.drop o.length with
 |cons=>rw[y]at b;exact b.elim
 |nil=>
  rw[y]at b;obtain rfl:v=[]:=b;rw[SG]at B;subst B;rw[xg (Q9.mp y)]at C;have:=hq c (by rw[Tr.sz,Tr.sz,x,TZ]) #[hk,r,k0,e1,ehd,hm,C];rw[Rl]at this;exact#[01,this]
def U3(s:Za Ru)(a:Int):Prop:=a=-1\/(0<=a/\a.toNat<s.length)
def ams:Nat->Rb
 |0=>λO O O=>False
 |N+1=>λx g q=>∃(n:Za Int) (a:Zg) (c:Int) (i:Ze) (s words:Za Ze) (f:Za Ru) (kd:Ze) (A m:Int),x=[.scr (n.map .int),.rf a,.lst (f.map XO),.str kd,.int A,.int m]/\g=[(a,.lst [.int c])]/\RY i s words f/\kd∈s/\U3 f A/\0<=c/\c+14*m<=90000+2*s.idxOf kd/\1<=m/\m<=6/\3*m+3<=(N:Int)+1+s.idxOf kd/\
  ∀(k:Int) (e:Za Tr) (b:Za Ze) (C:Int),FA f kd A (.nd k e) b->1<=b.length->(b.length:Int)<=m->0<=C->C+1<=c+2*(Tr.nd k e).sz->(Tr.nd k e).sz+3+s.idxOf kd<=7*b.length->(∀u∈b,Wr u=Zd)->q (Tr.nd k e).d [(a,.lst [.int C])]
noncomputable def cw(s:Za Ze)(p:Ze):Nat:=3+if p∈s then s.idxOf p else 3
def cw_sum(s l:Za Ze):3*l.length<=(l.map (cw s)).sum:=by
 induction l with
 |nil=>simp
 |cons y l i=>
  have:3<=cw s y:=by unfold cw;lia
  rw[Xo,nc,Yu];lia
theorem QK.snoc{f:Za Ru}{p:Ze}{k:Int}{t:Tr}{u:Za Ze}(i:FA f p k t u):∀{c:Za Tr}{g s:Za Ze},QK f g k c s->QK f (g++[p]) k (c++[t]) (s++u)
 |[],[],s,h=>#[u,[],i,U,by rw[show s=[]from h];simp]
 |_::c,_::g,_,⟨a,b,m,j,e⟩=>#[a,b++u,m,QK.snoc i j,by rw[e,VC]]
 |[],_::_,_,h=>h.elim
 |_::_,[],_,h=>h.elim
theorem QK.len{a:Za Ru}{k:Int}:∀{s:Za Tr}{p u:Za Ze},QK a p k s u->s.length=p.length
 |[],[],_,_=>rfl
 |_::s,_::p,_,⟨_,_,_,h,_⟩=>by rw[Yu,Yu,QK.len h]
 |[],_::_,_,h=>h.elim
 |_::_,[],_,h=>h.elim
def amt{s:Za Ru}{i:Nat}{r:Ru}{A:Int}{j p:Prop}{C:D->Prop}(n:s[i]?=Zb r)(h:U3 s A)(f:Vr s i A=Zd->j)(g:Vr s i A=Zi->p)(b:C (.bl (Vr s i A))):if r.t.isNone=Zd then j else if decide (0<=A)=Zd then∃d,Xp (s.map XO) A=Zb d/\Uy d (.int 0) (λa=>Pp Zi a (Sw r.t) C)else p:=by
 unfold Vr at f g b;rw[n]at f g b;dsimp only at f g b;cases e:r.t with
 |none=>rw[e]at f;exact f U
 |some u=>
  rw[e]at g b;rw[Zq 02];rcases h with rfl|⟨m,o⟩;{exact g U};rw[Yq m,Zt U];have c:=ZA o;rw[c,XF 00]at b;show#[_,by rw[<-Ob m];exact Kt c,?_];rw[Z3];change Pp Zi (.str _) (.tup (u.map .str)) _;rw[iR];exact b
noncomputable def SC(s:Za Ru)(kd:Ze)(a m:Int)(j:Nat):Bool:=match s[j]? with
 |some r=>Vr s j a&&(decide (r.hd=kd)&&decide ((r.ps.length:Int)<=m))
 |none=>Zi
def amu{rs:Za Ru}{kd:Ze}{ab rm:Int}{j:Nat}(h:SC rs kd ab rm j=Zd):∃r,rs[j]?=Zb r/\Vr rs j ab=Zd/\r.hd=kd/\(r.ps.length:Int)<=rm:=by
 unfold SC at h;cases e:rs[j]? with
 |none=>rw[e]at h;cases h
 |some r=>
  rw[e]at h;simp only[XX,UF]at h;exact#[r,U,h.1,h.2]
set_option tactic.hygienic true in
def amv{A:ZC}(T:Txt K mg A):∀n,ZK P w K mg base (ZV P w) (3+n) A.zc A.qJ BJ (spS K 1 (ams n)):=by
 intro n;induction n with
 |zero=>exact ZK.never λvs H Q E h=>by first|(let⟨_,_,_,_,_,_,_,_,_,h,_⟩:=h;exact h)|(let⟨_,_,_,_,_,_,h,_⟩:=h;exact h)
 |succ n ih=>?_
 rw[show 3+(n+1)=(3+n)+1 by omega];show T.Ng.F.MB RT (λxs μ q h=>?_) (λcdv Ar outer s H E M=>#[_,(Xy (Qr (i:=6) RT.nd U (Rx U) (SZ Yw))
   (Xy (LV Hi (DF (by rfl) T.yg (ZO (RK Gm (by rfl) T.RX Hl (ZO (jv 2) Yw)) Yw)) (Uc 7 RT.nd) (Xy (VH 8 RT.nd (XJ (XJ (jv 2) (jv 7)) Xm))
   (Xy (vN (VH 9 RT.nd (jx (Dq vx (jv 8) Dk (NY _)) (vm (jw (Dq adp (jv 4) Xm (NY _)) (vm (Dq vy (XJ (XJ (jv 2) (jv 4)) Xm) (jv 8) (by with_unfolding_all rfl))))))))
   (Ub (Qq [] (vl (Dr (vj (jv 9)) (Dr (LJ (vJ M.Da) (XJ (XJ (jv 2) (jv 7)) Xm) (jv 3) (NY _)) (vk (LJ jC (RK Gm (by rfl) T.RX Hl (ZO (XJ (XJ (jv 2) (jv 7)) Xm) Yw)) (jv 5) (NY _)))))) (Ub (Qs [] 6 (jv 7))) jV)))))
   (Xy (aiu [6] (Cy (i:=10) RT.nd U (Rx U) (air (Im (XE:=XN) (jv 6)) (uZ Mp (Cw (XE:=XN) 1 1 (Fz T) (M.mono (by omega)) (by rfl) T.UC.m T.UC.F.kp T.UC.a Mv (ZO (jv 0) (ZO (VR 1) Yw))) (Im (XE:=XN) (RK Gm (by rfl) T.RX Hl (ZO (jv 6) Yw)))))))
   (Xy (VH 11 RT.nd (UH Ds (jv 5) (RK Gm (by rfl) T.RX Hl (ZO (XJ (XJ (jv 2) (jv 10)) Xm) Yw))))
   (Xy (Qr (i:=12) RT.nd U (Rx U) (SZ Yw))
   (Xy (LV Hi (JK (XJ (XJ (jv 2) (jv 10)) Xm)) (Uc 13 RT.nd) (Ub (Qq [] (LJ vy (jv 13) (Wa ["_law_row"] [] [] (JK (jv 2)) (λO=>(Uc 0 (GD ["_law_row"] []))) (λO=>vR) (λO=>(XJ (jv 0) Xm))) (by with_unfolding_all rfl)) (Xy (Cy (i:=14) RT.nd U (Rx U) (uZ Mp (Cw (XE:=XN) 1 1 (Fz T) (M.mono (by omega)) (by rfl) T.UC.m T.UC.F.kp T.UC.a Mv (ZO (jv 0) (ZO (VR 1) Yw))) (Im (XE:=XN) (UH Ml (jv 11) Xm))))
   (Xy (VH 11 RT.nd (UH Ds (jv 11) (jv 14)))
   (Xy (DU (i:=15) 1 1 ih (M.mono (by omega)) (by rfl) T.Ng.m T.Ng.F.kp T.Ng.a SV (ZO (jv 0) (ZO (VR 1) (ZO (jv 2) (ZO (jv 13) (ZO (jv 10) (ZO (UH Ml Xm (jv 14)) Yw)))))) RT.nd U (Rx U))
   (Ub (Qs [] 12 (jv 15)))))) (Ub (Qs [] 12 (jv 13))))))
   (Ub (DQ [12] (LL (ZO (jv 10) (ZO (Pq vF (by rfl) T.yf nI (ZO (jv 12) Yw)) Yw))))))))))),λxs μ a q ha h=>?_])
 {let#[Y,a,c,sc,b,words,g,kd,y,x,U,_]:=h;rfl};let#[Y,B,c,sc,b,words,g,kd,y,x,U,U,hR,hkd,hab,c0,c1,r0,r1,hm,hq]:=h;have ea:B=a:=by simpa using ha
 subst ea;have hsz:Zo=16777216:=rfl;have hG:=hR.len;have ikd:=Lb hkd;have k3:=hR.k3;ac_nf;show#[Wg _,[],?_];ac_nf;show#[00,00,Mw (λi ds=>∃s7 s8 J:L2.Slot,ds=[.v (.scr (Y.map .int)),.st B [(B,.lst [.int c])],.v (.lst (g.map XO)),.v (.str kd),.v (.int y),.v (.int x),.own (((Vj i).filter (SC g kd y x)).map λj:Nat=>.int j),s7,s8,J,.un,.un,.un,.un,.un,.un]) #[_,_,_,U] (λi ds N hi hd hN=>?_) (λds hd=>?_)]
 ·let#[s7,s8,J,U]:=hd;have M:=ZA (show i<g.length by lia);generalize g[i]=r at M;rw[KG];ac_nf;show#[_,Kt M,?_];ac_nf;have no:SC g kd y x i=Zi->∀J:L2.Slot,N [.v (.scr (Y.map .int)),.st B [(B,.lst [.int c])],.v (.lst (g.map XO)),.v (.str kd),.v (.int y),.v (.int x),.own (((Vj i).filter (SC g kd y x)).map λj:Nat=>.int j),.v (.int i),.v (Sw r.t),J,.un,.un,.un,.un,.un,.un]:=λe J=>hN _ #[_,_,_,by rw[apL,oT,O2 (by rw[e];decide),apx,SG]];have yes:SC g kd y x i=Zd->∀J:L2.Slot,N [.v (.scr (Y.map .int)),.st B [(B,.lst [.int c])],.v (.lst (g.map XO)),.v (.str kd),.v (.int y),.v (.int x),.own (((Vj i).filter (SC g kd y x)).map (λj:Nat=>.int j)++[.int i]),.v (.int i),.v (Sw r.t),J,.un,.un,.un,.un,.un,.un]:=λe J=>hN _ #[_,_,_,by rw[apL,oT,apw e,apx,Xt];rfl];have fl:=IX (SC g kd y x) (Vj i);rw[IY]at fl;unfold SC at no yes;rw[M]at no yes;dsimp only at no yes;show#[λds=>ds=[.v (.scr (Y.map .int)),.st B [(B,.lst [.int c])],.v (.lst (g.map XO)),.v (.str kd),.v (.int y),.v (.int x),.own (((Vj i).filter (SC g kd y x)).map λj:Nat=>.int j),.v (.int i),.v (Sw r.t),.v (.bl (Vr g i y)),.un,.un,.un,.un,.un,.un],?_,?_];{ac_nf;exact amt M hab (λe=>by rw[e]) (λe=>by rw[e]) U};rintro _ rfl;ac_nf;cases e:Vr g i y with
  |false=>exact no (by rw[e];rfl) _
  |true=>
   rw[e]at no yes;show#[_,Kt M,?_];ac_nf;show Vg (λe1=>#[_,Kt M,?_]) (λe1=>no (by rw[XF e1];rfl) _);ac_nf;exact Vg (λe2=>#[00,yes (by rw[Yq e1,Yq e2];rfl) _]) (λe2=>no (by rw[XF e2,KD,KD]) _)
 let#[s7,s8,J,U]:=hd;ac_nf;rw[show((g.length:Int)).toNat=g.length by lia];have hF:=λj hj=>amu (rs:=g) (kd:=kd) (ab:=y) (rm:=x) (WM.mp (show j∈(Vj g.length).filter (SC g kd y x)from hj)).2;have hF0:0<((Vj g.length).filter (SC g kd y x)).length:=by
  have hi:=Lb hkd;let#[r,h1,h2,h3,w',_,h4]:=hR.base _ hi;rw[ZA hi,FT hi]at h2;show apE (a:=b.idxOf kd) (WM.mpr #[Hd.mpr (YM.mp h1).1,?_]);unfold SC Vr;rw[h1];dsimp only;rw[h3,h4,<-VE h2,Yq U];exact Yq r0
 generalize (Vj g.length).filter (SC g kd y x)=F at hF hF0;show#[⟨_,rfl⟩,Y,B,c,U,U,c0,00,λv v0=>?_];ac_nf;rw[TR (show(0:Int)<F.length by lia)];let#[g1,g2]:=mod_lt v hF0;let#[k,hk1,ek1]:=Sx (λj:Nat=>D.int j) F g1 g2;let#[r,L,hmb,hd,hle]:=hF k hk1;show#[00,_,ek1,_,Kt L,?_];ac_nf;have R:=hR.row r (YH L);have L1:=R.p1;have L4:=R.p4;show#[Wg _,[],?_];ac_nf;show#[_,Kt L,?_];ac_nf;show Td (λi ds=>∃(f:Za Tr) (us:Za Ze) (Z I:Int) (s13 G C:L2.Slot),ds=[.v (.scr (Y.map .int)),.st B [(B,.lst [.int Z])],.v (.lst (g.map XO)),.v (.str kd),.v (.int y),.v (.int x),.v (.lst (F.map λj:Nat=>.int j)),s7,s8,J,.v (.int k),.v (.int I),.own (f.map Tr.d),s13,G,C]/\QK g (r.ps.take i) k f us/\Tr.WY f+((r.ps.take i).map (cw b)).sum<=7*us.length/\i<=us.length/\0<=I/\us.length+I+r.ps.length<=i+x/\0<=Z/\Z<=c+1+2*Tr.WY f/\∀u∈us,Wr u=Zd) #[[],[],c+1,x-r.ps.length,.un,.un,.un,U,U,by simp[Tr.WY],ZU _,00,02,00,by simp[Tr.WY],λu hu=>by cases hu] (λi p ds N hp hd' hN=>?_) (λds hd'=>?_)
 ·let#[f,us,Z,I,s13,G,C,U,hS,hsz',hil,R0,hrm,b0,b2,hwd]:=hd';have hpm:=YH hp;have il:=(YM.mp hp).1;have etk:r.ps.take (i+1)=r.ps.take i++[p]:=by rw[Um,hp];rfl
  ac_nf;show UA (λr:Ru=>.str r.hd) 00 (λr' O N hN=>?_) ?_;{ac_nf;exact hN};rw[show(g.map λr:Ru=>D.str r.hd)=(g.map (·.hd)).map .str by rw[YG];rfl];ac_nf;have kl:f.length<Zo:=by
   have:=hS.len;rw[WL]at this;lia
  have nxt:∀(t:Tr) (u:Za Ze) (c3 R3:Int) (G C:L2.Slot),FA g p k t u->t.sz+cw b p<=7*u.length->1<=u.length->u.length+R3<=1+I->0<=R3->0<=c3->c3<=Z+2*t.sz->(∀w∈u,Wr w=Zd)->f.length<Zo/\N [.v (.scr (Y.map .int)),.st B [(B,.lst [.int c3])],.v (.lst (g.map XO)),.v (.str kd),.v (.int y),.v (.int x),.v (.lst (F.map λj:Nat=>.int j)),s7,s8,J,.v (.int k),.v (.int R3),.own (f.map Tr.d++[t.d]),.v (.str p),G,C]:=λt u c3 R3 G C h1 h2 h3 h4 h5 h6 h7 h8=>#[kl,hN _ #[f++[t],us++u,c3,R3,_,_,_,by rw[Xt];rfl,by rw[etk];exact hS.snoc h1,by rw[Tr.yC,etk,Xt,List.sum_append,Yx,show Tr.WY [t]=t.sz by simp[Tr.WY],show(([p]:Za Ze).map (cw b)).sum=cw b p by simp];lia,by rw[Yx];lia,h5,by rw[Yx];lia,h6,by rw[Tr.yC];simp[Tr.WY];lia,λw hw=>(Xk.mp hw).elim (hwd w) (h8 w)]]
  show Vg (λe=>?_) (λe=>?_)
  ·have o:p∈b:=by
    let#[r',h1,h2]:=ZW.mp e;rw[<-h2];exact(hR.row r' h1).hd
   have ip:=Lb o;have cs:=cw_sum b (r.ps.take i);rw[WL]at cs;have ecw:cw b p=3+b.idxOf p:=by unfold cw;rw[Zt o]
   have meas:r.ps.length=1->b.idxOf kd<b.idxOf p:=λhL=>by
    let#[p',ep]:=xf.mp hL;rw[ep]at hpm;rw[<-hd];rw[YJ.mp hpm]at o⊢;exact R.one p' ep o
   show#[⟨_,rfl⟩,Y,B,Z,U,U,b0,00,λv v0=>?_];ac_nf;rw[TR 00];have f1:0<=v%(I+1):=Ts _ 00;have f2:v%(I+1)<I+1:=Tq _ 00;generalize v%(I+1)=more at f1 f2;let#[n',U]:∃n',n=n'+1:=#[n-1,00]
   show#[00,#[_,U],Y,B,Z+1,sc,b,words,g,p,k,_,U,U,hR,o,.inr ⟨00,by have:=(YM.mp L).1;lia⟩,00,00,00,00,00,λj ts u c3 a1 a2 a3 a4 a5 a6 a7=>nxt (.nd j ts) u c3 (I-more) _ _ a1 00 a2 00 00 a4 00 a7]
  have o:p∉b:=λz=>e (hR.heads p z);have hpw:=hR.wd p ((R.ps p hpm).resolve_left o);have:=nxt (.lf (.str p)) [p] Z I G C #[yt hpw,U,U] (by unfold cw;rw[Zq o];simp[Tr.sz]) 02 02 R0 b0 (by simp[Tr.sz];lia) λw hw=>by rw[YJ.mp hw];exact hpw
  rw[og]at this;exact this
 let#[f,us,Z,I,s13,G,C,U,hS,hsz',hil,R0,hrm,b0,b2,hwd]:=hd';ac_nf;rw[TZ]at hS hsz';have tot:4+b.idxOf kd<=(r.ps.map (cw b)).sum:=by
  by_cases hL:r.ps.length=1;{let#[p',ep]:=xf.mp hL;rw[ep,Xo,List.map_nil,nc,List.sum_nil];unfold cw;split;{rename_i o;have:=R.one p' ep o;rw[hd]at this;lia};lia};have:=cw_sum b r.ps;lia
 have szt:(Tr.nd k f).sz=1+Tr.WY f:=by rw[Tr.sz]
 have:=hq k f us Z #[hR.kd kd hkd,r,00,by rw[show((k:Int)).toNat=k by lia];exact L,hd,by rw[show((k:Int)).toNat=k by lia];exact hmb,hS] 00 00 b0 00 00 hwd;rw[Rl]at this;exact#[01,this]
structure EdR (sc:Ze)(n:Int)(es:List Ed):Prop where
 net:PR n es
 pos:0<n
 wt:∀e∈es,Rh sc e.2.2.2.1=Zd
def amw{c:Type}{f:c->Int}{xs:Za c}{p:Int}(h:∀(i:Nat) x,xs[i]?=Zb x->f x=((i+1:Nat):Int)):(xs.filter λx=>decide (f x=p)).length<=1:=by
 have g:xs.Pairwise λx y=>f x≠f y:=He.mpr λi j hi n o e=>by
  rw[h i _ (ZA hi),h j _ (ZA n)]at e;lia
 have s:=g.sublist (yX (p:=λx=>decide (f x=p)));have all:∀x∈xs.filter λx=>decide (f x=p),f x=p:=λx m=>Se (WM.mp m).2;generalize (xs.filter λx=>decide (f x=p))=l at s all;match l,s,all with
 |[],_,_=>exact Wg _
 |[_],_,_=>exact ZU _
 |a::b::l,s,all=>exact ZJ ((all a 02).trans (all b 02).symm) ((List.pairwise_cons.mp s).1 b 02)
def amx:Rb:=λx n q=>∃(N:Za Int) (a:Zg) (c:Ze) (s words:Za Ze) (e:Za Ru) (j:Ru) (i:Int),x=[.scr (N.map .int),.lst (e.map XO),.str c,.rf a,.int i]/\n=[(a,.lst [.int 0])]/\(c = "cost" \/c = "chance")/\RY c s words e/\e[0]?=Zb j/\1<=i/\i<=6/\
 ∀(k:Int) (g:Za Tr) (b:Za Ze) (m:Nat) (E:Za Ed) (f:Mu),SA e b m j.hd (-1) (.nd k g) 0 b.length->(Tr.nd k g).sz<=40->yD b m E->EdR c b.length E->q (.tup [(Tr.nd k g).d,.int b.length,.lst (E.map Vz)]) f
def amy{A:ZC}(T:Txt K mg A):ZK P w K mg base (ZV P w) 44 A.zg A.qL BL (spS K 3 amx):=by
 show T.Iq.F.MB Rf (λxs μ q h=>?_) (λcdv Ar outer s H E hr=>#[_,(Xy (DU (i:=5) 1 3 (amv T 40) (hr.mono 01) (by rfl) T.Ng.m T.Ng.F.kp T.Ng.a SV (ZO (jv 0) (ZO (VR 3) (ZO (jv 1) (ZO (XJ (XJ (jv 1) Xm) Xm) (ZO (vA Xm) (ZO (jv 4) Yw)))))) Rf.nd U (Rx U))
   (Xy (Cy (i:=6) Rf.nd U (Rx U) (uZ Mp (Cw (XE:=XN) 1 3 (Fz T) (hr.mono 01) (by rfl) T.UC.m T.UC.F.kp T.UC.a Mv (ZO (jv 0) (ZO (VR 3) Yw))) (Im (XE:=XN) Xm)))
   (Xy (afM [] (i:=7) Rf.nd U (Rx U) (SZ Yw))
   (Xy (DU (i:=8) 2 7 (amr T 40) (hr.mono 01) (by rfl) T.Nh.m T.Nh.F.kp T.Nh.a SV (ZO (jv 5) (ZO (jv 6) (ZO (VR 7) Yw))) Rf.nd U (Rx U))
   (Xy (Qr (i:=9) Rf.nd U (Rx U) (SZ Yw))
   (Xy (LV Hi (DF (by rfl) T.yg (ZO (jv 6) Yw)) (Uc 10 Rf.nd) (Xy (DU (i:=11) 1 3 (Fz T) (hr.mono 01) (by rfl) T.UC.m T.UC.F.kp T.UC.a SV (ZO (jv 0) (ZO (VR 3) Yw)) Rf.nd U (Rx U))
   (Xy (VH 12 Rf.nd (UH Mp (jv 11) (JY 7 (by rfl) T.RX (ZO (VR 7) Yw))))
   (Xy (VH 13 Rf.nd (UH Ml (UH Ml (jv 12) Xm) (UH Mp (UH vr (jv 11) Xm) (UH Ds (JY 7 (by rfl) T.RX (ZO (VR 7) Yw)) (jv 12)))))
   (Xy (VH 14 Rf.nd (uj 7 (VR 7) (UH Mp (UH vr (jv 11) Xm) (JY 7 (by rfl) T.RX (ZO (VR 7) Yw)))))
   (Ub (Qs [] 9 (LL (ZO (jv 12) (ZO (jv 13) (ZO (jv 14) (ZO (Xr (qV T) T.MI hr (ZO (jv 11) (ZO Xm (ZO (jv 2) Yw)))) Yw))))))))))))
   (Xy (LV Hi (DF (by rfl) T.yg (ZO (JY 7 (by rfl) T.RX (ZO (VR 7) Yw)) Yw)) (Uc 10 Rf.nd) (Xy (Cy (i:=15) Rf.nd U (Rx U) (ait (XE:=XN) (qV T) (hr.mono 01) (by rfl) T.MI.m T.MI.F.kp T.MI.a Mv (tj (Cw (XE:=XN) 1 3 (Fz T) (hr.mono 01) (by rfl) T.UC.m T.UC.F.kp T.UC.a Mv (ZO (jv 0) (ZO (VR 3) Yw))) (tj (Im (XE:=XN) Xm) (tj (Im (XE:=XN) (jv 2)) ais)))))
   (Ub (Qs [] 9 (LL (ZO (jv 10) (ZO (UH Ml (jv 10) Xm) (ZO (uj 7 (VR 7) (jv 10)) (ZO (jv 15) Yw)))))))))
   (Ub (DQ [9] (LL (ZO (jv 8) (ZO (JY 7 (by rfl) T.RX (ZO (VR 7) Yw)) (ZO (jv 9) Yw))))))))))))),λxs μ a q ha h=>?_])
 {let#[ns,a,Q,M,words,rs,r0,rm,U,_]:=h;rfl};let#[ns,a',Q,M,words,rs,r0,rm,U,U,hsc,hR,h0,m1,m6,hq]:=h;have ea:a'=a:=by simpa using ha
 subst ea;have hsz:Zo=16777216:=rfl;have hk0:r0.hd∈M:=(hR.row r0 (YH h0)).hd;have okP:∀c k,Rh Q (wP c k Q)=Zd:=λc k=>by
  unfold Rh;rcases hsc with rfl|rfl;{rfl};rw[Yq ((pC c k "chance").2.2.2 U),aoG]
 ac_nf;show#[_,Kt (j:=0) h0,?_];ac_nf;show#[⟨_,rfl⟩,ns,a',0,Q,M,words,rs,r0.hd,-1,rm,U,U,hR,hk0,.inl U,IL _,00,m1,m6,00,λk ts g c1 hS u1 um c0 hc1 hz hw=>?_];ac_nf;show#[⟨_,rfl⟩,ns,a',c1,U,U,c0,00,λv v0=>?_];ac_nf;let#[m,hm]:∃m:Nat,v%4=(m:Int):=#[(v%4).toNat,00]
 rw[hm];show#[01,Wg _,λb=>#[#[_,U],rs,m,b,[],g,r0.hd,-1,k,ts,by rw[Rl],U,hS,00,by rw[Nz];lia,λr hr=>by have:=(hR.row r hr).p4;lia,λts' hz' hsp=>?_]];rw[QN]at hsp⊢;show#[Wg _,[],?_];ac_nf;show#[00,00,Mw (λi ds=>∃(n:Za Ed) (C:Int) (L J I G B o:L2.Slot),ds=[.v (.scr (ns.map .int)),.v (.lst (rs.map XO)),.v (.str Q),.st a' [(a',.lst [.int C])],.v (.int rm),.v (.tup [.int k,.tup (ts.map Tr.d)]),.v (.int m),.st b [(b,.lst (g.map .str))],.v (.tup [.int k,.tup (ts'.map Tr.d)]),.own (n.map Vz),L,J,I,G,B,o]/\n.length=i/\0<=C/\C<=1000+i/\∀e∈n,0<=e.1/\e.1<e.2.1/\e.2.1<=g.length/\Wr e.2.2.1=Zd/\Rh Q e.2.2.2.1=Zd) #[[],c1+1,_,_,_,_,_,_,U,U,00,00,λe Y=>by cases Y] (λi ds N hi hd hN=>?_) (λds hd=>?_)];{let#[n,C,L,J,I,G,B,o,U,e1,b0,b1,Z]:=hd;ac_nf;show#[⟨_,rfl⟩,ns,a',C,U,U,b0,00,λv v0=>?_];ac_nf;rw[TR (i:=v) 00];have f1:0<=v%(g.length:Int):=Ts _ 00;have f2:v%(g.length:Int)<g.length:=Tq _ 00;generalize v%(g.length:Int)=fi at f1 f2;rw[TR (i:=v/7) 00,TR (i:=v/49) 00];have f3:0<=v/7%((g.length:Int)-fi):=Ts _ 00;have f4:v/7%((g.length:Int)-fi)<g.length-fi:=Tq _ 00;generalize v/7%((g.length:Int)-fi)=la at f3 f4;let#[wd,hwd,ewd]:=Sx D.str g (i:=v/49%(g.length:Int)) (Ts _ 00) (Tq _ 00);show#[00,01,Vq 01 01,00,01,Vq 01 01,00,_,ewd,01,01,01,00,hN _ #[n++[(fi,fi+1+la,wd,wP v 4 Q,wQ v 4 Q)],C+1,_,_,_,_,_,_,by rw[Xt];rfl,by rw[Yx,e1];rfl,00,00,λe Y=>?_]];rcases Xk.mp Y with h|h;{exact Z e h};rw[YJ.mp h];exact#[f1,by change fi<fi+1+la;lia,by change fi+1+la<=g.length;lia,hw wd hwd,okP _ _]};let#[n,C,L,J,I,G,B,o,U,e1,b0,b1,Z]:=hd;ac_nf;show#[[],?_];ac_nf;show#[00,00,Mw (λj ds=>∃(n:Za Ed) (C:Int) (L J I G B o:L2.Slot),ds=[.v (.scr (ns.map .int)),.v (.lst (rs.map XO)),.v (.str Q),.st a' [(a',.lst [.int C])],.v (.int rm),.v (.tup [.int k,.tup (ts.map Tr.d)]),.v (.int m),.st b [(b,.lst (g.map .str))],.v (.tup [.int k,.tup (ts'.map Tr.d)]),.own (n.map Vz),L,J,I,G,B,o]/\n.length=m+j/\0<=C/\C<=2000+j/\(∀e∈n,0<=e.1/\e.1<e.2.1/\e.2.1<=g.length/\Wr e.2.2.1=Zd/\Rh Q e.2.2.2.1=Zd)/\∀a w,a<j->g[a]?=Zb w->∃x,n[m+a]?=Zb x/\x.1=a/\x.2.1=((a+1:Nat):Int)/\x.2.2.1=w) #[n,C,_,_,_,_,_,_,U,00,b0,00,Z,λa w h=>00] (λj ds N hj hd hN=>?_) (λds hd=>?_)]
 ·let#[n,C,L,J,I,G,B,o,U,e1,b0,b1,Z,e3]:=hd;ac_nf;show#[⟨_,rfl⟩,ns,a',C,U,U,b0,00,λv v0=>?_];ac_nf;have hj':j<g.length:=00
  have hu:=ZA hj';generalize g[j]=u at hu;rw[KG];show#[01,01,_,WT (by rw[YC,hu];rfl),01,00,hN _ #[n++[((j:Int),(j:Int)+1,u,wP v 5 Q,wQ v 5 Q)],C+1,_,_,_,_,_,_,by rw[Xt];rfl,by rw[Yx,e1];rfl,00,00,λe Y=>?_,λa w h1 h2=>?_]];{rcases Xk.mp Y with h|h;{exact Z e h};rw[YJ.mp h];exact#[by change(0:Int)<=j;lia,by change(j:Int)<j+1;lia,by change(j:Int)+1<=g.length;lia,hw u (YH hu),okP _ _]};rcases QO a j with z|z;{let#[x,g1,g2]:=e3 a w z h2;exact#[x,by rw[VD (YM.mp g1).1];exact g1,g2]};obtain rfl:a=j:=00
  rw[hu]at h2;cases h2;exact#[_,by rw[UR 00,show m+a-n.length=0 by lia];rfl,U,U,U]
 let#[n,C,L,J,I,G,B,o,U,e1,b0,b1,Z,e3]:=hd;ac_nf;rw[show((g.length:Int)).toNat=g.length by lia]at e1 e3;have:=hq k ts' g m n [(a',.lst [.int C])] hsp 00 (λa w h=>e3 a w (YM.mp h).1 h) #[⟨00,00,λe Y=>⟨(Z e Y).1,(Z e Y).2.1,(Z e Y).2.2.1,(Z e Y).2.2.2.1⟩,λp=>?_⟩,00,λe Y=>(Z e Y).2.2.2.2];{rw[Rl]at this;exact#[01,this]};have:=IX (λe:Ed=>decide (e.2.1=p)) (n.take m);rw[WL]at this;have h1:=amw (f:=λe:Ed=>e.2.1) (xs:=n.drop m) (p:=p) λi x h=>by
  rw[apz]at h;have hi:=(YM.mp h).1;let#[y,g1,_,g3,_]:=e3 i _ 00 (ZA (show i<g.length by lia));rw[h]at g1;cases g1;exact g3
 rw[<-KR m n,oT,Yx];lia
def kinds_of{i:Ze}{a words:Za Ze}{s:Za Ru}{res:Za Ze}{e:Ru}(c:RY i a words s)(q:UO (VI s) (YX s) (YX s) [] res)(u:(YX s).length<=res.length)(M:e∈s):Kinds e.hd s res/\res.length<=1000:=by
 let#[f1,f2,A]:=yz q (yB s) (λx b=>.inr b) (λx b=>b.elim (λz=>by cases z) id) (λO O O z=>by cases z);have m:∀z,z∈s.map (·.hd)->z∈YX s:=λz j=>(yw _ z).mpr j;show#[#[f1,λx b=>?_,m _ (ZW.mpr #[e,M,U]),λr n p o g=>m p (c.heads p ?_)],?_]
 ·rcases aoP (x∈res)with h|h;{exact h};have:=OZ (xs:=x::res) (ys:=YX s) (TY.mpr #[h,f1]) λy f=>by
   rcases Yk.mp f with rfl|f;{exact b};exact f2 y f
  rw[Yu]at this;lia
 {rcases (c.row r n).ps p o with h|h;{exact h};rw[yt (c.wd p h)]at g;cases g};have:=OZ (ys:=s.map λr:Ru=>r.hd) f1 λx b=>(yw _ x).mp (f2 x b);rw[ZI]at this;have:=c.len;lia
def amz{A:ZC}(T:Txt K mg A):ZK P w K mg base (ZV P w) 45 A.Fg A.bK rq (Yy K iM):=by
 show T.aiQ.F.YR bH 03 (λcdv Ar Y s H E hr=>#[_,by have:=bH.nd;walk_at "#aix 3 amy T @1 ? ? T.Iq.m T.Iq.F.kp T.Iq.a ? tm jv 0 @1 tm jv 2 @1 tm jv 1 @1 aiw SZ ZO Xm Yw @2 @1 ZO UH Ml Xm UH Mp Xr aA T @1 T.Fh hr ZO jv 0 @1 ZO Xm Yw @2 @2 @4 Xm @3 @3 Yw @2 @2 @2 @2 @2 @9 $ JQ [0 :dvs [0 :dds T.aiI akD T @1 ? ? T.aiH T.B_Net___init__.a .nil %1 @10 $ Xr amj T 40 @2 T.Fi hr @3 $ |3",λxs q x h=>?_]);let#[Z,U,_,hq]:=h;have hsz:Zo=16777216:=rfl;ac_nf;show#[Z,U,λN g=>?_];ac_nf;show#[Z,N,U,λu words j c=>?_];ac_nf;let#[b,h0,hk0,_]:=c.base 0 c.k1;show#[01,01,01,λa=>#[Z,a,N,u,words,j,b,_,U,U,g,c,h0,00,00,λk ts n m es μ' y hz hE f=>?_]];ac_nf;have Q:=c.good (YH hk0) g;have m0:b∈j:=YH h0;have B:QI j:=#[c.len,λr hr=>⟨(c.row r hr).p4,λz=>by have:=(c.row r hr).p1;rw[z]at this;simp at this⟩,λr hr=>c.kd r.hd (c.row r hr).hd,Q.fit]
 let#[res,hh,J]:=Q.ring;let#[C,lr]:=kinds_of c hh J m0;have M:∀x∈Tn b.hd j,YS x.1=Zd->x.1∈res:=λx hx hk=>by
  rcases Yk.mp hx with rfl|h;{exact C.all _ C.st};let#[i,r,h1,p,hp,U]:=pR h;exact C.all p (C.ps r (YH h1) p hp hk)
 let#[_,l8,he,_]:=f.net;have p0:=f.pos;have I:Vr j k.toNat (-1)=Zd:=by
  let#[_,_,_,_,_,h,_]:=id y;exact h
 show#[N,j,b,U,g,h0,Q,?_];ac_nf;show#[n.length,es,U,00,00,he,?_];show#[N,b.hd,j,res,n.length,es,U,g,B,f.net,f.pos,f.wt,(c.kd b.hd (c.row b m0).hd),(Q.fit.2 b m0).2.1,hh,lr,C,λen SS hS hA hn=>?_,λen L G o hA=>?_];{exact ZJ ((V3 B hE hA M _ _ (ZU _) _ _ _ _ y).2.2.2.2.2 k ts U (b.hd,-1) YY U I) hn};ac_nf;let#[SS,hS]:=o.ends;have ht:=o.top;show#[_,_,b.hd,n.length,j,res,es,en,SS,n,m,L,G,Ky b.hd n.length,L.idxOf (Ky b.hd n.length),(b.hd,-1),0,n.length,-1,k,ts,by rw[Rl],#[o,B,hE,hA,M,hS,00],hz,?_,y,I,hq];rw[ZA (Lb ht),FT];rfl
end
def all_mk{l:v9}(X:K.In h)(G:h.Ns Xw mg)(hfa:mg "law" = Zb (.ref fa))
  (yG:MF K "Cost" PB)(amA:Xn K (.ref PB) "__init__" = Zb (Zb (.builtin "object.__init__")))
  (J:MF K "Chance" PC)(amB:Xn K (.ref PC) "__init__" = Zb (Zb (.builtin "object.__init__")))
  (yH:MF K "Rule" x)(amC:Xn K (.ref x) "title" = Zb Zc)(amD:Xn K (.ref x) "head" = Zb Zc)(amE:Xn K (.ref x) "parts" = Zb Zc)(amF:Xn K (.ref x) "weight" = Zb Zc)(amG:Xn K (.ref x) "tag" = Zb Zc)(amH:Xn K (.ref x) "under" = Zb Zc)
  (u:MF K "Grammar" p)(amI:Xn K (.ref p) "scale" = Zb Zc)(amJ:Xn K (.ref p) "start" = Zb Zc)(amK:Xn K (.ref p) "rules" = Zb Zc)
  (yI:MF K "Net" Rg)(amL:Xn K (.ref Rg) "places" = Zb Zc)(amM:Xn K (.ref Rg) "edges" = Zb Zc)
  (yJ:MF K "Wood" M)(amN:Xn K (.ref M) "grammar" = Zb Zc)(amO:Xn K (.ref M) "net" = Zb Zc)(amP:Xn K (.ref M) "nodes" = Zb Zc)(amQ:Xn K (.ref M) "ways" = Zb Zc)(amR:Xn K (.ref M) "top" = Zb Zc)
  (yK:MF K "Chart" C)(amS:Xn K (.ref C) "tied_kinds" = Zb Zc)(amT:Xn K (.ref C) "seats" = Zb Zc)(amU:Xn K (.ref C) "top_seat" = Zb Zc)(amV:Xn K (.ref C) "fillers" = Zb Zc)(N:Xn K (.ref C) "edge_numbers" = Zb Zc)(amW:Xn K (.ref C) "ends" = Zb Zc)
  (amX:Uh K C "__init__" "Chart.__init__" tq Cz Fb)
  (z:Uh K C "seats_beneath" "Chart.seats_beneath" tu CA E)
  (amY:Uh K C "fillers_of" "Chart.fillers_of" tv CB BQ)
  (amZ:Uh K C "read_words" "Chart.read_words" tx CC BR)
  (am0:Uh K C "read_kinds" "Chart.read_kinds" tA CD BU)
  (am1:Uh K C "read_kind" "Chart.read_kind" tB CF BV)
  (am2:Uh K C "note" "Chart.note" tD CG BW)
  (am3:Uh K C "ends_from" "Chart.ends_from" tE CH BX)
  (am4:Uh K C "fits" "Chart.fits" tG CI BZ)
  (am5:Uh K C "borders" "Chart.borders" tH CJ Aa)
  (am6:Uh K C "ways_of" "Chart.ways_of" tI CK Ab)
  (am7:Uh K C "kids_of" "Chart.kids_of" tJ CL Ad)
  (am8:Uh K C "kids_between" "Chart.kids_between" tK CM Ae)
  (A:Xn K (.ref x) "__init__" = Zb (Zb (.ref f)))(I:xq K (.ref f)=Zd)(am9:K.lookup f=Zb #[arK,arL,.func (SJ "__init__" "Rule.__init__" (SU Io) (Vx Io) (ZL Io) (.ref q) arM arN arO arP ana arQ),arR])(anb:KZ K ana "Rule.__init__" = Zd)(y:RG K f)
  (anc:K.lookup q=Zb #[.type "tuple",arS,.seq ([.str "" b,.none]:Za Zh).toArray dn_Rule___init__,dsl_Rule___init__])
  (ane:Uh K p "__init__" "Grammar.__init__" tL CN Fd)
  (anf:Uh K Rg "__init__" "Net.__init__" tM CO Fe)
  (ang:Uh K M "__init__" "Wood.__init__" tN CP Ff)
  (anh:Uh K PB "takes" "Cost.takes" tP CQ Ag)
  (ani:Uh K PC "takes" "Chance.takes" tQ CT Ah)
  (anj:Xe K "scale_of" tR CU Ai)
  (ank:Xe K "is_name_sign" tS CV Aj)
  (anl:Xe K "is_name" tT CW Ak)
  (anm:Xe K "is_kind" tU CY Al)
  (ano:Xe K "is_word" tV Ba Am)
  (anp:Xe K "are_parts" tW Bb An)
  (anq:Xe K "are_titles" tX Bc Ao)
  (j:Xe K "check_weights_and_titles" tY Be m)
  (Y:Xe K "check_titles_under" tZ Bf Ap)
  (anr:Xe K "check_kinds" se Bg Aq)
  (ant:Xe K "check_rings" sf Bh Au)
  (anu:Xe K "heads_in_order" sg Bi Av)
  (anv:Xe K "may_stand" si Bj Aw)
  (anw:Xe K "numbers_of" sj Bk Ax)
  (anx:Xe K "edges_by_ends" sk Bl Ay)
  (anz:Xe K "spans_of" su Bm Az)
  (anA:Xe K "wood_of" sv Bn AA)
  (Z:Xe K "check_edge_weights" sx Bo AB)
  (anB:Xe K "ways_found" sy Bp AD)
  (anC:Xe K "nodes_in_order" sA Bq AF)
  (anD:Xe K "numbered_way" sC Br AG)
  (anE:Xe K "is_whole" sD Bs AH)
  (anF:Xe K "is_edge" sE Bt AI)
  (anG:Xe K "_law_at" sF Bu AJ)
  (anH:Xe K "_law_mix" sG Bv AK)
  (anI:Xe K "_law_names" sH Bw AO)
  (anJ:Xe K "_law_kinds" sI Bx AQ)
  (anK:Xe K "_law_words" sJ Bz AR)
  (anL:Xe K "_law_titles" sL BA AU)
  (anM:Xe K "_law_lowest" sM BC AV)
  (anN:Xe K "_law_weight" sN BD AW)
  (anO:Xe K "_law_parts" sP BE AX)
  (anP:Xe K "_law_rules" sQ BF AY)
  (anQ:Xe K "_law_scale" sR BG AZ)
  (anR:Xe K "_law_grammar" sU BH za)
  (anS:Xe K "_law_pick" sX BI zb)
  (anT:Xe K "_law_derived" sY BJ zc)
  (anU:Xe K "_law_read" sZ BK zf)
  (anV:Xe K "_law_drawn" rh BL zg)
  (anW:Xe K "_law_ends" rj BM zh)
  (anY:Xe K "_law_is_way" rn BO zi)
  (anZ:Xe K "_law_gone_down" rp BP zj)
  (U4:WO K Xw "law" = Zb (Zb (.ref Fg)))(an0:K.lookup Fg=Zb #[arT,arU,.func (SJ "law" "law" (SU Nb) (Vx Nb) (ZL Nb) .none an1 an2 an3 an4 U5 an5),arV])(an6:KZ K U5 "law" = Zd)(an7:RG K Fg)(an8:WO K Xw "SMALL_LETTERS" = Zb (Zb (.str Kk arW)))(an9:WO K Xw "GREAT_LETTERS" = Zb (Zb (.str MH arX)))(aoa:WO K Xw "FIGURES" = Zb (Zb (.str Kl arY)))(aob:WO K Xw "LONGEST_NAME" = Zb (Zb (.int 12 arZ)))(aoc:WO K Xw "MOST_PARTS" = Zb (Zb (.int 4 ar0)))
  (aod:WO K Xw "enumerate" = Zb Zc)(aoe:WO K Xw "zip" = Zb Zc)(uc:WO K Xw "any" = Zb Zc)(aof:WO K Xw "sorted" = Zb Zc)(aog:WO K Xw "reversed" = Zb Zc)(aoh:WO K Xw "list" = Zb Zc)(aoi:WO K Xw "tuple" = Zb Zc)(DL:WO K Xw "all" = Zb Zc)(aoj:WO K Xw "isinstance" = Zb Zc)(aok:WO K Xw "str" = Zb Zc)(aol:WO K Xw "len" = Zb Zc)(aom:WO K Xw "set" = Zb Zc)(aon:WO K Xw "dict" = Zb Zc)(iO:WO K Xw "int" = Zb Zc)(aoo:WO K Xw "bool" = Zb Zc)(aop:WO K Xw "range" = Zb Zc)(vZ:WO K Xw "abs" = Zb Zc):
  ∃fd:ZZ,(∀(s:Zj) (v:Zh),II s fd #[[v],[]] [("_law_script",v)])/\∀base:ZD,K.In base->base.Ns Xw mg->ZK l.prog w K mg base LI 45 fa fd ["_law_script"] (DK K):=by
 have e:=hfa.symm.trans (SK X G U4);cases e;have a:Mg K "__init__" "Rule.__init__" Io f _ [.str "" b,.none]:=#[#[_,_,_,_,_,_,_,_,_,q,_,_,U,am9,anb,anc,U],y]
 have aoq:=a.binds (ps:=MG) (ds':=[]) λD o n kV doc pm an cdv ct s us hD ho hl=>by(replace hl:us.length=7:=by(simpa using hl));revert us;exact us7 λO O O O O O O=>S5 U hD ho U U
 have aor:=a.binds (ps:=MG) (ds':=[.none]) λD o n kV doc pm an cdv ct s us hD ho hl=>by(replace hl:us.length=6:=by(simpa using hl));revert us;exact DY λO O O O O O=>S5 U hD ho U U
 have aos:=a.binds (ps:=MG) (ds':=[.str "" b,.none]) λD o n kV doc pm an cdv ct s us hD ho hl=>by(replace hl:us.length=5:=by(simpa using hl));revert us;exact DW λO O O O O=>S5 U hD ho U U
 let#[rr,c]:=amX;let#[rz,Q]:=z;let#[rA,B_Chart_fillers_of]:=amY;let#[rB,B_Chart_read_words]:=amZ;let#[rC,B_Chart_read_kinds]:=am0;let#[rD,B_Chart_read_kind]:=am1;let#[rE,B_Chart_note]:=am2;let#[rF,B_Chart_ends_from]:=am3;let#[rG,B_Chart_fits]:=am4;let#[rH,B_Chart_borders]:=am5;let#[rJ,B_Chart_ways_of]:=am6;let#[rK,B_Chart_kids_of]:=am7;let#[rL,B_Chart_kids_between]:=am8;let#[rM,B]:=ane;let#[rN,i]:=anf;let#[rO,g]:=ang;let#[rP,B_Cost_takes]:=anh;let#[rQ,B_Chance_takes]:=ani;let#[rR,zm]:=anj.get X G;let#[rS,zo]:=ank.get X G;let#[rT,zp]:=anl.get X G;let#[rV,zr]:=anm.get X G;let#[rX,zt]:=ano.get X G;let#[rY,zu]:=anp.get X G;let#[rZ,zv]:=anq.get X G;let#[qc,L]:=j.get X G;let#[qd,zx]:=Y.get X G;let#[qe,zy]:=anr.get X G;let#[qf,zF]:=ant.get X G;let#[qg,zG]:=anu.get X G;let#[qi,zH]:=anv.get X G;let#[qj,zI]:=anw.get X G;let#[qk,zJ]:=anx.get X G;let#[ql,zK]:=anz.get X G;let#[qm,zL]:=anA.get X G;let#[qo,zM]:=Z.get X G;let#[qp,zN]:=anB.get X G;let#[qq,zO]:=anC.get X G;let#[qt,zP]:=anD.get X G;let#[qu,zQ]:=anE.get X G;let#[qv,zR]:=anF.get X G;let#[qw,Fh]:=anG.get X G;let#[qx,zS]:=anH.get X G;let#[qy,zT]:=anI.get X G;let#[qz,zU]:=anJ.get X G;let#[qA,zV]:=anK.get X G;let#[qB,zW]:=anL.get X G;let#[qC,zX]:=anM.get X G;let#[qD,MI]:=anN.get X G;let#[qE,zY]:=anO.get X G;let#[qF,zZ]:=anP.get X G;let#[qG,ya]:=anQ.get X G;let#[qH,yc]:=anR.get X G;let#[qI,UC]:=anS.get X G;let#[qJ,Ng]:=anT.get X G;let#[qK,Nh]:=anU.get X G;let#[qL,Iq]:=anV.get X G;let#[qM,yd]:=anW.get X G;let#[qN,ye]:=anY.get X G;let#[qO,Fi]:=anZ.get X G;have U6:=HH (st:=Nb) an0 an6 an7;have aot:=U6.binds (ps:=["_law_script"]) λO O O O O O=>us1 λO=>rfl;have T:Txt K mg #[PB,PC,x,p,Rg,M,C,Fb,_,E,_,BQ,_,BR,_,BU,_,BV,_,BW,_,BX,_,BZ,_,Aa,_,Ab,_,Ad,_,Ae,_,f,_,Fd,_,Fe,_,Ff,_,Ag,_,Ah,_,Ai,_,Aj,_,Ak,_,Al,_,Am,_,An,_,Ao,_,m,_,Ap,_,Aq,_,Au,_,Av,_,Aw,_,Ax,_,Ay,_,Az,_,AA,_,AB,_,AD,_,AF,_,AG,_,AH,_,AI,_,AJ,_,AK,_,AO,_,AQ,_,AR,_,AU,_,AV,_,AW,_,AX,_,AY,_,AZ,_,za,_,zb,_,zc,_,zf,_,zg,_,zh,_,zi,_,zj,_,_,_,b]:=#[yG.2.1,SK X G yG.1,#[yG.2.2.1,amA,yG.2.2.2],J.2.1,SK X G J.1,#[J.2.2.1,amB,J.2.2.2],yH.2.1,SK X G yH.1,#[yH.2.2.1,A,I,yH.2.2.2],amC,amD,amE,amF,amG,amH,u.2.1,SK X G u.1,#[u.2.2.1,B.e.at_,B.e.fn,u.2.2.2],amI,amJ,amK,yI.2.1,SK X G yI.1,#[yI.2.2.1,i.e.at_,i.e.fn,yI.2.2.2],amL,amM,yJ.2.1,SK X G yJ.1,#[yJ.2.2.1,g.e.at_,g.e.fn,yJ.2.2.2],amN,amO,amP,amQ,amR,yK.2.1,SK X G yK.1,#[yK.2.2.1,c.e.at_,c.e.fn,yK.2.2.2],amS,amT,amU,amV,N,amW,c,Q,B_Chart_fillers_of,B_Chart_read_words,B_Chart_read_kinds,B_Chart_read_kind,B_Chart_note,B_Chart_ends_from,B_Chart_fits,B_Chart_borders,B_Chart_ways_of,B_Chart_kids_of,B_Chart_kids_between,a,aor,aos,#[A,I,y],aoq,B,i,g,B_Cost_takes,B_Chance_takes,zm,zo,zp,zr,zt,zu,zv,L,zx,zy,zF,zG,zH,zI,zJ,zK,zL,zM,zN,zO,zP,zQ,zR,Fh,zS,zT,zU,zV,zW,zX,MI,zY,zZ,ya,yc,UC,Ng,Nh,Iq,yd,ye,Fi,#[U6,SK X G U4,aot],#[_,SK X G an8],#[_,SK X G an9],#[_,SK X G aoa],#[_,SK X G aob],#[_,SK X G aoc],Tu X G aod,Tu X G aoe,Tu X G uc,Tu X G aof,Tu X G aog,Tu X G aoh,Tu X G aoi,Tu X G DL,Tu X G aoj,Tu X G aok,Tu X G aol,Tu X G aom,Tu X G aon,Tu X G iO,Tu X G aoo,Tu X G aop,Tu X G vZ]
 exact#[SJ "law" "law" (SU Nb) (Vx Nb) (ZL Nb) .none an1 an2 an3 an4 U5 an5,λs v=>.of_eq U,λbase O O=>(amz T).law]
def walk{l:v9}{q:YZ}{L:Za Ze}{p:(Ze->Option Zh)->ZD->Prop}{Y:Yt->ZD->Prop}{d:DefRec}{K:Params->ZF}(g:l.most=Zb 63)(b:d.params.defaults=[])
  (j:∀(w:Yt) (h:ZD),Y w h->(K w.params).In h)
  (F:∀(w:Yt) (m:Ze->Option Zh) (c:Zg) (h:ZD),(K w.params).In h->h.Ns Xw m->m d.name=Zb (.ref c)->
   ∃fd:ZZ,(∀(s:Zj) (u:Zh),II s fd #[[u],[]] [("_law_script",u)])/\∀base:ZD,(K w.params).In base->base.Ns Xw m->ZK l.prog w (K w.params) m base LI 45 c fd ["_law_script"] (DK (K w.params))):
  aqG q L p Y l.row.toRowW d [] (λf e=>p6 f e):=
 L2.abA (n:=63) (k:=45) (x := "_law_script") (CX:=λO=>LI) (sp:=λw=>DK (K w.params)) g 01 b #[U,01,01] j F (λO O a N i O o=>#[a,N,U,o,i,λO=>rfl]) λO O O O O z=>z
end My
end
local macro_rules|`(command|#check $t)=>do
  let mut r:=#[];let mut n:=0;let mut k:=0
  for c in(t.raw.isStrLit?.getD "").toList do
    n:=n*62+(if c≤'9' then c.toNat-48 else if c≤'Z' then c.toNat-55 else c.toNat-61);k:=k+1
    if k%11==0 then
      let i:=Lean.mkIdent (.mkStr `_root_.PySem.W.Fast s!"tw{n}")
      r:=r.push (←`(def $i:ident :True:=⟨⟩));n:=0
  return Lean.mkNullNode r
#check"AUJVBTvGQetIsFxLdAKQKt1YG1LU6FtXC4qVaf2x1EJ5AowUAexIgR5FBDdOdbsC5v5jOpuM4ylhdBuhQIzhV4bq53W5fYxRC91FuUQw7vqbsvIHSK9vvQAhMI0BJ7kYu39eLTuSzmSsfMB4XtbuRkeKF4H9nLohkxZvz4CJjmoVx0R72diFDyDHoUc3i2pCDshYAGAuM77ZaWYLqIal7wTdebvG4zbdtI7hrgv9DKkTlfNCVcGcGYaLsGJ4D2HQcWrV5afC43e17Mfkv7rJ99lx1SBsVNLyaehRDIlmiKNKJTT5Y8DWC25HdwbEtSZIkoyjF3K2alJ0XaasvNXwI1pcTe09qwXW4sQcLbRdWoUHdg20UXJwS6FMHMkBomAjqErXMP4bkuvaEiDFzx2QfbEH8dtEeZLuxcJmLSrcpIv4s1lJRMyAxSJcCWxL8juz6YaElVdfpyKj40Adsh7wEPvol1l80xDAmBTFJYK52oMg8JRImGbmxEHJAPI4wejXtfAmKJ0v1pzNfCzCHreg6Atcz2G8PIl54xNyFKCz2qkQzNd206xh4nvltusm2A9EW7F5T4iJ9AdU9GFbSCJx74vcxSSEw4KxZrkzpTs9DaS7R5NBzlhIzslwCn9wMZEr62NHvEoRN8ggABizxzLJ2JPRUx1o265LIYQrmeDCFC39IjXrAgwSsKbzceByN3ujCP84uUrnD6oKPOAyf8tpMO0fBjZyjNqnBIwmaWFnsfqYDsVDFWK8OJeDdlm7eRvbvxBh4PyX1lw1DKHXo0PjxJwyDcCNRHXcBK9ILGU47Eb9uF0FJ3HyvI1fOLvnd9qjTqSr4a4iO90bnEzKYfNNy6RpupBzuG1LZans7CbgPggEFtEi1lKDRK5YDaQ7ppds9v0YhPAODgksAgr6JFUjHlhhVPp17ip7PqobrDSBl1k8PzCq8S6ENXzE5OfwnAOOlAcdnNpQ1gtzYwCK3S87qmCVYo2NdeLSdj6VU72Wb4zxMJHOxOeuEWFHiPxIaDoHG7YfgWzjMOLmUB6sA4e5pK0ryaJFAeUWElbxiAqcxDOC3ishxYdDPu4p4RYbTeSlvLcgSkJN2mMpEO232xBV1ZX8s3AnIe9hfS21WV29PMKkT9ajIOvuiOVYClTHnbzQjHqHPI5OXWaTm3548QujRucAEKDPLRi8BchPG0jrKGjfI1d26ex4H2RgssBnFuOXII2ar4pHlPf51xf1CeW9kCvZo0CAfOze4kdz4tC0T9E33UtQtAGVcgSzFNNX0CGhAXIO0bWJ55G2ZcOOykKKiLRM9th1dHts64iatPyM3tBd7nIYIpz0oucelVec8P84l7VJSHqQiJgCZj8wXveH7GUPEEm2kPHHxfK1MfWEibFG8NQyAjzRxF37X7R8BUzn4IPmJ8nxvO0GPcvrm5esam47opessGjnwIDQeyKwiw9Q84mBQf0cR2e1f15VVkAOD4AMMJPoGfISJDuKH1fzJTshIox72ufgoxq8sSOmTKmVMf9Vw1Yzx13lF7X2AuhZ5R7t0k9v4LwDeKdHZpcyRXLSmiBCWjFtXxJHq3hkJSmz5B7n1NAHGqwFAfj3S0hYUOYfAw1dPlREGuO2G2a4Qk7JXkBIJT1y2PKwwJGB2otuutHTVE0M5xanmXmaF3seu7jP3JKc5tfYwAmG4SgEiT7w63tABEJKKVQexw2IPLSeG0Il4MWrGlhy9gFxT7EJe9LftXk8ARCqzgIYtSuD5Bffef0t7bwxFjv4SjdW7VUH9EdVae7BnU5hFH8JeEhyu3jj1izXiXXJHljWFgudyH522Gm8NOrDDB6obDpNqkXKu2Pg1SwQXFCYBwJdXiHq6eDLD7svoQeJ9nGdPOOmBJKXi8bg1psO4tQWG8K4aXkZHrI6QWXwfzMKlkCHxA1lGAkBLLKk8h4nPENo4mgviPUGHb7CKHGlipjwV09d3JL1ETnu5IAsj0IOS4qi1YaSQzolXK76jwJxcSsCWS7OmfUqv1IVZ3DDKWjzvtK6EnsmGL2gRZJHCGhOKxYnrK44fvzHL6sqcHT5VJERnaoRJO4roCKwtChGSFljEEJbL21r5VrZgoemvFoVmY0TwM8A5bLU2Dc0EIP32VSf00gB0E6cCb1AmjDjG6ZfmAmcoO8YCex5QviGy7CERXYieV6NxgFKAhvZgKn5XEwvqTT24Cm3JKvf2sZnewiJXZkPMojn17AyUs0mn74in1qC3JpGC26vLmKYV26uvpUKnx9W7XPI0I2J6drSKlg85EyeDJipvIwNJMibG9gCHUqKbiiMbPx0n3C3giFXrWHIxDhHAcGyjqWF6eX7Lb8axj6KkQMB0tQGdMIEVoaErADFD831nF2otOCtJe8gY4Uwc1aA83G23qHdSp8c9PnjmoLw74HFByHIiQuS43cssDUhnv1IF5AaBt7tdwEKJ7XNZxsMu5BCSLBFoqkCKcamJOblUjdGTZk2vkzTyU6stTvjgxQxZItCnQYMhA6U1SRhdGCFdv87zlt8qRqRCzByHf13NI3XICmcGwNxTImpEnp8xJs0INiFDQ2JlaBFYY1BiGDjmOc9n8Fx6RPKF9cRH2VK80bWCNPKgWQI3hlNYcDNsw6cVtW8VGRhlVR5LHhy57kJ0gyuJRMJulP5LjRpOIBL11W5Daks6LhYeeJMmyYN2WGHEi3ioFOKYTNAQ5eqCA4CKGDmKSGcE06ekhXh8Nyb3E5MBMCHFYVJopyAOOhmCA1PtBfKQJx1XAuSTjxV3QVW8YVM7JP9DCFH1VJx7dw5cQKeRuzqZV66dBgstU7DFhEd4iHSDQ7XPoY6XyZGPHzUOFG9RDd2KncvkCi4IKeHJPxmBTpFUP8AD8cDLczeIlY5aOJSuttniDt6HGMMMLFRWR829xLYzjrr90R85s1iO7woVC5LNupLqulpUJtW9uSrF6nZByZRsU5TYCR0VEdEJkafXrHYRfu9hcBF5LquH40SI2bhFFTaHbbSsGd55bX7kwdVpwEQrozRGBC5637RuOjQ4YY74YaPYjQQPRpK3pyCTvOjV25ZQAeBwvR8kEoJ220XRwuRA06y5kFrGi1LdUUJCmcg4LDEEGmKjgqcXLGq89jYltuNAIgKFaPUo79LQBTStsBQOKBMRF0icJfVb6FbyNqCWj345CE6BdYSaMW9xaNmJhGXYq18QY10tizskLEkMu5dma1MCyH4OKFQ9KS2I9Kwv5BSoD8IBkDqOT90mBedjuXxwaiI2lRL33qts0k5nPpMu0TIGS0uLNQuqDHdo0d65mjgW7yvEJFZPDTiKsSLikuwERrSmx66nvm1p4mmJ22EyJ06ZJlL1bxMhjdiQgICOlYHn9DsevLH69bOdmqeXJr6jgfgTsEMA8HLk4xfLg13JcfRCm6wpSLKsuourDyAq7GNmY83cOK81fX6es9HxkR2oh3jAvxtH47jp3gH8F0GVDC9MwHpuRgRLKK1zIVd3Yk3nNMEF8CIo97U2sgOHyoW8KALfmvNgPFTBARRLQ0YY4OHPSK93qSSV262g8Cix15J9HUZEL3LNQTc5Raake9qfd5BscYDdjSrYzGoMmyQspTOpDW6J2cLbsgL6XmXelMzWVlAZsH117XSirBUcILSn1jYSBGaowoeRkEx06Vo8i5HBjQFNtwyqIzWJz4hbSJsumJPxBEfUpDc8RzmAopa4DH2u3Z40OSPDblGmPB6PdACblfyH3bZKnQtRQbk4nq9Xxfm4dTDqyo3pd1uBZL9qPE8ocpZgJ2U9cJoIPVqCimP0Ocfm3wEzhPwcWobtFD509CNq0qxJFxbTXORsCy46ns0ZVKaSpPDbiS0efnisHBmdEO02dnngGqC3EU37ecYGbHRiqRkBEA9Ne9ubSeHaF1ZJ1RJpKp69HwgEBPyKYA2J6PKLkY7fz5H2vz4k4AAjq20VtAKldB9eEhjVT9FoTsMDVBB5vgo16F5kNbT4D3q9oGM2SqzWUe2YEjmpLfdGqYOKBzqRFvhzdW8elNRcPNVaC0gAlhCOwSXrGGmcizXVByIL79SPa1lQ8I3tPlvEcQE62A22tFDIIrVY6FQDMNgE2WeCDl8UrFXMnX9h98T8ZVnOl7W7FN1JL0EuIRy0NnnwUjE7plx2apLa4I1GgJrPY9ulQCQefXPBitEw2pP6k4iYkBc4bnhmkubhWH1NEOuv5t0ufB3FlRioQGebBbqe5umIKHq2ERya0N45OKFBxc7FUpewL0c8FtHfPmIwJi3I15SF9D0IGovLOwMJLg8ceda7Wrz2dErSGYgU14vdCgGdBUV1YlkCCxELvDM4Y0739DUYSSZEG6DPejYJ9C29DxdiTyxp9k2Fh3LAmznoECE5S2SHBU3Bs5aJPdaNkIcb7ejWp6q2uBB9JzfRNWlktpBXqywkfzMwG0svHTvfGL2QH2DymTUO8AxEf94ZvDc0ZOEVVujFeEPdVLYHnUu9u9zh0FMv3cwcOwwH4KNzk35Z2KIIsY4PDlz6gAeSD0R6Nwy3GTCI9aPhDQKHz6gE3VlNPUGozzMBMleyhGlFxu9L9tGo6ZE5kqOm4TFL4VQ8KFDwCH4PXPk5B1s8p12wLbxRLD89GEa5cJWUJX9LmOGWU64YYtGXixLFgApSiJbJYNSJsAkL6fqwtSMXhTzIuyIk0nVXoEHJOl1aHIzRC5hzz2tMRnEVIEWnAMLiPMbKj8R0473yHA8mn8IA0Ezi19sczlGtRKqOGubQjwCDyVYImI4XLM7i7i5w8pv5RxcAWDHjZBvu6ayBHRBcx9UnLR0EiOF4VsqcYEAE4y5KOFFeEH378FDHnyStAmOCmgeE5YA0jBQqtTAeJj2YLRWbHF1TT3X2ObzraJzyIx2skV4kOi30qM9iMnHjk0LtMA26ov2PcAldyR5IlFy74yQxsLVpnGqH6Z19nclPCEAMK2Hyiau6aEGjcKPZ22K3KDqFWKwUICdIKtSNS5T1QUAh2yg23E7ArC6mYw1NyGhBGp0TP5m7MBD7e1gTeJTzucG02N8dlMWAHIf1g0qznDtU6nAGAwRBDc8IdLQU3N1DwrHkckavngk7vER2cucw3G8V4r2SC0Fevdb35W6bBygdhr4zVLEkWVBRyHmgsEzcrMJICzHRq4pnBfnBFEawx27ir7LiXLks44SYp8sl8RL4JOap8QElij2PiEG68PIrkZG81rHpJUoZWIlqT94JcxNIPqzzFSkajy1yhLZHVigegxcKD8IrEE5AIEXRRBfYJ0ycU6p5Dm42g6vlmNlFTx8w9bz9BLKMa9wBB2IxQIgVzYGzI3gFEp731936i5Z91ouse7QZO8G6HgiZG1A2JDzE3HwmROzJ7qLQpqdvY2n48dWm3u9gQi6BU4XhcnfSp6K5WRtu6cQv7X0dsNm43NyFQlArSs2D4V1dDbWXezhLCERQgabDcePv4Ni1Mz8R0pWLobliEmOIxmDjmQWgc9BxqJW1Oux9Lg8s0AoDXk6ZQV0GdBoSVjoL7f8ZwReeqG4Dc37bEBipK5gR4CuLW0Uj5HFAMHmVIAcQzaIwvmyNwvU5q5d8To5A8OVw2WPfwdpoWtdALCtcj8ZmnTHll3SYR2UQVDA3ZqZ7wiG5IVWlQiczYwKHp6ZJxepPsd5yxB1LSGt3c9vqXkGWyOIEBkCWQiI8O8D1g7wHFMJ5fG3zmyPfLbg9qHVgqZIOhHTc4T2o9Hc6mYMJ5RDheOnaCD1ltUnhpuLul6q0TE3DudDcGXaItlJUDzP2sPvK325rGDHlj6lz3DwbvEJ7QT1CTGHvELQqojXMzJ8K4I1kb485yw1rAzgJw5DNF2M1OM1mbV8iDF08ZE9gH1dGpQJY3loq4V01z6uVKbPwUGmU88UbWmmXAGrbwvGOrze4v5pLxEADRvHqdyDbvqLr26u4kqCa4gSw0C9nd0btlkVJ6WqmM0skwEGvzqNfmguDKHmYOgCFlvkQEglGUgZtUl3AqHkju4TiXqCTdYpH925G8DDVfr1dCuWcA1gWInv6EsY4AVVpj1Rw6eFpTqfwjZYitAC39XYzyeNg1EpG6dMIN1t8UhbhMV8UD9BoqwG9cpLUtFYph9XGr1cZCri9WdKpTzP86uuXdRC3dI37OxF45jVqk6JYHrlJbazn0AAi8TAbViZ5lMSWHUPKd17mrvzZ7hdCP2gzgVa8sQMHGZLkp1NbA6ZAzkth0nxQXgGuYXyOpDtm50CFTB5xSrRoAmXcFQqDVVlDOq3Y5WpmEe0tjSYrdiV7s7gaCn067wf5EhohhnBmBzdGA4jGDEvk4A715y3VLelguGqrR0GwacNq8Zxi01jOrAM1BEKQ55Pe7YHyMeTIHKDne9UgxfpA5UlF8BF8jUt2YrfJbyCtYfYUiYLBgArb6yi6BIbGbdfSir5j2swDlX6qbKiIWuZCFgYAVMEfycVZXZ7eJ26rquye2ZcCAEAkshV0f9WFvFjeJ5YkknGhulnZoQWTIERvfb8w3tsDAVelivJQoVcFsdWPfHkmic1PAN7i8VNt1Ks0PVOCUeoG5fAva6O1DfnEJ9B2jYwwNU0eKEy6JU3PiLkQMwpskVYPHez2VH9GLxG3DRdY3yvrLD6gFoTSKD7wA1z94QNK2xaLC4G09B7ty14CFdAkGE16wv4x1bkWzBb81FFTiHD2bHSP8TA6aG9D7f2ImiRnCXrL2m55uPf0T4P3qBz5N4ywX7g60HLGGwUSuCP9rRuNA4St6I2FgDenrU6wpEBiFoaSZVKu8jXYVl7WDaH9UlS37967NAGtGbUpSdhGgHeHX93sqh4a7To5yN6jr6lD1XtkgEt6EJDcsSBDq6NnyIpzPj4ZbTRk6gMTaWfpyQTAsOa7xSb5dT32jbBRZEY9kJ8FXkc5GnBx16GroNErzFZ1cueG3H1n3tAwVKfWaAyX0AX7jKjifiX7CQtfvZ0SV504vythrUYt096Ww1c0WGm3LBU56klTx9iL4BPQqvahoasGiZkrcJ4Z9YG7ReAH9u9Da0Y1eVmEPaWuFcLzgBqs0XiExkNqcAyeU3J1gd1iBJQFMKFP2pSXuaSeGC1WKgsnAnV7gKBJ9JAXnrADXUAWA00tXBeJjxCODE3E2B0paMyrnsRKpGCu1ks04HBKa2GSAm0ow2C8hoetIXIE5JX3BUUeCSBLIVbN52WjThBymTMkvpVKbKyp4Sb2dbfgHctPowxlEC9FrZnfR9yPE81DRwQGHWLua27yChWywVZbA8REld8JCnKJYxbLs0bTIpJCDxuQxc4xc7cw2eGJ1XNWAZBeKP637vmBAByoqy50CM7oVMsh5WwL0613LYAfOFr7EG6tbLuuo6E00gusV3ikMjFinXGxk11mb8psZB9BDxUmBZTeBkvhQbA4Dbaj2eacEC0DTXM1ytksvJulQDmqHnuL9nnXenWRbqy8ge3PMB8AfO390Q7ZWctxE4QAeoQ6k3DmIXTyB4rqo1iLZp93bePHhL0SOwt7y7tLv0XFVKjeMDh35jYd9kx0dEL1dOTLoUPr8dJtsLqtwgEGhBXF8xxPJl8JBOtIyDYH5VpDO86v8YJTDF8JWxJfOtDo2K3AVGSEiyEJ7rdjJopPfZR3gjhuBk5IjbKIG34esL8ZB4ukf62fLqKML6kSfiT8zXgLkX8bNlqgtT8bzrUs2HkUVIcLJGg4mthLGUcPJE3qblRKouKMzMYvd2EE70NwUf5mDGYX1TwqlTvC1Iymxhh9gcdJwcxTcTbZDRIlwaJwUiDglCf76O2I8t6X8V4CBYGAusj6WDUH7mlRHmAfogLYGMg5M5CUeLp2Nj7G8bUmC73mhiJFCulJhgLNQkAJKN3WHGaJlAatrJcJfRlb0yET7C5m7I7KmA1z8PFXhHFsYgVBWk1s1A4x2JcFc6VBLkne3EzlLFU7BbdBU1uqpN2G1Ukn4hJFjJsIBp35hIqDB8xjBotSMePDpSHklZ0SZM2Q4XzalRl5hC9izMxyHBqP2L2ZzfzBzeF44U1KCzpg9M9zIyyIvuB1Z0lcidc6vTOCFUAQL9cLbh8K3Eoqz8ZAb8IfDXpP9BARf1IKsiN6cteXEAfkMsf5WrB4m8Cug056VuAuToNrX4gDmIZ8XIZgS8c3HjlkvfXmAxw8rU3uQpzmoH0HTAeluRMG1A4BfV1NsUnk94v1bUJMsgz31v6F5SllsIJaTRGTDXsik4SEZE1UcUxcCnrWNwyrN8xAr6qoB5Gi5p"
set_option tactic.hygienic true
open PySem PySem.W PyProof.Rows
set_option maxRecDepth 100000 in
set_option maxHeartbeats 0 in
theorem PySem.Challenge.cw_kbestwood_k19_whole_a_tree_is_in_its_woo_holds : PySem.Challenge.rw_kbestwood_k19_whole_a_tree_is_in_its_woo.Holds := by
  w_on; o_law; k_head; (case hw => w_witness2)
  k_fill
  refine My.walk (l := PySem.Challenge.rw_kbestwood_k19_whole_a_tree_is_in_its_woo) rfl rfl (fun w h Y => PySem.W.kIn_of Y) ?F
  case F =>
    intro w mg fa h KX G hmg
    refine' My.all_mk KX G hmg ..
    all_goals try first | (show _ = _; k_is) | (refine' L2.afS ?a ?l ?c ?k ?b;(case a=>k_is);(case l=>k_is);(case c=>k_is);(case k=>show _=_;k_is);(case b=>(intro _ _ _ _ _ _;first|(refine L2.us1 λ_=>?_;rfl)|(refine L2.DV λ_ _=>?_;rfl)|(refine L2.us3 λ_ _ _=>?_;rfl)|(refine L2.us4 λ_ _ _ _=>?_;rfl)|(refine L2.DW λ_ _ _ _ _=>?_;rfl)|(refine L2.DY λ_ _ _ _ _ _=>?_;rfl)|(refine L2.us7 λ_ _ _ _ _ _ _=>?_;rfl)))) | (refine' L2.aij ?a ?i ?l ?c ?k ?b;(case a=>k_is);(case i=>k_is);(case l=>k_is);(case c=>k_is);(case k=>show _=_;k_is);(case b=>(intro _ _ _ _ _ _;first|(refine L2.DV λ_ _=>?_;rfl)|(refine L2.us3 λ_ _ _=>?_;rfl)|(refine L2.us4 λ_ _ _ _=>?_;rfl)|(refine L2.DW λ_ _ _ _ _=>?_;rfl)|(refine L2.DY λ_ _ _ _ _ _=>?_;rfl)))) | (refine' L2.aik ?a ?b ?c ?d ?e ?f ?g;(case a=>k_is);(case b=>k_is);(case c=>k_is);(case d=>k_is);(case e=>k_is);(case f=>k_is);(case g=>show _=_;k_is))
